import Derived.Test.YtdgjpikphooilaaBOpen
import Derived.Test.YtdgjpikphooilaaAMac
import Derived.Test.YtdgjpikphooilaaRows
import Derived.ProofKit
import Derived.OpenShut
import Derived.JoinedCond
import Derived.Deep.Slices
import Derived.Test.YtdgjpikphooilaaNOn
import Derived.Test.YtdgjpikphooilaaNgKT
import Derived.Test.YtdgjpikphooilaaNgKC
import Derived.Test.YtdgjpikphooilaaNgKL
import Derived.Test.YtdgjpikphooilaaBLent
import Derived.Deep.RegionHeld3
import Derived.Deep.DeepCutAuto
import Derived.Deep.CutRange
import Derived.Deep.MidRow
/-
  Stations and messages that came in.
-/
namespace Go.Proofs.Ytdgjpikphooilaa
open Go.ChangeShapes Go.WideShapes Go.ChangeAt Go.RowKit Go.Deep
set_option linter.all false
section
variable {H : Type} {enc : TypeId × Value → H} {W W' : World}
theorem mac_cells {sp : Nat → Bool} {m : Nat} {cs : List Value} {y : DataW H × List MemPlace} (h : DataW.trod enc Try.prog W 0 sp true m 23 cs = some y) : ∃ mc : Mac, cs = [.int .u8 mc.b0, .int .u8 mc.b1, .int .u8 mc.b2, .int .u8 mc.b3, .int .u8 mc.b4, .int .u8 mc.b5] ∧ mc.ok := by
  obtain ⟨xs, m, _, _, hl, hn, hel⟩ := DataW.trod_array Try.underlying23 h
  rw [cellsMac] at hl
  simp only [cellsU8, Nat.mul_one] at hel
  match cs, hl, xs, hn with
  | [c0, c1, c2, c3, c4, c5], _, [x0, x1, x2, x3, x4, x5], _ =>
    obtain ⟨n0, rfl, a0⟩ := byte_cell (hel 0 (by omega)) rfl
    obtain ⟨n1, rfl, a1⟩ := byte_cell (hel 1 (by omega)) rfl
    obtain ⟨n2, rfl, a2⟩ := byte_cell (hel 2 (by omega)) rfl
    obtain ⟨n3, rfl, a3⟩ := byte_cell (hel 3 (by omega)) rfl
    obtain ⟨n4, rfl, a4⟩ := byte_cell (hel 4 (by omega)) rfl
    obtain ⟨n5, rfl, a5⟩ := byte_cell (hel 5 (by omega)) rfl
    exact ⟨⟨n0, n1, n2, n3, n4, n5⟩, rfl, a0, a1, a2, a3, a4, a5⟩
set_option maxRecDepth 20000 in
theorem open_mac {base : Nat} {sp : Nat → Bool} {v : Value} {d : DataW H} {p : List MemPlace} (hv : Value.okWide Try.prog W .any base 23 v) (h : DataW.Trod enc Try.prog W 0 sp true 23 v d p) : ∃ m : Mac, v = m.val ∧ m.ok := by
  simp only [Value.okWide, Try.underlying23] at hv
  obtain ⟨⟨l⟩, rfl, hsz, _⟩ := hv
  obtain ⟨fuel, hf⟩ := h
  obtain ⟨m, hm, hok⟩ := mac_cells hf
  have e : l = _ := hm
  subst e
  exact ⟨m, rfl, hok⟩
theorem word_cell {sp : Nat → Bool} {m : Nat} {cs : List Value} {c : Value} {y : DataW H × List MemPlace} (h : DataW.trod enc Try.prog W 0 sp true m 39 cs = some y) (hc : cs = [c]) :
    ∃ n : Int, c = .int .u32 n ∧ 0 ≤ n ∧ n ≤ 4294967295 := by
  subst hc
  obtain ⟨n, e1, e2, hw⟩ := DataW.trod_int Try.underlying39 h
  simp at e1
  exact ⟨n, e1, bounds_u32 hw⟩
set_option maxRecDepth 20000 in
theorem open_arp {base : Nat} {sp : Nat → Bool} {v : Value} {d : DataW H} {p : List MemPlace} (hv : Value.okWide Try.prog W .any base 42 v) (h : DataW.Trod enc Try.prog W 0 sp true 42 v d p) :
    ∃ a : Arp, v = a.val ∧ a.ok := by
  obtain ⟨⟨l⟩, rfl, hsz⟩ := okWide_struct Try.underlying42 hv
  rw [cellsArp] at hsz
  obtain ⟨fuel, hf⟩ := h
  obtain ⟨xs, n, _, hd, hl, hlen, hel⟩ := DataW.trod_struct Try.underlying42 hf
  simp only [Prod.mk.injEq] at hd
  have hl15 : l.length = 15 := hsz
  match l, hl15, xs, hlen with
  | [c0, c1, c2, c3, c4, c5, c6, c7, c8, c9, c10, c11, c12, c13, c14], _, [x0, x1, x2, x3, x4], _ =>
    have f0 := hel 0
    have f1 := hel 1
    have f2 := hel 2
    have f3 := hel 3
    have f4 := hel 4
    simp [cellsInt, Value.cells] at f0
    simp [cellsMac, Value.cells] at f1
    simp [cellsU32, Value.cells] at f2
    simp [cellsMac, Value.cells] at f3
    simp [cellsU32, Value.cells] at f4
    obtain ⟨k, e0, bk⟩ := int_cell f0 rfl
    obtain ⟨m1, e1, ok1⟩ := mac_cells f1
    obtain ⟨i2, e2, b2⟩ := word_cell f2 rfl
    obtain ⟨m3, e3, ok3⟩ := mac_cells f3
    obtain ⟨i4, e4, b4⟩ := word_cell f4 rfl
    simp only [List.cons.injEq, and_true] at e1 e3
    obtain ⟨rfl, rfl, rfl, rfl, rfl, rfl⟩ := e1
    obtain ⟨rfl, rfl, rfl, rfl, rfl, rfl⟩ := e3
    subst e0 e2 e4
    exact ⟨⟨k, m1, i2, m3, i4⟩, rfl, bk, ok1, b2, ok3, b4⟩
end
end Go.Proofs.Ytdgjpikphooilaa

/-
  The second form's bound, and what it says of lists. For every seat.
-/
namespace Go.Proofs.Ytdgjpikphooilaa
open Go.ChangeShapes Go.WideShapes Go.ChangeAt Go.RowKit Go.Deep
set_option linter.all false
theorem upto_one {H : Type} (d : DataW H) : 1 ≤ Rows.uptoBulk d := by
  cases d with
  | lit l => cases l <;> simp [Rows.uptoBulk]
  | nil => simp [Rows.uptoBulk]
  | ptr d => simp [Rows.uptoBulk]
  | slice elems spare => simp [Rows.uptoBulk]
  | agg parts => simp [Rows.uptoBulk]
  | iface t d => simp [Rows.uptoBulk]
  | map entries => simp [Rows.uptoBulk]
  | held h => simp [Rows.uptoBulk]
theorem upto_len {H : Type} : ∀ (l : List (DataW H)), l.length ≤ Rows.uptoBulkAll l
  | [] => by simp [Rows.uptoBulkAll]
  | x :: r => by have h1 := upto_one x; have h2 := upto_len r; simp only [Rows.uptoBulkAll, List.length_cons]; omega
theorem upto_lits {H : Type} {k : IntKind} {d : DataW H} {zs : List Int} (h : d = .nil ∧ zs = [] ∨ ∃ spare, d = .slice (lits k zs) spare) : zs.length ≤ Rows.uptoBulk d := by
  rcases h with ⟨_, h⟩ | ⟨sp, rfl⟩
  · subst h; simp
  · have h1 := upto_len (lits k zs : List (DataW H))
    have h2 : (lits k zs : List (DataW H)).length = zs.length := by simp [lits]
    simp only [Rows.uptoBulk]
    omega
/-- one of a list's, and all. -/
theorem upto_mem {H : Type} : ∀ (l : List (DataW H)) (x : DataW H), x ∈ l → Rows.uptoBulk x ≤ Rows.uptoBulkAll l
  | [], x, h => by simp at h
  | y :: r, x, h => by
    simp only [Rows.uptoBulkAll]
    rcases List.mem_cons.1 h with rfl | h
    · omega
    · have := upto_mem r x h; omega
end Go.Proofs.Ytdgjpikphooilaa

/-
  A script of calls of a cache, as it came in.
-/
namespace Go.Proofs.Ytdgjpikphooilaa
open Go.ChangeShapes Go.WideShapes Go.ChangeAt Go.RowKit Go.Deep
set_option linter.all false
theorem cellsOpG : Try.prog.cellsOf 44 = 21 := by kernel_rfl
theorem cellsBytesG : Try.prog.cellsOf 40 = 1 := by kernel_rfl
/-- a call of a script. -/
structure OpG where
  k : Int
  now : Int
  src : Int
  ip : Int
  pt : Part
  p : Arp
  own : Int
def OpG.nil : OpG := ⟨0, 0, 0, 0, ⟨none, 0, []⟩, ⟨0, ⟨0, 0, 0, 0, 0, 0⟩, 0, ⟨0, 0, 0, 0, 0, 0⟩, 0⟩, 0⟩
structure OpG.ok (w : World) (x : OpG) : Prop where
  src : 0 ≤ x.src ∧ x.src ≤ 4294967295
  ip : 0 ≤ x.ip ∧ x.ip ≤ 4294967295
  pt : x.pt.ok w
  p : x.p.ok
  own : 0 ≤ x.own ∧ x.own ≤ 4294967295
def OpG.cs (x : OpG) : List Value := [.int .i64 x.k, .int .i64 x.now, .int .u32 x.src, .int .u32 x.ip, x.pt.val, .int .i64 x.p.op, .int .u8 x.p.s.b0, .int .u8 x.p.s.b1, .int .u8 x.p.s.b2, .int .u8 x.p.s.b3, .int .u8 x.p.s.b4, .int .u8 x.p.s.b5, .int .u32 x.p.si, .int .u8 x.p.d.b0, .int .u8 x.p.d.b1, .int .u8 x.p.d.b2, .int .u8 x.p.d.b3, .int .u8 x.p.d.b4, .int .u8 x.p.d.b5, .int .u32 x.p.di, .int .u32 x.own]
def OpsG (w : World) (a : Option Addr) (xs : List OpG) : Prop :=
  ∀ j, j < xs.length → ∃ b o, a = some ⟨b, o, none⟩ ∧ (∀ t u, (xs.getD j OpG.nil).cs[t]? = some u → w.cell? ⟨b, o + j * 21 + t, none⟩ = some u) ∧ (xs.getD j OpG.nil).ok w
section
variable {H : Type} {enc : TypeId × Value → H} {W W' : World}
set_option maxRecDepth 20000 in
theorem arp_cells {sp : Nat → Bool} {m : Nat} {cs : List Value} {y : DataW H × List MemPlace} (h : DataW.trod enc Try.prog W 0 sp true m 42 cs = some y) (hl15 : cs.length = 15) :
    ∃ a : Arp, cs = [.int .i64 a.op, .int .u8 a.s.b0, .int .u8 a.s.b1, .int .u8 a.s.b2, .int .u8 a.s.b3, .int .u8 a.s.b4, .int .u8 a.s.b5, .int .u32 a.si, .int .u8 a.d.b0, .int .u8 a.d.b1, .int .u8 a.d.b2, .int .u8 a.d.b3, .int .u8 a.d.b4, .int .u8 a.d.b5, .int .u32 a.di] ∧ a.ok := by
  obtain ⟨xs, n, _, hd, hl, hlen, hel⟩ := DataW.trod_struct Try.underlying42 h
  match cs, hl15, xs, hlen with
  | [c0, c1, c2, c3, c4, c5, c6, c7, c8, c9, c10, c11, c12, c13, c14], _, [x0, x1, x2, x3, x4], _ =>
    have f0 := hel 0
    have f1 := hel 1
    have f2 := hel 2
    have f3 := hel 3
    have f4 := hel 4
    simp [cellsInt, Value.cells] at f0
    simp [cellsMac, Value.cells] at f1
    simp [cellsU32, Value.cells] at f2
    simp [cellsMac, Value.cells] at f3
    simp [cellsU32, Value.cells] at f4
    obtain ⟨k, e0, bk⟩ := int_cell f0 rfl
    obtain ⟨m1, e1, ok1⟩ := mac_cells f1
    obtain ⟨i2, e2, b2⟩ := word_cell f2 rfl
    obtain ⟨m3, e3, ok3⟩ := mac_cells f3
    obtain ⟨i4, e4, b4⟩ := word_cell f4 rfl
    simp only [List.cons.injEq, and_true] at e1 e3
    obtain ⟨rfl, rfl, rfl, rfl, rfl, rfl⟩ := e1
    obtain ⟨rfl, rfl, rfl, rfl, rfl, rfl⟩ := e3
    subst e0 e2 e4
    exact ⟨⟨k, m1, i2, m3, i4⟩, rfl, bk, ok1, b2, ok3, b4⟩
set_option maxRecDepth 20000 in
theorem op_cells {sp : Nat → Bool} {m : Nat} {cs : List Value} {y : DataW H × List MemPlace} (hs : ∀ b, sp b = true) (h : DataW.trod enc Try.prog W 0 sp true m 44 cs = some y) (hl21 : cs.length = 21) :
    ∃ q : OpG, cs = q.cs ∧ q.ok W ∧ q.pt.zs.length ≤ Rows.uptoBulk y.1 := by
  obtain ⟨xs, n, _, hd, hl, hlen, hel⟩ := DataW.trod_struct Try.underlying44 h
  match cs, hl21, xs, hlen with
  | [c0, c1, c2, c3, c4, c5, c6, c7, c8, c9, c10, c11, c12, c13, c14, c15, c16, c17, c18, c19, c20], _, [x0, x1, x2, x3, x4, x5, x6], _ =>
    have f0 := hel 0
    have f1 := hel 1
    have f2 := hel 2
    have f3 := hel 3
    have f4 := hel 4
    have f5 := hel 5
    have f6 := hel 6
    simp [cellsInt, Value.cells] at f0
    simp [cellsInt, Value.cells] at f1
    simp [cellsInt, cellsU32, Value.cells] at f2
    simp [cellsInt, cellsU32, Value.cells] at f3
    simp [cellsInt, cellsU32, cellsBytesG, Value.cells] at f4
    simp [cellsInt, cellsU32, cellsBytesG, cellsArp, Value.cells] at f5
    simp [cellsInt, cellsU32, cellsBytesG, cellsArp, Value.cells] at f6
    obtain ⟨k, rfl, bk⟩ := int_cell f0 rfl
    obtain ⟨now, rfl, bn⟩ := int_cell f1 rfl
    obtain ⟨src, rfl, bs⟩ := word_cell f2 rfl
    obtain ⟨ip, rfl, bi⟩ := word_cell f3 rfl
    obtain ⟨pt, rfl, okp, hx⟩ := bytes_cell hs f4 rfl
    obtain ⟨p, e5, okq⟩ := arp_cells f5 rfl
    obtain ⟨own, rfl, bo⟩ := word_cell f6 rfl
    simp only [List.cons.injEq, and_true] at e5
    obtain ⟨rfl, rfl, rfl, rfl, rfl, rfl, rfl, rfl, rfl, rfl, rfl, rfl, rfl, rfl, rfl⟩ := e5
    refine ⟨⟨k, now, src, ip, pt, p, own⟩, rfl, ⟨bs, bi, okp, okq, bo⟩, ?_⟩
    have h1 := upto_lits hx
    rw [hd]
    simp only [List.map_cons, List.map_nil, Rows.uptoBulk, Rows.uptoBulkAll]
    have h2 : pt.zs.length ≤ Rows.uptoBulk x4.fst := h1
    show pt.zs.length ≤ _
    omega
set_option maxRecDepth 20000 in
theorem open_ops {base : Nat} {sp : Nat → Bool} {v : Value} {d : DataW H} {p : List MemPlace} (hs : ∀ b, sp b = true) (hv : Value.okWide Try.prog W .any base 24 v) (h : DataW.Trod enc Try.prog W 0 sp true 24 v d p) :
    ∃ (xs : List OpG) (a : Option Addr) (c : Nat), v = .slice a xs.length c ∧ OpsG W a xs ∧ (xs.length ≤ Rows.uptoBulk d ∧ ∀ i, i < xs.length → (xs.getD i OpG.nil).pt.zs.length ≤ Rows.uptoBulk d) := by
  obtain ⟨a, len, cap, rfl⟩ := okWide_slice Try.underlying24 hv
  obtain ⟨fuel, hf⟩ := h
  rcases open_slice Try.underlying24 hf with ⟨hcs, hx⟩ | ⟨x, l, c, m, n, D, Pl, hcs, _, hl, hm, hmm, hx, hel⟩
  · simp [Value.cells] at hcs
    obtain ⟨rfl, rfl, rfl⟩ := hcs
    exact ⟨[], none, 0, rfl, fun j hj => by simp at hj, by simp, fun i hi => by simp at hi⟩
  · simp [Value.cells] at hcs
    obtain ⟨rfl, rfl, rfl⟩ := hcs
    rw [if_pos (hs _)] at hmm
    simp only [Prod.mk.injEq] at hx
    rw [cellsOpG] at hel
    have each : ∀ i, i < len → ∃ q : OpG, (∀ j u, q.cs[j]? = some u → W.cell? ((x.add (i * 21)).add j) = some u) ∧ q.ok W ∧ q.pt.zs.length ≤ Rows.uptoBulk (D i) := fun i hi => by
      obtain ⟨cs', h1, h2⟩ := hel i (by omega)
      obtain ⟨_, h3, h4⟩ := World.cells?_some h1
      obtain ⟨q, e1, e2, e3⟩ := op_cells hs h2 h3
      refine ⟨q, fun j u hj => ?_, e2, e3⟩
      have hj6 : j < 21 := by have := (List.getElem?_eq_some_iff.1 hj).1; simpa [OpG.cs] using this
      rw [h4 j hj6, e1, hj]
    have inh : Inhabited OpG := ⟨OpG.nil⟩
    obtain ⟨f, hff⟩ := choose_lt each
    have hlen : ((List.range len).map f).length = len := by simp
    have hget : ∀ i, i < len → ((List.range len).map f).getD i OpG.nil = f i := fun i hi => by simp [List.getD_eq_getElem?_getD, hi]
    refine ⟨(List.range len).map f, some x, cap, by rw [hlen], fun i hi => ?_, ?_, fun i hi => ?_⟩
    · rw [hlen] at hi
      obtain ⟨b, off, spot⟩ := x
      have hspot : spot = none := by
        have := (hff 0 (by omega)).1 0 _ rfl
        simpa [Addr.add] using World.cell?_spot this
      subst hspot
      rw [hget i hi]
      have ad : ∀ j, ((⟨b, off, none⟩ : Addr).add (i * 21)).add j = ⟨b, off + i * 21 + j, none⟩ := fun j => by
        rw [show (⟨b, off, none⟩ : Addr).add (i * 21) = ⟨b, off + i * 21, none⟩ from by unfold Addr.add; split <;> simp_all]
        unfold Addr.add; split <;> simp_all
      refine ⟨b, off, rfl, fun j u hj => ?_, (hff i hi).2.1⟩
      have := (hff i hi).1 j u hj
      rw [ad] at this
      exact this
    · have h1 := upto_len ((List.range len).map D)
      rw [hx.1, hlen]
      simp only [List.length_map, List.length_range] at h1
      simp only [Rows.uptoBulk]
      omega
    · rw [hlen] at hi
      rw [hget i hi, hx.1]
      have h1 := upto_mem ((List.range len).map D) (D i) (List.mem_map.2 ⟨i, by simpa using hi, rfl⟩)
      have h2 := (hff i hi).2.2
      simp only [Rows.uptoBulk]
      omega
end
end Go.Proofs.Ytdgjpikphooilaa

/-
  Neigh: how many questions may still go out: each call adds three at most.
-/
namespace Go.Proofs.Ytdgjpikphooilaa
open Go.RowKit
set_option linter.all false
/-- the questions that may still go out for an address. -/
def phi (y : Ab) : Nat := if 0 < y.q then (3 - y.q).toNat else 0
def pot (L : List Ab) : Nat := (L.map phi).sum
theorem pot_cons (y : Ab) (L : List Ab) : pot (y :: L) = phi y + pot L := by simp [pot]
theorem pot_append (A B : List Ab) : pot (A ++ B) = pot A + pot B := by simp [pot]
theorem pot_filter (p : Ab → Bool) : ∀ L : List Ab, pot (L.filter p) ≤ pot L
  | [] => by simp [pot]
  | y :: r => by
    have h := pot_filter p r
    rw [List.filter_cons, pot_cons]
    split
    · rw [pot_cons]; omega
    · omega
theorem pot_two (a : Int) : ∀ L : List Ab, pot (L.filter fun y => decide (y.ip < a)) + pot (L.filter fun y => decide (a < y.ip)) ≤ pot L
  | [] => by simp [pot]
  | y :: r => by
    have h := pot_two a r
    rw [List.filter_cons, List.filter_cons, pot_cons]
    by_cases h1 : y.ip < a
    · have h2 : ¬ a < y.ip := by omega
      simp only [h1, h2, decide_true, decide_false, if_true, Bool.false_eq_true, if_false, pot_cons]; omega
    · by_cases h2 : a < y.ip
      · simp only [h1, h2, decide_true, decide_false, if_true, Bool.false_eq_true, if_false, pot_cons]; omega
      · simp only [h1, h2, decide_false, Bool.false_eq_true, if_false]; omega
theorem pot_put_le (L : List Ab) (x : Ab) : pot (put L x) ≤ phi x + pot L := by
  have h := pot_two x.ip L
  unfold put
  rw [pot_append, pot_cons]
  omega
theorem pot_perm {A B : List Ab} (h : A.Perm B) : pot A = pot B := by
  induction h with
  | nil => rfl
  | cons x _ ih => rw [pot_cons, pot_cons, ih]
  | swap x y l => rw [pot_cons, pot_cons, pot_cons, pot_cons]; omega
  | trans _ _ h1 h2 => exact h1.trans h2
theorem pot_room {most : Int} {L L' : List Ab} (h : roomL most L = some L') : pot L' ≤ pot L := by
  unfold roomL at h
  split at h
  · cases h; exact Nat.le_refl _
  · cases ho : oldF L with
    | none => rw [ho] at h; simp at h
    | some x => rw [ho] at h; simp only [Option.map_some, Option.some.injEq] at h; subst h; exact pot_filter _ _
theorem askNew_p (S : St) (src ip : Int) (zs : List Int) : (askNew S src ip zs).2.length + pot (askNew S src ip zs).1.L ≤ pot S.L + 3 := by
  unfold askNew
  split
  · simp
  · rename_i L' hL'
    have h1 := pot_room hL'
    have h2 := pot_put_le L' (queE S ip ⟨ip, 0, zeroMac, 0, src, zs⟩)
    have h3 : phi (queE S ip ⟨ip, 0, zeroMac, 0, src, zs⟩) = 2 := by simp [phi, queE]
    simp only [List.length_singleton]
    omega
theorem ask_p {S : St} (h : S.ok) (src ip : Int) (zs : List Int) (now : Int) : (askF S src ip zs now).2.length + pot (askF S src ip zs now).1.L ≤ pot S.L + 3 := by
  have hn := askNew_p { S with now := hearN S.now now, L := del S.L ip } src ip zs
  have hd : pot (del S.L ip) ≤ pot S.L := pot_filter _ _
  simp only at hn
  simp only [askF]
  split
  · rename_i e he
    split
    · obtain ⟨hm, hi⟩ := look_some he
      have h1 := pot_perm (h.rise.perm_put { e with src := src, zs := zs })
      have h2 := pot_perm (h.rise.perm_del hm)
      rw [pot_cons] at h1 h2
      have h3 : phi { e with src := src, zs := zs } = phi e := rfl
      simp only [List.length_nil]
      simp only at h1
      omega
    · split
      · simp
        omega
      · omega
  · omega
theorem learn_p (S : St) (ip : Int) (mc : Mac) (wt : Bool) : (learnF S ip mc wt).2.length + pot (learnF S ip mc wt).1.L ≤ pot S.L + 1 := by
  have hk : phi (knE S ip mc) = 0 := by simp [phi, knE]
  unfold learnF
  split
  · have h1 := pot_put_le S.L (knE S ip mc)
    simp only
    split <;> simp only [List.length_singleton, List.length_nil] <;> omega
  · split
    · split
      · simp
      · rename_i L' hL'
        have h1 := pot_put_le L' (knE S ip mc)
        have h2 := pot_room hL'
        simp only [List.length_nil]
        omega
    · simp
theorem on_p (S : St) (p : Arp) (own now : Int) : (onF S p own now).2.length + pot (onF S p own now).1.L ≤ pot S.L + 3 := by
  have h1 := learn_p { S with now := hearN S.now now } p.si p.s (askedB p own)
  simp only at h1
  simp only [onF]
  split
  · simp
  · split <;> split <;> simp only [List.length_append, List.length_singleton, List.length_nil] <;> omega
theorem tickL_p (S : St) : ∀ L : List Ab, (L.flatMap (tickS S)).length + pot (L.filterMap (tick1 S)) ≤ pot L
  | [] => by simp [pot]
  | y :: r => by
    have h := tickL_p S r
    rw [List.flatMap_cons, List.length_append, pot_cons, List.filterMap_cons]
    by_cases h1 : S.now < y.unt
    · simp only [tickS, tick1, h1, if_true, pot_cons, List.length_nil]; omega
    · by_cases h2 : 0 < y.q ∧ y.q < 3
      · have h3 : phi (queE S y.ip y) + 1 = phi y := by
          have e : (queE S y.ip y).q = y.q + 1 := rfl
          have g1 : phi (queE S y.ip y) = (3 - (y.q + 1)).toNat := by unfold phi; rw [if_pos (by rw [e]; omega), e]
          have g2 : phi y = (3 - y.q).toNat := by unfold phi; rw [if_pos h2.1]
          rw [g1, g2]
          omega
        simp only [tickS, tick1, h1, h2, if_false, and_self, if_true, pot_cons, List.length_singleton]; omega
      · simp only [tickS, tick1, h1, h2, if_false, List.length_nil]; omega
theorem tick_p (S : St) (now : Int) : (tickF S now).2.length + pot (tickF S now).1.L ≤ pot S.L := by
  have h := tickL_p { S with now := hearN S.now now } S.L
  exact h
end Go.Proofs.Ytdgjpikphooilaa

/-
  Neigh: the program's cache has turned, the document's not yet; both have; what was sent is taken in.
-/
namespace Go.Proofs.Ytdgjpikphooilaa
open Go.RowKit
set_option linter.all false

/-- what is no cache stays. -/
def KeepG (w w' : World) : Prop := ∀ (b : Nat) (C : Array Value) (t : TypeId) (f : Nat × Nat), w.heap[b]? = some (.cells C t f) → t ≠ 76 → t ≠ 79 → t ≠ 103 → w'.heap[b]? = some (.cells C t f)
theorem KeepG.two {w w' : World} {c m : Nat} {S : St} {V : Int → Value} (x : CaW w c m S V) (h : Two c m w w') : KeepG w w' := fun b C t f hb h1 _ _ => by
  obtain ⟨es, clock, hm, _⟩ := x.map
  exact (h.block b (ne_ty hb x.box h1) (ne_mp hb hm) (heap_lt hb)).trans hb
theorem KeepG.turn {w w' : World} {d : Nat} {S S' : St} {a a' : Option Addr} {cp cp' : Nat} {U U' : Int → Value} (x : RcW w d S a cp U) (h : RTurn w w' d S S' a a' cp cp' U U') : KeepG w w' := fun b C t f hb _ h2 h3 =>
  (h.block b (ne_ty hb x.box h2) (fun e => by
    obtain ⟨cur, hc⟩ := x.row.obj e
    exact ne_ty hb hc h3 rfl) (heap_lt hb)).trans hb
theorem part_low {w0 wx : World} {pt : Part} (h : pt.ok w0) (hk : ∀ k, k < w0.heap.size → wx.heap[k]? = w0.heap[k]?) : pt.ok wx := by
  refine ⟨h.1, h.2.1, ?_⟩
  rcases h.2.2 with he | ⟨b, o, ha, hc⟩
  · exact Or.inl he
  · exact Or.inr ⟨b, o, ha, fun j hj => by
      have h1 := hc j hj
      rw [World.cell?_of_block (w := w0) (hk b (World.block_lt_of_cell? w0 _ h1)), h1]⟩
/-- the program's cache has turned. -/
def NM (w0 w : World) (gp c m d gk : Nat) (S' S : St) (n : Nat) (v : Value) (sds : List Sd) : Prop := ∃ V a cp U Lk Vk ls l, NP w0 w gp c m S' V d S a cp U gk Lk Vk ls ∧ ls.length ≤ n ∧ OA w0 w S' V ls v l ∧ l.map (·.1) = sds
/-- both have. -/
def ND (w0 w : World) (gp c m d gk : Nat) (S : St) (n : Nat) (v v2 : Value) (sds : List Sd) : Prop := ∃ V a cp U Lk Vk ls l l2, NP w0 w gp c m S V d S a cp U gk Lk Vk ls ∧ ls.length ≤ n ∧ OA w0 w S V ls v l ∧ l.map (·.1) = sds ∧ ROut w v2 l2 ∧ l2.map (·.1) = sds
section
variable {w0 w w' : World} {gp c m d gk : Nat} {S S' : St} {n : Nat} {v v2 : Value} {sds : List Sd}
theorem NM.below (h : NM w0 w gp c m d gk S' S n v sds) (hb : Below w.heap.size w w') : NM w0 w' gp c m d gk S' S n v sds := by
  obtain ⟨V, a, cp, U, Lk, Vk, ls, l, h1, h2, h3, h4⟩ := h
  exact ⟨V, a, cp, U, Lk, Vk, ls, l, h1.below hb, h2, h3.below hb, h4⟩
theorem NM.box (h : NM w0 w gp c m d gk S' S n v sds) : ∀ j, w.cell? ⟨gp, j, none⟩ = (#[.pointer (some ⟨c, 0, none⟩), .pointer (some ⟨d, 0, none⟩), .pointer (some ⟨gk, 0, none⟩)] : Array Value)[j]? := fun j => by
  obtain ⟨V, a, cp, U, Lk, Vk, ls, l, h1, h2, h3, h4⟩ := h
  exact cell_of_heap h1.box j
theorem NM.bel (h : NM w0 w gp c m d gk S' S n v sds) : Below w0.heap.size w0 w := by
  obtain ⟨V, a, cp, U, Lk, Vk, ls, l, h1, h2, h3, h4⟩ := h
  exact h1.bel
theorem ND.box (h : ND w0 w gp c m d gk S n v v2 sds) : ∀ j, w.cell? ⟨gp, j, none⟩ = (#[.pointer (some ⟨c, 0, none⟩), .pointer (some ⟨d, 0, none⟩), .pointer (some ⟨gk, 0, none⟩)] : Array Value)[j]? := fun j => by
  obtain ⟨V, a, cp, U, Lk, Vk, ls, l, l2, h1, _⟩ := h
  exact cell_of_heap h1.box j
theorem NM.doc (h : ∃ V a cp U Lk Vk ls l, (NP w0 w gp c m S' V d S a cp U gk Lk Vk ls ∧ ls.length ≤ n ∧ OA w0 w S' V ls v l ∧ l.map (·.1) = sds) ∧ ∃ a2 cp2, v2 = .slice a2 sds.length cp2 ∧ RAns w w' d S S' a cp U a2 cp2 sds) : ND w0 w' gp c m d gk S' n v v2 sds := by
  obtain ⟨V, a, cp, U, Lk, Vk, ls, l, ⟨h1, h2, h3, h4⟩, a2, cp2, rfl, a', cp', U', l2, t1, t2, t3⟩ := h
  exact ⟨V, a', cp', U', Lk, Vk, ls, l, l2, h1.doc t1, h2, h3.doc h1 t1, h4, t3, t2⟩
theorem NPz.tick (h : NPz w0 w gp c m d gk S n) (now : Int) :
    Calls Try.prog 18 #[.pointer (some ⟨c, 0, none⟩), .int .i64 now] w fun e w' => ∃ a cp, e = .returned (.slice a (tickF S now).2.length cp) ∧ Hid (NM w0 w' gp c m d gk (tickF S now).1 S n (.slice a (tickF S now).2.length cp) (tickF S now).2 ∧ KeepG w w') := by
  obtain ⟨V, a, cp, U, Lk, Vk, ls, h, hl⟩ := h
  refine (tick_any c m S V now w h.ca).mono fun e w' ⟨a2, cp2, e1, A⟩ => ⟨a2, cp2, e1, ?_⟩
  obtain ⟨l, V', A⟩ := A.out
  obtain ⟨p1, p2⟩ := h.prog A
  exact ⟨⟨V', a, cp, U, Lk, Vk, ls, l, p1, hl, p2, A.map⟩, KeepG.two h.ca A.two⟩
theorem NM.rtick {n' : Int} (h : NM w0 w gp c m d gk (tickF S n').1 S n v (tickF S n').2) :
    Calls Try.prog 30 #[.pointer (some ⟨d, 0, none⟩), .int .i64 n'] w fun e w' => ∃ a2 cp2, e = .returned (.slice a2 (tickF S n').2.length cp2) ∧ Hid (ND w0 w' gp c m d gk (tickF S n').1 n v (.slice a2 (tickF S n').2.length cp2) (tickF S n').2 ∧ KeepG w w') := by
  obtain ⟨V, a, cp, U, Lk, Vk, ls, l, h1, h2, h3, h4⟩ := h
  exact (rtick_any d S a cp U n' w h1.rc).mono fun e w' ⟨a2, cp2, e1, A⟩ => ⟨a2, cp2, e1, ⟨NM.doc ⟨V, a, cp, U, Lk, Vk, ls, l, ⟨h1, h2, h3, h4⟩, a2, cp2, rfl, A.out⟩, by obtain ⟨a', cp', U', l2, t1, _⟩ := A.out; exact KeepG.turn h1.rc t1⟩⟩
theorem NPz.on (h : NPz w0 w gp c m d gk S n) (p : Arp) (own now : Int) (hp : p.ok) (ho : ipOk own) :
    Calls Try.prog 17 #[.pointer (some ⟨c, 0, none⟩), p.val, .int .u32 own, .int .i64 now] w fun e w' => ∃ a cp, e = .returned (.slice a (onF S p own now).2.length cp) ∧ Hid (NM w0 w' gp c m d gk (onF S p own now).1 S n (.slice a (onF S p own now).2.length cp) (onF S p own now).2 ∧ KeepG w w') := by
  obtain ⟨V, a, cp, U, Lk, Vk, ls, h, hl⟩ := h
  refine (on_any c m S V p own now w h.ca hp ho).mono fun e w' ⟨a2, cp2, e1, A⟩ => ⟨a2, cp2, e1, ?_⟩
  obtain ⟨l, V', A⟩ := A.out
  obtain ⟨p1, p2⟩ := h.prog A
  exact ⟨⟨V', a, cp, U, Lk, Vk, ls, l, p1, hl, p2, A.map⟩, KeepG.two h.ca A.two⟩
theorem NM.ron (p : Arp) (own now : Int) (hp : p.ok) (h : NM w0 w gp c m d gk (onF S p own now).1 S n v (onF S p own now).2) :
    Calls Try.prog 29 #[.pointer (some ⟨d, 0, none⟩), p.val, .int .u32 own, .int .i64 now] w fun e w' => ∃ a2 cp2, e = .returned (.slice a2 (onF S p own now).2.length cp2) ∧ Hid (ND w0 w' gp c m d gk (onF S p own now).1 n v (.slice a2 (onF S p own now).2.length cp2) (onF S p own now).2 ∧ KeepG w w') := by
  obtain ⟨V, a, cp, U, Lk, Vk, ls, l, h1, h2, h3, h4⟩ := h
  exact (ron_any d S a cp U p own now w h1.rc hp).mono fun e w' ⟨a2, cp2, e1, A⟩ => ⟨a2, cp2, e1, ⟨NM.doc ⟨V, a, cp, U, Lk, Vk, ls, l, ⟨h1, h2, h3, h4⟩, a2, cp2, rfl, A.out⟩, by obtain ⟨a', cp', U', l2, t1, _⟩ := A.out; exact KeepG.turn h1.rc t1⟩⟩
theorem NPz.clear (h : NPz w0 w gp c m d gk S n) :
    Calls Try.prog 19 #[.pointer (some ⟨c, 0, none⟩)] w fun e w' => e = .returned (.tuple #[]) ∧ Hid (∃ v, NM w0 w' gp c m d gk { S with L := [] } S n v []) := by
  obtain ⟨V, a, cp, U, Lk, Vk, ls, h, hl⟩ := h
  refine (clear_any c m S V w h.ca).mono fun e w' ⟨e1, h1, h2⟩ => ⟨e1, .slice none 0 0, ?_⟩
  have A : AnsI w w' c m S { S with L := [] } V (.slice none 0 0) [] [] V := ⟨rfl, Outs.nil _, by simp [Value.ownBlock], by simp, by simp, by simp, h1.out, h2.out⟩
  obtain ⟨p1, p2⟩ := h.prog A
  exact ⟨V, a, cp, U, Lk, Vk, ls, [], p1, hl, p2, rfl⟩
theorem NM.rclear (h : NM w0 w gp c m d gk { S with L := [] } S n v []) :
    Calls Try.prog 31 #[.pointer (some ⟨d, 0, none⟩)] w fun e w' => e = .returned (.tuple #[]) ∧ Hid (NPz w0 w' gp c m d gk { S with L := [] } n) := by
  obtain ⟨V, a, cp, U, Lk, Vk, ls, l, h1, h2, h3, h4⟩ := h
  refine (rclear_any d S a cp U w h1.rc).mono fun e w' ⟨e1, r1, r2⟩ => ⟨e1, V, none, 0, U, Lk, Vk, ls, ?_, h2⟩
  exact h1.doc (RTurn.of_but r1.out r2.out (fun b hb => by simp [Value.ownBlock] at hb) (fun y hy => by simp at hy))
/-- the program's cache has turned, and a block g is nobody's. -/
def NMg (w0 w : World) (gp c m d gk : Nat) (S' S : St) (n : Nat) (v : Value) (sds : List Sd) (g : Nat) : Prop := ∃ V a cp U Lk Vk ls l, NP w0 w gp c m S' V d S a cp U gk Lk Vk ls ∧ ls.length ≤ n ∧ OA w0 w S' V ls v l ∧ l.map (·.1) = sds ∧ (∀ y ∈ S'.L, (V y.ip).ownBlock ≠ some g) ∧ (∀ y ∈ S.L, (U y.ip).ownBlock ≠ some g) ∧ (∀ q ∈ ls, q.1.ownBlock ≠ some g) ∧ ∀ p ∈ l, p.2.ownBlock ≠ some g
theorem NMg.lent {g : Nat} (h : NMg w0 w gp c m d gk S' S n v sds g) {C : Array Value} {f : Nat × Nat} (hg : w.heap[g]? = some (.cells C 5 f)) (hl : w0.heap.size ≤ g) (hb : But g w w') : NM w0 w' gp c m d gk S' S n v sds := by
  obtain ⟨V, a, cp, U, Lk, Vk, ls, l, h, h2, o, h4, g1, g2, g3, g4⟩ := h
  have nk : ∀ {k : Nat} {C' : Array Value} {t' : TypeId} {f' : Nat × Nat}, w.heap[k]? = some (.cells C' t' f') → t' ≠ 5 → w'.heap[k]? = w.heap[k]? := fun {k C' t' f'} hk h1 => hb.block k (ne_ty hk hg h1) (heap_lt hk)
  have nr : ∀ {u : Value} {vs : List Value}, Row w 5 u vs → u.ownBlock ≠ some g → ∀ b, u.ownBlock = some b → w'.heap[b]? = w.heap[b]? := fun {u vs} hr hn b hb' => hb.block b (fun e => hn (by rw [hb', e])) (hr.lt hb')
  obtain ⟨es, clock, hm, _⟩ := h.ca.map
  have hmk : w'.heap[m]? = w.heap[m]? := hb.block m (Ne.symm (ne_mp hg hm)) (heap_lt hm)
  refine ⟨V, a, cp, U, Lk, Vk, ls, l, { box := (nk h.box (by decide)).trans h.box, ca := h.ca.keep (nk h.ca.box (by decide)) hmk (fun y hy b hb' => nr (h.ca.rows y hy) (g1 y hy) b hb'), rc := h.rc.keep (nk h.rc.box (by decide)) (fun b hb' => ?_) (fun y hy b hb' => nr (h.rc.pks y hy) (g2 y hy) b hb'), bk := h.bk.keep (fun k hk => ?_) (fun p hp b hb' => nr (h.bk.rows p hp).1 (g3 p hp) b hb'), off := h.off, lc := h.lc, lm := h.lm, ld := h.ld, la := h.la, lp := h.lp, lv := h.lv, bel := h.bel.trans (hb.below hl h.bel.size) }, h2, { o with outs := o.outs.keep (fun b hb' => ?_) (fun p hp b hb' => nr (o.outs.dat p hp) (g4 p hp) b hb') }, h4⟩
  · obtain ⟨cur, hc⟩ := h.rc.row.obj hb'
    exact nk hc (by decide)
  · obtain ⟨C', t', f', hc, ht⟩ := h.book_ty k hk
    refine nk hc ?_
    rcases ht with rfl | rfl | rfl <;> decide
  · obtain ⟨cur, hc⟩ := o.outs.row.obj hb'
    exact nk hc (by decide)
theorem NPz.ask {W : World} (hW : NPz w0 W gp c m d gk S n) (hb : Below W.heap.size W w) (g : Nat) (hg : W.heap.size ≤ g) (hgl : g < w.heap.size) (src ip : Int) (pt : Part) (now : Int) (hip : ipOk ip) (hsrc : ipOk src) (C : Array Value) (hC : w.heap[g]? = some (.cells C 5 (0, 0))) (hpa : pt.zs = [] ∨ ∃ o, pt.a = some ⟨g, o, none⟩) (hp : pt.ok w) (hpl : pt.zs.length ≤ 140737488351232) :
    Calls Try.prog 11 #[.pointer (some ⟨c, 0, none⟩), .int .u32 src, .int .u32 ip, pt.val, .int .i64 now] w fun e w' => ∃ a cp, e = .returned (.slice a (askF S src ip pt.zs now).2.length cp) ∧ Hid (NMg w0 w' gp c m d gk (askF S src ip pt.zs now).1 S n (.slice a (askF S src ip pt.zs now).2.length cp) (askF S src ip pt.zs now).2 g ∧ KeepG w w') := by
  obtain ⟨V, a, cp, U, Lk, Vk, ls, hW, hl⟩ := hW
  have h := hW.below hb
  obtain ⟨es, clock, hm, _⟩ := h.ca.map
  refine (cask_any c m S V src ip pt now w h.ca hip hsrc (fun wx t => ?_) hpl).mono fun e w' ⟨a2, cp2, e1, A⟩ => ⟨a2, cp2, e1, ?_⟩
  · refine ⟨hp.1, hp.2.1, ?_⟩
    rcases hp.2.2 with he | ⟨b, o, ha, hc⟩
    · exact Or.inl he
    · refine Or.inr ⟨b, o, ha, fun j hj => ?_⟩
      have hbg : b = g := by
        rcases hpa with he | ⟨o', ha'⟩
        · rw [he] at hj; simp at hj
        · rw [ha] at ha'; simp at ha'; exact ha'.1
      subst hbg
      have h1 := hc j hj
      rw [World.cell?_of_block (w := w) (t.block b (ne_ty hC h.ca.box (by decide)) (ne_mp hC hm) hgl), h1]
  · obtain ⟨l, V', A⟩ := A.out
    obtain ⟨p1, p2⟩ := h.prog A
    refine ⟨⟨V', a, cp, U, Lk, Vk, ls, l, p1, hl, p2, A.map, fun y hy e => ?_, fun y hy e => ?_, fun q hq e => ?_, fun p hp' e => ?_⟩, KeepG.two h.ca A.two⟩
    · rcases A.vsrc y hy g e with h1 | ⟨z, hz, h1⟩
      · omega
      · have := (hW.ca.rows z hz).lt h1; omega
    · have := (hW.rc.pks y hy).lt e; omega
    · have := (hW.bk.rows q hq).1.lt e; omega
    · rcases A.src p hp' g e with h1 | ⟨z, hz, h1⟩
      · omega
      · have := (hW.ca.rows z hz).lt h1; omega
theorem NM.rask (src ip : Int) (pt : Part) (now : Int) (hip : ipOk ip) (hsrc : ipOk src) (hp : pt.ok w0) (hpl : pt.zs.length ≤ 140737488351232) (h : NM w0 w gp c m d gk (askF S src ip pt.zs now).1 S n v (askF S src ip pt.zs now).2) :
    Calls Try.prog 27 #[.pointer (some ⟨d, 0, none⟩), .int .u32 src, .int .u32 ip, pt.val, .int .i64 now] w fun e w' => ∃ a2 cp2, e = .returned (.slice a2 (askF S src ip pt.zs now).2.length cp2) ∧ Hid (ND w0 w' gp c m d gk (askF S src ip pt.zs now).1 n v (.slice a2 (askF S src ip pt.zs now).2.length cp2) (askF S src ip pt.zs now).2 ∧ KeepG w w') := by
  obtain ⟨V, a, cp, U, Lk, Vk, ls, l, h1, h2, h3, h4⟩ := h
  refine (rask_any d S a cp U src ip pt now w h1.rc hip hsrc (fun wx hk => part_low hp fun k hk' => ?_) hpl).mono fun e w' ⟨a2, cp2, e1, A⟩ => ⟨a2, cp2, e1, ⟨NM.doc ⟨V, a, cp, U, Lk, Vk, ls, l, ⟨h1, h2, h3, h4⟩, a2, cp2, rfl, A.out⟩, by obtain ⟨a', cp', U', l2, t1, _⟩ := A.out; exact KeepG.turn h1.rc t1⟩⟩
  have hs := h1.bel.size
  rw [hk k (fun e => by have := h1.ld; omega) (fun e => by have := h1.la k e; omega) (by omega), h1.bel.block k hk']
/-- what was sent is taken in. -/
theorem ND.sent {va vb : Option Addr} {vc vd : Nat} (h : ND w0 w gp c m d gk S n (.slice va sds.length vc) (.slice vb sds.length vd) sds) (hs : ∀ s ∈ sds, SdB s) (hl : sds.length ≤ 64) (hn : n + 64 ≤ 5000000000000) :
    Calls Try.prog 28 #[.pointer (some ⟨gp, 0, none⟩), .slice va sds.length vc, .slice vb sds.length vd] w fun e w' => e = .returned (.bool true) ∧ Hid (NPz w0 w' gp c m d gk S (n + sds.length)) := by
  obtain ⟨V, a, cp, U, Lk, Vk, ls, l, l2, h1, h2, h3, h4, h5, h6⟩ := h
  have e1 : l.length = sds.length := by rw [← h4, List.length_map]
  have e2 : l2.length = sds.length := by rw [← h6, List.length_map]
  refine (sent_any w0 w gp c m S V d S a cp U gk Lk Vk ls va vb sds.length vc vd l l2 h1 h3 e1 h5 e2 (h4.trans h6.symm) (fun p hp => ?_) (by omega) (by omega)).mono fun e w' ⟨a1, a2⟩ => ⟨a1, ?_⟩
  · exact hs p.1 (by rw [← h4]; exact List.mem_map.2 ⟨p, hp, rfl⟩)
  · obtain ⟨L9, V9, np⟩ := a2.out
    exact ⟨V, a, cp, U, L9, V9, _, np, by simp [tk]; omega⟩
end
/-- a call of a script is done: at most three more may go out than could. -/
def StepE (w0 w' : World) (gp c m d gk : Nat) (S : St) (n : Nat) : Prop := ∃ S' n', NPz w0 w' gp c m d gk S' n' ∧ StB S' ∧ n' + pot S'.L ≤ n + pot S.L + 3
end Go.Proofs.Ytdgjpikphooilaa

/-
  Neigh: the statement's step. Written by mkngt.py.
-/
namespace Go.Proofs.Ytdgjpikphooilaa
open Go.RowKit
set_option linter.all false

set_option maxRecDepth 40000 in
set_option maxHeartbeats 4000000 in
theorem step_tick (w0 w : World) (gp c m d gk : Nat) (S : St) (n : Nat) (h : NPz w0 w gp c m d gk S n) (hb : StB S) (hn : n + 64 ≤ 5000000000000) (now src ip : Int) (pa : Option Addr) (pl pc : Nat) (po s0 s1 s2 s3 s4 s5 si d0 d1 d2 d3 d4 d5 di own : Int)  :
    Calls Try.prog 8 #[.pointer (some ⟨gp, 0, none⟩), .agg #[.int .i64 3, .int .i64 now, .int .u32 src, .int .u32 ip, .slice pa pl pc, .int .i64 po, .int .u8 s0, .int .u8 s1, .int .u8 s2, .int .u8 s3, .int .u8 s4, .int .u8 s5, .int .u32 si, .int .u8 d0, .int .u8 d1, .int .u8 d2, .int .u8 d3, .int .u8 d4, .int .u8 d5, .int .u32 di, .int .u32 own]] w fun e w' => e = .returned (.bool true) ∧ Hid (StepE w0 w' gp c m d gk S n) := by
  have hB1 := bpush (Below.refl w.heap.size w) (.cells #[.int .i64 3, .int .i64 now, .int .u32 src, .int .u32 ip, .slice pa pl pc, .int .i64 po, .int .u8 s0, .int .u8 s1, .int .u8 s2, .int .u8 s3, .int .u8 s4, .int .u8 s5, .int .u32 si, .int .u8 d0, .int .u8 d1, .int .u8 d2, .int .u8 d3, .int .u8 d4, .int .u8 d5, .int .u32 di, .int .u32 own] 44)
  have h1 := h.below hB1
  have hx1 : (w.alloc (.cells #[.int .i64 3, .int .i64 now, .int .u32 src, .int .u32 ip, .slice pa pl pc, .int .i64 po, .int .u8 s0, .int .u8 s1, .int .u8 s2, .int .u8 s3, .int .u8 s4, .int .u8 s5, .int .u32 si, .int .u8 d0, .int .u8 d1, .int .u8 d2, .int .u8 d3, .int .u8 d4, .int .u8 d5, .int .u32 di, .int .u32 own] 44)).heap[w.heap.size]? = some (.cells #[.int .i64 3, .int .i64 now, .int .u32 src, .int .u32 ip, .slice pa pl pc, .int .i64 po, .int .u8 s0, .int .u8 s1, .int .u8 s2, .int .u8 s3, .int .u8 s4, .int .u8 s5, .int .u32 si, .int .u8 d0, .int .u8 d1, .int .u8 d2, .int .u8 d3, .int .u8 d4, .int .u8 d5, .int .u32 di, .int .u32 own] 44 (0, 0)) := heap_new _ _
  obtain ⟨R, hR⟩ : ∃ R, R = tickF S now := ⟨_, rfl⟩
  have hbd := tick_b h.ok hb now
  have hpo := tick_p S now
  rw [← hR] at hbd hpo
  have HC1 : Hid (Calls Try.prog 18 #[.pointer (some ⟨c, 0, none⟩), .int .i64 now] (w.alloc (.cells #[.int .i64 3, .int .i64 now, .int .u32 src, .int .u32 ip, .slice pa pl pc, .int .i64 po, .int .u8 s0, .int .u8 s1, .int .u8 s2, .int .u8 s3, .int .u8 s4, .int .u8 s5, .int .u32 si, .int .u8 d0, .int .u8 d1, .int .u8 d2, .int .u8 d3, .int .u8 d4, .int .u8 d5, .int .u32 di, .int .u32 own] 44)).drew fun e w' => ∃ a cp, e = .returned (.slice a R.2.length cp) ∧ (∀ q, w'.cell? ⟨gp, q, none⟩ = (#[.pointer (some ⟨c, 0, none⟩), .pointer (some ⟨d, 0, none⟩), .pointer (some ⟨gk, 0, none⟩)] : Array Value)[q]?) ∧ (∀ q, w'.cell? ⟨w.heap.size, q, none⟩ = (#[.int .i64 3, .int .i64 now, .int .u32 src, .int .u32 ip, .slice pa pl pc, .int .i64 po, .int .u8 s0, .int .u8 s1, .int .u8 s2, .int .u8 s3, .int .u8 s4, .int .u8 s5, .int .u32 si, .int .u8 d0, .int .u8 d1, .int .u8 d2, .int .u8 d3, .int .u8 d4, .int .u8 d5, .int .u32 di, .int .u32 own] : Array Value)[q]?) ∧ Hid (w'.heap[w.heap.size]? = some (.cells #[.int .i64 3, .int .i64 now, .int .u32 src, .int .u32 ip, .slice pa pl pc, .int .i64 po, .int .u8 s0, .int .u8 s1, .int .u8 s2, .int .u8 s3, .int .u8 s4, .int .u8 s5, .int .u32 si, .int .u8 d0, .int .u8 d1, .int .u8 d2, .int .u8 d3, .int .u8 d4, .int .u8 d5, .int .u32 di, .int .u32 own] 44 (0, 0))) ∧ Hid (NM w0 w' gp c m d gk R.1 S n (.slice a R.2.length cp) R.2)) := by
    rw [hR]
    exact ((h1.below (Below.refl _ _).drew).tick now).mono fun e w' ⟨a2, cp2, e1, A⟩ => ⟨a2, cp2, e1, A.out.1.box, fun q => cell_of_heap (A.out.2 _ _ _ _ (show (w.alloc (.cells #[.int .i64 3, .int .i64 now, .int .u32 src, .int .u32 ip, .slice pa pl pc, .int .i64 po, .int .u8 s0, .int .u8 s1, .int .u8 s2, .int .u8 s3, .int .u8 s4, .int .u8 s5, .int .u32 si, .int .u8 d0, .int .u8 d1, .int .u8 d2, .int .u8 d3, .int .u8 d4, .int .u8 d5, .int .u32 di, .int .u32 own] 44)).drew.heap[w.heap.size]? = _ from hx1) (by decide) (by decide) (by decide)) q, A.out.2 _ _ _ _ (show (w.alloc (.cells #[.int .i64 3, .int .i64 now, .int .u32 src, .int .u32 ip, .slice pa pl pc, .int .i64 po, .int .u8 s0, .int .u8 s1, .int .u8 s2, .int .u8 s3, .int .u8 s4, .int .u8 s5, .int .u32 si, .int .u8 d0, .int .u8 d1, .int .u8 d2, .int .u8 d3, .int .u8 d4, .int .u8 d5, .int .u32 di, .int .u32 own] 44)).drew.heap[w.heap.size]? = _ from hx1) (by decide) (by decide) (by decide), A.out.1⟩
  have HC2 : Hid (∀ w2 v, NM w0 w2 gp c m d gk R.1 S n v R.2 → w2.heap[w.heap.size]? = some (.cells #[.int .i64 3, .int .i64 now, .int .u32 src, .int .u32 ip, .slice pa pl pc, .int .i64 po, .int .u8 s0, .int .u8 s1, .int .u8 s2, .int .u8 s3, .int .u8 s4, .int .u8 s5, .int .u32 si, .int .u8 d0, .int .u8 d1, .int .u8 d2, .int .u8 d3, .int .u8 d4, .int .u8 d5, .int .u32 di, .int .u32 own] 44 (0, 0)) → Calls Try.prog 30 #[.pointer (some ⟨d, 0, none⟩), .int .i64 now] w2.drew fun e w' => ∃ a cp, e = .returned (.slice a R.2.length cp) ∧ (∀ q, w'.cell? ⟨gp, q, none⟩ = (#[.pointer (some ⟨c, 0, none⟩), .pointer (some ⟨d, 0, none⟩), .pointer (some ⟨gk, 0, none⟩)] : Array Value)[q]?) ∧ (∀ q, w'.cell? ⟨w.heap.size, q, none⟩ = w2.drew.cell? ⟨w.heap.size, q, none⟩) ∧ Hid (ND w0 w' gp c m d gk R.1 n v (.slice a R.2.length cp) R.2)) := fun w2 v hM hx2 => by
    have hM' := hM.below (Below.refl _ _).drew
    rw [hR] at hM' ⊢
    exact (hM'.rtick).mono fun e w' ⟨a2, cp2, e1, A⟩ => ⟨a2, cp2, e1, A.out.1.box, fun q => by rw [cell_of_heap (A.out.2 _ _ _ _ (show w2.drew.heap[w.heap.size]? = _ from hx2) (by decide) (by decide) (by decide)), cell_of_heap (show w2.drew.heap[w.heap.size]? = _ from hx2)], A.out.1⟩
  have HS : Hid (∀ w3 va vc vb vd, ND w0 w3 gp c m d gk R.1 n (.slice va R.2.length vc) (.slice vb R.2.length vd) R.2 → Calls Try.prog 28 #[.pointer (some ⟨gp, 0, none⟩), .slice va R.2.length vc, .slice vb R.2.length vd] w3 fun e w' => e = .returned (.bool true) ∧ Hid (StepE w0 w' gp c m d gk S n)) := fun w3 va vc vb vd hD => (hD.sent hbd.2.1 hbd.2.2 hn).mono fun e w' ⟨a1, a2⟩ => ⟨a1, _, _, a2.out, hbd.1, by omega⟩
  have f0 : ∀ q, (w.alloc (.cells #[.int .i64 3, .int .i64 now, .int .u32 src, .int .u32 ip, .slice pa pl pc, .int .i64 po, .int .u8 s0, .int .u8 s1, .int .u8 s2, .int .u8 s3, .int .u8 s4, .int .u8 s5, .int .u32 si, .int .u8 d0, .int .u8 d1, .int .u8 d2, .int .u8 d3, .int .u8 d4, .int .u8 d5, .int .u32 di, .int .u32 own] 44)).drew.cell? ⟨gp, q, none⟩ = (#[.pointer (some ⟨c, 0, none⟩), .pointer (some ⟨d, 0, none⟩), .pointer (some ⟨gk, 0, none⟩)] : Array Value)[q]? := h1.box
  have f1 : ∀ q, (w.alloc (.cells #[.int .i64 3, .int .i64 now, .int .u32 src, .int .u32 ip, .slice pa pl pc, .int .i64 po, .int .u8 s0, .int .u8 s1, .int .u8 s2, .int .u8 s3, .int .u8 s4, .int .u8 s5, .int .u32 si, .int .u8 d0, .int .u8 d1, .int .u8 d2, .int .u8 d3, .int .u8 d4, .int .u8 d5, .int .u32 di, .int .u32 own] 44)).drew.cell? ⟨w.heap.size, q, none⟩ = (#[.int .i64 3, .int .i64 now, .int .u32 src, .int .u32 ip, .slice pa pl pc, .int .i64 po, .int .u8 s0, .int .u8 s1, .int .u8 s2, .int .u8 s3, .int .u8 s4, .int .u8 s5, .int .u32 si, .int .u8 d0, .int .u8 d1, .int .u8 d2, .int .u8 d3, .int .u8 d4, .int .u8 d5, .int .u32 di, .int .u32 own] : Array Value)[q]? := fun q => cell_of_heap hx1 q
  clear h h1 hb hbd hpo hR hB1 hx1
  generalize R.2.length = RL at *
  go_enter Try.func8, Try.ntmps8
  go_wp2_with fail
  go_region_held3 (fun s => (∀ q, s.cell? ⟨gp, q, none⟩ = (#[.pointer (some ⟨c, 0, none⟩), .pointer (some ⟨d, 0, none⟩), .pointer (some ⟨gk, 0, none⟩)] : Array Value)[q]?) ∧ (∀ q, s.cell? ⟨w.heap.size, q, none⟩ = (#[.int .i64 3, .int .i64 now, .int .u32 src, .int .u32 ip, .slice pa pl pc, .int .i64 po, .int .u8 s0, .int .u8 s1, .int .u8 s2, .int .u8 s3, .int .u8 s4, .int .u8 s5, .int .u32 si, .int .u8 d0, .int .u8 d1, .int .u8 d2, .int .u8 d3, .int .u8 d4, .int .u8 d5, .int .u32 di, .int .u32 own] : Array Value)[q]?)) (first | assumption | (refine ⟨?_, ?_⟩ <;> assumption) | go_keep) (first
    | (go_at_call 18; refine HC1.out.mono ?_; go_loud (rintro e w2 ⟨a2, c2, rfl, g0, g1, HX2, HM2⟩)))
  go_wp2_with fail
  have HC3 := hid (HC2.out w2 _ HM2.out HX2.out)
  have g0' : ∀ q, w2.drew.cell? ⟨gp, q, none⟩ = (#[.pointer (some ⟨c, 0, none⟩), .pointer (some ⟨d, 0, none⟩), .pointer (some ⟨gk, 0, none⟩)] : Array Value)[q]? := g0
  have g1' : ∀ q, w2.drew.cell? ⟨w.heap.size, q, none⟩ = (#[.int .i64 3, .int .i64 now, .int .u32 src, .int .u32 ip, .slice pa pl pc, .int .i64 po, .int .u8 s0, .int .u8 s1, .int .u8 s2, .int .u8 s3, .int .u8 s4, .int .u8 s5, .int .u32 si, .int .u8 d0, .int .u8 d1, .int .u8 d2, .int .u8 d3, .int .u8 d4, .int .u8 d5, .int .u32 di, .int .u32 own] : Array Value)[q]? := g1
  clear f0 f1
  go_region_held3 (fun s => (∀ q, s.cell? ⟨gp, q, none⟩ = (#[.pointer (some ⟨c, 0, none⟩), .pointer (some ⟨d, 0, none⟩), .pointer (some ⟨gk, 0, none⟩)] : Array Value)[q]?) ∧ (∀ q, s.cell? ⟨w.heap.size, q, none⟩ = (#[.int .i64 3, .int .i64 now, .int .u32 src, .int .u32 ip, .slice pa pl pc, .int .i64 po, .int .u8 s0, .int .u8 s1, .int .u8 s2, .int .u8 s3, .int .u8 s4, .int .u8 s5, .int .u32 si, .int .u8 d0, .int .u8 d1, .int .u8 d2, .int .u8 d3, .int .u8 d4, .int .u8 d5, .int .u32 di, .int .u32 own] : Array Value)[q]?)) (first | assumption | (refine ⟨?_, ?_⟩ <;> assumption) | go_keep) (first
    | (go_at_call 30; refine HC3.out.mono ?_; go_loud (rintro e w3 ⟨a3, c3, rfl, k0, k1, HD3⟩; simp only [g1'] at k1)))
  go_wp2_with (first
    | (go_at_call 28; refine (HS.out w3 _ _ _ _ HD3.out).mono ?_; go_loud (rintro e w4 ⟨rfl, HF⟩)))
  go_ret
  exact ⟨rfl, HF⟩
set_option maxRecDepth 40000 in
set_option maxHeartbeats 4000000 in
theorem step_on (w0 w : World) (gp c m d gk : Nat) (S : St) (n : Nat) (h : NPz w0 w gp c m d gk S n) (hb : StB S) (hn : n + 64 ≤ 5000000000000) (now src ip : Int) (pa : Option Addr) (pl pc : Nat) (po s0 s1 s2 s3 s4 s5 si d0 d1 d2 d3 d4 d5 di own : Int) (hp : Arp.ok (Arp.mk po ⟨s0, s1, s2, s3, s4, s5⟩ si ⟨d0, d1, d2, d3, d4, d5⟩ di)) (ho : ipOk own) :
    Calls Try.prog 8 #[.pointer (some ⟨gp, 0, none⟩), .agg #[.int .i64 2, .int .i64 now, .int .u32 src, .int .u32 ip, .slice pa pl pc, .int .i64 po, .int .u8 s0, .int .u8 s1, .int .u8 s2, .int .u8 s3, .int .u8 s4, .int .u8 s5, .int .u32 si, .int .u8 d0, .int .u8 d1, .int .u8 d2, .int .u8 d3, .int .u8 d4, .int .u8 d5, .int .u32 di, .int .u32 own]] w fun e w' => e = .returned (.bool true) ∧ Hid (StepE w0 w' gp c m d gk S n) := by
  have hB1 := bpush (Below.refl w.heap.size w) (.cells #[.int .i64 2, .int .i64 now, .int .u32 src, .int .u32 ip, .slice pa pl pc, .int .i64 po, .int .u8 s0, .int .u8 s1, .int .u8 s2, .int .u8 s3, .int .u8 s4, .int .u8 s5, .int .u32 si, .int .u8 d0, .int .u8 d1, .int .u8 d2, .int .u8 d3, .int .u8 d4, .int .u8 d5, .int .u32 di, .int .u32 own] 44)
  have h1 := h.below hB1
  have hx1 : (w.alloc (.cells #[.int .i64 2, .int .i64 now, .int .u32 src, .int .u32 ip, .slice pa pl pc, .int .i64 po, .int .u8 s0, .int .u8 s1, .int .u8 s2, .int .u8 s3, .int .u8 s4, .int .u8 s5, .int .u32 si, .int .u8 d0, .int .u8 d1, .int .u8 d2, .int .u8 d3, .int .u8 d4, .int .u8 d5, .int .u32 di, .int .u32 own] 44)).heap[w.heap.size]? = some (.cells #[.int .i64 2, .int .i64 now, .int .u32 src, .int .u32 ip, .slice pa pl pc, .int .i64 po, .int .u8 s0, .int .u8 s1, .int .u8 s2, .int .u8 s3, .int .u8 s4, .int .u8 s5, .int .u32 si, .int .u8 d0, .int .u8 d1, .int .u8 d2, .int .u8 d3, .int .u8 d4, .int .u8 d5, .int .u32 di, .int .u32 own] 44 (0, 0)) := heap_new _ _
  obtain ⟨R, hR⟩ : ∃ R, R = onF S (Arp.mk po ⟨s0, s1, s2, s3, s4, s5⟩ si ⟨d0, d1, d2, d3, d4, d5⟩ di) own now := ⟨_, rfl⟩
  have hbd := on_b h.ok hb own now hp
  have hpo := on_p S (Arp.mk po ⟨s0, s1, s2, s3, s4, s5⟩ si ⟨d0, d1, d2, d3, d4, d5⟩ di) own now
  rw [← hR] at hbd hpo
  have HC1 : Hid (Calls Try.prog 17 #[.pointer (some ⟨c, 0, none⟩), .agg #[.int .i64 po, .int .u8 s0, .int .u8 s1, .int .u8 s2, .int .u8 s3, .int .u8 s4, .int .u8 s5, .int .u32 si, .int .u8 d0, .int .u8 d1, .int .u8 d2, .int .u8 d3, .int .u8 d4, .int .u8 d5, .int .u32 di], .int .u32 own, .int .i64 now] (w.alloc (.cells #[.int .i64 2, .int .i64 now, .int .u32 src, .int .u32 ip, .slice pa pl pc, .int .i64 po, .int .u8 s0, .int .u8 s1, .int .u8 s2, .int .u8 s3, .int .u8 s4, .int .u8 s5, .int .u32 si, .int .u8 d0, .int .u8 d1, .int .u8 d2, .int .u8 d3, .int .u8 d4, .int .u8 d5, .int .u32 di, .int .u32 own] 44)).drew fun e w' => ∃ a cp, e = .returned (.slice a R.2.length cp) ∧ (∀ q, w'.cell? ⟨gp, q, none⟩ = (#[.pointer (some ⟨c, 0, none⟩), .pointer (some ⟨d, 0, none⟩), .pointer (some ⟨gk, 0, none⟩)] : Array Value)[q]?) ∧ (∀ q, w'.cell? ⟨w.heap.size, q, none⟩ = (#[.int .i64 2, .int .i64 now, .int .u32 src, .int .u32 ip, .slice pa pl pc, .int .i64 po, .int .u8 s0, .int .u8 s1, .int .u8 s2, .int .u8 s3, .int .u8 s4, .int .u8 s5, .int .u32 si, .int .u8 d0, .int .u8 d1, .int .u8 d2, .int .u8 d3, .int .u8 d4, .int .u8 d5, .int .u32 di, .int .u32 own] : Array Value)[q]?) ∧ Hid (w'.heap[w.heap.size]? = some (.cells #[.int .i64 2, .int .i64 now, .int .u32 src, .int .u32 ip, .slice pa pl pc, .int .i64 po, .int .u8 s0, .int .u8 s1, .int .u8 s2, .int .u8 s3, .int .u8 s4, .int .u8 s5, .int .u32 si, .int .u8 d0, .int .u8 d1, .int .u8 d2, .int .u8 d3, .int .u8 d4, .int .u8 d5, .int .u32 di, .int .u32 own] 44 (0, 0))) ∧ Hid (NM w0 w' gp c m d gk R.1 S n (.slice a R.2.length cp) R.2)) := by
    rw [hR]
    exact ((h1.below (Below.refl _ _).drew).on (Arp.mk po ⟨s0, s1, s2, s3, s4, s5⟩ si ⟨d0, d1, d2, d3, d4, d5⟩ di) own now hp ho).mono fun e w' ⟨a2, cp2, e1, A⟩ => ⟨a2, cp2, e1, A.out.1.box, fun q => cell_of_heap (A.out.2 _ _ _ _ (show (w.alloc (.cells #[.int .i64 2, .int .i64 now, .int .u32 src, .int .u32 ip, .slice pa pl pc, .int .i64 po, .int .u8 s0, .int .u8 s1, .int .u8 s2, .int .u8 s3, .int .u8 s4, .int .u8 s5, .int .u32 si, .int .u8 d0, .int .u8 d1, .int .u8 d2, .int .u8 d3, .int .u8 d4, .int .u8 d5, .int .u32 di, .int .u32 own] 44)).drew.heap[w.heap.size]? = _ from hx1) (by decide) (by decide) (by decide)) q, A.out.2 _ _ _ _ (show (w.alloc (.cells #[.int .i64 2, .int .i64 now, .int .u32 src, .int .u32 ip, .slice pa pl pc, .int .i64 po, .int .u8 s0, .int .u8 s1, .int .u8 s2, .int .u8 s3, .int .u8 s4, .int .u8 s5, .int .u32 si, .int .u8 d0, .int .u8 d1, .int .u8 d2, .int .u8 d3, .int .u8 d4, .int .u8 d5, .int .u32 di, .int .u32 own] 44)).drew.heap[w.heap.size]? = _ from hx1) (by decide) (by decide) (by decide), A.out.1⟩
  have HC2 : Hid (∀ w2 v, NM w0 w2 gp c m d gk R.1 S n v R.2 → w2.heap[w.heap.size]? = some (.cells #[.int .i64 2, .int .i64 now, .int .u32 src, .int .u32 ip, .slice pa pl pc, .int .i64 po, .int .u8 s0, .int .u8 s1, .int .u8 s2, .int .u8 s3, .int .u8 s4, .int .u8 s5, .int .u32 si, .int .u8 d0, .int .u8 d1, .int .u8 d2, .int .u8 d3, .int .u8 d4, .int .u8 d5, .int .u32 di, .int .u32 own] 44 (0, 0)) → Calls Try.prog 29 #[.pointer (some ⟨d, 0, none⟩), .agg #[.int .i64 po, .int .u8 s0, .int .u8 s1, .int .u8 s2, .int .u8 s3, .int .u8 s4, .int .u8 s5, .int .u32 si, .int .u8 d0, .int .u8 d1, .int .u8 d2, .int .u8 d3, .int .u8 d4, .int .u8 d5, .int .u32 di], .int .u32 own, .int .i64 now] w2.drew fun e w' => ∃ a cp, e = .returned (.slice a R.2.length cp) ∧ (∀ q, w'.cell? ⟨gp, q, none⟩ = (#[.pointer (some ⟨c, 0, none⟩), .pointer (some ⟨d, 0, none⟩), .pointer (some ⟨gk, 0, none⟩)] : Array Value)[q]?) ∧ (∀ q, w'.cell? ⟨w.heap.size, q, none⟩ = w2.drew.cell? ⟨w.heap.size, q, none⟩) ∧ Hid (ND w0 w' gp c m d gk R.1 n v (.slice a R.2.length cp) R.2)) := fun w2 v hM hx2 => by
    have hM' := hM.below (Below.refl _ _).drew
    rw [hR] at hM' ⊢
    exact (NM.ron (Arp.mk po ⟨s0, s1, s2, s3, s4, s5⟩ si ⟨d0, d1, d2, d3, d4, d5⟩ di) own now hp hM').mono fun e w' ⟨a2, cp2, e1, A⟩ => ⟨a2, cp2, e1, A.out.1.box, fun q => by rw [cell_of_heap (A.out.2 _ _ _ _ (show w2.drew.heap[w.heap.size]? = _ from hx2) (by decide) (by decide) (by decide)), cell_of_heap (show w2.drew.heap[w.heap.size]? = _ from hx2)], A.out.1⟩
  have HS : Hid (∀ w3 va vc vb vd, ND w0 w3 gp c m d gk R.1 n (.slice va R.2.length vc) (.slice vb R.2.length vd) R.2 → Calls Try.prog 28 #[.pointer (some ⟨gp, 0, none⟩), .slice va R.2.length vc, .slice vb R.2.length vd] w3 fun e w' => e = .returned (.bool true) ∧ Hid (StepE w0 w' gp c m d gk S n)) := fun w3 va vc vb vd hD => (hD.sent hbd.2.1 hbd.2.2 hn).mono fun e w' ⟨a1, a2⟩ => ⟨a1, _, _, a2.out, hbd.1, by omega⟩
  have f0 : ∀ q, (w.alloc (.cells #[.int .i64 2, .int .i64 now, .int .u32 src, .int .u32 ip, .slice pa pl pc, .int .i64 po, .int .u8 s0, .int .u8 s1, .int .u8 s2, .int .u8 s3, .int .u8 s4, .int .u8 s5, .int .u32 si, .int .u8 d0, .int .u8 d1, .int .u8 d2, .int .u8 d3, .int .u8 d4, .int .u8 d5, .int .u32 di, .int .u32 own] 44)).drew.cell? ⟨gp, q, none⟩ = (#[.pointer (some ⟨c, 0, none⟩), .pointer (some ⟨d, 0, none⟩), .pointer (some ⟨gk, 0, none⟩)] : Array Value)[q]? := h1.box
  have f1 : ∀ q, (w.alloc (.cells #[.int .i64 2, .int .i64 now, .int .u32 src, .int .u32 ip, .slice pa pl pc, .int .i64 po, .int .u8 s0, .int .u8 s1, .int .u8 s2, .int .u8 s3, .int .u8 s4, .int .u8 s5, .int .u32 si, .int .u8 d0, .int .u8 d1, .int .u8 d2, .int .u8 d3, .int .u8 d4, .int .u8 d5, .int .u32 di, .int .u32 own] 44)).drew.cell? ⟨w.heap.size, q, none⟩ = (#[.int .i64 2, .int .i64 now, .int .u32 src, .int .u32 ip, .slice pa pl pc, .int .i64 po, .int .u8 s0, .int .u8 s1, .int .u8 s2, .int .u8 s3, .int .u8 s4, .int .u8 s5, .int .u32 si, .int .u8 d0, .int .u8 d1, .int .u8 d2, .int .u8 d3, .int .u8 d4, .int .u8 d5, .int .u32 di, .int .u32 own] : Array Value)[q]? := fun q => cell_of_heap hx1 q
  clear h h1 hb hbd hpo hR hB1 hx1
  generalize R.2.length = RL at *
  go_enter Try.func8, Try.ntmps8
  go_wp2_with fail
  go_region_held3 (fun s => (∀ q, s.cell? ⟨gp, q, none⟩ = (#[.pointer (some ⟨c, 0, none⟩), .pointer (some ⟨d, 0, none⟩), .pointer (some ⟨gk, 0, none⟩)] : Array Value)[q]?) ∧ (∀ q, s.cell? ⟨w.heap.size, q, none⟩ = (#[.int .i64 2, .int .i64 now, .int .u32 src, .int .u32 ip, .slice pa pl pc, .int .i64 po, .int .u8 s0, .int .u8 s1, .int .u8 s2, .int .u8 s3, .int .u8 s4, .int .u8 s5, .int .u32 si, .int .u8 d0, .int .u8 d1, .int .u8 d2, .int .u8 d3, .int .u8 d4, .int .u8 d5, .int .u32 di, .int .u32 own] : Array Value)[q]?)) (first | assumption | (refine ⟨?_, ?_⟩ <;> assumption) | go_keep) (first
    | (go_at_call 17; refine HC1.out.mono ?_; go_loud (rintro e w2 ⟨a2, c2, rfl, g0, g1, HX2, HM2⟩)))
  go_wp2_with fail
  have HC3 := hid (HC2.out w2 _ HM2.out HX2.out)
  have g0' : ∀ q, w2.drew.cell? ⟨gp, q, none⟩ = (#[.pointer (some ⟨c, 0, none⟩), .pointer (some ⟨d, 0, none⟩), .pointer (some ⟨gk, 0, none⟩)] : Array Value)[q]? := g0
  have g1' : ∀ q, w2.drew.cell? ⟨w.heap.size, q, none⟩ = (#[.int .i64 2, .int .i64 now, .int .u32 src, .int .u32 ip, .slice pa pl pc, .int .i64 po, .int .u8 s0, .int .u8 s1, .int .u8 s2, .int .u8 s3, .int .u8 s4, .int .u8 s5, .int .u32 si, .int .u8 d0, .int .u8 d1, .int .u8 d2, .int .u8 d3, .int .u8 d4, .int .u8 d5, .int .u32 di, .int .u32 own] : Array Value)[q]? := g1
  clear f0 f1
  go_region_held3 (fun s => (∀ q, s.cell? ⟨gp, q, none⟩ = (#[.pointer (some ⟨c, 0, none⟩), .pointer (some ⟨d, 0, none⟩), .pointer (some ⟨gk, 0, none⟩)] : Array Value)[q]?) ∧ (∀ q, s.cell? ⟨w.heap.size, q, none⟩ = (#[.int .i64 2, .int .i64 now, .int .u32 src, .int .u32 ip, .slice pa pl pc, .int .i64 po, .int .u8 s0, .int .u8 s1, .int .u8 s2, .int .u8 s3, .int .u8 s4, .int .u8 s5, .int .u32 si, .int .u8 d0, .int .u8 d1, .int .u8 d2, .int .u8 d3, .int .u8 d4, .int .u8 d5, .int .u32 di, .int .u32 own] : Array Value)[q]?)) (first | assumption | (refine ⟨?_, ?_⟩ <;> assumption) | go_keep) (first
    | (go_at_call 29; refine HC3.out.mono ?_; go_loud (rintro e w3 ⟨a3, c3, rfl, k0, k1, HD3⟩; simp only [g1'] at k1)))
  go_wp2_with (first
    | (go_at_call 28; refine (HS.out w3 _ _ _ _ HD3.out).mono ?_; go_loud (rintro e w4 ⟨rfl, HF⟩)))
  go_ret
  exact ⟨rfl, HF⟩
set_option maxRecDepth 40000 in
set_option maxHeartbeats 4000000 in
theorem step_clear (w0 w : World) (gp c m d gk : Nat) (S : St) (n : Nat) (h : NPz w0 w gp c m d gk S n) (hb : StB S) (hn : n + 64 ≤ 5000000000000) (now src ip : Int) (pa : Option Addr) (pl pc : Nat) (po s0 s1 s2 s3 s4 s5 si d0 d1 d2 d3 d4 d5 di own : Int) :
    Calls Try.prog 8 #[.pointer (some ⟨gp, 0, none⟩), .agg #[.int .i64 4, .int .i64 now, .int .u32 src, .int .u32 ip, .slice pa pl pc, .int .i64 po, .int .u8 s0, .int .u8 s1, .int .u8 s2, .int .u8 s3, .int .u8 s4, .int .u8 s5, .int .u32 si, .int .u8 d0, .int .u8 d1, .int .u8 d2, .int .u8 d3, .int .u8 d4, .int .u8 d5, .int .u32 di, .int .u32 own]] w fun e w' => e = .returned (.bool true) ∧ Hid (StepE w0 w' gp c m d gk S n) := by
  have hB1 := bpush (Below.refl w.heap.size w) (.cells #[.int .i64 4, .int .i64 now, .int .u32 src, .int .u32 ip, .slice pa pl pc, .int .i64 po, .int .u8 s0, .int .u8 s1, .int .u8 s2, .int .u8 s3, .int .u8 s4, .int .u8 s5, .int .u32 si, .int .u8 d0, .int .u8 d1, .int .u8 d2, .int .u8 d3, .int .u8 d4, .int .u8 d5, .int .u32 di, .int .u32 own] 44)
  have h1 := h.below hB1
  have hx1 : (w.alloc (.cells #[.int .i64 4, .int .i64 now, .int .u32 src, .int .u32 ip, .slice pa pl pc, .int .i64 po, .int .u8 s0, .int .u8 s1, .int .u8 s2, .int .u8 s3, .int .u8 s4, .int .u8 s5, .int .u32 si, .int .u8 d0, .int .u8 d1, .int .u8 d2, .int .u8 d3, .int .u8 d4, .int .u8 d5, .int .u32 di, .int .u32 own] 44)).heap[w.heap.size]? = some (.cells #[.int .i64 4, .int .i64 now, .int .u32 src, .int .u32 ip, .slice pa pl pc, .int .i64 po, .int .u8 s0, .int .u8 s1, .int .u8 s2, .int .u8 s3, .int .u8 s4, .int .u8 s5, .int .u32 si, .int .u8 d0, .int .u8 d1, .int .u8 d2, .int .u8 d3, .int .u8 d4, .int .u8 d5, .int .u32 di, .int .u32 own] 44 (0, 0)) := heap_new _ _
  have HC1 : Hid (Calls Try.prog 19 #[.pointer (some ⟨c, 0, none⟩)] (w.alloc (.cells #[.int .i64 4, .int .i64 now, .int .u32 src, .int .u32 ip, .slice pa pl pc, .int .i64 po, .int .u8 s0, .int .u8 s1, .int .u8 s2, .int .u8 s3, .int .u8 s4, .int .u8 s5, .int .u32 si, .int .u8 d0, .int .u8 d1, .int .u8 d2, .int .u8 d3, .int .u8 d4, .int .u8 d5, .int .u32 di, .int .u32 own] 44)) fun e w' => e = .returned (.tuple #[]) ∧ (∀ q, w'.cell? ⟨gp, q, none⟩ = (#[.pointer (some ⟨c, 0, none⟩), .pointer (some ⟨d, 0, none⟩), .pointer (some ⟨gk, 0, none⟩)] : Array Value)[q]?) ∧ Hid (∃ v, NM w0 w' gp c m d gk { S with L := [] } S n v [])) := h1.clear.mono fun e w' ⟨e1, e2⟩ => ⟨e1, by obtain ⟨v, hv⟩ := e2.out; exact hv.box, e2⟩
  have HC2 : Hid (∀ w2, (∃ v, NM w0 w2 gp c m d gk { S with L := [] } S n v []) → Calls Try.prog 31 #[.pointer (some ⟨d, 0, none⟩)] w2 fun e w' => e = .returned (.tuple #[]) ∧ Hid (StepE w0 w' gp c m d gk S n)) := fun w2 ⟨v, hM⟩ => hM.rclear.mono fun e w' ⟨e1, e2⟩ => ⟨e1, _, n, e2.out, fun y hy => by simp at hy, by show n + 0 ≤ _; omega⟩
  have f0 := h1.box
  clear h h1 hb hB1 hx1
  go_enter Try.func8, Try.ntmps8
  go_wp2_with (first
    | (go_at_call 19; refine HC1.out.mono ?_; go_loud (rintro e w2 ⟨rfl, g0, HM2⟩))
    | (go_at_call 31; refine (HC2.out w2 HM2.out).mono ?_; go_loud (rintro e w3 ⟨rfl, HF⟩)))
  go_ret
  exact ⟨rfl, HF⟩
set_option maxRecDepth 40000 in
set_option maxHeartbeats 4000000 in
theorem step_none (K : Int) (k1 : K ≠ 1) (k2 : K ≠ 2) (k3 : K ≠ 3) (k4 : K ≠ 4) (w0 w : World) (gp c m d gk : Nat) (S : St) (n : Nat) (h : NPz w0 w gp c m d gk S n) (hb : StB S) (hn : n + 64 ≤ 5000000000000) (now src ip : Int) (pa : Option Addr) (pl pc : Nat) (po s0 s1 s2 s3 s4 s5 si d0 d1 d2 d3 d4 d5 di own : Int) :
    Calls Try.prog 8 #[.pointer (some ⟨gp, 0, none⟩), .agg #[.int .i64 K, .int .i64 now, .int .u32 src, .int .u32 ip, .slice pa pl pc, .int .i64 po, .int .u8 s0, .int .u8 s1, .int .u8 s2, .int .u8 s3, .int .u8 s4, .int .u8 s5, .int .u32 si, .int .u8 d0, .int .u8 d1, .int .u8 d2, .int .u8 d3, .int .u8 d4, .int .u8 d5, .int .u32 di, .int .u32 own]] w fun e w' => e = .returned (.bool true) ∧ Hid (StepE w0 w' gp c m d gk S n) := by
  have hB1 := bpush (Below.refl w.heap.size w) (.cells #[.int .i64 K, .int .i64 now, .int .u32 src, .int .u32 ip, .slice pa pl pc, .int .i64 po, .int .u8 s0, .int .u8 s1, .int .u8 s2, .int .u8 s3, .int .u8 s4, .int .u8 s5, .int .u32 si, .int .u8 d0, .int .u8 d1, .int .u8 d2, .int .u8 d3, .int .u8 d4, .int .u8 d5, .int .u32 di, .int .u32 own] 44)
  have h1 := h.below hB1
  have hx1 : (w.alloc (.cells #[.int .i64 K, .int .i64 now, .int .u32 src, .int .u32 ip, .slice pa pl pc, .int .i64 po, .int .u8 s0, .int .u8 s1, .int .u8 s2, .int .u8 s3, .int .u8 s4, .int .u8 s5, .int .u32 si, .int .u8 d0, .int .u8 d1, .int .u8 d2, .int .u8 d3, .int .u8 d4, .int .u8 d5, .int .u32 di, .int .u32 own] 44)).heap[w.heap.size]? = some (.cells #[.int .i64 K, .int .i64 now, .int .u32 src, .int .u32 ip, .slice pa pl pc, .int .i64 po, .int .u8 s0, .int .u8 s1, .int .u8 s2, .int .u8 s3, .int .u8 s4, .int .u8 s5, .int .u32 si, .int .u8 d0, .int .u8 d1, .int .u8 d2, .int .u8 d3, .int .u8 d4, .int .u8 d5, .int .u32 di, .int .u32 own] 44 (0, 0)) := heap_new _ _
  have HF : Hid (StepE w0 (w.alloc (.cells #[.int .i64 K, .int .i64 now, .int .u32 src, .int .u32 ip, .slice pa pl pc, .int .i64 po, .int .u8 s0, .int .u8 s1, .int .u8 s2, .int .u8 s3, .int .u8 s4, .int .u8 s5, .int .u32 si, .int .u8 d0, .int .u8 d1, .int .u8 d2, .int .u8 d3, .int .u8 d4, .int .u8 d5, .int .u32 di, .int .u32 own] 44)) gp c m d gk S n) := by
    exact ⟨S, n, h1, hb, by omega⟩
  clear h h1 hb hB1 hx1
  go_enter Try.func8, Try.ntmps8
  go_wp2_with fail
  go_ret
  exact ⟨rfl, HF⟩
set_option maxRecDepth 40000 in
set_option maxHeartbeats 4000000 in
theorem step_ask (w0 w : World) (gp c m d gk : Nat) (S : St) (n : Nat) (h : NPz w0 w gp c m d gk S n) (hb : StB S) (hn : n + 64 ≤ 5000000000000) (now src ip : Int) (pa : Option Addr) (pl pc : Nat) (po s0 s1 s2 s3 s4 s5 si d0 d1 d2 d3 d4 d5 di own : Int) (pz : List Int) (hpl : pl = pz.length) (hp : Part.ok w0 ⟨pa, pc, pz⟩) (hpb : pz.length ≤ 140737488351232) (hs : ipOk src) (hi : ipOk ip) :
    Calls Try.prog 8 #[.pointer (some ⟨gp, 0, none⟩), .agg #[.int .i64 1, .int .i64 now, .int .u32 src, .int .u32 ip, .slice pa pl pc, .int .i64 po, .int .u8 s0, .int .u8 s1, .int .u8 s2, .int .u8 s3, .int .u8 s4, .int .u8 s5, .int .u32 si, .int .u8 d0, .int .u8 d1, .int .u8 d2, .int .u8 d3, .int .u8 d4, .int .u8 d5, .int .u32 di, .int .u32 own]] w fun e w' => e = .returned (.bool true) ∧ Hid (StepE w0 w' gp c m d gk S n) := by
  have hB1 := bpush (Below.refl w.heap.size w) (.cells #[.int .i64 1, .int .i64 now, .int .u32 src, .int .u32 ip, .slice pa pl pc, .int .i64 po, .int .u8 s0, .int .u8 s1, .int .u8 s2, .int .u8 s3, .int .u8 s4, .int .u8 s5, .int .u32 si, .int .u8 d0, .int .u8 d1, .int .u8 d2, .int .u8 d3, .int .u8 d4, .int .u8 d5, .int .u32 di, .int .u32 own] 44)
  have h1 := h.below hB1
  have hx1 : (w.alloc (.cells #[.int .i64 1, .int .i64 now, .int .u32 src, .int .u32 ip, .slice pa pl pc, .int .i64 po, .int .u8 s0, .int .u8 s1, .int .u8 s2, .int .u8 s3, .int .u8 s4, .int .u8 s5, .int .u32 si, .int .u8 d0, .int .u8 d1, .int .u8 d2, .int .u8 d3, .int .u8 d4, .int .u8 d5, .int .u32 di, .int .u32 own] 44)).heap[w.heap.size]? = some (.cells #[.int .i64 1, .int .i64 now, .int .u32 src, .int .u32 ip, .slice pa pl pc, .int .i64 po, .int .u8 s0, .int .u8 s1, .int .u8 s2, .int .u8 s3, .int .u8 s4, .int .u8 s5, .int .u32 si, .int .u8 d0, .int .u8 d1, .int .u8 d2, .int .u8 d3, .int .u8 d4, .int .u8 d5, .int .u32 di, .int .u32 own] 44 (0, 0)) := heap_new _ _
  obtain ⟨R, hR⟩ : ∃ R, R = askF S src ip pz now := ⟨_, rfl⟩
  have hbd := ask_b h.ok hb now hs hi hp.1 (show pz.length ≤ big from hpb)
  have hpo := ask_p h.ok src ip pz now
  rw [← hR] at hbd hpo
  obtain ⟨W1, hW1⟩ : ∃ W1, W1 = w.alloc (.cells #[.int .i64 1, .int .i64 now, .int .u32 src, .int .u32 ip, .slice pa pl pc, .int .i64 po, .int .u8 s0, .int .u8 s1, .int .u8 s2, .int .u8 s3, .int .u8 s4, .int .u8 s5, .int .u32 si, .int .u8 d0, .int .u8 d1, .int .u8 d2, .int .u8 d3, .int .u8 d4, .int .u8 d5, .int .u32 di, .int .u32 own] 44) := ⟨_, rfl⟩
  have hsz : W1.heap.size = w.heap.size + 1 := by rw [hW1]; simp
  rw [← hW1] at h1 hB1 hx1
  have hp1 : Part.ok W1 ⟨pa, pc, pz⟩ := Part.ok_below hp h1.bel
  have HLent : Hid (Calls Try.prog 25 #[.slice pa pl pc] W1 fun e w' => e = .returned (.slice (some ⟨W1.heap.size, 0, none⟩) pl (pl + 2)) ∧ w' = W1.alloc (.cells (L2 pz) 5)) := by
    have := lent_any ⟨pa, pc, pz⟩ W1 hp1 hpb
    simp only [Part.val] at this
    rw [← hpl] at this
    exact this
  have hB2 : Below W1.heap.size W1 (W1.alloc (.cells (L2 pz) 5)) := bpush (Below.refl _ _) _
  have hg2 : (W1.alloc (.cells (L2 pz) 5)).drew.heap[W1.heap.size]? = some (.cells (L2 pz) 5 (0, 0)) := heap_new _ _
  have hx2 : (W1.alloc (.cells (L2 pz) 5)).drew.heap[w.heap.size]? = some (.cells #[.int .i64 1, .int .i64 now, .int .u32 src, .int .u32 ip, .slice pa pl pc, .int .i64 po, .int .u8 s0, .int .u8 s1, .int .u8 s2, .int .u8 s3, .int .u8 s4, .int .u8 s5, .int .u32 si, .int .u8 d0, .int .u8 d1, .int .u8 d2, .int .u8 d3, .int .u8 d4, .int .u8 d5, .int .u32 di, .int .u32 own] 44 (0, 0)) := kept hx1 hB2.drew
  have hpt : Part.ok (W1.alloc (.cells (L2 pz) 5)).drew ⟨some ⟨W1.heap.size, 0, none⟩, pz.length + 2, pz⟩ := Part.of_heap hg2 0 (by omega) (fun j hj => by rw [Nat.zero_add]; exact L2_lo _ _ hj) hp.1
  have HC1 : Hid (Calls Try.prog 11 #[.pointer (some ⟨c, 0, none⟩), .int .u32 src, .int .u32 ip, .slice (some ⟨W1.heap.size, 0, none⟩) pl (pl + 2), .int .i64 now] (W1.alloc (.cells (L2 pz) 5)).drew fun e w' => ∃ a cp, e = .returned (.slice a R.2.length cp) ∧ (∀ q, w'.cell? ⟨gp, q, none⟩ = (#[.pointer (some ⟨c, 0, none⟩), .pointer (some ⟨d, 0, none⟩), .pointer (some ⟨gk, 0, none⟩)] : Array Value)[q]?) ∧ (∀ q, w'.cell? ⟨w.heap.size, q, none⟩ = (#[.int .i64 1, .int .i64 now, .int .u32 src, .int .u32 ip, .slice pa pl pc, .int .i64 po, .int .u8 s0, .int .u8 s1, .int .u8 s2, .int .u8 s3, .int .u8 s4, .int .u8 s5, .int .u32 si, .int .u8 d0, .int .u8 d1, .int .u8 d2, .int .u8 d3, .int .u8 d4, .int .u8 d5, .int .u32 di, .int .u32 own] : Array Value)[q]?) ∧ Hid (Calls Try.prog 26 #[.slice (some ⟨W1.heap.size, 0, none⟩) pl (pl + 2), .slice pa pl pc] w' fun e w3 => e = .returned (.bool true) ∧ (∀ q, w3.cell? ⟨gp, q, none⟩ = (#[.pointer (some ⟨c, 0, none⟩), .pointer (some ⟨d, 0, none⟩), .pointer (some ⟨gk, 0, none⟩)] : Array Value)[q]?) ∧ (∀ q, w3.cell? ⟨w.heap.size, q, none⟩ = (#[.int .i64 1, .int .i64 now, .int .u32 src, .int .u32 ip, .slice pa pl pc, .int .i64 po, .int .u8 s0, .int .u8 s1, .int .u8 s2, .int .u8 s3, .int .u8 s4, .int .u8 s5, .int .u32 si, .int .u8 d0, .int .u8 d1, .int .u8 d2, .int .u8 d3, .int .u8 d4, .int .u8 d5, .int .u32 di, .int .u32 own] : Array Value)[q]?) ∧ Hid (w3.heap[w.heap.size]? = some (.cells #[.int .i64 1, .int .i64 now, .int .u32 src, .int .u32 ip, .slice pa pl pc, .int .i64 po, .int .u8 s0, .int .u8 s1, .int .u8 s2, .int .u8 s3, .int .u8 s4, .int .u8 s5, .int .u32 si, .int .u8 d0, .int .u8 d1, .int .u8 d2, .int .u8 d3, .int .u8 d4, .int .u8 d5, .int .u32 di, .int .u32 own] 44 (0, 0))) ∧ Hid (NM w0 w3 gp c m d gk R.1 S n (.slice a R.2.length cp) R.2))) := by
    have T := h1.ask (hB2.drew) W1.heap.size (Nat.le_refl _) (heap_lt hg2) src ip ⟨some ⟨W1.heap.size, 0, none⟩, pz.length + 2, pz⟩ now hi hs _ hg2 (Or.inr ⟨0, rfl⟩) hpt hpb
    simp only [Part.val] at T
    rw [← hpl] at T
    rw [hR]
    refine T.mono fun e w' ⟨a2, cp2, e1, A⟩ => ?_
    have hx3 := A.out.2 _ _ _ _ hx2 (by decide) (by decide) (by decide)
    have hg3 := A.out.2 _ _ _ _ hg2 (by decide) (by decide) (by decide)
    have hM3 : NM w0 w' gp c m d gk (askF S src ip pz now).1 S n (.slice a2 (askF S src ip pz now).2.length cp2) (askF S src ip pz now).2 := A.out.1.lent hg3 (by have := h1.bel.size; omega) (But.refl _ _)
    refine ⟨a2, cp2, e1, hM3.box, fun q => cell_of_heap hx3 q, ?_⟩
    have T2 := asLent_any W1.heap.size ⟨pa, pc, pz⟩ w' (Part.ok_below hp hM3.bel) hpb hg3
    simp only [Part.val] at T2
    rw [← hpl] at T2
    refine T2.mono fun e w3 ⟨b1, b2⟩ => ?_
    have hM4 := A.out.1.lent hg3 (by have := h1.bel.size; omega) b2
    have hx4 := keptBut hx3 b2 (by omega)
    exact ⟨b1, hM4.box, fun q => cell_of_heap hx4 q, hx4, hM4⟩
  have HC2 : Hid (∀ w2 v, NM w0 w2 gp c m d gk R.1 S n v R.2 → w2.heap[w.heap.size]? = some (.cells #[.int .i64 1, .int .i64 now, .int .u32 src, .int .u32 ip, .slice pa pl pc, .int .i64 po, .int .u8 s0, .int .u8 s1, .int .u8 s2, .int .u8 s3, .int .u8 s4, .int .u8 s5, .int .u32 si, .int .u8 d0, .int .u8 d1, .int .u8 d2, .int .u8 d3, .int .u8 d4, .int .u8 d5, .int .u32 di, .int .u32 own] 44 (0, 0)) → Calls Try.prog 27 #[.pointer (some ⟨d, 0, none⟩), .int .u32 src, .int .u32 ip, .slice pa pl pc, .int .i64 now] w2.drew fun e w' => ∃ a cp, e = .returned (.slice a R.2.length cp) ∧ (∀ q, w'.cell? ⟨gp, q, none⟩ = (#[.pointer (some ⟨c, 0, none⟩), .pointer (some ⟨d, 0, none⟩), .pointer (some ⟨gk, 0, none⟩)] : Array Value)[q]?) ∧ (∀ q, w'.cell? ⟨w.heap.size, q, none⟩ = w2.drew.cell? ⟨w.heap.size, q, none⟩) ∧ Hid (ND w0 w' gp c m d gk R.1 n v (.slice a R.2.length cp) R.2)) := fun w2 v hM hx2 => by
    have hM' := hM.below (Below.refl _ _).drew
    rw [hR] at hM' ⊢
    have T3 := NM.rask src ip ⟨pa, pc, pz⟩ now hi hs hp hpb hM'
    simp only [Part.val] at T3
    rw [← hpl] at T3
    exact T3.mono fun e w' ⟨a2, cp2, e1, A⟩ => ⟨a2, cp2, e1, A.out.1.box, fun q => by rw [cell_of_heap (A.out.2 _ _ _ _ (show w2.drew.heap[w.heap.size]? = _ from hx2) (by decide) (by decide) (by decide)), cell_of_heap (show w2.drew.heap[w.heap.size]? = _ from hx2)], A.out.1⟩
  have HS : Hid (∀ w3 va vc vb vd, ND w0 w3 gp c m d gk R.1 n (.slice va R.2.length vc) (.slice vb R.2.length vd) R.2 → Calls Try.prog 28 #[.pointer (some ⟨gp, 0, none⟩), .slice va R.2.length vc, .slice vb R.2.length vd] w3 fun e w' => e = .returned (.bool true) ∧ Hid (StepE w0 w' gp c m d gk S n)) := fun w3 va vc vb vd hD => (hD.sent hbd.2.1 hbd.2.2 hn).mono fun e w' ⟨a1, a2⟩ => ⟨a1, _, _, a2.out, hbd.1, by omega⟩
  have e1 : ∀ q, W1.cell? ⟨w.heap.size, q, none⟩ = (#[.int .i64 1, .int .i64 now, .int .u32 src, .int .u32 ip, .slice pa pl pc, .int .i64 po, .int .u8 s0, .int .u8 s1, .int .u8 s2, .int .u8 s3, .int .u8 s4, .int .u8 s5, .int .u32 si, .int .u8 d0, .int .u8 d1, .int .u8 d2, .int .u8 d3, .int .u8 d4, .int .u8 d5, .int .u32 di, .int .u32 own] : Array Value)[q]? := fun q => cell_of_heap hx1 q
  have f0 : ∀ q, (W1.alloc (.cells (L2 pz) 5)).drew.cell? ⟨gp, q, none⟩ = (#[.pointer (some ⟨c, 0, none⟩), .pointer (some ⟨d, 0, none⟩), .pointer (some ⟨gk, 0, none⟩)] : Array Value)[q]? := (h1.below hB2.drew).box
  have f1 : ∀ q, (W1.alloc (.cells (L2 pz) 5)).drew.cell? ⟨w.heap.size, q, none⟩ = (#[.int .i64 1, .int .i64 now, .int .u32 src, .int .u32 ip, .slice pa pl pc, .int .i64 po, .int .u8 s0, .int .u8 s1, .int .u8 s2, .int .u8 s3, .int .u8 s4, .int .u8 s5, .int .u32 si, .int .u8 d0, .int .u8 d1, .int .u8 d2, .int .u8 d3, .int .u8 d4, .int .u8 d5, .int .u32 di, .int .u32 own] : Array Value)[q]? := fun q => cell_of_heap hx2 q
  clear h h1 hb hbd hpo hR hB1 hx1 hp hp1 hpb hB2 hg2 hx2 hpt hpl hsz
  have HW1 := hid hW1
  clear hW1
  generalize R.2.length = RL at *
  generalize L2 pz = LL at *
  go_enter Try.func8, Try.ntmps8
  go_wp2_with (first
    | (go_at_call 25; rw [← HW1.out]; refine HLent.out.mono ?_; go_loud (rintro e w9 ⟨rfl, rfl⟩)))
  go_region_held3 (fun s => (∀ q, s.cell? ⟨gp, q, none⟩ = (#[.pointer (some ⟨c, 0, none⟩), .pointer (some ⟨d, 0, none⟩), .pointer (some ⟨gk, 0, none⟩)] : Array Value)[q]?) ∧ (∀ q, s.cell? ⟨w.heap.size, q, none⟩ = (#[.int .i64 1, .int .i64 now, .int .u32 src, .int .u32 ip, .slice pa pl pc, .int .i64 po, .int .u8 s0, .int .u8 s1, .int .u8 s2, .int .u8 s3, .int .u8 s4, .int .u8 s5, .int .u32 si, .int .u8 d0, .int .u8 d1, .int .u8 d2, .int .u8 d3, .int .u8 d4, .int .u8 d5, .int .u32 di, .int .u32 own] : Array Value)[q]?)) (first | assumption | (refine ⟨?_, ?_⟩ <;> assumption) | go_keep) (first
    | (go_at_call 11; refine HC1.out.mono ?_; go_loud (rintro e w2 ⟨a2, c2, rfl, g0, g1, HAL⟩)))
  go_wp2_with (first
    | (go_at_call 26; refine HAL.out.mono ?_; go_loud (rintro e w5 ⟨rfl, j0, j1, HX5, HM5⟩)))
  have HC3 := hid (HC2.out w5 _ HM5.out HX5.out)
  have g0' : ∀ q, w5.drew.cell? ⟨gp, q, none⟩ = (#[.pointer (some ⟨c, 0, none⟩), .pointer (some ⟨d, 0, none⟩), .pointer (some ⟨gk, 0, none⟩)] : Array Value)[q]? := j0
  have g1' : ∀ q, w5.drew.cell? ⟨w.heap.size, q, none⟩ = (#[.int .i64 1, .int .i64 now, .int .u32 src, .int .u32 ip, .slice pa pl pc, .int .i64 po, .int .u8 s0, .int .u8 s1, .int .u8 s2, .int .u8 s3, .int .u8 s4, .int .u8 s5, .int .u32 si, .int .u8 d0, .int .u8 d1, .int .u8 d2, .int .u8 d3, .int .u8 d4, .int .u8 d5, .int .u32 di, .int .u32 own] : Array Value)[q]? := j1
  clear f0 f1
  go_region_held3 (fun s => (∀ q, s.cell? ⟨gp, q, none⟩ = (#[.pointer (some ⟨c, 0, none⟩), .pointer (some ⟨d, 0, none⟩), .pointer (some ⟨gk, 0, none⟩)] : Array Value)[q]?) ∧ (∀ q, s.cell? ⟨w.heap.size, q, none⟩ = (#[.int .i64 1, .int .i64 now, .int .u32 src, .int .u32 ip, .slice pa pl pc, .int .i64 po, .int .u8 s0, .int .u8 s1, .int .u8 s2, .int .u8 s3, .int .u8 s4, .int .u8 s5, .int .u32 si, .int .u8 d0, .int .u8 d1, .int .u8 d2, .int .u8 d3, .int .u8 d4, .int .u8 d5, .int .u32 di, .int .u32 own] : Array Value)[q]?)) (first | assumption | (refine ⟨?_, ?_⟩ <;> assumption) | go_keep) (first
    | (go_at_call 27; refine HC3.out.mono ?_; go_loud (rintro e w3 ⟨a3, c3, rfl, k0, k1, HD3⟩; simp only [g1'] at k1)))
  go_wp2_with (first
    | (go_at_call 28; refine (HS.out w3 _ _ _ _ HD3.out).mono ?_; go_loud (rintro e w4 ⟨rfl, HF⟩)))
  go_ret
  exact ⟨rfl, HF⟩
end Go.Proofs.Ytdgjpikphooilaa

/-
  Neigh: NeighPlays: both caches made, each call of the script on both.
-/
namespace Go.Proofs.Ytdgjpikphooilaa
open Go.RowKit
set_option linter.all false
theorem size_allocG (w : World) (o : Obj) : (w.alloc o).heap.size = w.heap.size + 1 := by simp
theorem box_atG {W W' : World} {o : Obj} {g : Nat} (hg : g = W.heap.size) (hb : Below (W.alloc o).heap.size (W.alloc o) W') : W'.heap[g]? = some o := by subst hg; exact kept (heap_new W o) hb
theorem size_drewG (w : World) : w.drew.heap.size = w.heap.size := rfl
theorem cell_belowG {w w' : World} (hb : Below w.heap.size w w') {c k : Nat} {v : Value} (h : w.cell? ⟨c, k, none⟩ = some v) : w'.cell? ⟨c, k, none⟩ = some v :=
  (hb.cell (p := ⟨c, k, none⟩) (World.block_lt_of_cell? w _ h)).trans h
theorem sizeOpG : (Try.prog.info? 44).map (·.size) = some 21 := by kernel_rfl
/-- both caches are new. -/
theorem np_made {w wx : World} {gp c m d gk : Nat} {mac : Mac} {n : Int} {V U : Int → Value} (hbox : wx.heap[gp]? = some (.cells #[.pointer (some ⟨c, 0, none⟩), .pointer (some ⟨d, 0, none⟩), .pointer (some ⟨gk, 0, none⟩)] 37 (0, 0))) (hca : CaW wx c m (newSt mac n) V) (hrc : RcW wx d (newSt mac n) none 0 U) (hbk : Big.BookI wx w.heap.size gk (.slice none 0 0) (.slice none 0 0) []) (lc : w.heap.size ≤ c) (lm : w.heap.size ≤ m) (ld : w.heap.size ≤ d) (lp : w.heap.size ≤ gp) (bel : Below w.heap.size w wx) : NPz w wx gp c m d gk (newSt mac n) 0 ∧ StB (newSt mac n) :=
  ⟨⟨V, none, 0, U, _, _, [], { box := hbox, ca := hca, rc := hrc, bk := hbk, off := fun p hp => by simp at hp, lc := lc, lm := lm, ld := ld, la := fun b hb => by simp [Value.ownBlock] at hb, lp := lp, lv := fun y hy => by simp [newSt] at hy, bel := bel }, Nat.le_refl _⟩, fun y hy => by simp [newSt] at hy⟩
/-- a call of a script, on both. -/
theorem gstep_any (w0 w : World) (gp c m d gk : Nat) (S : St) (n : Nat) (h : NPz w0 w gp c m d gk S n) (hb : StB S) (hn : n + 64 ≤ 5000000000000) (K now src ip : Int) (pa : Option Addr) (pl pc : Nat) (pz : List Int) (po s0 s1 s2 s3 s4 s5 si d0 d1 d2 d3 d4 d5 di own : Int) (hpl : pl = pz.length) (hp : Part.ok w0 ⟨pa, pc, pz⟩) (hpb : pl ≤ 140737488351232) (hs : ipOk src) (hi : ipOk ip) (hq : Arp.ok (Arp.mk po ⟨s0, s1, s2, s3, s4, s5⟩ si ⟨d0, d1, d2, d3, d4, d5⟩ di)) (ho : ipOk own) :
    Calls Try.prog 8 #[.pointer (some ⟨gp, 0, none⟩), .agg #[.int .i64 K, .int .i64 now, .int .u32 src, .int .u32 ip, .slice pa pl pc, .int .i64 po, .int .u8 s0, .int .u8 s1, .int .u8 s2, .int .u8 s3, .int .u8 s4, .int .u8 s5, .int .u32 si, .int .u8 d0, .int .u8 d1, .int .u8 d2, .int .u8 d3, .int .u8 d4, .int .u8 d5, .int .u32 di, .int .u32 own]] w fun e w' => e = .returned (.bool true) ∧ Hid (StepE w0 w' gp c m d gk S n) := by
  by_cases k1 : K = 1
  · subst k1
    exact step_ask w0 w gp c m d gk S n h hb hn now src ip pa pl pc po s0 s1 s2 s3 s4 s5 si d0 d1 d2 d3 d4 d5 di own pz hpl hp (by omega) hs hi
  · by_cases k2 : K = 2
    · subst k2
      exact step_on w0 w gp c m d gk S n h hb hn now src ip pa pl pc po s0 s1 s2 s3 s4 s5 si d0 d1 d2 d3 d4 d5 di own hq ho
    · by_cases k3 : K = 3
      · subst k3
        exact step_tick w0 w gp c m d gk S n h hb hn now src ip pa pl pc po s0 s1 s2 s3 s4 s5 si d0 d1 d2 d3 d4 d5 di own
      · by_cases k4 : K = 4
        · subst k4
          exact step_clear w0 w gp c m d gk S n h hb hn now src ip pa pl pc po s0 s1 s2 s3 s4 s5 si d0 d1 d2 d3 d4 d5 di own
        · exact step_none K k1 k2 k3 k4 w0 w gp c m d gk S n h hb hn now src ip pa pl pc po s0 s1 s2 s3 s4 s5 si d0 d1 d2 d3 d4 d5 di own

set_option maxRecDepth 40000 in
set_option maxHeartbeats 4000000 in
theorem plays_yes (m0 m1 m2 m3 m4 m5 n : Int) (ao : Option Addr) (cc : Nat) (xs : List OpG) (w : World) (hm : Mac.ok ⟨m0, m1, m2, m3, m4, m5⟩) (h1 : 1 ≤ n) (h2 : n ≤ 64) (hops : OpsG w ao xs) (hsz : 3 * xs.length + 64 ≤ 5000000000000 ∧ ∀ i, i < xs.length → (xs.getD i OpG.nil).pt.zs.length ≤ 140737488351232) :
    Calls Try.prog 3 #[.agg #[.int .u8 m0, .int .u8 m1, .int .u8 m2, .int .u8 m3, .int .u8 m4, .int .u8 m5], .int .i64 n, .slice ao xs.length cc] w fun e w' => e = .returned (.bool true) ∧ Below w.heap.size w w' := by
  have HOPS := hid hops
  have HSZ := hid hsz.2
  have hL0 : 3 * xs.length + 64 ≤ 5000000000000 := hsz.1
  obtain ⟨L, hL⟩ : ∃ L, L = xs.length := ⟨_, rfl⟩
  have HLN := hid hL
  rw [← hL] at hL0 ⊢
  clear hops hsz hL
  have HL := hid (live_any (w.alloc (.cells #[.int .u8 m0, .int .u8 m1, .int .u8 m2, .int .u8 m3, .int .u8 m4, .int .u8 m5] 23)))
  have HN1 : Hid (∀ W, Calls Try.prog 6 #[.agg #[.int .u8 m0, .int .u8 m1, .int .u8 m2, .int .u8 m3, .int .u8 m4, .int .u8 m5], .int .i64 n] W _) := fun W => new_yes ⟨m0, m1, m2, m3, m4, m5⟩ n W hm h1 h2
  have HN2 : Hid (∀ W, Calls Try.prog 7 #[.agg #[.int .u8 m0, .int .u8 m1, .int .u8 m2, .int .u8 m3, .int .u8 m4, .int .u8 m5], .int .i64 n] W _) := fun W => rnew_yes ⟨m0, m1, m2, m3, m4, m5⟩ n (fun _ => .slice none 0 0) W hm h1 h2
  have HCC : Hid (∀ w1 W, Below (w.alloc (.cells #[.int .u8 m0, .int .u8 m1, .int .u8 m2, .int .u8 m3, .int .u8 m4, .int .u8 m5] 23)).heap.size (w.alloc (.cells #[.int .u8 m0, .int .u8 m1, .int .u8 m2, .int .u8 m3, .int .u8 m4, .int .u8 m5] 23)) w1 → Below w1.heap.size w1 W → ∀ q, W.cell? ⟨w.heap.size, q, none⟩ = (#[.int .u8 m0, .int .u8 m1, .int .u8 m2, .int .u8 m3, .int .u8 m4, .int .u8 m5] : Array Value)[q]?) := fun w1 W hb hb2 q => cell_of_heap (kept (kept (heap_new _ _) hb) hb2) q
  have HBW : Hid (∀ w1, Below (w.alloc (.cells #[.int .u8 m0, .int .u8 m1, .int .u8 m2, .int .u8 m3, .int .u8 m4, .int .u8 m5] 23)).heap.size (w.alloc (.cells #[.int .u8 m0, .int .u8 m1, .int .u8 m2, .int .u8 m3, .int .u8 m4, .int .u8 m5] 23)) w1 → Below w.heap.size w w1) := fun w1 hb => bstep (bpush (Below.refl _ _) _) hb
  clear hm
  go_enter Try.func3, Try.ntmps3
  go_upto_region 4 with (first
    | (go_at_call 5; refine HL.out.mono ?_; go_loud (rintro e w1 ⟨rfl, HB1⟩)))
  have HC1 := hid (fun W => HCC.out w1 W HB1)
  have HBX := hid (HBW.out w1 HB1)
  clear HCC HL HBW HB1
  go_cut [8] (fun v wx => ∃ gp c m d gk, v = .pointer (some ⟨gp, 0, none⟩) ∧ Hid (NPz w wx gp c m d gk (newSt ⟨m0, m1, m2, m3, m4, m5⟩ n) 0 ∧ StB (newSt ⟨m0, m1, m2, m3, m4, m5⟩ n)))
  case first =>
    as_aux_lemma =>
      go_region_held3 (fun s => ∀ q, s.cell? ⟨w.heap.size, q, none⟩ = (#[.int .u8 m0, .int .u8 m1, .int .u8 m2, .int .u8 m3, .int .u8 m4, .int .u8 m5] : Array Value)[q]?) (first | assumption | (refine HC1.out _ ?_; repeat (first | exact Below.refl _ _ | refine bpush ?_ _ | refine Below.drew ?_ | refine bstep ?_ HB3.out | refine bstep ?_ HB2.out))) (first
        | (go_at_call 6; refine (HN1.out _).mono ?_; go_loud (rintro e w2 ⟨c, m, rfl, hcn, hmn, HC2, HB2⟩))
        | (go_at_call 7; refine (HN2.out _).mono ?_; go_loud (rintro e w3 ⟨d, rfl, hdn, HR3, HB3⟩)))
      all_goals (go_wp2_with fail; go_meet)
      all_goals (
        have z1 := HBX.out.size
        have z2 := HB2.out.size
        have z3 := HB3.out.size
        simp only [size_allocG, size_drewG] at z1 z2 z3 hcn hmn hdn
        first
        | (refine ⟨_, c, m, d, w3.heap.size, rfl, np_made ?_ (HC2.out.below ?_) (HR3.out.below ?_) ?_ (by omega) (by omega) (by omega) (by (try simp only [size_allocG, size_drewG]); omega) ?_⟩
           · first
             | exact box_atG (by simp only [size_allocG, size_drewG]) (Below.refl _ _)
             | exact box_atG (by simp only [size_allocG, size_drewG]) (Below.drew (Below.refl _ _))
           · (repeat (first | exact Below.refl _ _ | refine bpush ?_ _ | refine Below.drew ?_ | refine bstep ?_ HB3.out | refine bstep ?_ HB2.out))
           · (repeat (first | exact Below.refl _ _ | refine bpush ?_ _ | refine Below.drew ?_ | refine bstep ?_ HB3.out | refine bstep ?_ HB2.out))
           · refine (Big.BookI.new w3 _ ?_).below ?_
             · omega
             · (repeat (first | exact Below.refl _ _ | refine bpush ?_ _ | refine Below.drew ?_ | refine bstep ?_ HB3.out | refine bstep ?_ HB2.out))
           · (repeat (first | exact HBX.out | refine bpush ?_ _ | refine Below.drew ?_ | refine bstep ?_ HB3.out | refine bstep ?_ HB2.out)))
        | (refine ⟨_, c, m, d, w2.heap.size, rfl, np_made ?_ (HC2.out.below ?_) (HR3.out.below ?_) ?_ (by omega) (by omega) (by omega) (by (try simp only [size_allocG, size_drewG]); omega) ?_⟩
           · first
             | exact box_atG (by simp only [size_allocG, size_drewG]) (Below.refl _ _)
             | exact box_atG (by simp only [size_allocG, size_drewG]) (Below.drew (Below.refl _ _))
           · (repeat (first | exact Below.refl _ _ | refine bpush ?_ _ | refine Below.drew ?_ | refine bstep ?_ HB3.out | refine bstep ?_ HB2.out))
           · (repeat (first | exact Below.refl _ _ | refine bpush ?_ _ | refine Below.drew ?_ | refine bstep ?_ HB3.out | refine bstep ?_ HB2.out))
           · refine (Big.BookI.new w2 _ ?_).below ?_
             · omega
             · (repeat (first | exact Below.refl _ _ | refine bpush ?_ _ | refine Below.drew ?_ | refine bstep ?_ HB3.out | refine bstep ?_ HB2.out))
           · (repeat (first | exact HBX.out | refine bpush ?_ _ | refine Below.drew ?_ | refine bstep ?_ HB3.out | refine bstep ?_ HB2.out)))
        | (refine ⟨_, c, m, d, w1.heap.size, rfl, np_made ?_ (HC2.out.below ?_) (HR3.out.below ?_) ?_ (by omega) (by omega) (by omega) (by (try simp only [size_allocG, size_drewG]); omega) ?_⟩
           · first
             | exact box_atG (by simp only [size_allocG, size_drewG]) (Below.refl _ _)
             | exact box_atG (by simp only [size_allocG, size_drewG]) (Below.drew (Below.refl _ _))
           · (repeat (first | exact Below.refl _ _ | refine bpush ?_ _ | refine Below.drew ?_ | refine bstep ?_ HB3.out | refine bstep ?_ HB2.out))
           · (repeat (first | exact Below.refl _ _ | refine bpush ?_ _ | refine Below.drew ?_ | refine bstep ?_ HB3.out | refine bstep ?_ HB2.out))
           · refine (Big.BookI.new w1 _ ?_).below ?_
             · omega
             · (repeat (first | exact Below.refl _ _ | refine bpush ?_ _ | refine Below.drew ?_ | refine bstep ?_ HB3.out | refine bstep ?_ HB2.out))
           · (repeat (first | exact HBX.out | refine bpush ?_ _ | refine Below.drew ?_ | refine bstep ?_ HB3.out | refine bstep ?_ HB2.out))))
  case rest =>
    obtain ⟨gp, c, m, d, gk, rfl, HP⟩ := hcut
    have b0 := HP.out.1.box
    clear HC1 HN1 HN2 HBX
    as_aux_lemma =>
      have b1 := b0 0
      have b2 := b0 1
      have b3 := b0 2
      simp only [List.getElem?_toArray, List.getElem?_cons_zero, List.getElem?_cons_succ] at b1 b2 b3
      clear b0
      go_wp2_with (first | go_quiet (fail) | fail)
      clear b1 b2
      have HX : Hid (∃ S n', NPz w (wc.drewN nq) gp c m d gk S n' ∧ StB S ∧ n' + pot S.L ≤ 3 * 0) := ⟨_, 0, HP.out.1.below (bdrewN _ nq), HP.out.2, Nat.le_refl _⟩
      clear HP b3
      generalize wc.drewN nq = W0 at *
      go_loopw [9] (fun i wr => ∃ k : Nat, k ≤ L ∧ i = .int .i64 k ∧ Hid (∃ S n', NPz w wr gp c m d gk S n' ∧ StB S ∧ n' + pot S.L ≤ 3 * k)) (fun i _ => L - (intOf i).toNat)
      case atStart => exact ⟨0, by omega, rfl, HX⟩
      case round =>
        clear HX
        obtain ⟨k, hk, rfl, HI⟩ := hrel
        have hg2 : wr.cell? ⟨gp, 2, none⟩ = some (.pointer (some ⟨gk, 0, none⟩)) := by
          obtain ⟨S, n', hS, _⟩ := HI.out
          exact hS.box 2
        by_cases hlt : k < L
        · have hlt2 : (k : Int) < L := by omega
          clear hg2
          obtain ⟨b, o, ha, he, hok⟩ := HOPS.out k (by rw [← HLN.out]; exact hlt)
          have hzl := HSZ.out k (by rw [← HLN.out]; exact hlt)
          subst ha
          generalize xs.getD k OpG.nil = qq at he hok hzl
          obtain ⟨kd, now, src, ip, pt, ⟨po, ⟨s0, s1, s2, s3, s4, s5⟩, si, ⟨d0, d1, d2, d3, d4, d5⟩, di⟩, own⟩ := qq
          have hbel : Below w.heap.size w wr := by
            obtain ⟨S, n', h, _⟩ := HI.out
            obtain ⟨_, _, _, _, _, _, _, h, _⟩ := h
            exact h.bel
          have hee : ∀ t u, (OpG.cs ⟨kd, now, src, ip, pt, ⟨po, ⟨s0, s1, s2, s3, s4, s5⟩, si, ⟨d0, d1, d2, d3, d4, d5⟩, di⟩, own⟩)[t]? = some u → wr.cell? ⟨b, o + k * 21 + t, none⟩ = some u := fun t u ht => cell_belowG hbel (he t u ht)
          clear he hbel
          obtain ⟨pa, pc, pz⟩ := pt
          simp only at hzl
          obtain ⟨pl, hpl⟩ : ∃ pl, pl = pz.length := ⟨_, rfl⟩
          rw [← hpl] at hzl
          have HR : Hid (wr.rangeAt b (o + k * 21) [.int .i64 kd, .int .i64 now, .int .u32 src, .int .u32 ip, .slice pa pl pc, .int .i64 po, .int .u8 s0, .int .u8 s1, .int .u8 s2, .int .u8 s3, .int .u8 s4, .int .u8 s5, .int .u32 si, .int .u8 d0, .int .u8 d1, .int .u8 d2, .int .u8 d3, .int .u8 d4, .int .u8 d5, .int .u32 di, .int .u32 own]) := fun j u hj => hee j u (by rw [hpl] at hj; exact hj)
          clear hee
          have HST : Hid (Calls Try.prog 8 #[.pointer (some ⟨gp, 0, none⟩), .agg #[.int .i64 kd, .int .i64 now, .int .u32 src, .int .u32 ip, .slice pa pl pc, .int .i64 po, .int .u8 s0, .int .u8 s1, .int .u8 s2, .int .u8 s3, .int .u8 s4, .int .u8 s5, .int .u32 si, .int .u8 d0, .int .u8 d1, .int .u8 d2, .int .u8 d3, .int .u8 d4, .int .u8 d5, .int .u32 di, .int .u32 own]] wr fun e w' => e = .returned (.bool true) ∧ Hid (∃ S n', NPz w w' gp c m d gk S n' ∧ StB S ∧ n' + pot S.L ≤ 3 * (k + 1))) := by
            obtain ⟨S, n', hS, hB, hc⟩ := HI.out
            refine Calls.mono ?_ (fun e w' (q : _ ∧ Hid (StepE w w' gp c m d gk S n')) => ⟨q.1, by obtain ⟨S2, n2, q1, q2, q3⟩ := q.2.out; exact ⟨S2, n2, q1, q2, by omega⟩⟩)
            exact gstep_any w wr gp c m d gk S n' hS hB (by omega) kd now src ip pa pl pc pz po s0 s1 s2 s3 s4 s5 si d0 d1 d2 d3 d4 d5 di own hpl hok.pt (by omega) hok.src hok.ip hok.p hok.own
          have HAL : Hid (∀ wx, (∃ S n', NPz w wx gp c m d gk S n' ∧ StB S ∧ n' + pot S.L ≤ 3 * (k + 1)) → Calls Try.prog 9 #[.pointer (some ⟨gp, 0, none⟩)] wx fun e w' => e = .returned (.bool true) ∧ Hid (∃ S n', NPz w w' gp c m d gk S n' ∧ StB S ∧ n' + pot S.L ≤ 3 * (k + 1))) := fun wx ⟨S, n', hS, hB, hc⟩ => (alike_any w wx gp c m d gk S n' hS).mono fun e w' ⟨q1, q2⟩ => ⟨q1, S, n', q2.out, hB, hc⟩
          clear hok hzl hpl HI
          as_aux_lemma =>
            go_wp2_with (first
              | (refine wpList_load_mid rfl 44 _ rfl b (o + k * 21) rfl [.int .i64 kd, .int .i64 now, .int .u32 src, .int .u32 ip, .slice pa pl pc, .int .i64 po, .int .u8 s0, .int .u8 s1, .int .u8 s2, .int .u8 s3, .int .u8 s4, .int .u8 s5, .int .u32 si, .int .u8 d0, .int .u8 d1, .int .u8 d2, .int .u8 d3, .int .u8 d4, .int .u8 d5, .int .u32 di, .int .u32 own] _ HR.out Try.underlying44 rfl sizeOpG ?_)
              | (go_at_call 8; refine HST.out.mono ?_; go_loud (rintro e w2 ⟨rfl, H2⟩; clear HST))
              | fail)
            clear HR
            as_aux_lemma =>
              go_wp2_with (first
                | (go_at_call 9; refine (HAL.out _ H2.out).mono ?_; go_loud (rintro e w3 ⟨rfl, H3⟩; clear H2 HAL))
                | fail)
              as_aux_lemma =>
                go_roundw
                case rel => exact ⟨k + 1, by omega, by go_num, H3⟩
                case measure => simp [intOf]; omega
        · have hge : ¬ (k : Int) < L := by omega
          have HOW : Hid (Calls Try.prog 10 #[.pointer (some ⟨gk, 0, none⟩)] wr fun e w' => e = .returned (.bool true) ∧ Hid (Below w.heap.size w w')) := by
            obtain ⟨S, n', hS, hB, _⟩ := HI.out
            obtain ⟨V, a, cp, U, Lk, Vk, ls, h, hl⟩ := hS
            exact (Big.owned_any gk Lk Vk ls w.heap.size wr h.bk h.bel.size).mono fun e w' ⟨q1, q2, _⟩ => ⟨q1, h.bel.trans q2⟩
          as_aux_lemma =>
            go_wp2_with (first
              | (go_at_call 10; refine HOW.out.mono ?_; go_loud (rintro e w2 ⟨rfl, H2⟩))
              | fail)
            go_ret
            exact ⟨rfl, H2.out⟩
end Go.Proofs.Ytdgjpikphooilaa

/-
  Neigh: NeighPlays: no cache is made; and any arguments.
-/
namespace Go.Proofs.Ytdgjpikphooilaa
open Go.RowKit
set_option linter.all false

set_option maxRecDepth 40000 in
set_option maxHeartbeats 4000000 in
theorem plays_no (m0 m1 m2 m3 m4 m5 n : Int) (v : Value) (w : World) (hn : n < 1 ∨ 64 < n) :
    Calls Try.prog 3 #[.agg #[.int .u8 m0, .int .u8 m1, .int .u8 m2, .int .u8 m3, .int .u8 m4, .int .u8 m5], .int .i64 n, v] w fun e w' => e = .returned (.bool true) ∧ Below w.heap.size w w' := by
  have HL := hid (live_any (w.alloc (.cells #[.int .u8 m0, .int .u8 m1, .int .u8 m2, .int .u8 m3, .int .u8 m4, .int .u8 m5] 23)))
  have HN1 : Hid (∀ W, Calls Try.prog 6 #[.agg #[.int .u8 m0, .int .u8 m1, .int .u8 m2, .int .u8 m3, .int .u8 m4, .int .u8 m5], .int .i64 n] W fun e w' => e = .returned (.pointer none) ∧ Hid (Below W.heap.size W w')) := fun W => new_no ⟨m0, m1, m2, m3, m4, m5⟩ n W hn
  have HN2 : Hid (∀ W, Calls Try.prog 7 #[.agg #[.int .u8 m0, .int .u8 m1, .int .u8 m2, .int .u8 m3, .int .u8 m4, .int .u8 m5], .int .i64 n] W fun e w' => e = .returned (.pointer none) ∧ Hid (Below W.heap.size W w')) := fun W => rnew_no ⟨m0, m1, m2, m3, m4, m5⟩ n W hn
  have HCC : Hid (∀ w1 W, Below (w.alloc (.cells #[.int .u8 m0, .int .u8 m1, .int .u8 m2, .int .u8 m3, .int .u8 m4, .int .u8 m5] 23)).heap.size (w.alloc (.cells #[.int .u8 m0, .int .u8 m1, .int .u8 m2, .int .u8 m3, .int .u8 m4, .int .u8 m5] 23)) w1 → Below w1.heap.size w1 W → ∀ q, W.cell? ⟨w.heap.size, q, none⟩ = (#[.int .u8 m0, .int .u8 m1, .int .u8 m2, .int .u8 m3, .int .u8 m4, .int .u8 m5] : Array Value)[q]?) := fun w1 W hb hb2 q => cell_of_heap (kept (kept (heap_new _ _) hb) hb2) q
  have HBW : Hid (∀ w1, Below (w.alloc (.cells #[.int .u8 m0, .int .u8 m1, .int .u8 m2, .int .u8 m3, .int .u8 m4, .int .u8 m5] 23)).heap.size (w.alloc (.cells #[.int .u8 m0, .int .u8 m1, .int .u8 m2, .int .u8 m3, .int .u8 m4, .int .u8 m5] 23)) w1 → Below w.heap.size w w1) := fun w1 hb => bstep (bpush (Below.refl _ _) _) hb
  clear hn
  go_enter Try.func3, Try.ntmps3
  go_upto_region 4 with (first
    | (go_at_call 5; refine HL.out.mono ?_; go_loud (rintro e w1 ⟨rfl, HB1⟩)))
  have HC1 := hid (fun W => HCC.out w1 W HB1)
  have HBX := hid (HBW.out w1 HB1)
  clear HCC HL HBW HB1
  go_cut [8] (fun v wx => ∃ gp, v = .pointer (some ⟨gp, 0, none⟩) ∧ Hid (∃ gk, wx.heap[gp]? = some (.cells #[.pointer none, .pointer none, .pointer (some ⟨gk, 0, none⟩)] 37 (0, 0)) ∧ Below w.heap.size w wx))
  case first =>
    as_aux_lemma =>
      go_region_held3 (fun s => ∀ q, s.cell? ⟨w.heap.size, q, none⟩ = (#[.int .u8 m0, .int .u8 m1, .int .u8 m2, .int .u8 m3, .int .u8 m4, .int .u8 m5] : Array Value)[q]?) (first | assumption | (refine HC1.out _ ?_; repeat (first | exact Below.refl _ _ | refine bpush ?_ _ | refine Below.drew ?_ | refine bstep ?_ HB3.out | refine bstep ?_ HB2.out))) (first
        | (go_at_call 6; refine (HN1.out _).mono ?_; go_loud (rintro e w2 ⟨rfl, HB2⟩))
        | (go_at_call 7; refine (HN2.out _).mono ?_; go_loud (rintro e w3 ⟨rfl, HB3⟩)))
      all_goals (go_wp2_with fail; go_meet)
      all_goals (
        first
        | (refine ⟨_, rfl, w3.heap.size, ?_, ?_⟩
           · first
             | exact box_atG (by simp only [size_allocG, size_drewG]) (Below.refl _ _)
             | exact box_atG (by simp only [size_allocG, size_drewG]) (Below.drew (Below.refl _ _))
           · (repeat (first | exact HBX.out | refine bpush ?_ _ | refine Below.drew ?_ | refine bstep ?_ HB3.out | refine bstep ?_ HB2.out)))
        | (refine ⟨_, rfl, w2.heap.size, ?_, ?_⟩
           · first
             | exact box_atG (by simp only [size_allocG, size_drewG]) (Below.refl _ _)
             | exact box_atG (by simp only [size_allocG, size_drewG]) (Below.drew (Below.refl _ _))
           · (repeat (first | exact HBX.out | refine bpush ?_ _ | refine Below.drew ?_ | refine bstep ?_ HB3.out | refine bstep ?_ HB2.out)))
        | (refine ⟨_, rfl, w1.heap.size, ?_, ?_⟩
           · first
             | exact box_atG (by simp only [size_allocG, size_drewG]) (Below.refl _ _)
             | exact box_atG (by simp only [size_allocG, size_drewG]) (Below.drew (Below.refl _ _))
           · (repeat (first | exact HBX.out | refine bpush ?_ _ | refine Below.drew ?_ | refine bstep ?_ HB3.out | refine bstep ?_ HB2.out))))
  case rest =>
    obtain ⟨gp, rfl, HP⟩ := hcut
    obtain ⟨gk, hb, hbl⟩ := HP.out
    have HBL := hid hbl
    have b1 : wc.cell? ⟨gp, 0, none⟩ = some (.pointer none) := cell_of_heap hb 0
    have b2 : wc.cell? ⟨gp, 1, none⟩ = some (.pointer none) := cell_of_heap hb 1
    clear HC1 HN1 HN2 HBX HP hb hbl
    as_aux_lemma =>
      go_wp2_with (first | go_quiet (fail) | fail)
      go_ret
      exact ⟨rfl, bstep HBL.out (bdrewN _ nq)⟩
theorem neighPlays_walk (m : Mac) (n : Int) (xs : List OpG) (a : Option Addr) (c : Nat) (W : World) (hm : m.ok) (hops : OpsG W a xs) (hsz : 3 * xs.length + 64 ≤ 5000000000000 ∧ ∀ i, i < xs.length → (xs.getD i OpG.nil).pt.zs.length ≤ 140737488351232) :
    Calls Try.prog 3 #[m.val, .int .i64 n, .slice a xs.length c] W fun e w' => e = .returned (.bool true) ∧ Below W.heap.size W w' := by
  obtain ⟨m0, m1, m2, m3, m4, m5⟩ := m
  by_cases h : 1 ≤ n ∧ n ≤ 64
  · exact plays_yes m0 m1 m2 m3 m4 m5 n a c xs W hm h.1 h.2 hops hsz
  · exact plays_no m0 m1 m2 m3 m4 m5 n _ W (by omega)
end Go.Proofs.Ytdgjpikphooilaa

/-
  A script of calls of a cache, as it came in: its size.
-/
namespace Go.Proofs.Ytdgjpikphooilaa
open Go.ChangeShapes Go.WideShapes Go.ChangeAt Go.RowKit Go.Deep
set_option linter.all false
section
variable {H : Type} {enc : TypeId × Value → H} {W W' : World}
def OpDG (y : DataW H) (q : OpG) : Prop := ∃ x0 x1 x2 x3 x4 x5 x6, y = .agg [x0, x1, x2, x3, x4, x5, x6] ∧ (x4 = .nil ∧ q.pt.zs = [] ∨ ∃ spare, x4 = .slice (lits .u8 q.pt.zs) spare)
set_option maxRecDepth 20000 in
theorem op_cellsD {sp : Nat → Bool} {m : Nat} {cs : List Value} {y : DataW H × List MemPlace} (hs : ∀ b, sp b = true) (h : DataW.trod enc Try.prog W 0 sp true m 44 cs = some y) (hl21 : cs.length = 21) :
    ∃ q : OpG, cs = q.cs ∧ q.ok W ∧ OpDG y.1 q := by
  obtain ⟨xs, n, _, hd, hl, hlen, hel⟩ := DataW.trod_struct Try.underlying44 h
  match cs, hl21, xs, hlen with
  | [c0, c1, c2, c3, c4, c5, c6, c7, c8, c9, c10, c11, c12, c13, c14, c15, c16, c17, c18, c19, c20], _, [x0, x1, x2, x3, x4, x5, x6], _ =>
    have f0 := hel 0
    have f1 := hel 1
    have f2 := hel 2
    have f3 := hel 3
    have f4 := hel 4
    have f5 := hel 5
    have f6 := hel 6
    simp [cellsInt, Value.cells] at f0
    simp [cellsInt, Value.cells] at f1
    simp [cellsInt, cellsU32, Value.cells] at f2
    simp [cellsInt, cellsU32, Value.cells] at f3
    simp [cellsInt, cellsU32, cellsBytesG, Value.cells] at f4
    simp [cellsInt, cellsU32, cellsBytesG, cellsArp, Value.cells] at f5
    simp [cellsInt, cellsU32, cellsBytesG, cellsArp, Value.cells] at f6
    obtain ⟨k, rfl, bk⟩ := int_cell f0 rfl
    obtain ⟨now, rfl, bn⟩ := int_cell f1 rfl
    obtain ⟨src, rfl, bs⟩ := word_cell f2 rfl
    obtain ⟨ip, rfl, bi⟩ := word_cell f3 rfl
    obtain ⟨pt, rfl, okp, hx⟩ := bytes_cell hs f4 rfl
    obtain ⟨p, e5, okq⟩ := arp_cells f5 rfl
    obtain ⟨own, rfl, bo⟩ := word_cell f6 rfl
    simp only [List.cons.injEq, and_true] at e5
    obtain ⟨rfl, rfl, rfl, rfl, rfl, rfl, rfl, rfl, rfl, rfl, rfl, rfl, rfl, rfl, rfl⟩ := e5
    refine ⟨⟨k, now, src, ip, pt, p, own⟩, rfl, ⟨bs, bi, okp, okq, bo⟩, ?_⟩
    exact ⟨x0.1, x1.1, x2.1, x3.1, x4.1, x5.1, x6.1, by rw [hd]; rfl, hx⟩
set_option maxRecDepth 20000 in
theorem open_opsD {base : Nat} {sp : Nat → Bool} {v : Value} {d : DataW H} {p : List MemPlace} (hs : ∀ b, sp b = true) (hv : Value.okWide Try.prog W .any base 24 v) (h : DataW.Trod enc Try.prog W 0 sp true 24 v d p) :
    ∃ (xs : List OpG) (a : Option Addr) (c : Nat), v = .slice a xs.length c ∧ OpsG W a xs ∧ (d = .nil ∧ xs = [] ∨ ∃ elems spare, d = .slice elems spare ∧ elems.length = xs.length ∧ ∀ i, i < xs.length → ∃ y, y ∈ elems ∧ OpDG y (xs.getD i OpG.nil)) := by
  obtain ⟨a, len, cap, rfl⟩ := okWide_slice Try.underlying24 hv
  obtain ⟨fuel, hf⟩ := h
  rcases open_slice Try.underlying24 hf with ⟨hcs, hx⟩ | ⟨x, l, c, m, n, D, Pl, hcs, _, hl, hm, hmm, hx, hel⟩
  · simp [Value.cells] at hcs
    obtain ⟨rfl, rfl, rfl⟩ := hcs
    simp only [Prod.mk.injEq] at hx
    exact ⟨[], none, 0, rfl, fun j hj => by simp at hj, Or.inl ⟨hx.1, rfl⟩⟩
  · simp [Value.cells] at hcs
    obtain ⟨rfl, rfl, rfl⟩ := hcs
    rw [if_pos (hs _)] at hmm
    simp only [Prod.mk.injEq] at hx
    rw [cellsOpG] at hel
    have each : ∀ i, i < len → ∃ q : OpG, (∀ j u, q.cs[j]? = some u → W.cell? ((x.add (i * 21)).add j) = some u) ∧ q.ok W ∧ OpDG (D i) q := fun i hi => by
      obtain ⟨cs', h1, h2⟩ := hel i (by omega)
      obtain ⟨_, h3, h4⟩ := World.cells?_some h1
      obtain ⟨q, e1, e2, e3⟩ := op_cellsD hs h2 h3
      refine ⟨q, fun j u hj => ?_, e2, e3⟩
      have hj6 : j < 21 := by have := (List.getElem?_eq_some_iff.1 hj).1; simpa [OpG.cs] using this
      rw [h4 j hj6, e1, hj]
    have inh : Inhabited OpG := ⟨OpG.nil⟩
    obtain ⟨f, hff⟩ := choose_lt each
    have hlen : ((List.range len).map f).length = len := by simp
    have hget : ∀ i, i < len → ((List.range len).map f).getD i OpG.nil = f i := fun i hi => by simp [List.getD_eq_getElem?_getD, hi]
    refine ⟨(List.range len).map f, some x, cap, by rw [hlen], fun i hi => ?_, Or.inr ⟨_, _, hx.1, by simp, fun i hi => ?_⟩⟩
    · rw [hlen] at hi
      obtain ⟨b, off, spot⟩ := x
      have hspot : spot = none := by
        have := (hff 0 (by omega)).1 0 _ rfl
        simpa [Addr.add] using World.cell?_spot this
      subst hspot
      rw [hget i hi]
      have ad : ∀ j, ((⟨b, off, none⟩ : Addr).add (i * 21)).add j = ⟨b, off + i * 21 + j, none⟩ := fun j => by
        rw [show (⟨b, off, none⟩ : Addr).add (i * 21) = ⟨b, off + i * 21, none⟩ from by unfold Addr.add; split <;> simp_all]
        unfold Addr.add; split <;> simp_all
      refine ⟨b, off, rfl, fun j u hj => ?_, (hff i hi).2.1⟩
      have := (hff i hi).1 j u hj
      rw [ad] at this
      exact this
    · rw [hlen] at hi
      refine ⟨D i, List.mem_map.2 ⟨i, by simpa using hi, rfl⟩, ?_⟩
      rw [hget i hi]
      exact (hff i hi).2.2
theorem bytesOpG : Try.prog.bytesOf 44 = 88 := by kernel_rfl
theorem weightsAll_memG {P : Program} {e : TypeId} : ∀ {l : List (DataW H)} {d : DataW H}, d ∈ l → ∀ n, n ∈ d.weights P e → n ∈ DataW.weightsAll P e l
  | d' :: r, d, hd, n, hn => by
    simp only [DataW.weightsAll, List.mem_append]
    rcases List.mem_cons.1 hd with rfl | h
    · exact Or.inl hn
    · exact Or.inr (weightsAll_memG h n hn)
theorem ops_sized {ts : List TypeId} {ds : List (DataW H)} {d : DataW H} {xs : List OpG} (hsz : (DataW.weightsEach Try.prog ts ds).all (· ≤ reachBytes) = true) {j : Nat} (ht : ts[j]? = some 24) (hd : ds[j]? = some d)
    (h : d = .nil ∧ xs = [] ∨ ∃ elems spare, d = .slice elems spare ∧ elems.length = xs.length ∧ ∀ i, i < xs.length → ∃ y, y ∈ elems ∧ OpDG y (xs.getD i OpG.nil)) :
    xs.length * 88 ≤ 140737488351232 ∧ ∀ i, i < xs.length → (xs.getD i OpG.nil).pt.zs.length ≤ 140737488351232 := by
  rcases h with ⟨_, h⟩ | ⟨elems, spare, rfl, hl, he⟩
  · subst h; simp
  · have h1 := sized_slice hsz ht hd Try.underlying24
    rw [bytesOpG, reach_is] at h1
    refine ⟨by rw [← hl]; omega, fun i hi => ?_⟩
    obtain ⟨y, hy, x0, x1, x2, x3, x4, x5, x6, rfl, hyy⟩ := he i hi
    generalize (xs.getD i OpG.nil).pt.zs = zs at hyy ⊢
    have key : ∀ (ws : List Int) (sp : List (DataW H)), (((lits .u8 ws : List (DataW H)).length + sp.length) * Try.prog.bytesOf 5) ∈ DataW.weights Try.prog 44 (.agg [x0, x1, x2, x3, x4, x5, x6]) → ws.length ≤ 140737488351232 := fun ws sp hm => by
      have h2 : ((lits .u8 ws : List (DataW H)).length + sp.length) * Try.prog.bytesOf 5 ≤ reachBytes := by
        refine of_decide_eq_true (List.all_eq_true.1 hsz _ (DataW.weights_mem_each ht hd _ ?_))
        simp only [DataW.weights, Try.underlying24, List.mem_cons, List.mem_append]
        exact Or.inr (Or.inl (weightsAll_memG hy _ hm))
      rw [bytes_u8, reach_is] at h2
      simp [lits] at h2
      omega
    rcases hyy with ⟨_, e⟩ | ⟨sp, rfl⟩
    · rw [e]; simp
    · exact key zs sp (by simp [DataW.weights, DataW.weightsEach, Try.underlying44, Try.underlying40])
end
end Go.Proofs.Ytdgjpikphooilaa

/-
  Proved: slipwaylaw11.NeighPlays, called with any arguments in any memory, returns true and leaves what was there as it was. Its conditions: those of the row alone (none).
-/
namespace Go.Proofs.Ytdgjpikphooilaa
set_option linter.unusedVariables false
open Go.ChangeShapes Go.WideShapes Go.ChangeAt Go.RowKit
open Go.ChangeMaps (open_string shut_string)

set_option maxRecDepth 100000 in
theorem neighPlays_lifted (os : Os) (started : os.Started) (H : Type) (enc : TypeId × Value → H) :
    ReturnsInHanded {} Try.checked os 3 .any (Rows.neighPlaysSpec.pre6 enc Try.prog Try.f3 Rows.neighPlaysRow.domain false) (Rows.neighPlaysSpec.post enc Try.prog Try.f3 false true false false) := by
  refine returnsInHanded_of_change_sized (C := Try.checked) own started (by kernel_rfl) Try.func3
    (ChangeSpec.witness6 (enc := enc) (C := Try.checked) false ⟨#[], #[.agg #[.int .u8 0, .int .u8 0, .int .u8 0, .int .u8 0, .int .u8 0, .int .u8 0], .int .i64 0, .slice none 0 0], []⟩ 8 (by kernel_rfl) (by kernel_rfl) (by kernel_rfl) (by kernel_rfl)) ?_
  intro W base args ds gs before hval0 hW _ hsz0 _
  have hsz : (DataW.weightsEach Try.prog (Try.f3.params.toList ++ []) (ds ++ gs)).all (· ≤ reachBytes) = true := hsz0
  have hval : ∀ (j : Nat) t v, Try.f3.params[j]? = some t → args[j]? = some v → Value.okWide Try.prog W .any base t v := hval0
  have hW' := hW
  obtain ⟨p, q, hA0, hV, rfl, hfz, hnd⟩ := hW
  have hA : DataW.TrodAll enc Try.prog W 0 (fun _ => true) true Try.f3.params.toList args.toList ds p := hA0
  rw [Try.params3] at hA hval hsz
  have hA2 := hA
  have hlt : ∀ x, x ∈ p → x.block < W.heap.size := fun x hx => hW'.lt x (by simp [hx])
  obtain ⟨rfl, rfl⟩ := trodVars_none hV
  simp only [List.append_nil] at hsz hW'
  obtain ⟨v0, vs0, d0, ds0, p0, q0, hargs, rfl, rfl, h0, r0⟩ := trodAll_cons hA
  obtain ⟨v1, vs1, d1, ds1, p1, q1, rfl, rfl, rfl, h1, r1⟩ := trodAll_cons r0
  obtain ⟨v2, vs2, d2, ds2, p2, q2, rfl, rfl, rfl, h2, r2⟩ := trodAll_cons r1
  obtain ⟨rfl, rfl, rfl⟩ := trodAll_nil r2
  obtain rfl : args = #[v0, v1, v2] := by cases args; simp_all
  obtain ⟨m0, rfl, mk0⟩ := open_mac (hval 0 23 v0 rfl rfl) h0
  obtain ⟨x1, rfl, rfl, rfl, wf1⟩ := open_int Try.underlying3 (hval 1 3 v1 rfl rfl) h1
  have bd1 := bounds_i64 wf1
  obtain ⟨xs2, ao2, co2, rfl, ok2, dd2⟩ := open_opsD (fun _ => rfl) (hval 2 24 v2 rfl rfl) h2
  have sz2 := ops_sized hsz (j := 2) rfl rfl dd2
  clear hA0 hval0
  refine (neighPlays_walk m0 x1 xs2 ao2 co2 W mk0 ok2 ⟨by omega, sz2.2⟩).mono fun e W' ⟨he, hb⟩ => ?_
  subst he
  exact ⟨_, rfl, _, _, _, [], _, [], hW', trodAll_mk1 (shut_bool Try.underlying4 _), trodAll_below (fun t ht => by
    have hall : ([23, 3, 24].all fun u => Try.prog.readableRec u && decide (u < Try.prog.types.size)) = true := by kernel_rfl
    have := List.all_eq_true.1 hall t ht
    simpa using this) hA2 hb hlt, rfl, hb.frame _, fun h => by cases h⟩

theorem neighPlays_holds : Rows.NeighPlaysSaid :=
  OpenClaim.holds_of_wide 3 Try.f3 rfl rfl rfl rfl rfl rfl rfl ⟨rfl, rfl, rfl, rfl, rfl⟩ rfl rfl rfl rfl rfl (by kernel_rfl) Try.func3 (by kernel_rfl)
    (of_decide_eq_true (by kernel_rfl)) (by unfold Func.isWrapper; first | (rw [if_pos (by decide +kernel)]; kernel_rfl) | (rw [if_neg (by decide +kernel)]; exact ⟨rfl, rfl⟩))
    (fun os started H enc _ => neighPlays_lifted os started H enc)
end Go.Proofs.Ytdgjpikphooilaa
