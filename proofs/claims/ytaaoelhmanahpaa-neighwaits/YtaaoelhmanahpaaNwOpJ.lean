import Derived.Test.YtaaoelhmanahpaaBOpen
import Derived.Test.YtaaoelhmanahpaaAMac
import Derived.Test.YtaaoelhmanahpaaRows
import Derived.ProofKit
import Derived.OpenShut
import Derived.JoinedCond
import Derived.Deep.Slices
/-
  Stations and messages that came in.
-/
namespace Go.Proofs.Ytaaoelhmanahpaa
open Go.ChangeShapes Go.WideShapes Go.ChangeAt Go.RowKit Go.Deep
set_option linter.all false
section
variable {H : Type} {enc : TypeId × Value → H} {W W' : World}
theorem mac_cells {sp : Nat → Bool} {m : Nat} {cs : List Value} {y : DataW H × List MemPlace} (h : DataW.trod enc Try.prog W 0 sp true m 24 cs = some y) : ∃ mc : Mac, cs = [.int .u8 mc.b0, .int .u8 mc.b1, .int .u8 mc.b2, .int .u8 mc.b3, .int .u8 mc.b4, .int .u8 mc.b5] ∧ mc.ok := by
  obtain ⟨xs, m, _, _, hl, hn, hel⟩ := DataW.trod_array Try.underlying24 h
  rw [cellsMac] at hl
  simp only [cellsU8, Nat.mul_one] at hel
  match cs, hl, xs, hn with
  | [c0, c1, c2, c3, c4, c5], _, [x0, x1, x2, x3, x4, x5], _ =>
    obtain ⟨n0, rfl, a0⟩ := byte_cell (hel 0 (by omega)) rfl
    obtain ⟨n1, rfl, a1⟩ := byte_cell (hel 1 (by omega)) rfl
    obtain ⟨n2, rfl, a2⟩ := byte_cell (hel 2 (by omega)) rfl
    obtain ⟨n3, rfl, a3⟩ := byte_cell (hel 3 (by omega)) rfl
    obtain ⟨n4, rfl, a4⟩ := byte_cell (hel 4 (by omega)) rfl
    obtain ⟨n5, rfl, a5⟩ := byte_cell (hel 5 (by omega)) rfl
    exact ⟨⟨n0, n1, n2, n3, n4, n5⟩, rfl, a0, a1, a2, a3, a4, a5⟩
set_option maxRecDepth 20000 in
theorem open_mac {base : Nat} {sp : Nat → Bool} {v : Value} {d : DataW H} {p : List MemPlace} (hv : Value.okWide Try.prog W .any base 24 v) (h : DataW.Trod enc Try.prog W 0 sp true 24 v d p) : ∃ m : Mac, v = m.val ∧ m.ok := by
  simp only [Value.okWide, Try.underlying24] at hv
  obtain ⟨⟨l⟩, rfl, hsz, _⟩ := hv
  obtain ⟨fuel, hf⟩ := h
  obtain ⟨m, hm, hok⟩ := mac_cells hf
  have e : l = _ := hm
  subst e
  exact ⟨m, rfl, hok⟩
theorem word_cell {sp : Nat → Bool} {m : Nat} {cs : List Value} {c : Value} {y : DataW H × List MemPlace} (h : DataW.trod enc Try.prog W 0 sp true m 39 cs = some y) (hc : cs = [c]) :
    ∃ n : Int, c = .int .u32 n ∧ 0 ≤ n ∧ n ≤ 4294967295 := by
  subst hc
  obtain ⟨n, e1, e2, hw⟩ := DataW.trod_int Try.underlying39 h
  simp at e1
  exact ⟨n, e1, bounds_u32 hw⟩
set_option maxRecDepth 20000 in
theorem open_arp {base : Nat} {sp : Nat → Bool} {v : Value} {d : DataW H} {p : List MemPlace} (hv : Value.okWide Try.prog W .any base 42 v) (h : DataW.Trod enc Try.prog W 0 sp true 42 v d p) :
    ∃ a : Arp, v = a.val ∧ a.ok := by
  obtain ⟨⟨l⟩, rfl, hsz⟩ := okWide_struct Try.underlying42 hv
  rw [cellsArp] at hsz
  obtain ⟨fuel, hf⟩ := h
  obtain ⟨xs, n, _, hd, hl, hlen, hel⟩ := DataW.trod_struct Try.underlying42 hf
  simp only [Prod.mk.injEq] at hd
  have hl15 : l.length = 15 := hsz
  match l, hl15, xs, hlen with
  | [c0, c1, c2, c3, c4, c5, c6, c7, c8, c9, c10, c11, c12, c13, c14], _, [x0, x1, x2, x3, x4], _ =>
    have f0 := hel 0
    have f1 := hel 1
    have f2 := hel 2
    have f3 := hel 3
    have f4 := hel 4
    simp [cellsInt, Value.cells] at f0
    simp [cellsMac, Value.cells] at f1
    simp [cellsU32, Value.cells] at f2
    simp [cellsMac, Value.cells] at f3
    simp [cellsU32, Value.cells] at f4
    obtain ⟨k, e0, bk⟩ := int_cell f0 rfl
    obtain ⟨m1, e1, ok1⟩ := mac_cells f1
    obtain ⟨i2, e2, b2⟩ := word_cell f2 rfl
    obtain ⟨m3, e3, ok3⟩ := mac_cells f3
    obtain ⟨i4, e4, b4⟩ := word_cell f4 rfl
    simp only [List.cons.injEq, and_true] at e1 e3
    obtain ⟨rfl, rfl, rfl, rfl, rfl, rfl⟩ := e1
    obtain ⟨rfl, rfl, rfl, rfl, rfl, rfl⟩ := e3
    subst e0 e2 e4
    exact ⟨⟨k, m1, i2, m3, i4⟩, rfl, bk, ok1, b2, ok3, b4⟩
end
end Go.Proofs.Ytaaoelhmanahpaa

/-
  The second form's bound, and what it says of lists. For every seat.
-/
namespace Go.Proofs.Ytaaoelhmanahpaa
open Go.ChangeShapes Go.WideShapes Go.ChangeAt Go.RowKit Go.Deep
set_option linter.all false
theorem upto_one {H : Type} (d : DataW H) : 1 ≤ Rows.uptoBulk d := by
  cases d with
  | lit l => cases l <;> simp [Rows.uptoBulk]
  | nil => simp [Rows.uptoBulk]
  | ptr d => simp [Rows.uptoBulk]
  | slice elems spare => simp [Rows.uptoBulk]
  | agg parts => simp [Rows.uptoBulk]
  | iface t d => simp [Rows.uptoBulk]
  | map entries => simp [Rows.uptoBulk]
  | held h => simp [Rows.uptoBulk]
theorem upto_len {H : Type} : ∀ (l : List (DataW H)), l.length ≤ Rows.uptoBulkAll l
  | [] => by simp [Rows.uptoBulkAll]
  | x :: r => by have h1 := upto_one x; have h2 := upto_len r; simp only [Rows.uptoBulkAll, List.length_cons]; omega
theorem upto_lits {H : Type} {k : IntKind} {d : DataW H} {zs : List Int} (h : d = .nil ∧ zs = [] ∨ ∃ spare, d = .slice (lits k zs) spare) : zs.length ≤ Rows.uptoBulk d := by
  rcases h with ⟨_, h⟩ | ⟨sp, rfl⟩
  · subst h; simp
  · have h1 := upto_len (lits k zs : List (DataW H))
    have h2 : (lits k zs : List (DataW H)).length = zs.length := by simp [lits]
    simp only [Rows.uptoBulk]
    omega
/-- one of a list's, and all. -/
theorem upto_mem {H : Type} : ∀ (l : List (DataW H)) (x : DataW H), x ∈ l → Rows.uptoBulk x ≤ Rows.uptoBulkAll l
  | [], x, h => by simp at h
  | y :: r, x, h => by
    simp only [Rows.uptoBulkAll]
    rcases List.mem_cons.1 h with rfl | h
    · omega
    · have := upto_mem r x h; omega
end Go.Proofs.Ytaaoelhmanahpaa

/-
  A script of calls of a cache, as it came in.
-/
namespace Go.Proofs.Ytaaoelhmanahpaa
open Go.ChangeShapes Go.WideShapes Go.ChangeAt Go.RowKit Go.Deep
set_option linter.all false
theorem cellsOpG : Try.prog.cellsOf 44 = 21 := by kernel_rfl
theorem cellsBytesG : Try.prog.cellsOf 40 = 1 := by kernel_rfl
/-- a call of a script. -/
structure OpG where
  k : Int
  now : Int
  src : Int
  ip : Int
  pt : Part
  p : Arp
  own : Int
def OpG.nil : OpG := ⟨0, 0, 0, 0, ⟨none, 0, []⟩, ⟨0, ⟨0, 0, 0, 0, 0, 0⟩, 0, ⟨0, 0, 0, 0, 0, 0⟩, 0⟩, 0⟩
structure OpG.ok (w : World) (x : OpG) : Prop where
  src : 0 ≤ x.src ∧ x.src ≤ 4294967295
  ip : 0 ≤ x.ip ∧ x.ip ≤ 4294967295
  pt : x.pt.ok w
  p : x.p.ok
  own : 0 ≤ x.own ∧ x.own ≤ 4294967295
def OpG.cs (x : OpG) : List Value := [.int .i64 x.k, .int .i64 x.now, .int .u32 x.src, .int .u32 x.ip, x.pt.val, .int .i64 x.p.op, .int .u8 x.p.s.b0, .int .u8 x.p.s.b1, .int .u8 x.p.s.b2, .int .u8 x.p.s.b3, .int .u8 x.p.s.b4, .int .u8 x.p.s.b5, .int .u32 x.p.si, .int .u8 x.p.d.b0, .int .u8 x.p.d.b1, .int .u8 x.p.d.b2, .int .u8 x.p.d.b3, .int .u8 x.p.d.b4, .int .u8 x.p.d.b5, .int .u32 x.p.di, .int .u32 x.own]
def OpsG (w : World) (a : Option Addr) (xs : List OpG) : Prop :=
  ∀ j, j < xs.length → ∃ b o, a = some ⟨b, o, none⟩ ∧ (∀ t u, (xs.getD j OpG.nil).cs[t]? = some u → w.cell? ⟨b, o + j * 21 + t, none⟩ = some u) ∧ (xs.getD j OpG.nil).ok w
section
variable {H : Type} {enc : TypeId × Value → H} {W W' : World}
set_option maxRecDepth 20000 in
theorem arp_cells {sp : Nat → Bool} {m : Nat} {cs : List Value} {y : DataW H × List MemPlace} (h : DataW.trod enc Try.prog W 0 sp true m 42 cs = some y) (hl15 : cs.length = 15) :
    ∃ a : Arp, cs = [.int .i64 a.op, .int .u8 a.s.b0, .int .u8 a.s.b1, .int .u8 a.s.b2, .int .u8 a.s.b3, .int .u8 a.s.b4, .int .u8 a.s.b5, .int .u32 a.si, .int .u8 a.d.b0, .int .u8 a.d.b1, .int .u8 a.d.b2, .int .u8 a.d.b3, .int .u8 a.d.b4, .int .u8 a.d.b5, .int .u32 a.di] ∧ a.ok := by
  obtain ⟨xs, n, _, hd, hl, hlen, hel⟩ := DataW.trod_struct Try.underlying42 h
  match cs, hl15, xs, hlen with
  | [c0, c1, c2, c3, c4, c5, c6, c7, c8, c9, c10, c11, c12, c13, c14], _, [x0, x1, x2, x3, x4], _ =>
    have f0 := hel 0
    have f1 := hel 1
    have f2 := hel 2
    have f3 := hel 3
    have f4 := hel 4
    simp [cellsInt, Value.cells] at f0
    simp [cellsMac, Value.cells] at f1
    simp [cellsU32, Value.cells] at f2
    simp [cellsMac, Value.cells] at f3
    simp [cellsU32, Value.cells] at f4
    obtain ⟨k, e0, bk⟩ := int_cell f0 rfl
    obtain ⟨m1, e1, ok1⟩ := mac_cells f1
    obtain ⟨i2, e2, b2⟩ := word_cell f2 rfl
    obtain ⟨m3, e3, ok3⟩ := mac_cells f3
    obtain ⟨i4, e4, b4⟩ := word_cell f4 rfl
    simp only [List.cons.injEq, and_true] at e1 e3
    obtain ⟨rfl, rfl, rfl, rfl, rfl, rfl⟩ := e1
    obtain ⟨rfl, rfl, rfl, rfl, rfl, rfl⟩ := e3
    subst e0 e2 e4
    exact ⟨⟨k, m1, i2, m3, i4⟩, rfl, bk, ok1, b2, ok3, b4⟩
set_option maxRecDepth 20000 in
theorem op_cells {sp : Nat → Bool} {m : Nat} {cs : List Value} {y : DataW H × List MemPlace} (hs : ∀ b, sp b = true) (h : DataW.trod enc Try.prog W 0 sp true m 44 cs = some y) (hl21 : cs.length = 21) :
    ∃ q : OpG, cs = q.cs ∧ q.ok W ∧ q.pt.zs.length ≤ Rows.uptoBulk y.1 := by
  obtain ⟨xs, n, _, hd, hl, hlen, hel⟩ := DataW.trod_struct Try.underlying44 h
  match cs, hl21, xs, hlen with
  | [c0, c1, c2, c3, c4, c5, c6, c7, c8, c9, c10, c11, c12, c13, c14, c15, c16, c17, c18, c19, c20], _, [x0, x1, x2, x3, x4, x5, x6], _ =>
    have f0 := hel 0
    have f1 := hel 1
    have f2 := hel 2
    have f3 := hel 3
    have f4 := hel 4
    have f5 := hel 5
    have f6 := hel 6
    simp [cellsInt, Value.cells] at f0
    simp [cellsInt, Value.cells] at f1
    simp [cellsInt, cellsU32, Value.cells] at f2
    simp [cellsInt, cellsU32, Value.cells] at f3
    simp [cellsInt, cellsU32, cellsBytesG, Value.cells] at f4
    simp [cellsInt, cellsU32, cellsBytesG, cellsArp, Value.cells] at f5
    simp [cellsInt, cellsU32, cellsBytesG, cellsArp, Value.cells] at f6
    obtain ⟨k, rfl, bk⟩ := int_cell f0 rfl
    obtain ⟨now, rfl, bn⟩ := int_cell f1 rfl
    obtain ⟨src, rfl, bs⟩ := word_cell f2 rfl
    obtain ⟨ip, rfl, bi⟩ := word_cell f3 rfl
    obtain ⟨pt, rfl, okp, hx⟩ := bytes_cell hs f4 rfl
    obtain ⟨p, e5, okq⟩ := arp_cells f5 rfl
    obtain ⟨own, rfl, bo⟩ := word_cell f6 rfl
    simp only [List.cons.injEq, and_true] at e5
    obtain ⟨rfl, rfl, rfl, rfl, rfl, rfl, rfl, rfl, rfl, rfl, rfl, rfl, rfl, rfl, rfl⟩ := e5
    refine ⟨⟨k, now, src, ip, pt, p, own⟩, rfl, ⟨bs, bi, okp, okq, bo⟩, ?_⟩
    have h1 := upto_lits hx
    rw [hd]
    simp only [List.map_cons, List.map_nil, Rows.uptoBulk, Rows.uptoBulkAll]
    have h2 : pt.zs.length ≤ Rows.uptoBulk x4.fst := h1
    show pt.zs.length ≤ _
    omega
set_option maxRecDepth 20000 in
theorem open_ops {base : Nat} {sp : Nat → Bool} {v : Value} {d : DataW H} {p : List MemPlace} (hs : ∀ b, sp b = true) (hv : Value.okWide Try.prog W .any base 25 v) (h : DataW.Trod enc Try.prog W 0 sp true 25 v d p) :
    ∃ (xs : List OpG) (a : Option Addr) (c : Nat), v = .slice a xs.length c ∧ OpsG W a xs ∧ (xs.length ≤ Rows.uptoBulk d ∧ ∀ i, i < xs.length → (xs.getD i OpG.nil).pt.zs.length ≤ Rows.uptoBulk d) := by
  obtain ⟨a, len, cap, rfl⟩ := okWide_slice Try.underlying25 hv
  obtain ⟨fuel, hf⟩ := h
  rcases open_slice Try.underlying25 hf with ⟨hcs, hx⟩ | ⟨x, l, c, m, n, D, Pl, hcs, _, hl, hm, hmm, hx, hel⟩
  · simp [Value.cells] at hcs
    obtain ⟨rfl, rfl, rfl⟩ := hcs
    exact ⟨[], none, 0, rfl, fun j hj => by simp at hj, by simp, fun i hi => by simp at hi⟩
  · simp [Value.cells] at hcs
    obtain ⟨rfl, rfl, rfl⟩ := hcs
    rw [if_pos (hs _)] at hmm
    simp only [Prod.mk.injEq] at hx
    rw [cellsOpG] at hel
    have each : ∀ i, i < len → ∃ q : OpG, (∀ j u, q.cs[j]? = some u → W.cell? ((x.add (i * 21)).add j) = some u) ∧ q.ok W ∧ q.pt.zs.length ≤ Rows.uptoBulk (D i) := fun i hi => by
      obtain ⟨cs', h1, h2⟩ := hel i (by omega)
      obtain ⟨_, h3, h4⟩ := World.cells?_some h1
      obtain ⟨q, e1, e2, e3⟩ := op_cells hs h2 h3
      refine ⟨q, fun j u hj => ?_, e2, e3⟩
      have hj6 : j < 21 := by have := (List.getElem?_eq_some_iff.1 hj).1; simpa [OpG.cs] using this
      rw [h4 j hj6, e1, hj]
    have inh : Inhabited OpG := ⟨OpG.nil⟩
    obtain ⟨f, hff⟩ := choose_lt each
    have hlen : ((List.range len).map f).length = len := by simp
    have hget : ∀ i, i < len → ((List.range len).map f).getD i OpG.nil = f i := fun i hi => by simp [List.getD_eq_getElem?_getD, hi]
    refine ⟨(List.range len).map f, some x, cap, by rw [hlen], fun i hi => ?_, ?_, fun i hi => ?_⟩
    · rw [hlen] at hi
      obtain ⟨b, off, spot⟩ := x
      have hspot : spot = none := by
        have := (hff 0 (by omega)).1 0 _ rfl
        simpa [Addr.add] using World.cell?_spot this
      subst hspot
      rw [hget i hi]
      have ad : ∀ j, ((⟨b, off, none⟩ : Addr).add (i * 21)).add j = ⟨b, off + i * 21 + j, none⟩ := fun j => by
        rw [show (⟨b, off, none⟩ : Addr).add (i * 21) = ⟨b, off + i * 21, none⟩ from by unfold Addr.add; split <;> simp_all]
        unfold Addr.add; split <;> simp_all
      refine ⟨b, off, rfl, fun j u hj => ?_, (hff i hi).2.1⟩
      have := (hff i hi).1 j u hj
      rw [ad] at this
      exact this
    · have h1 := upto_len ((List.range len).map D)
      rw [hx.1, hlen]
      simp only [List.length_map, List.length_range] at h1
      simp only [Rows.uptoBulk]
      omega
    · rw [hlen] at hi
      rw [hget i hi, hx.1]
      have h1 := upto_mem ((List.range len).map D) (D i) (List.mem_map.2 ⟨i, by simpa using hi, rfl⟩)
      have h2 := (hff i hi).2.2
      simp only [Rows.uptoBulk]
      omega
end
end Go.Proofs.Ytaaoelhmanahpaa

/-
  A script of calls of a cache, as it came in: its size.
-/
namespace Go.Proofs.Ytaaoelhmanahpaa
open Go.ChangeShapes Go.WideShapes Go.ChangeAt Go.RowKit Go.Deep
set_option linter.all false
section
variable {H : Type} {enc : TypeId × Value → H} {W W' : World}
def OpDG (y : DataW H) (q : OpG) : Prop := ∃ x0 x1 x2 x3 x4 x5 x6, y = .agg [x0, x1, x2, x3, x4, x5, x6] ∧ (x4 = .nil ∧ q.pt.zs = [] ∨ ∃ spare, x4 = .slice (lits .u8 q.pt.zs) spare)
set_option maxRecDepth 20000 in
theorem op_cellsD {sp : Nat → Bool} {m : Nat} {cs : List Value} {y : DataW H × List MemPlace} (hs : ∀ b, sp b = true) (h : DataW.trod enc Try.prog W 0 sp true m 44 cs = some y) (hl21 : cs.length = 21) :
    ∃ q : OpG, cs = q.cs ∧ q.ok W ∧ OpDG y.1 q := by
  obtain ⟨xs, n, _, hd, hl, hlen, hel⟩ := DataW.trod_struct Try.underlying44 h
  match cs, hl21, xs, hlen with
  | [c0, c1, c2, c3, c4, c5, c6, c7, c8, c9, c10, c11, c12, c13, c14, c15, c16, c17, c18, c19, c20], _, [x0, x1, x2, x3, x4, x5, x6], _ =>
    have f0 := hel 0
    have f1 := hel 1
    have f2 := hel 2
    have f3 := hel 3
    have f4 := hel 4
    have f5 := hel 5
    have f6 := hel 6
    simp [cellsInt, Value.cells] at f0
    simp [cellsInt, Value.cells] at f1
    simp [cellsInt, cellsU32, Value.cells] at f2
    simp [cellsInt, cellsU32, Value.cells] at f3
    simp [cellsInt, cellsU32, cellsBytesG, Value.cells] at f4
    simp [cellsInt, cellsU32, cellsBytesG, cellsArp, Value.cells] at f5
    simp [cellsInt, cellsU32, cellsBytesG, cellsArp, Value.cells] at f6
    obtain ⟨k, rfl, bk⟩ := int_cell f0 rfl
    obtain ⟨now, rfl, bn⟩ := int_cell f1 rfl
    obtain ⟨src, rfl, bs⟩ := word_cell f2 rfl
    obtain ⟨ip, rfl, bi⟩ := word_cell f3 rfl
    obtain ⟨pt, rfl, okp, hx⟩ := bytes_cell hs f4 rfl
    obtain ⟨p, e5, okq⟩ := arp_cells f5 rfl
    obtain ⟨own, rfl, bo⟩ := word_cell f6 rfl
    simp only [List.cons.injEq, and_true] at e5
    obtain ⟨rfl, rfl, rfl, rfl, rfl, rfl, rfl, rfl, rfl, rfl, rfl, rfl, rfl, rfl, rfl⟩ := e5
    refine ⟨⟨k, now, src, ip, pt, p, own⟩, rfl, ⟨bs, bi, okp, okq, bo⟩, ?_⟩
    exact ⟨x0.1, x1.1, x2.1, x3.1, x4.1, x5.1, x6.1, by rw [hd]; rfl, hx⟩
set_option maxRecDepth 20000 in
theorem open_opsD {base : Nat} {sp : Nat → Bool} {v : Value} {d : DataW H} {p : List MemPlace} (hs : ∀ b, sp b = true) (hv : Value.okWide Try.prog W .any base 25 v) (h : DataW.Trod enc Try.prog W 0 sp true 25 v d p) :
    ∃ (xs : List OpG) (a : Option Addr) (c : Nat), v = .slice a xs.length c ∧ OpsG W a xs ∧ (d = .nil ∧ xs = [] ∨ ∃ elems spare, d = .slice elems spare ∧ elems.length = xs.length ∧ ∀ i, i < xs.length → ∃ y, y ∈ elems ∧ OpDG y (xs.getD i OpG.nil)) := by
  obtain ⟨a, len, cap, rfl⟩ := okWide_slice Try.underlying25 hv
  obtain ⟨fuel, hf⟩ := h
  rcases open_slice Try.underlying25 hf with ⟨hcs, hx⟩ | ⟨x, l, c, m, n, D, Pl, hcs, _, hl, hm, hmm, hx, hel⟩
  · simp [Value.cells] at hcs
    obtain ⟨rfl, rfl, rfl⟩ := hcs
    simp only [Prod.mk.injEq] at hx
    exact ⟨[], none, 0, rfl, fun j hj => by simp at hj, Or.inl ⟨hx.1, rfl⟩⟩
  · simp [Value.cells] at hcs
    obtain ⟨rfl, rfl, rfl⟩ := hcs
    rw [if_pos (hs _)] at hmm
    simp only [Prod.mk.injEq] at hx
    rw [cellsOpG] at hel
    have each : ∀ i, i < len → ∃ q : OpG, (∀ j u, q.cs[j]? = some u → W.cell? ((x.add (i * 21)).add j) = some u) ∧ q.ok W ∧ OpDG (D i) q := fun i hi => by
      obtain ⟨cs', h1, h2⟩ := hel i (by omega)
      obtain ⟨_, h3, h4⟩ := World.cells?_some h1
      obtain ⟨q, e1, e2, e3⟩ := op_cellsD hs h2 h3
      refine ⟨q, fun j u hj => ?_, e2, e3⟩
      have hj6 : j < 21 := by have := (List.getElem?_eq_some_iff.1 hj).1; simpa [OpG.cs] using this
      rw [h4 j hj6, e1, hj]
    have inh : Inhabited OpG := ⟨OpG.nil⟩
    obtain ⟨f, hff⟩ := choose_lt each
    have hlen : ((List.range len).map f).length = len := by simp
    have hget : ∀ i, i < len → ((List.range len).map f).getD i OpG.nil = f i := fun i hi => by simp [List.getD_eq_getElem?_getD, hi]
    refine ⟨(List.range len).map f, some x, cap, by rw [hlen], fun i hi => ?_, Or.inr ⟨_, _, hx.1, by simp, fun i hi => ?_⟩⟩
    · rw [hlen] at hi
      obtain ⟨b, off, spot⟩ := x
      have hspot : spot = none := by
        have := (hff 0 (by omega)).1 0 _ rfl
        simpa [Addr.add] using World.cell?_spot this
      subst hspot
      rw [hget i hi]
      have ad : ∀ j, ((⟨b, off, none⟩ : Addr).add (i * 21)).add j = ⟨b, off + i * 21 + j, none⟩ := fun j => by
        rw [show (⟨b, off, none⟩ : Addr).add (i * 21) = ⟨b, off + i * 21, none⟩ from by unfold Addr.add; split <;> simp_all]
        unfold Addr.add; split <;> simp_all
      refine ⟨b, off, rfl, fun j u hj => ?_, (hff i hi).2.1⟩
      have := (hff i hi).1 j u hj
      rw [ad] at this
      exact this
    · rw [hlen] at hi
      refine ⟨D i, List.mem_map.2 ⟨i, by simpa using hi, rfl⟩, ?_⟩
      rw [hget i hi]
      exact (hff i hi).2.2
theorem bytesOpG : Try.prog.bytesOf 44 = 88 := by kernel_rfl
theorem weightsAll_memG {P : Program} {e : TypeId} : ∀ {l : List (DataW H)} {d : DataW H}, d ∈ l → ∀ n, n ∈ d.weights P e → n ∈ DataW.weightsAll P e l
  | d' :: r, d, hd, n, hn => by
    simp only [DataW.weightsAll, List.mem_append]
    rcases List.mem_cons.1 hd with rfl | h
    · exact Or.inl hn
    · exact Or.inr (weightsAll_memG h n hn)
theorem ops_sized {ts : List TypeId} {ds : List (DataW H)} {d : DataW H} {xs : List OpG} (hsz : (DataW.weightsEach Try.prog ts ds).all (· ≤ reachBytes) = true) {j : Nat} (ht : ts[j]? = some 25) (hd : ds[j]? = some d)
    (h : d = .nil ∧ xs = [] ∨ ∃ elems spare, d = .slice elems spare ∧ elems.length = xs.length ∧ ∀ i, i < xs.length → ∃ y, y ∈ elems ∧ OpDG y (xs.getD i OpG.nil)) :
    xs.length * 88 ≤ 140737488351232 ∧ ∀ i, i < xs.length → (xs.getD i OpG.nil).pt.zs.length ≤ 140737488351232 := by
  rcases h with ⟨_, h⟩ | ⟨elems, spare, rfl, hl, he⟩
  · subst h; simp
  · have h1 := sized_slice hsz ht hd Try.underlying25
    rw [bytesOpG, reach_is] at h1
    refine ⟨by rw [← hl]; omega, fun i hi => ?_⟩
    obtain ⟨y, hy, x0, x1, x2, x3, x4, x5, x6, rfl, hyy⟩ := he i hi
    generalize (xs.getD i OpG.nil).pt.zs = zs at hyy ⊢
    have key : ∀ (ws : List Int) (sp : List (DataW H)), (((lits .u8 ws : List (DataW H)).length + sp.length) * Try.prog.bytesOf 5) ∈ DataW.weights Try.prog 44 (.agg [x0, x1, x2, x3, x4, x5, x6]) → ws.length ≤ 140737488351232 := fun ws sp hm => by
      have h2 : ((lits .u8 ws : List (DataW H)).length + sp.length) * Try.prog.bytesOf 5 ≤ reachBytes := by
        refine of_decide_eq_true (List.all_eq_true.1 hsz _ (DataW.weights_mem_each ht hd _ ?_))
        simp only [DataW.weights, Try.underlying25, List.mem_cons, List.mem_append]
        exact Or.inr (Or.inl (weightsAll_memG hy _ hm))
      rw [bytes_u8, reach_is] at h2
      simp [lits] at h2
      omega
    rcases hyy with ⟨_, e⟩ | ⟨sp, rfl⟩
    · rw [e]; simp
    · exact key zs sp (by simp [DataW.weights, DataW.weightsEach, Try.underlying44, Try.underlying40])
end
end Go.Proofs.Ytaaoelhmanahpaa
