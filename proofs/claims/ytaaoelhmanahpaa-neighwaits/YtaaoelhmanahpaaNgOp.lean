/-
  A script of calls of a cache, as it came in.
-/
import Derived.Test.YtaaoelhmanahpaaAOpenA
import Derived.Test.YtaaoelhmanahpaaBUpto
namespace Go.Proofs.Ytaaoelhmanahpaa
open Go.ChangeShapes Go.WideShapes Go.ChangeAt Go.RowKit Go.Deep
set_option linter.all false
theorem cellsOpG : Try.prog.cellsOf 44 = 21 := by kernel_rfl
theorem cellsBytesG : Try.prog.cellsOf 40 = 1 := by kernel_rfl
/-- a call of a script. -/
structure OpG where
  k : Int
  now : Int
  src : Int
  ip : Int
  pt : Part
  p : Arp
  own : Int
def OpG.nil : OpG := ⟨0, 0, 0, 0, ⟨none, 0, []⟩, ⟨0, ⟨0, 0, 0, 0, 0, 0⟩, 0, ⟨0, 0, 0, 0, 0, 0⟩, 0⟩, 0⟩
structure OpG.ok (w : World) (x : OpG) : Prop where
  src : 0 ≤ x.src ∧ x.src ≤ 4294967295
  ip : 0 ≤ x.ip ∧ x.ip ≤ 4294967295
  pt : x.pt.ok w
  p : x.p.ok
  own : 0 ≤ x.own ∧ x.own ≤ 4294967295
def OpG.cs (x : OpG) : List Value := [.int .i64 x.k, .int .i64 x.now, .int .u32 x.src, .int .u32 x.ip, x.pt.val, .int .i64 x.p.op, .int .u8 x.p.s.b0, .int .u8 x.p.s.b1, .int .u8 x.p.s.b2, .int .u8 x.p.s.b3, .int .u8 x.p.s.b4, .int .u8 x.p.s.b5, .int .u32 x.p.si, .int .u8 x.p.d.b0, .int .u8 x.p.d.b1, .int .u8 x.p.d.b2, .int .u8 x.p.d.b3, .int .u8 x.p.d.b4, .int .u8 x.p.d.b5, .int .u32 x.p.di, .int .u32 x.own]
def OpsG (w : World) (a : Option Addr) (xs : List OpG) : Prop :=
  ∀ j, j < xs.length → ∃ b o, a = some ⟨b, o, none⟩ ∧ (∀ t u, (xs.getD j OpG.nil).cs[t]? = some u → w.cell? ⟨b, o + j * 21 + t, none⟩ = some u) ∧ (xs.getD j OpG.nil).ok w
section
variable {H : Type} {enc : TypeId × Value → H} {W W' : World}
set_option maxRecDepth 20000 in
theorem arp_cells {sp : Nat → Bool} {m : Nat} {cs : List Value} {y : DataW H × List MemPlace} (h : DataW.trod enc Try.prog W 0 sp true m 42 cs = some y) (hl15 : cs.length = 15) :
    ∃ a : Arp, cs = [.int .i64 a.op, .int .u8 a.s.b0, .int .u8 a.s.b1, .int .u8 a.s.b2, .int .u8 a.s.b3, .int .u8 a.s.b4, .int .u8 a.s.b5, .int .u32 a.si, .int .u8 a.d.b0, .int .u8 a.d.b1, .int .u8 a.d.b2, .int .u8 a.d.b3, .int .u8 a.d.b4, .int .u8 a.d.b5, .int .u32 a.di] ∧ a.ok := by
  obtain ⟨xs, n, _, hd, hl, hlen, hel⟩ := DataW.trod_struct Try.underlying42 h
  match cs, hl15, xs, hlen with
  | [c0, c1, c2, c3, c4, c5, c6, c7, c8, c9, c10, c11, c12, c13, c14], _, [x0, x1, x2, x3, x4], _ =>
    have f0 := hel 0
    have f1 := hel 1
    have f2 := hel 2
    have f3 := hel 3
    have f4 := hel 4
    simp [cellsInt, Value.cells] at f0
    simp [cellsMac, Value.cells] at f1
    simp [cellsU32, Value.cells] at f2
    simp [cellsMac, Value.cells] at f3
    simp [cellsU32, Value.cells] at f4
    obtain ⟨k, e0, bk⟩ := int_cell f0 rfl
    obtain ⟨m1, e1, ok1⟩ := mac_cells f1
    obtain ⟨i2, e2, b2⟩ := word_cell f2 rfl
    obtain ⟨m3, e3, ok3⟩ := mac_cells f3
    obtain ⟨i4, e4, b4⟩ := word_cell f4 rfl
    simp only [List.cons.injEq, and_true] at e1 e3
    obtain ⟨rfl, rfl, rfl, rfl, rfl, rfl⟩ := e1
    obtain ⟨rfl, rfl, rfl, rfl, rfl, rfl⟩ := e3
    subst e0 e2 e4
    exact ⟨⟨k, m1, i2, m3, i4⟩, rfl, bk, ok1, b2, ok3, b4⟩
set_option maxRecDepth 20000 in
theorem op_cells {sp : Nat → Bool} {m : Nat} {cs : List Value} {y : DataW H × List MemPlace} (hs : ∀ b, sp b = true) (h : DataW.trod enc Try.prog W 0 sp true m 44 cs = some y) (hl21 : cs.length = 21) :
    ∃ q : OpG, cs = q.cs ∧ q.ok W ∧ q.pt.zs.length ≤ Rows.uptoBulk y.1 := by
  obtain ⟨xs, n, _, hd, hl, hlen, hel⟩ := DataW.trod_struct Try.underlying44 h
  match cs, hl21, xs, hlen with
  | [c0, c1, c2, c3, c4, c5, c6, c7, c8, c9, c10, c11, c12, c13, c14, c15, c16, c17, c18, c19, c20], _, [x0, x1, x2, x3, x4, x5, x6], _ =>
    have f0 := hel 0
    have f1 := hel 1
    have f2 := hel 2
    have f3 := hel 3
    have f4 := hel 4
    have f5 := hel 5
    have f6 := hel 6
    simp [cellsInt, Value.cells] at f0
    simp [cellsInt, Value.cells] at f1
    simp [cellsInt, cellsU32, Value.cells] at f2
    simp [cellsInt, cellsU32, Value.cells] at f3
    simp [cellsInt, cellsU32, cellsBytesG, Value.cells] at f4
    simp [cellsInt, cellsU32, cellsBytesG, cellsArp, Value.cells] at f5
    simp [cellsInt, cellsU32, cellsBytesG, cellsArp, Value.cells] at f6
    obtain ⟨k, rfl, bk⟩ := int_cell f0 rfl
    obtain ⟨now, rfl, bn⟩ := int_cell f1 rfl
    obtain ⟨src, rfl, bs⟩ := word_cell f2 rfl
    obtain ⟨ip, rfl, bi⟩ := word_cell f3 rfl
    obtain ⟨pt, rfl, okp, hx⟩ := bytes_cell hs f4 rfl
    obtain ⟨p, e5, okq⟩ := arp_cells f5 rfl
    obtain ⟨own, rfl, bo⟩ := word_cell f6 rfl
    simp only [List.cons.injEq, and_true] at e5
    obtain ⟨rfl, rfl, rfl, rfl, rfl, rfl, rfl, rfl, rfl, rfl, rfl, rfl, rfl, rfl, rfl⟩ := e5
    refine ⟨⟨k, now, src, ip, pt, p, own⟩, rfl, ⟨bs, bi, okp, okq, bo⟩, ?_⟩
    have h1 := upto_lits hx
    rw [hd]
    simp only [List.map_cons, List.map_nil, Rows.uptoBulk, Rows.uptoBulkAll]
    have h2 : pt.zs.length ≤ Rows.uptoBulk x4.fst := h1
    show pt.zs.length ≤ _
    omega
set_option maxRecDepth 20000 in
theorem open_ops {base : Nat} {sp : Nat → Bool} {v : Value} {d : DataW H} {p : List MemPlace} (hs : ∀ b, sp b = true) (hv : Value.okWide Try.prog W .any base 25 v) (h : DataW.Trod enc Try.prog W 0 sp true 25 v d p) :
    ∃ (xs : List OpG) (a : Option Addr) (c : Nat), v = .slice a xs.length c ∧ OpsG W a xs ∧ (xs.length ≤ Rows.uptoBulk d ∧ ∀ i, i < xs.length → (xs.getD i OpG.nil).pt.zs.length ≤ Rows.uptoBulk d) := by
  obtain ⟨a, len, cap, rfl⟩ := okWide_slice Try.underlying25 hv
  obtain ⟨fuel, hf⟩ := h
  rcases open_slice Try.underlying25 hf with ⟨hcs, hx⟩ | ⟨x, l, c, m, n, D, Pl, hcs, _, hl, hm, hmm, hx, hel⟩
  · simp [Value.cells] at hcs
    obtain ⟨rfl, rfl, rfl⟩ := hcs
    exact ⟨[], none, 0, rfl, fun j hj => by simp at hj, by simp, fun i hi => by simp at hi⟩
  · simp [Value.cells] at hcs
    obtain ⟨rfl, rfl, rfl⟩ := hcs
    rw [if_pos (hs _)] at hmm
    simp only [Prod.mk.injEq] at hx
    rw [cellsOpG] at hel
    have each : ∀ i, i < len → ∃ q : OpG, (∀ j u, q.cs[j]? = some u → W.cell? ((x.add (i * 21)).add j) = some u) ∧ q.ok W ∧ q.pt.zs.length ≤ Rows.uptoBulk (D i) := fun i hi => by
      obtain ⟨cs', h1, h2⟩ := hel i (by omega)
      obtain ⟨_, h3, h4⟩ := World.cells?_some h1
      obtain ⟨q, e1, e2, e3⟩ := op_cells hs h2 h3
      refine ⟨q, fun j u hj => ?_, e2, e3⟩
      have hj6 : j < 21 := by have := (List.getElem?_eq_some_iff.1 hj).1; simpa [OpG.cs] using this
      rw [h4 j hj6, e1, hj]
    have inh : Inhabited OpG := ⟨OpG.nil⟩
    obtain ⟨f, hff⟩ := choose_lt each
    have hlen : ((List.range len).map f).length = len := by simp
    have hget : ∀ i, i < len → ((List.range len).map f).getD i OpG.nil = f i := fun i hi => by simp [List.getD_eq_getElem?_getD, hi]
    refine ⟨(List.range len).map f, some x, cap, by rw [hlen], fun i hi => ?_, ?_, fun i hi => ?_⟩
    · rw [hlen] at hi
      obtain ⟨b, off, spot⟩ := x
      have hspot : spot = none := by
        have := (hff 0 (by omega)).1 0 _ rfl
        simpa [Addr.add] using World.cell?_spot this
      subst hspot
      rw [hget i hi]
      have ad : ∀ j, ((⟨b, off, none⟩ : Addr).add (i * 21)).add j = ⟨b, off + i * 21 + j, none⟩ := fun j => by
        rw [show (⟨b, off, none⟩ : Addr).add (i * 21) = ⟨b, off + i * 21, none⟩ from by unfold Addr.add; split <;> simp_all]
        unfold Addr.add; split <;> simp_all
      refine ⟨b, off, rfl, fun j u hj => ?_, (hff i hi).2.1⟩
      have := (hff i hi).1 j u hj
      rw [ad] at this
      exact this
    · have h1 := upto_len ((List.range len).map D)
      rw [hx.1, hlen]
      simp only [List.length_map, List.length_range] at h1
      simp only [Rows.uptoBulk]
      omega
    · rw [hlen] at hi
      rw [hget i hi, hx.1]
      have h1 := upto_mem ((List.range len).map D) (D i) (List.mem_map.2 ⟨i, by simpa using hi, rfl⟩)
      have h2 := (hff i hi).2.2
      simp only [Rows.uptoBulk]
      omega
end
end Go.Proofs.Ytaaoelhmanahpaa
