/-
  A script of calls that came in.
-/
import Derived.Test.YtlephdpplfpliaaDOpenS
namespace Go.Proofs.Ytlephdpplfpliaa
open Go.ChangeShapes Go.WideShapes Go.ChangeAt Go.RowKit Go.Deep
set_option linter.all false
theorem cells_int : Try.prog.cellsOf 3 = 1 := by kernel_rfl
theorem cells_op : Try.prog.cellsOf 39 = 3 := by kernel_rfl
theorem bytes_op : Try.prog.bytesOf 39 = 40 := by kernel_rfl
/-- a call of a script. -/
structure OpR where
  k : Int
  i : Int
  pt : Part
def OpR.nil : OpR := ⟨0, 0, Part.nil⟩
def OpR.ok (w : World) (x : OpR) : Prop := (-9223372036854775808 ≤ x.k ∧ x.k ≤ 9223372036854775807) ∧ (-9223372036854775808 ≤ x.i ∧ x.i ≤ 9223372036854775807) ∧ x.pt.ok w
def OpsAt (w : World) (a : Option Addr) (xs : List OpR) : Prop :=
  ∀ j, j < xs.length → ∃ b o, a = some ⟨b, o, none⟩ ∧ w.cell? ⟨b, o + j * 3, none⟩ = some (.int .i64 (xs.getD j OpR.nil).k) ∧ w.cell? ⟨b, o + j * 3 + 1, none⟩ = some (.int .i64 (xs.getD j OpR.nil).i) ∧ w.cell? ⟨b, o + j * 3 + 2, none⟩ = some (xs.getD j OpR.nil).pt.val ∧ (xs.getD j OpR.nil).ok w
section
variable {H : Type} {enc : TypeId × Value → H} {W W' : World}
theorem int_cell {sp : Nat → Bool} {m : Nat} {cs : List Value} {c : Value} {y : DataW H × List MemPlace} (h : DataW.trod enc Try.prog W 0 sp true m 3 cs = some y) (hc : cs = [c]) :
    ∃ n : Int, c = .int .i64 n ∧ -9223372036854775808 ≤ n ∧ n ≤ 9223372036854775807 := by
  subst hc
  obtain ⟨n, e1, e2, hw⟩ := DataW.trod_int Try.underlying3 h
  simp at e1
  exact ⟨n, e1, bounds_i64 hw⟩
theorem op_cells {sp : Nat → Bool} {m : Nat} {cs : List Value} {y : DataW H × List MemPlace} (hs : ∀ b, sp b = true) (h : DataW.trod enc Try.prog W 0 sp true m 39 cs = some y) (hl3 : cs.length = 3) :
    ∃ x : OpR, cs = [.int .i64 x.k, .int .i64 x.i, x.pt.val] ∧ x.ok W ∧ ∃ x0 x1 x2, y.1 = .agg [x0, x1, x2] ∧ (x2 = .nil ∧ x.pt.zs = [] ∨ ∃ spare, x2 = .slice (lits .u8 x.pt.zs) spare) := by
  obtain ⟨xs, n, _, hd, hl, hlen, hel⟩ := DataW.trod_struct Try.underlying39 h
  match cs, hl3, xs, hlen with
  | [c0, c1, c2], _, [x0, x1, x2], _ =>
    have f0 := hel 0
    have f1 := hel 1
    have f2 := hel 2
    simp [cells_int, Value.cells] at f0
    simp [cells_int, Value.cells] at f1
    simp [cellsSl, cells_int, Value.cells] at f2
    obtain ⟨k, rfl, bk⟩ := int_cell f0 rfl
    obtain ⟨i, rfl, bi⟩ := int_cell f1 rfl
    obtain ⟨pt, rfl, okp, hx⟩ := part_of_trod hs f2
    exact ⟨⟨k, i, pt⟩, rfl, ⟨bk, bi, okp⟩, x0.1, x1.1, x2.1, by rw [hd]; rfl, hx⟩
theorem open_ops {base : Nat} {sp : Nat → Bool} {v : Value} {d : DataW H} {p : List MemPlace} (hs : ∀ b, sp b = true) (hv : Value.okWide Try.prog W .any base 29 v) (h : DataW.Trod enc Try.prog W 0 sp true 29 v d p) :
    ∃ (xs : List OpR) (a : Option Addr) (c : Nat), v = .slice a xs.length c ∧ OpsAt W a xs ∧ (d = .nil ∧ xs = [] ∨ ∃ elems spare, d = .slice elems spare ∧ elems.length = xs.length ∧
      ∀ i, i < xs.length → ∃ y, y ∈ elems ∧ ∃ x0 x1 x2, y = .agg [x0, x1, x2] ∧ (x2 = .nil ∧ (xs.getD i OpR.nil).pt.zs = [] ∨ ∃ spare, x2 = .slice (lits .u8 (xs.getD i OpR.nil).pt.zs) spare)) := by
  obtain ⟨a, len, cap, rfl⟩ := okWide_slice Try.underlying29 hv
  obtain ⟨fuel, hf⟩ := h
  rcases open_slice Try.underlying29 hf with ⟨hcs, hx⟩ | ⟨x, l, c, m, n, D, Pl, hcs, _, hl, hm, hmm, hx, hel⟩
  · simp [Value.cells] at hcs
    obtain ⟨rfl, rfl, rfl⟩ := hcs
    simp only [Prod.mk.injEq] at hx
    exact ⟨[], none, 0, rfl, fun j hj => by simp at hj, Or.inl ⟨hx.1, rfl⟩⟩
  · simp [Value.cells] at hcs
    obtain ⟨rfl, rfl, rfl⟩ := hcs
    rw [if_pos (hs _)] at hmm
    simp only [Prod.mk.injEq] at hx
    rw [cells_op] at hel
    have each : ∀ i, i < len → ∃ q : OpR, (∀ j u, [Value.int .i64 q.k, .int .i64 q.i, q.pt.val][j]? = some u → W.cell? ((x.add (i * 3)).add j) = some u) ∧ q.ok W ∧ ∃ x0 x1 x2, D i = .agg [x0, x1, x2] ∧ (x2 = .nil ∧ q.pt.zs = [] ∨ ∃ spare, x2 = .slice (lits .u8 q.pt.zs) spare) := fun i hi => by
      obtain ⟨cs', h1, h2⟩ := hel i (by omega)
      obtain ⟨_, h3, h4⟩ := World.cells?_some h1
      obtain ⟨q, e1, e2, e3⟩ := op_cells hs h2 h3
      refine ⟨q, fun j u hj => ?_, e2, e3⟩
      have hj3 : j < 3 := by have := (List.getElem?_eq_some_iff.1 hj).1; simpa using this
      rw [h4 j hj3, e1, hj]
    have inh : Inhabited OpR := ⟨OpR.nil⟩
    obtain ⟨f, hff⟩ := choose_lt each
    have hlen : ((List.range len).map f).length = len := by simp
    have hget : ∀ i, i < len → ((List.range len).map f).getD i OpR.nil = f i := fun i hi => by simp [List.getD_eq_getElem?_getD, hi]
    refine ⟨(List.range len).map f, some x, cap, by rw [hlen], fun i hi => ?_, Or.inr ⟨_, _, hx.1, by simp, fun i hi => ?_⟩⟩
    · rw [hlen] at hi
      obtain ⟨b, off, spot⟩ := x
      have hspot : spot = none := by
        have := (hff 0 (by omega)).1 0 _ rfl
        simpa [Addr.add] using World.cell?_spot this
      subst hspot
      rw [hget i hi]
      have ad : ∀ j, ((⟨b, off, none⟩ : Addr).add (i * 3)).add j = ⟨b, off + i * 3 + j, none⟩ := fun j => by
        rw [show (⟨b, off, none⟩ : Addr).add (i * 3) = ⟨b, off + i * 3, none⟩ from by unfold Addr.add; split <;> simp_all]
        unfold Addr.add; split <;> simp_all
      have g0 := (hff i hi).1 0 _ rfl
      have g1 := (hff i hi).1 1 _ rfl
      have g2 := (hff i hi).1 2 _ rfl
      rw [ad] at g0 g1 g2
      exact ⟨b, off, rfl, g0, g1, g2, (hff i hi).2.1⟩
    · rw [hlen] at hi
      refine ⟨D i, List.mem_map.2 ⟨i, by simpa using hi, rfl⟩, ?_⟩
      rw [hget i hi]
      exact (hff i hi).2.2
theorem ops_sized {ts : List TypeId} {ds : List (DataW H)} {d : DataW H} {xs : List OpR} (hsz : (DataW.weightsEach Try.prog ts ds).all (· ≤ reachBytes) = true) {j : Nat} (ht : ts[j]? = some 29) (hd : ds[j]? = some d)
    (h : d = .nil ∧ xs = [] ∨ ∃ elems spare, d = .slice elems spare ∧ elems.length = xs.length ∧
      ∀ i, i < xs.length → ∃ y, y ∈ elems ∧ ∃ x0 x1 x2, y = .agg [x0, x1, x2] ∧ (x2 = .nil ∧ (xs.getD i OpR.nil).pt.zs = [] ∨ ∃ spare, x2 = .slice (lits .u8 (xs.getD i OpR.nil).pt.zs) spare)) :
    xs.length * 40 ≤ 140737488351232 ∧ ∀ i, i < xs.length → (xs.getD i OpR.nil).pt.zs.length ≤ 140737488351232 := by
  rcases h with ⟨_, h⟩ | ⟨elems, spare, rfl, hl, he⟩
  · subst h; simp
  · have h1 := sized_slice hsz ht hd Try.underlying29
    rw [bytes_op, reach_is] at h1
    refine ⟨by rw [← hl]; omega, fun i hi => ?_⟩
    obtain ⟨y, hy, x0, x1, x2, rfl, hyy⟩ := he i hi
    generalize (xs.getD i OpR.nil).pt.zs = zs at hyy ⊢
    rcases hyy with ⟨_, e⟩ | ⟨sp, rfl⟩
    · rw [e]; simp
    · have h2 : ((lits .u8 zs : List (DataW H)).length + sp.length) * Try.prog.bytesOf 5 ≤ reachBytes := by
        refine of_decide_eq_true (List.all_eq_true.1 hsz _ (DataW.weights_mem_each ht hd _ ?_))
        simp only [DataW.weights, Try.underlying29, List.mem_cons, List.mem_append]
        exact Or.inr (Or.inl (weightsAll_mem hy _ (by simp [DataW.weights, DataW.weightsEach, Try.underlying39, Try.underlying37])))
      rw [bytesU8, reach_is] at h2
      simp [lits] at h2
      omega
end
end Go.Proofs.Ytlephdpplfpliaa
