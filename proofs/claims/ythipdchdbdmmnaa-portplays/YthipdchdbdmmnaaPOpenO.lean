/-
  A script of calls at a table of ports, and draws, as they came in.
-/
import Derived.Test.YthipdchdbdmmnaaBOpen
import Derived.Test.YthipdchdbdmmnaaPKT
namespace Go.Proofs.Ythipdchdbdmmnaa
open Go.ChangeShapes Go.WideShapes Go.ChangeAt Go.RowKit Go.Deep
set_option linter.all false
theorem cells_u32 : Try.prog.cellsOf 50 = 1 := by kernel_rfl
theorem bytes_u32 : Try.prog.bytesOf 50 = 4 := by kernel_rfl
theorem cells_int : Try.prog.cellsOf 3 = 1 := by kernel_rfl
theorem cells_bytes : Try.prog.cellsOf 51 = 1 := by kernel_rfl
theorem cells_dg : Try.prog.cellsOf 53 = 5 := by kernel_rfl
theorem cells_op : Try.prog.cellsOf 55 = 7 := by kernel_rfl
theorem bytes_op : Try.prog.bytesOf 55 = 64 := by kernel_rfl
/-- a call of a script. -/
structure OpP where
  k : Int
  n : Int
  si : Int
  di : Int
  s : Int
  d : Int
  pt : Part
def OpP.nil : OpP := ⟨0, 0, 0, 0, 0, 0, Part.nil⟩
def OpP.ok (w : World) (x : OpP) : Prop := ipOk x.k ∧ ipOk x.n ∧ (0 ≤ x.si ∧ x.si ≤ 4294967295) ∧ (0 ≤ x.di ∧ x.di ≤ 4294967295) ∧ ipOk x.s ∧ ipOk x.d ∧ x.pt.ok w
def OpP.cs (x : OpP) : List Value := [.int .i64 x.k, .int .i64 x.n, .int .u32 x.si, .int .u32 x.di, .int .i64 x.s, .int .i64 x.d, x.pt.val]
def OpsP (w : World) (a : Option Addr) (xs : List OpP) : Prop :=
  ∀ j, j < xs.length → ∃ b o, a = some ⟨b, o, none⟩ ∧ (∀ t u, (xs.getD j OpP.nil).cs[t]? = some u → w.cell? ⟨b, o + j * 7 + t, none⟩ = some u) ∧ (xs.getD j OpP.nil).ok w
section
variable {H : Type} {enc : TypeId × Value → H} {W W' : World}
theorem u32_cell {sp : Nat → Bool} {m : Nat} {cs : List Value} {c : Value} {y : DataW H × List MemPlace} (h : DataW.trod enc Try.prog W 0 sp true m 50 cs = some y) (hc : cs = [c]) :
    ∃ n : Int, c = .int .u32 n ∧ 0 ≤ n ∧ n ≤ 4294967295 := by
  subst hc
  obtain ⟨n, e1, e2, hw⟩ := DataW.trod_int Try.underlying50 h
  simp at e1
  exact ⟨n, e1, bounds_u32 hw⟩
set_option maxRecDepth 20000 in
theorem dg_cells {sp : Nat → Bool} {m : Nat} {cs : List Value} {y : DataW H × List MemPlace} (hs : ∀ b, sp b = true) (h : DataW.trod enc Try.prog W 0 sp true m 53 cs = some y) (hl5 : cs.length = 5) :
    ∃ (si di s d : Int) (pt : Part), cs = [.int .u32 si, .int .u32 di, .int .i64 s, .int .i64 d, pt.val] ∧ (0 ≤ si ∧ si ≤ 4294967295) ∧ (0 ≤ di ∧ di ≤ 4294967295) ∧ ipOk s ∧ ipOk d ∧ pt.ok W ∧ ∃ x0 x1 x2 x3 x4, y.1 = .agg [x0, x1, x2, x3, x4] ∧ (x4 = .nil ∧ pt.zs = [] ∨ ∃ spare, x4 = .slice (lits .u8 pt.zs) spare) := by
  obtain ⟨xs, n, _, hd, hl, hlen, hel⟩ := DataW.trod_struct Try.underlying53 h
  match cs, hl5, xs, hlen with
  | [c0, c1, c2, c3, c4], _, [x0, x1, x2, x3, x4], _ =>
    have f0 := hel 0
    have f1 := hel 1
    have f2 := hel 2
    have f3 := hel 3
    have f4 := hel 4
    simp [cells_u32, Value.cells] at f0
    simp [cells_u32, Value.cells] at f1
    simp [cells_u32, cells_int, Value.cells] at f2
    simp [cells_u32, cells_int, Value.cells] at f3
    simp [cells_bytes, cells_u32, cells_int, Value.cells] at f4
    obtain ⟨si, rfl, b0⟩ := u32_cell f0 rfl
    obtain ⟨di, rfl, b1⟩ := u32_cell f1 rfl
    obtain ⟨s, rfl, b2⟩ := int_cell f2 rfl
    obtain ⟨d, rfl, b3⟩ := int_cell f3 rfl
    obtain ⟨pt, rfl, okp, hx⟩ := bytes_cell hs f4 rfl
    exact ⟨si, di, s, d, pt, rfl, b0, b1, b2, b3, okp, x0.1, x1.1, x2.1, x3.1, x4.1, by rw [hd]; rfl, hx⟩
set_option maxRecDepth 20000 in
theorem op_cells {sp : Nat → Bool} {m : Nat} {cs : List Value} {y : DataW H × List MemPlace} (hs : ∀ b, sp b = true) (h : DataW.trod enc Try.prog W 0 sp true m 55 cs = some y) (hl7 : cs.length = 7) :
    ∃ x : OpP, cs = x.cs ∧ x.ok W ∧ ∃ x0 x1 x2 y0 y1 y2 y3 y4, y.1 = .agg [x0, x1, x2] ∧ x2 = .agg [y0, y1, y2, y3, y4] ∧ (y4 = .nil ∧ x.pt.zs = [] ∨ ∃ spare, y4 = .slice (lits .u8 x.pt.zs) spare) := by
  obtain ⟨xs, n, _, hd, hl, hlen, hel⟩ := DataW.trod_struct Try.underlying55 h
  match cs, hl7, xs, hlen with
  | [c0, c1, c2, c3, c4, c5, c6], _, [x0, x1, x2], _ =>
    have f0 := hel 0
    have f1 := hel 1
    have f2 := hel 2
    simp [cells_int, Value.cells] at f0
    simp [cells_int, Value.cells] at f1
    simp [cells_dg, cells_int, Value.cells] at f2
    obtain ⟨k, rfl, bk⟩ := int_cell f0 rfl
    obtain ⟨i, rfl, bi⟩ := int_cell f1 rfl
    obtain ⟨si, di, s, d, pt, e3, o1, o2, o3, o4, o5, y0, y1, y2, y3, y4, hy, hz⟩ := dg_cells hs f2 rfl
    simp only [List.cons.injEq, and_true] at e3
    obtain ⟨rfl, rfl, rfl, rfl, rfl⟩ := e3
    exact ⟨⟨k, i, si, di, s, d, pt⟩, rfl, ⟨bk, bi, o1, o2, o3, o4, o5⟩, x0.1, x1.1, x2.1, y0, y1, y2, y3, y4, by rw [hd]; rfl, hy, hz⟩
def OpD (y : DataW H) (q : OpP) : Prop := ∃ x0 x1 x2 y0 y1 y2 y3 y4, y = .agg [x0, x1, x2] ∧ x2 = .agg [y0, y1, y2, y3, y4] ∧ (y4 = .nil ∧ q.pt.zs = [] ∨ ∃ spare, y4 = .slice (lits .u8 q.pt.zs) spare)
set_option maxRecDepth 20000 in
theorem open_ops {base : Nat} {sp : Nat → Bool} {v : Value} {d : DataW H} {p : List MemPlace} (hs : ∀ b, sp b = true) (hv : Value.okWide Try.prog W .any base 29 v) (h : DataW.Trod enc Try.prog W 0 sp true 29 v d p) :
    ∃ (xs : List OpP) (a : Option Addr) (c : Nat), v = .slice a xs.length c ∧ OpsP W a xs ∧ (d = .nil ∧ xs = [] ∨ ∃ elems spare, d = .slice elems spare ∧ elems.length = xs.length ∧ ∀ i, i < xs.length → ∃ y, y ∈ elems ∧ OpD y (xs.getD i OpP.nil)) := by
  obtain ⟨a, len, cap, rfl⟩ := okWide_slice Try.underlying29 hv
  obtain ⟨fuel, hf⟩ := h
  rcases open_slice Try.underlying29 hf with ⟨hcs, hx⟩ | ⟨x, l, c, m, n, D, Pl, hcs, _, hl, hm, hmm, hx, hel⟩
  · simp [Value.cells] at hcs
    obtain ⟨rfl, rfl, rfl⟩ := hcs
    simp only [Prod.mk.injEq] at hx
    exact ⟨[], none, 0, rfl, fun j hj => by simp at hj, Or.inl ⟨hx.1, rfl⟩⟩
  · simp [Value.cells] at hcs
    obtain ⟨rfl, rfl, rfl⟩ := hcs
    rw [if_pos (hs _)] at hmm
    simp only [Prod.mk.injEq] at hx
    rw [cells_op] at hel
    have each : ∀ i, i < len → ∃ q : OpP, (∀ j u, q.cs[j]? = some u → W.cell? ((x.add (i * 7)).add j) = some u) ∧ q.ok W ∧ OpD (D i) q := fun i hi => by
      obtain ⟨cs', h1, h2⟩ := hel i (by omega)
      obtain ⟨_, h3, h4⟩ := World.cells?_some h1
      obtain ⟨q, e1, e2, e3⟩ := op_cells hs h2 h3
      refine ⟨q, fun j u hj => ?_, e2, e3⟩
      have hj3 : j < 7 := by have := (List.getElem?_eq_some_iff.1 hj).1; simpa [OpP.cs] using this
      rw [h4 j hj3, e1, hj]
    have inh : Inhabited OpP := ⟨OpP.nil⟩
    obtain ⟨f, hff⟩ := choose_lt each
    have hlen : ((List.range len).map f).length = len := by simp
    have hget : ∀ i, i < len → ((List.range len).map f).getD i OpP.nil = f i := fun i hi => by simp [List.getD_eq_getElem?_getD, hi]
    refine ⟨(List.range len).map f, some x, cap, by rw [hlen], fun i hi => ?_, Or.inr ⟨_, _, hx.1, by simp, fun i hi => ?_⟩⟩
    · rw [hlen] at hi
      obtain ⟨b, off, spot⟩ := x
      have hspot : spot = none := by
        have := (hff 0 (by omega)).1 0 _ rfl
        simpa [Addr.add] using World.cell?_spot this
      subst hspot
      rw [hget i hi]
      have ad : ∀ j, ((⟨b, off, none⟩ : Addr).add (i * 7)).add j = ⟨b, off + i * 7 + j, none⟩ := fun j => by
        rw [show (⟨b, off, none⟩ : Addr).add (i * 7) = ⟨b, off + i * 7, none⟩ from by unfold Addr.add; split <;> simp_all]
        unfold Addr.add; split <;> simp_all
      refine ⟨b, off, rfl, fun t u ht => ?_, (hff i hi).2.1⟩
      have := (hff i hi).1 t u ht
      rw [ad] at this
      exact this
    · rw [hlen] at hi
      refine ⟨D i, List.mem_map.2 ⟨i, by simpa using hi, rfl⟩, ?_⟩
      rw [hget i hi]
      exact (hff i hi).2.2
theorem weightsAll_mem {P : Program} {e : TypeId} : ∀ {l : List (DataW H)} {d : DataW H}, d ∈ l → ∀ n, n ∈ d.weights P e → n ∈ DataW.weightsAll P e l
  | d' :: r, d, hd, n, hn => by
    simp only [DataW.weightsAll, List.mem_append]
    rcases List.mem_cons.1 hd with rfl | h
    · exact Or.inl hn
    · exact Or.inr (weightsAll_mem h n hn)
theorem ops_sized {ts : List TypeId} {ds : List (DataW H)} {d : DataW H} {xs : List OpP} (hsz : (DataW.weightsEach Try.prog ts ds).all (· ≤ reachBytes) = true) {j : Nat} (ht : ts[j]? = some 29) (hd : ds[j]? = some d)
    (h : d = .nil ∧ xs = [] ∨ ∃ elems spare, d = .slice elems spare ∧ elems.length = xs.length ∧ ∀ i, i < xs.length → ∃ y, y ∈ elems ∧ OpD y (xs.getD i OpP.nil)) :
    xs.length * 64 ≤ 140737488351232 ∧ ∀ i, i < xs.length → (xs.getD i OpP.nil).pt.zs.length ≤ 140737488351232 := by
  rcases h with ⟨_, h⟩ | ⟨elems, spare, rfl, hl, he⟩
  · subst h; simp
  · have h1 := sized_slice hsz ht hd Try.underlying29
    rw [bytes_op, reach_is] at h1
    refine ⟨by rw [← hl]; omega, fun i hi => ?_⟩
    obtain ⟨y, hy, x0, x1, x2, y0, y1, y2, y3, y4, rfl, rfl, hzz⟩ := he i hi
    generalize (xs.getD i OpP.nil).pt.zs = zt at hzz ⊢
    have key : ∀ (ws : List Int) (sp : List (DataW H)), (((lits .u8 ws : List (DataW H)).length + sp.length) * Try.prog.bytesOf 5) ∈ DataW.weights Try.prog 55 (.agg [x0, x1, .agg [y0, y1, y2, y3, y4]]) → ws.length ≤ 140737488351232 := fun ws sp hm => by
      have h2 : ((lits .u8 ws : List (DataW H)).length + sp.length) * Try.prog.bytesOf 5 ≤ reachBytes := by
        refine of_decide_eq_true (List.all_eq_true.1 hsz _ (DataW.weights_mem_each ht hd _ ?_))
        simp only [DataW.weights, Try.underlying29, List.mem_cons, List.mem_append]
        exact Or.inr (Or.inl (weightsAll_mem hy _ hm))
      rw [bytes_u8, reach_is] at h2
      simp [lits] at h2
      omega
    rcases hzz with ⟨_, e⟩ | ⟨sp, rfl⟩
    · rw [e]; simp
    · exact key zt sp (by simp [DataW.weights, DataW.weightsEach, Try.underlying55, Try.underlying53, Try.underlying51])
/-- a list of draws that was read. -/
theorem words_cell {sp : Nat → Bool} {m : Nat} {cs : List Value} {c : Value} {y : DataW H × List MemPlace} (hs : ∀ b, sp b = true) (h : DataW.trod enc Try.prog W 0 sp true m 28 cs = some y) (hc : cs = [c]) :
    ∃ a cp zs, c = .slice a zs.length cp ∧ PartU W a cp zs ∧ (y.1 = .nil ∧ zs = [] ∨ ∃ spare, y.1 = .slice (lits .u32 zs) spare) := by
  subst hc
  rcases open_ints Try.underlying28 Try.underlying50 cells_u32 h with ⟨hcs, hx⟩ | ⟨x, l, c', zs, hcs, _, hl, hm, hz, hx, hcell, hwz⟩
  · simp at hcs
    subst hcs hx
    exact ⟨none, 0, [], rfl, PartU.nil W, Or.inl ⟨rfl, rfl⟩⟩
  · simp at hcs
    subst hcs hx
    rw [if_pos (hs _)] at hz
    have hlen : (zs.take l).length = l := by simp; omega
    refine ⟨some x, c', zs.take l, by simp [hlen], ⟨fun z hz' => ?_, by simp only [hlen]; omega, ?_⟩, Or.inr ⟨_, rfl⟩⟩
    · exact bounds_u32 (hwz z (List.mem_of_mem_take hz'))
    · by_cases h0 : l = 0
      · left; simp [h0]
      · right
        obtain ⟨b, off, spot⟩ := x
        have hc := hcell 0 (by omega)
        have hspot : spot = none := by simpa [Addr.add] using World.cell?_spot hc
        subst hspot
        refine ⟨b, off, rfl, fun j hj => ?_⟩
        have hj' : j < l := by simpa [hlen] using hj
        have := hcell j (by omega)
        rw [show (⟨b, off, none⟩ : Addr).add j = ⟨b, off + j, none⟩ from by unfold Addr.add; split <;> simp_all] at this
        rw [List.getD_eq_getElem?_getD, List.getElem?_take, if_pos hj', ← List.getD_eq_getElem?_getD]
        simpa using this
set_option maxRecDepth 20000 in
theorem open_words {base : Nat} {sp : Nat → Bool} {v : Value} {d : DataW H} {p : List MemPlace} (hs : ∀ b, sp b = true) (hv : Value.okWide Try.prog W .any base 28 v) (h : DataW.Trod enc Try.prog W 0 sp true 28 v d p) :
    ∃ a cp zs, v = .slice a zs.length cp ∧ PartU W a cp zs ∧ (d = .nil ∧ zs = [] ∨ ∃ spare, d = .slice (lits .u32 zs) spare) := by
  obtain ⟨a, len, cap, rfl⟩ := okWide_slice Try.underlying28 hv
  obtain ⟨fuel, hf⟩ := h
  obtain ⟨a', cp, zs, h1, h2, h3⟩ := words_cell (y := (d, p)) hs hf rfl
  exact ⟨a', cp, zs, h1, h2, h3⟩
theorem words_sized {ts : List TypeId} {ds : List (DataW H)} {d : DataW H} {zs : List Int} (hsz : (DataW.weightsEach Try.prog ts ds).all (· ≤ reachBytes) = true) {j : Nat} (ht : ts[j]? = some 28) (hd : ds[j]? = some d)
    (h : d = .nil ∧ zs = [] ∨ ∃ spare, d = .slice (lits .u32 zs) spare) : zs.length * 4 ≤ 140737488355328 := by
  rcases h with ⟨_, h⟩ | ⟨spare, rfl⟩
  · simp [h]
  · have := sized_slice hsz ht hd Try.underlying28
    rw [bytes_u32, reach_is] at this
    simp [lits] at this
    omega
end
end Go.Proofs.Ythipdchdbdmmnaa
