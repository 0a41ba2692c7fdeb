/-
  A script of what is done to a card and its driver, as it came in.
-/
import Derived.Test.YtnjhlndikbkeaaaFOpenA
namespace Go.Proofs.Ytnjhlndikbkeaaa
open Go.ChangeShapes Go.WideShapes Go.ChangeAt Go.RowKit Go.Deep
set_option linter.all false
theorem cells_send : Try.prog.cellsOf 45 = 8 := by kernel_rfl
theorem cells_op : Try.prog.cellsOf 47 = 11 := by kernel_rfl
theorem bytes_op : Try.prog.bytesOf 47 = 80 := by kernel_rfl
/-- a call of a script. -/
structure OpN where
  k : Int
  i : Int
  pt : Part
  d : Mac
  sk : Int
  sp : Part
def OpN.nil : OpN := ⟨0, 0, Part.nil, ⟨0, 0, 0, 0, 0, 0⟩, 0, Part.nil⟩
def OpN.ok (w : World) (x : OpN) : Prop := (-9223372036854775808 ≤ x.k ∧ x.k ≤ 9223372036854775807) ∧ (-9223372036854775808 ≤ x.i ∧ x.i ≤ 9223372036854775807) ∧ x.pt.ok w ∧ x.d.ok ∧ (-9223372036854775808 ≤ x.sk ∧ x.sk ≤ 9223372036854775807) ∧ x.sp.ok w
def OpN.cs (x : OpN) : List Value := [.int .i64 x.k, .int .i64 x.i, x.pt.val, .int .u8 x.d.b0, .int .u8 x.d.b1, .int .u8 x.d.b2, .int .u8 x.d.b3, .int .u8 x.d.b4, .int .u8 x.d.b5, .int .i64 x.sk, x.sp.val]
def OpsN (w : World) (a : Option Addr) (xs : List OpN) : Prop :=
  ∀ j, j < xs.length → ∃ b o, a = some ⟨b, o, none⟩ ∧ (∀ t u, (xs.getD j OpN.nil).cs[t]? = some u → w.cell? ⟨b, o + j * 11 + t, none⟩ = some u) ∧ (xs.getD j OpN.nil).ok w
section
variable {H : Type} {enc : TypeId × Value → H} {W W' : World}
set_option maxRecDepth 20000 in
theorem send_cells {sp : Nat → Bool} {m : Nat} {cs : List Value} {y : DataW H × List MemPlace} (hs : ∀ b, sp b = true) (h : DataW.trod enc Try.prog W 0 sp true m 45 cs = some y) (hl8 : cs.length = 8) :
    ∃ (d : Mac) (k : Int) (pt : Part), cs = [.int .u8 d.b0, .int .u8 d.b1, .int .u8 d.b2, .int .u8 d.b3, .int .u8 d.b4, .int .u8 d.b5, .int .i64 k, pt.val] ∧ d.ok ∧ (-9223372036854775808 ≤ k ∧ k ≤ 9223372036854775807) ∧ pt.ok W ∧ ∃ x0 x1 x2, y.1 = .agg [x0, x1, x2] ∧ (x2 = .nil ∧ pt.zs = [] ∨ ∃ spare, x2 = .slice (lits .u8 pt.zs) spare) := by
  obtain ⟨xs, n, _, hd, hl, hlen, hel⟩ := DataW.trod_struct Try.underlying45 h
  match cs, hl8, xs, hlen with
  | [c0, c1, c2, c3, c4, c5, c6, c7], _, [x0, x1, x2], _ =>
    have f0 := hel 0
    have f1 := hel 1
    have f2 := hel 2
    simp [cellsMac, Value.cells] at f0
    simp [cellsMac, cells_int, Value.cells] at f1
    simp [cells_bytes, cellsMac, cells_int, Value.cells] at f2
    obtain ⟨m0, e0, ok0⟩ := mac_cells f0
    obtain ⟨k, rfl, bk⟩ := int_cell f1 rfl
    obtain ⟨pt, rfl, okp, hx⟩ := bytes_cell hs f2 rfl
    simp only [List.cons.injEq, and_true] at e0
    obtain ⟨rfl, rfl, rfl, rfl, rfl, rfl⟩ := e0
    exact ⟨m0, k, pt, rfl, ok0, bk, okp, x0.1, x1.1, x2.1, by rw [hd]; rfl, hx⟩
set_option maxRecDepth 20000 in
theorem op_cells {sp : Nat → Bool} {m : Nat} {cs : List Value} {y : DataW H × List MemPlace} (hs : ∀ b, sp b = true) (h : DataW.trod enc Try.prog W 0 sp true m 47 cs = some y) (hl11 : cs.length = 11) :
    ∃ x : OpN, cs = x.cs ∧ x.ok W ∧ ∃ x0 x1 x2 x3 y0 y1 y2, y.1 = .agg [x0, x1, x2, x3] ∧ (x2 = .nil ∧ x.pt.zs = [] ∨ ∃ spare, x2 = .slice (lits .u8 x.pt.zs) spare) ∧ x3 = .agg [y0, y1, y2] ∧ (y2 = .nil ∧ x.sp.zs = [] ∨ ∃ spare, y2 = .slice (lits .u8 x.sp.zs) spare) := by
  obtain ⟨xs, n, _, hd, hl, hlen, hel⟩ := DataW.trod_struct Try.underlying47 h
  match cs, hl11, xs, hlen with
  | [c0, c1, c2, c3, c4, c5, c6, c7, c8, c9, c10], _, [x0, x1, x2, x3], _ =>
    have f0 := hel 0
    have f1 := hel 1
    have f2 := hel 2
    have f3 := hel 3
    simp [cells_int, Value.cells] at f0
    simp [cells_int, Value.cells] at f1
    simp [cells_bytes, cells_int, Value.cells] at f2
    simp [cells_send, cells_bytes, cells_int, Value.cells] at f3
    obtain ⟨k, rfl, bk⟩ := int_cell f0 rfl
    obtain ⟨i, rfl, bi⟩ := int_cell f1 rfl
    obtain ⟨pt, rfl, okp, hx⟩ := bytes_cell hs f2 rfl
    obtain ⟨d, sk, sp', e3, okd, bsk, oks, y0, y1, y2, hy, hz⟩ := send_cells hs f3 rfl
    simp only [List.cons.injEq, and_true] at e3
    obtain ⟨rfl, rfl, rfl, rfl, rfl, rfl, rfl, rfl⟩ := e3
    exact ⟨⟨k, i, pt, d, sk, sp'⟩, rfl, ⟨bk, bi, okp, okd, bsk, oks⟩, x0.1, x1.1, x2.1, x3.1, y0, y1, y2, by rw [hd]; rfl, hx, hy, hz⟩
def OpD (y : DataW H) (q : OpN) : Prop := ∃ x0 x1 x2 x3 y0 y1 y2, y = .agg [x0, x1, x2, x3] ∧ (x2 = .nil ∧ q.pt.zs = [] ∨ ∃ spare, x2 = .slice (lits .u8 q.pt.zs) spare) ∧ x3 = .agg [y0, y1, y2] ∧ (y2 = .nil ∧ q.sp.zs = [] ∨ ∃ spare, y2 = .slice (lits .u8 q.sp.zs) spare)
set_option maxRecDepth 20000 in
theorem open_ops {base : Nat} {sp : Nat → Bool} {v : Value} {d : DataW H} {p : List MemPlace} (hs : ∀ b, sp b = true) (hv : Value.okWide Try.prog W .any base 25 v) (h : DataW.Trod enc Try.prog W 0 sp true 25 v d p) :
    ∃ (xs : List OpN) (a : Option Addr) (c : Nat), v = .slice a xs.length c ∧ OpsN W a xs ∧ (d = .nil ∧ xs = [] ∨ ∃ elems spare, d = .slice elems spare ∧ elems.length = xs.length ∧ ∀ i, i < xs.length → ∃ y, y ∈ elems ∧ OpD y (xs.getD i OpN.nil)) := by
  obtain ⟨a, len, cap, rfl⟩ := okWide_slice Try.underlying25 hv
  obtain ⟨fuel, hf⟩ := h
  rcases open_slice Try.underlying25 hf with ⟨hcs, hx⟩ | ⟨x, l, c, m, n, D, Pl, hcs, _, hl, hm, hmm, hx, hel⟩
  · simp [Value.cells] at hcs
    obtain ⟨rfl, rfl, rfl⟩ := hcs
    simp only [Prod.mk.injEq] at hx
    exact ⟨[], none, 0, rfl, fun j hj => by simp at hj, Or.inl ⟨hx.1, rfl⟩⟩
  · simp [Value.cells] at hcs
    obtain ⟨rfl, rfl, rfl⟩ := hcs
    rw [if_pos (hs _)] at hmm
    simp only [Prod.mk.injEq] at hx
    rw [cells_op] at hel
    have each : ∀ i, i < len → ∃ q : OpN, (∀ j u, q.cs[j]? = some u → W.cell? ((x.add (i * 11)).add j) = some u) ∧ q.ok W ∧ OpD (D i) q := fun i hi => by
      obtain ⟨cs', h1, h2⟩ := hel i (by omega)
      obtain ⟨_, h3, h4⟩ := World.cells?_some h1
      obtain ⟨q, e1, e2, e3⟩ := op_cells hs h2 h3
      refine ⟨q, fun j u hj => ?_, e2, e3⟩
      have hj3 : j < 11 := by have := (List.getElem?_eq_some_iff.1 hj).1; simpa [OpN.cs] using this
      rw [h4 j hj3, e1, hj]
    have inh : Inhabited OpN := ⟨OpN.nil⟩
    obtain ⟨f, hff⟩ := choose_lt each
    have hlen : ((List.range len).map f).length = len := by simp
    have hget : ∀ i, i < len → ((List.range len).map f).getD i OpN.nil = f i := fun i hi => by simp [List.getD_eq_getElem?_getD, hi]
    refine ⟨(List.range len).map f, some x, cap, by rw [hlen], fun i hi => ?_, Or.inr ⟨_, _, hx.1, by simp, fun i hi => ?_⟩⟩
    · rw [hlen] at hi
      obtain ⟨b, off, spot⟩ := x
      have hspot : spot = none := by
        have := (hff 0 (by omega)).1 0 _ rfl
        simpa [Addr.add] using World.cell?_spot this
      subst hspot
      rw [hget i hi]
      have ad : ∀ j, ((⟨b, off, none⟩ : Addr).add (i * 11)).add j = ⟨b, off + i * 11 + j, none⟩ := fun j => by
        rw [show (⟨b, off, none⟩ : Addr).add (i * 11) = ⟨b, off + i * 11, none⟩ from by unfold Addr.add; split <;> simp_all]
        unfold Addr.add; split <;> simp_all
      refine ⟨b, off, rfl, fun t u ht => ?_, (hff i hi).2.1⟩
      have := (hff i hi).1 t u ht
      rw [ad] at this
      exact this
    · rw [hlen] at hi
      refine ⟨D i, List.mem_map.2 ⟨i, by simpa using hi, rfl⟩, ?_⟩
      rw [hget i hi]
      exact (hff i hi).2.2
theorem weightsAll_mem {P : Program} {e : TypeId} : ∀ {l : List (DataW H)} {d : DataW H}, d ∈ l → ∀ n, n ∈ d.weights P e → n ∈ DataW.weightsAll P e l
  | d' :: r, d, hd, n, hn => by
    simp only [DataW.weightsAll, List.mem_append]
    rcases List.mem_cons.1 hd with rfl | h
    · exact Or.inl hn
    · exact Or.inr (weightsAll_mem h n hn)
theorem ops_sized {ts : List TypeId} {ds : List (DataW H)} {d : DataW H} {xs : List OpN} (hsz : (DataW.weightsEach Try.prog ts ds).all (· ≤ reachBytes) = true) {j : Nat} (ht : ts[j]? = some 25) (hd : ds[j]? = some d)
    (h : d = .nil ∧ xs = [] ∨ ∃ elems spare, d = .slice elems spare ∧ elems.length = xs.length ∧ ∀ i, i < xs.length → ∃ y, y ∈ elems ∧ OpD y (xs.getD i OpN.nil)) :
    xs.length * 80 ≤ 140737488351232 ∧ ∀ i, i < xs.length → (xs.getD i OpN.nil).pt.zs.length ≤ 140737488351232 ∧ (xs.getD i OpN.nil).sp.zs.length ≤ 140737488351232 := by
  rcases h with ⟨_, h⟩ | ⟨elems, spare, rfl, hl, he⟩
  · subst h; simp
  · have h1 := sized_slice hsz ht hd Try.underlying25
    rw [bytes_op, reach_is] at h1
    refine ⟨by rw [← hl]; omega, fun i hi => ?_⟩
    obtain ⟨y, hy, x0, x1, x2, x3, y0, y1, y2, rfl, hyy, rfl, hzz⟩ := he i hi
    generalize (xs.getD i OpN.nil).pt.zs = zs at hyy ⊢
    generalize (xs.getD i OpN.nil).sp.zs = zt at hzz ⊢
    have key : ∀ (ws : List Int) (sp : List (DataW H)), (((lits .u8 ws : List (DataW H)).length + sp.length) * Try.prog.bytesOf 5) ∈ DataW.weights Try.prog 47 (.agg [x0, x1, x2, .agg [y0, y1, y2]]) → ws.length ≤ 140737488351232 := fun ws sp hm => by
      have h2 : ((lits .u8 ws : List (DataW H)).length + sp.length) * Try.prog.bytesOf 5 ≤ reachBytes := by
        refine of_decide_eq_true (List.all_eq_true.1 hsz _ (DataW.weights_mem_each ht hd _ ?_))
        simp only [DataW.weights, Try.underlying25, List.mem_cons, List.mem_append]
        exact Or.inr (Or.inl (weightsAll_mem hy _ hm))
      rw [bytes_u8, reach_is] at h2
      simp [lits] at h2
      omega
    constructor
    · rcases hyy with ⟨_, e⟩ | ⟨sp, rfl⟩
      · rw [e]; simp
      · exact key zs sp (by simp [DataW.weights, DataW.weightsEach, Try.underlying47, Try.underlying43])
    · rcases hzz with ⟨_, e⟩ | ⟨sp, rfl⟩
      · rw [e]; simp
      · exact key zt sp (by simp [DataW.weights, DataW.weightsEach, Try.underlying47, Try.underlying45, Try.underlying43])
end
end Go.Proofs.Ytnjhlndikbkeaaa
