/-
  How scripts that came in are opened; that they read as before behind a call that wrote nothing that was there.
-/
import Derived.Test.YtndebeoiibadoaaRPl
import Derived.ProofKit
import Derived.OpenShut
import Derived.SizedLaws
import Derived.Carry
import Derived.ChangeOld
import Derived.Deep.Slices
namespace Go.Proofs.Ytndebeoiibadoaa
open Go.ChangeShapes Go.WideShapes Go.ChangeAt Go.RowKit Go.Deep
set_option linter.all false

theorem own : ownKnob Try.prog.godebug = none := by kernel_rfl
theorem laidOut : laidOutB Try.prog = true := by kernel_rfl
theorem reach_is : reachBytes = 140737488351232 := rfl
theorem cells_int : Try.prog.cellsOf 3 = 1 := by kernel_rfl
theorem bytes_int : Try.prog.bytesOf 3 = 8 := by kernel_rfl
theorem cells_op : Try.prog.cellsOf 31 = 4 := by kernel_rfl
theorem bytes_op : Try.prog.bytesOf 31 = 24 := by kernel_rfl
/-- a call of a script. -/
structure OpW where
  k : Int
  a : Int
  m : Int
  r : Int
def OpW.nil : OpW := ⟨0, 0, 0, 0⟩
def OpW.ok (x : OpW) : Prop := (-9223372036854775808 ≤ x.k ∧ x.k ≤ 9223372036854775807) ∧ U32 x.a ∧ U32 x.m ∧ U32 x.r
def OpW.val (x : OpW) : Value := .agg #[.int .i64 x.k, .int .u32 x.a, .int .u32 x.m, .int .u32 x.r]
def OpsAt (w : World) (a : Option Addr) (xs : List OpW) : Prop :=
  ∀ j, j < xs.length → ∃ b o, a = some ⟨b, o, none⟩ ∧ w.cell? ⟨b, o + j * 4, none⟩ = some (.int .i64 (xs.getD j OpW.nil).k) ∧ w.cell? ⟨b, o + j * 4 + 1, none⟩ = some (.int .u32 (xs.getD j OpW.nil).a) ∧ w.cell? ⟨b, o + j * 4 + 2, none⟩ = some (.int .u32 (xs.getD j OpW.nil).m) ∧ w.cell? ⟨b, o + j * 4 + 3, none⟩ = some (.int .u32 (xs.getD j OpW.nil).r) ∧ (xs.getD j OpW.nil).ok
section
variable {H : Type} {enc : TypeId × Value → H} {W W' : World}
theorem trodAll_below : ∀ {ts : List TypeId} {vs : List Value} {ds : List (DataW H)} {ps : List MemPlace}, (∀ t, t ∈ ts → Try.prog.readableRec t = true ∧ t < Try.prog.types.size) →
    DataW.TrodAll enc Try.prog W 0 (fun _ => true) true ts vs ds ps → Below W.heap.size W W' → (∀ x, x ∈ ps → x.block < W.heap.size) →
    DataW.TrodAll enc Try.prog W' 0 (fun b => decide (b < W.heap.size)) true ts vs ds ps
  | [], vs, ds, ps, _, h, _, _ => by
    cases vs <;> cases ds <;> simp [DataW.TrodAll] at h ⊢
    exact h
  | t :: ts, vs, ds, ps, hr, h, hb, hlt => by
    obtain ⟨v, vs', d, ds', p, q, rfl, rfl, rfl, h0, h1⟩ := trodAll_cons h
    exact trodAll_cons_mk (Below.trod laidOut (hr t (by simp)).1 (hr t (by simp)).2 h0 hb (fun x hx => hlt x (by simp [hx])))
      (trodAll_below (fun u hu => hr u (by simp [hu])) h1 hb (fun x hx => hlt x (by simp [hx])))
theorem int_cell {sp : Nat → Bool} {m : Nat} {cs : List Value} {c : Value} {y : DataW H × List MemPlace} (h : DataW.trod enc Try.prog W 0 sp true m 3 cs = some y) (hc : cs = [c]) :
    ∃ n : Int, c = .int .i64 n ∧ -9223372036854775808 ≤ n ∧ n ≤ 9223372036854775807 := by
  subst hc
  obtain ⟨n, e1, e2, hw⟩ := DataW.trod_int Try.underlying3 h
  simp at e1
  exact ⟨n, e1, bounds_i64 hw⟩
theorem u32_cell {sp : Nat → Bool} {m : Nat} {cs : List Value} {c : Value} {y : DataW H × List MemPlace} (h : DataW.trod enc Try.prog W 0 sp true m 29 cs = some y) (hc : cs = [c]) :
    ∃ n : Int, c = .int .u32 n ∧ U32 n := by
  subst hc
  obtain ⟨n, e1, e2, hw⟩ := DataW.trod_int Try.underlying29 h
  simp at e1
  exact ⟨n, e1, bounds_u32 hw⟩
theorem op_cells {sp : Nat → Bool} {m : Nat} {cs : List Value} {y : DataW H × List MemPlace} (h : DataW.trod enc Try.prog W 0 sp true m 31 cs = some y) (hl3 : cs.length = 4) :
    ∃ x : OpW, cs = [.int .i64 x.k, .int .u32 x.a, .int .u32 x.m, .int .u32 x.r] ∧ x.ok := by
  obtain ⟨xs, n, _, hd, hl, hlen, hel⟩ := DataW.trod_struct Try.underlying31 h
  match cs, hl3, xs, hlen with
  | [c0, c1, c2, c3], _, [x0, x1, x2, x3], _ =>
    have f0 := hel 0
    have f1 := hel 1
    have f2 := hel 2
    have f3 := hel 3
    simp [cells_int, cellsU32, Value.cells] at f0
    simp [cells_int, cellsU32, Value.cells] at f1
    simp [cells_int, cellsU32, Value.cells] at f2
    simp [cells_int, cellsU32, Value.cells] at f3
    obtain ⟨k, rfl, bk⟩ := int_cell f0 rfl
    obtain ⟨i, rfl, bi⟩ := u32_cell f1 rfl
    obtain ⟨g, rfl, bg⟩ := u32_cell f2 rfl
    obtain ⟨r, rfl, br⟩ := u32_cell f3 rfl
    exact ⟨⟨k, i, g, r⟩, rfl, bk, bi, bg, br⟩
set_option maxRecDepth 20000 in
theorem open_ops {base : Nat} {sp : Nat → Bool} {v : Value} {d : DataW H} {p : List MemPlace} (hs : ∀ b, sp b = true) (hv : Value.okWide Try.prog W .any base 23 v) (h : DataW.Trod enc Try.prog W 0 sp true 23 v d p) :
    ∃ (xs : List OpW) (a : Option Addr) (c : Nat), v = .slice a xs.length c ∧ OpsAt W a xs ∧ (d = .nil ∧ xs = [] ∨ ∃ elems spare, d = .slice elems spare ∧ elems.length = xs.length) := by
  obtain ⟨a, len, cap, rfl⟩ := okWide_slice Try.underlying23 hv
  obtain ⟨fuel, hf⟩ := h
  rcases open_slice Try.underlying23 hf with ⟨hcs, hx⟩ | ⟨x, l, c, m, n, D, Pl, hcs, _, hl, hm, hmm, hx, hel⟩
  · simp [Value.cells] at hcs
    obtain ⟨rfl, rfl, rfl⟩ := hcs
    simp only [Prod.mk.injEq] at hx
    exact ⟨[], none, 0, rfl, fun j hj => by simp at hj, Or.inl ⟨hx.1, rfl⟩⟩
  · simp [Value.cells] at hcs
    obtain ⟨rfl, rfl, rfl⟩ := hcs
    rw [if_pos (hs _)] at hmm
    simp only [Prod.mk.injEq] at hx
    rw [cells_op] at hel
    have each : ∀ i, i < len → ∃ q : OpW, (∀ j u, [Value.int .i64 q.k, .int .u32 q.a, .int .u32 q.m, .int .u32 q.r][j]? = some u → W.cell? ((x.add (i * 4)).add j) = some u) ∧ q.ok := fun i hi => by
      obtain ⟨cs', h1, h2⟩ := hel i (by omega)
      obtain ⟨_, h3, h4⟩ := World.cells?_some h1
      obtain ⟨q, e1, e2⟩ := op_cells h2 h3
      refine ⟨q, fun j u hj => ?_, e2⟩
      have hj3 : j < 4 := by have := (List.getElem?_eq_some_iff.1 hj).1; simpa using this
      rw [h4 j hj3, e1, hj]
    have inh : Inhabited OpW := ⟨OpW.nil⟩
    obtain ⟨f, hff⟩ := choose_lt each
    have hlen : ((List.range len).map f).length = len := by simp
    have hget : ∀ i, i < len → ((List.range len).map f).getD i OpW.nil = f i := fun i hi => by simp [List.getD_eq_getElem?_getD, hi]
    refine ⟨(List.range len).map f, some x, cap, by rw [hlen], fun i hi => ?_, Or.inr ⟨_, _, hx.1, by simp⟩⟩
    rw [hlen] at hi
    obtain ⟨b, off, spot⟩ := x
    have hspot : spot = none := by
      have := (hff 0 (by omega)).1 0 _ rfl
      simpa [Addr.add] using World.cell?_spot this
    subst hspot
    rw [hget i hi]
    have ad : ∀ j, ((⟨b, off, none⟩ : Addr).add (i * 4)).add j = ⟨b, off + i * 4 + j, none⟩ := fun j => by
      rw [show (⟨b, off, none⟩ : Addr).add (i * 4) = ⟨b, off + i * 4, none⟩ from by unfold Addr.add; split <;> simp_all]
      unfold Addr.add; split <;> simp_all
    have g0 := (hff i hi).1 0 _ rfl
    have g1 := (hff i hi).1 1 _ rfl
    have g2 := (hff i hi).1 2 _ rfl
    have g3 := (hff i hi).1 3 _ rfl
    rw [ad] at g0 g1 g2 g3
    exact ⟨b, off, rfl, g0, g1, g2, g3, (hff i hi).2⟩
theorem ops_sized {ts : List TypeId} {ds : List (DataW H)} {d : DataW H} {xs : List OpW} (hsz : (DataW.weightsEach Try.prog ts ds).all (· ≤ reachBytes) = true) {j : Nat} (ht : ts[j]? = some 23) (hd : ds[j]? = some d)
    (h : d = .nil ∧ xs = [] ∨ ∃ elems spare, d = .slice elems spare ∧ elems.length = xs.length) : xs.length * 24 ≤ 140737488351232 := by
  rcases h with ⟨_, h⟩ | ⟨elems, spare, rfl, hl⟩
  · subst h; simp
  · have h1 := sized_slice hsz ht hd Try.underlying23
    rw [bytes_op, reach_is] at h1
    rw [← hl]; omega
end
end Go.Proofs.Ytndebeoiibadoaa
