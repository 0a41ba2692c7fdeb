/-
  How scripts and lists of numbers that came in are opened; that they read as before behind a call that wrote nothing that was there.
-/
import Derived.Test.YthgcjocjkeieaaaWMap
import Derived.ProofKit
import Derived.OpenShut
import Derived.SizedLaws
import Derived.Carry
import Derived.ChangeOld
import Derived.Deep.Slices
namespace Go.Proofs.Ythgcjocjkeieaaa
open Go.ChangeShapes Go.WideShapes Go.ChangeAt Go.RowKit Go.Deep
set_option linter.all false

theorem own : ownKnob Try.prog.godebug = none := by kernel_rfl
theorem laidOut : laidOutB Try.prog = true := by kernel_rfl
theorem reach_is : reachBytes = 140737488351232 := rfl
theorem cells_int : Try.prog.cellsOf 3 = 1 := by kernel_rfl
theorem bytes_int : Try.prog.bytesOf 3 = 8 := by kernel_rfl
theorem cells_op : Try.prog.cellsOf 34 = 3 := by kernel_rfl
theorem bytes_op : Try.prog.bytesOf 34 = 24 := by kernel_rfl
/-- a call of a script. -/
structure OpW where
  k : Int
  a : Int
  g : Int
def OpW.nil : OpW := ⟨0, 0, 0⟩
def OpW.ok (x : OpW) : Prop := fits x.k ∧ fits x.a ∧ fits x.g
def OpsAt (w : World) (a : Option Addr) (xs : List OpW) : Prop :=
  ∀ j, j < xs.length → ∃ b o, a = some ⟨b, o, none⟩ ∧ w.cell? ⟨b, o + j * 3, none⟩ = some (.int .i64 (xs.getD j OpW.nil).k) ∧ w.cell? ⟨b, o + j * 3 + 1, none⟩ = some (.int .i64 (xs.getD j OpW.nil).a) ∧ w.cell? ⟨b, o + j * 3 + 2, none⟩ = some (.int .i64 (xs.getD j OpW.nil).g) ∧ (xs.getD j OpW.nil).ok
/-- numbers that came in. -/
structure PartI (w : World) (a : Option Addr) (c : Nat) (zs : List Int) : Prop where
  fit : ∀ z ∈ zs, fits z
  at_ : ∀ j, j < zs.length → ∃ b o, a = some ⟨b, o, none⟩ ∧ w.cell? ⟨b, o + j, none⟩ = some (.int .i64 (zs.getD j 0))
section
variable {H : Type} {enc : TypeId × Value → H} {W W' : World}
theorem trodAll_below : ∀ {ts : List TypeId} {vs : List Value} {ds : List (DataW H)} {ps : List MemPlace}, (∀ t, t ∈ ts → Try.prog.readableRec t = true ∧ t < Try.prog.types.size) →
    DataW.TrodAll enc Try.prog W 0 (fun _ => true) true ts vs ds ps → Below W.heap.size W W' → (∀ x, x ∈ ps → x.block < W.heap.size) →
    DataW.TrodAll enc Try.prog W' 0 (fun b => decide (b < W.heap.size)) true ts vs ds ps
  | [], vs, ds, ps, _, h, _, _ => by
    cases vs <;> cases ds <;> simp [DataW.TrodAll] at h ⊢
    exact h
  | t :: ts, vs, ds, ps, hr, h, hb, hlt => by
    obtain ⟨v, vs', d, ds', p, q, rfl, rfl, rfl, h0, h1⟩ := trodAll_cons h
    exact trodAll_cons_mk (Below.trod laidOut (hr t (by simp)).1 (hr t (by simp)).2 h0 hb (fun x hx => hlt x (by simp [hx])))
      (trodAll_below (fun u hu => hr u (by simp [hu])) h1 hb (fun x hx => hlt x (by simp [hx])))
theorem int_cell {sp : Nat → Bool} {m : Nat} {cs : List Value} {c : Value} {y : DataW H × List MemPlace} (h : DataW.trod enc Try.prog W 0 sp true m 3 cs = some y) (hc : cs = [c]) :
    ∃ n : Int, c = .int .i64 n ∧ -9223372036854775808 ≤ n ∧ n ≤ 9223372036854775807 := by
  subst hc
  obtain ⟨n, e1, e2, hw⟩ := DataW.trod_int Try.underlying3 h
  simp at e1
  exact ⟨n, e1, bounds_i64 hw⟩
set_option maxRecDepth 20000 in
theorem open_numbers {base : Nat} {sp : Nat → Bool} {v : Value} {d : DataW H} {p : List MemPlace} (hs : ∀ b, sp b = true) (hv : Value.okWide Try.prog W .any base 36 v) (h : DataW.Trod enc Try.prog W 0 sp true 36 v d p) :
    ∃ a cp zs, v = .slice a zs.length cp ∧ PartI W a cp zs ∧ (d = .nil ∧ zs = [] ∨ ∃ spare, d = .slice (lits .i64 zs) spare) := by
  obtain ⟨a, len, cap, rfl⟩ := okWide_slice Try.underlying36 hv
  obtain ⟨fuel, h⟩ := h
  rcases open_ints Try.underlying36 Try.underlying3 cells_int h with ⟨hcs, hx⟩ | ⟨x, l, c', zs, hcs, _, hl, hm, hz, hx, hcell, hwz⟩
  · simp [Value.cells] at hcs
    obtain ⟨rfl, rfl, rfl⟩ := hcs
    simp only [Prod.mk.injEq] at hx
    exact ⟨none, 0, [], rfl, ⟨by simp, by simp⟩, Or.inl ⟨hx.1, rfl⟩⟩
  · simp [Value.cells] at hcs
    obtain ⟨rfl, rfl, rfl⟩ := hcs
    simp only [Prod.mk.injEq] at hx
    rw [if_pos (hs _)] at hz
    have hlen : (zs.take len).length = len := by simp; omega
    refine ⟨some x, cap, zs.take len, by simp [hlen], ⟨fun z hz' => ?_, fun j hj => ?_⟩, Or.inr ⟨_, hx.1⟩⟩
    · have := bounds_i64 (hwz z (List.mem_of_mem_take hz'))
      exact this
    · have hj' : j < len := by simpa [hlen] using hj
      obtain ⟨b, off, spot⟩ := x
      have hc := hcell 0 (by omega)
      have hspot : spot = none := by simpa [Addr.add] using World.cell?_spot hc
      subst hspot
      refine ⟨b, off, rfl, ?_⟩
      have := hcell j (by omega)
      rw [show (⟨b, off, none⟩ : Addr).add j = ⟨b, off + j, none⟩ from by unfold Addr.add; split <;> simp_all] at this
      rw [List.getD_eq_getElem?_getD, List.getElem?_take, if_pos hj', ← List.getD_eq_getElem?_getD]
      simpa using this
theorem numbers_sized {ts : List TypeId} {ds : List (DataW H)} {d : DataW H} {zs : List Int} (hsz : (DataW.weightsEach Try.prog ts ds).all (· ≤ reachBytes) = true) {j : Nat} (ht : ts[j]? = some 36) (hd : ds[j]? = some d)
    (h : d = .nil ∧ zs = [] ∨ ∃ spare, d = .slice (lits .i64 zs) spare) : zs.length * 8 ≤ 140737488351232 := by
  rcases h with ⟨_, h⟩ | ⟨spare, rfl⟩
  · simp [h]
  · have := sized_slice hsz ht hd Try.underlying36
    rw [bytes_int, reach_is] at this
    simp [lits] at this
    omega
theorem op_cells {sp : Nat → Bool} {m : Nat} {cs : List Value} {y : DataW H × List MemPlace} (h : DataW.trod enc Try.prog W 0 sp true m 34 cs = some y) (hl3 : cs.length = 3) :
    ∃ x : OpW, cs = [.int .i64 x.k, .int .i64 x.a, .int .i64 x.g] ∧ x.ok := by
  obtain ⟨xs, n, _, hd, hl, hlen, hel⟩ := DataW.trod_struct Try.underlying34 h
  match cs, hl3, xs, hlen with
  | [c0, c1, c2], _, [x0, x1, x2], _ =>
    have f0 := hel 0
    have f1 := hel 1
    have f2 := hel 2
    simp [cells_int, Value.cells] at f0
    simp [cells_int, Value.cells] at f1
    simp [cells_int, Value.cells] at f2
    obtain ⟨k, rfl, bk⟩ := int_cell f0 rfl
    obtain ⟨i, rfl, bi⟩ := int_cell f1 rfl
    obtain ⟨g, rfl, bg⟩ := int_cell f2 rfl
    exact ⟨⟨k, i, g⟩, rfl, bk, bi, bg⟩
set_option maxRecDepth 20000 in
theorem open_ops {base : Nat} {sp : Nat → Bool} {v : Value} {d : DataW H} {p : List MemPlace} (hs : ∀ b, sp b = true) (hv : Value.okWide Try.prog W .any base 23 v) (h : DataW.Trod enc Try.prog W 0 sp true 23 v d p) :
    ∃ (xs : List OpW) (a : Option Addr) (c : Nat), v = .slice a xs.length c ∧ OpsAt W a xs ∧ (d = .nil ∧ xs = [] ∨ ∃ elems spare, d = .slice elems spare ∧ elems.length = xs.length) := by
  obtain ⟨a, len, cap, rfl⟩ := okWide_slice Try.underlying23 hv
  obtain ⟨fuel, hf⟩ := h
  rcases open_slice Try.underlying23 hf with ⟨hcs, hx⟩ | ⟨x, l, c, m, n, D, Pl, hcs, _, hl, hm, hmm, hx, hel⟩
  · simp [Value.cells] at hcs
    obtain ⟨rfl, rfl, rfl⟩ := hcs
    simp only [Prod.mk.injEq] at hx
    exact ⟨[], none, 0, rfl, fun j hj => by simp at hj, Or.inl ⟨hx.1, rfl⟩⟩
  · simp [Value.cells] at hcs
    obtain ⟨rfl, rfl, rfl⟩ := hcs
    rw [if_pos (hs _)] at hmm
    simp only [Prod.mk.injEq] at hx
    rw [cells_op] at hel
    have each : ∀ i, i < len → ∃ q : OpW, (∀ j u, [Value.int .i64 q.k, .int .i64 q.a, .int .i64 q.g][j]? = some u → W.cell? ((x.add (i * 3)).add j) = some u) ∧ q.ok := fun i hi => by
      obtain ⟨cs', h1, h2⟩ := hel i (by omega)
      obtain ⟨_, h3, h4⟩ := World.cells?_some h1
      obtain ⟨q, e1, e2⟩ := op_cells h2 h3
      refine ⟨q, fun j u hj => ?_, e2⟩
      have hj3 : j < 3 := by have := (List.getElem?_eq_some_iff.1 hj).1; simpa using this
      rw [h4 j hj3, e1, hj]
    have inh : Inhabited OpW := ⟨OpW.nil⟩
    obtain ⟨f, hff⟩ := choose_lt each
    have hlen : ((List.range len).map f).length = len := by simp
    have hget : ∀ i, i < len → ((List.range len).map f).getD i OpW.nil = f i := fun i hi => by simp [List.getD_eq_getElem?_getD, hi]
    refine ⟨(List.range len).map f, some x, cap, by rw [hlen], fun i hi => ?_, Or.inr ⟨_, _, hx.1, by simp⟩⟩
    rw [hlen] at hi
    obtain ⟨b, off, spot⟩ := x
    have hspot : spot = none := by
      have := (hff 0 (by omega)).1 0 _ rfl
      simpa [Addr.add] using World.cell?_spot this
    subst hspot
    rw [hget i hi]
    have ad : ∀ j, ((⟨b, off, none⟩ : Addr).add (i * 3)).add j = ⟨b, off + i * 3 + j, none⟩ := fun j => by
      rw [show (⟨b, off, none⟩ : Addr).add (i * 3) = ⟨b, off + i * 3, none⟩ from by unfold Addr.add; split <;> simp_all]
      unfold Addr.add; split <;> simp_all
    have g0 := (hff i hi).1 0 _ rfl
    have g1 := (hff i hi).1 1 _ rfl
    have g2 := (hff i hi).1 2 _ rfl
    rw [ad] at g0 g1 g2
    exact ⟨b, off, rfl, g0, g1, g2, (hff i hi).2⟩
theorem ops_sized {ts : List TypeId} {ds : List (DataW H)} {d : DataW H} {xs : List OpW} (hsz : (DataW.weightsEach Try.prog ts ds).all (· ≤ reachBytes) = true) {j : Nat} (ht : ts[j]? = some 23) (hd : ds[j]? = some d)
    (h : d = .nil ∧ xs = [] ∨ ∃ elems spare, d = .slice elems spare ∧ elems.length = xs.length) : xs.length * 24 ≤ 140737488351232 := by
  rcases h with ⟨_, h⟩ | ⟨elems, spare, rfl, hl⟩
  · subst h; simp
  · have h1 := sized_slice hsz ht hd Try.underlying23
    rw [bytes_op, reach_is] at h1
    rw [← hl]; omega
end
end Go.Proofs.Ythgcjocjkeieaaa
