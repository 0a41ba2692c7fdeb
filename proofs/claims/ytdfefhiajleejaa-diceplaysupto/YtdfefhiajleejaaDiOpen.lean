/-
  How lists of draws and numbers that came in are opened; that they read as before behind a call that wrote nothing that was there.
-/
import Derived.Test.YtdfefhiajleejaaDiMem
import Derived.ProofKit
import Derived.OpenShut
import Derived.SizedLaws
import Derived.Carry
import Derived.ChangeOld
import Derived.Deep.Slices
namespace Go.Proofs.Ytdfefhiajleejaa
open Go.ChangeShapes Go.WideShapes Go.ChangeAt Go.RowKit Go.Deep
set_option linter.all false

theorem own : ownKnob Try.prog.godebug = none := by kernel_rfl
theorem laidOut : laidOutB Try.prog = true := by kernel_rfl
theorem reach_is : reachBytes = 140737488351232 := rfl
theorem cells_u32 : Try.prog.cellsOf 37 = 1 := by kernel_rfl
theorem bytes_u32 : Try.prog.bytesOf 37 = 4 := by kernel_rfl
section
variable {H : Type} {enc : TypeId × Value → H} {W W' : World}
theorem trodAll_below : ∀ {ts : List TypeId} {vs : List Value} {ds : List (DataW H)} {ps : List MemPlace}, (∀ t, t ∈ ts → Try.prog.readableRec t = true ∧ t < Try.prog.types.size) →
    DataW.TrodAll enc Try.prog W 0 (fun _ => true) true ts vs ds ps → Below W.heap.size W W' → (∀ x, x ∈ ps → x.block < W.heap.size) →
    DataW.TrodAll enc Try.prog W' 0 (fun b => decide (b < W.heap.size)) true ts vs ds ps
  | [], vs, ds, ps, _, h, _, _ => by
    cases vs <;> cases ds <;> simp [DataW.TrodAll] at h ⊢
    exact h
  | t :: ts, vs, ds, ps, hr, h, hb, hlt => by
    obtain ⟨v, vs', d, ds', p, q, rfl, rfl, rfl, h0, h1⟩ := trodAll_cons h
    exact trodAll_cons_mk (Below.trod laidOut (hr t (by simp)).1 (hr t (by simp)).2 h0 hb (fun x hx => hlt x (by simp [hx])))
      (trodAll_below (fun u hu => hr u (by simp [hu])) h1 hb (fun x hx => hlt x (by simp [hx])))
theorem int_cell {sp : Nat → Bool} {m : Nat} {cs : List Value} {c : Value} {y : DataW H × List MemPlace} (h : DataW.trod enc Try.prog W 0 sp true m 3 cs = some y) (hc : cs = [c]) :
    ∃ n : Int, c = .int .i64 n ∧ -9223372036854775808 ≤ n ∧ n ≤ 9223372036854775807 := by
  subst hc
  obtain ⟨n, e1, e2, hw⟩ := DataW.trod_int Try.underlying3 h
  simp at e1
  exact ⟨n, e1, bounds_i64 hw⟩
/-- a list of draws that was read. -/
theorem words_cell {sp : Nat → Bool} {m : Nat} {cs : List Value} {c : Value} {y : DataW H × List MemPlace} (hs : ∀ b, sp b = true) (h : DataW.trod enc Try.prog W 0 sp true m 22 cs = some y) (hc : cs = [c]) :
    ∃ a cp zs, c = .slice a zs.length cp ∧ PartU W a cp zs ∧ (y.1 = .nil ∧ zs = [] ∨ ∃ spare, y.1 = .slice (lits .u32 zs) spare) := by
  subst hc
  rcases open_ints Try.underlying22 Try.underlying37 cells_u32 h with ⟨hcs, hx⟩ | ⟨x, l, c', zs, hcs, _, hl, hm, hz, hx, hcell, hwz⟩
  · simp at hcs
    subst hcs hx
    exact ⟨none, 0, [], rfl, PartU.nil W, Or.inl ⟨rfl, rfl⟩⟩
  · simp at hcs
    subst hcs hx
    rw [if_pos (hs _)] at hz
    have hlen : (zs.take l).length = l := by simp; omega
    refine ⟨some x, c', zs.take l, by simp [hlen], ⟨fun z hz' => ?_, by simp only [hlen]; omega, ?_⟩, Or.inr ⟨_, rfl⟩⟩
    · exact bounds_u32 (hwz z (List.mem_of_mem_take hz'))
    · by_cases h0 : l = 0
      · left; simp [h0]
      · right
        obtain ⟨b, off, spot⟩ := x
        have hc := hcell 0 (by omega)
        have hspot : spot = none := by simpa [Addr.add] using World.cell?_spot hc
        subst hspot
        refine ⟨b, off, rfl, fun j hj => ?_⟩
        have hj' : j < l := by simpa [hlen] using hj
        have := hcell j (by omega)
        rw [show (⟨b, off, none⟩ : Addr).add j = ⟨b, off + j, none⟩ from by unfold Addr.add; split <;> simp_all] at this
        rw [List.getD_eq_getElem?_getD, List.getElem?_take, if_pos hj', ← List.getD_eq_getElem?_getD]
        simpa using this
set_option maxRecDepth 20000 in
theorem open_words {base : Nat} {sp : Nat → Bool} {v : Value} {d : DataW H} {p : List MemPlace} (hs : ∀ b, sp b = true) (hv : Value.okWide Try.prog W .any base 22 v) (h : DataW.Trod enc Try.prog W 0 sp true 22 v d p) :
    ∃ a cp zs, v = .slice a zs.length cp ∧ PartU W a cp zs ∧ (d = .nil ∧ zs = [] ∨ ∃ spare, d = .slice (lits .u32 zs) spare) := by
  obtain ⟨a, len, cap, rfl⟩ := okWide_slice Try.underlying22 hv
  obtain ⟨fuel, hf⟩ := h
  obtain ⟨a', cp, zs, h1, h2, h3⟩ := words_cell (y := (d, p)) hs hf rfl
  exact ⟨a', cp, zs, h1, h2, h3⟩
theorem words_sized {ts : List TypeId} {ds : List (DataW H)} {d : DataW H} {zs : List Int} (hsz : (DataW.weightsEach Try.prog ts ds).all (· ≤ reachBytes) = true) {j : Nat} (ht : ts[j]? = some 22) (hd : ds[j]? = some d)
    (h : d = .nil ∧ zs = [] ∨ ∃ spare, d = .slice (lits .u32 zs) spare) : zs.length * 4 ≤ 140737488355328 := by
  rcases h with ⟨_, h⟩ | ⟨spare, rfl⟩
  · simp [h]
  · have := sized_slice hsz ht hd Try.underlying22
    rw [bytes_u32, reach_is] at this
    simp [lits] at this
    omega
end
end Go.Proofs.Ytdfefhiajleejaa
