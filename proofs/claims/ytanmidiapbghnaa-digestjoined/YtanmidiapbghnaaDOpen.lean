/-
  How the statements' arguments are opened; that they read as before behind a call that wrote nothing that was there.
-/
import Derived.Test.YtanmidiapbghnaaDLive
import Derived.ProofKit
import Derived.OpenShut
import Derived.SizedLaws
import Derived.Carry
import Derived.ChangeOld
import Derived.Deep.Slices
namespace Go.Proofs.Ytanmidiapbghnaa
open Go.ChangeShapes Go.WideShapes Go.ChangeAt Go.RowKit Go.Deep
set_option linter.unusedVariables false

theorem own : ownKnob Try.prog.godebug = none := by kernel_rfl
theorem laidOut : laidOutB Try.prog = true := by kernel_rfl
section
variable {H : Type} {enc : TypeId × Value → H} {W W' : World}
theorem trodAll_below : ∀ {ts : List TypeId} {vs : List Value} {ds : List (DataW H)} {ps : List MemPlace}, (∀ t, t ∈ ts → Try.prog.readableRec t = true ∧ t < Try.prog.types.size) →
    DataW.TrodAll enc Try.prog W 0 (fun _ => true) true ts vs ds ps → Below W.heap.size W W' → (∀ x, x ∈ ps → x.block < W.heap.size) →
    DataW.TrodAll enc Try.prog W' 0 (fun b => decide (b < W.heap.size)) true ts vs ds ps
  | [], vs, ds, ps, _, h, _, _ => by
    cases vs <;> cases ds <;> simp [DataW.TrodAll] at h ⊢
    exact h
  | t :: ts, vs, ds, ps, hr, h, hb, hlt => by
    obtain ⟨v, vs', d, ds', p, q, rfl, rfl, rfl, h0, h1⟩ := trodAll_cons h
    exact trodAll_cons_mk (Below.trod laidOut (hr t (by simp)).1 (hr t (by simp)).2 h0 hb (fun x hx => hlt x (by simp [hx])))
      (trodAll_below (fun u hu => hr u (by simp [hu])) h1 hb (fun x hx => hlt x (by simp [hx])))
theorem reach_is : reachBytes = 140737488351232 := rfl
theorem one_cell {sp : Nat → Bool} {m : Nat} {cs : List Value} {c : Value} {y : DataW H × List MemPlace} (h : DataW.trod enc Try.prog W 0 sp true m 5 cs = some y) (hc : cs = [c]) :
    ∃ n : Int, c = .int .u8 n ∧ 0 ≤ n ∧ n ≤ 255 := by
  subst hc
  obtain ⟨n, e1, e2, hw⟩ := DataW.trod_int Try.underlying5 h
  simp at e1
  exact ⟨n, e1, bounds_u8 hw⟩
/-- a digest that came in. -/
theorem open_dig {base : Nat} {sp : Nat → Bool} {v : Value} {d : DataW H} {p : List MemPlace} (hv : Value.okWide Try.prog W .any base 26 v) (h : DataW.Trod enc Try.prog W 0 sp true 26 v d p) :
    ∃ zs : List Int, v = .agg (u8s zs).toArray ∧ zs.length = 32 ∧ ∀ z, z ∈ zs → 0 ≤ z ∧ z ≤ 255 := by
  simp only [Value.okWide, Try.underlying26] at hv
  obtain ⟨⟨l⟩, rfl, hsz, _⟩ := hv
  rw [cellsDig] at hsz
  obtain ⟨fuel, hf⟩ := h
  obtain ⟨xs, m, _, _, _, hn, hel⟩ := DataW.trod_array Try.underlying26 hf
  have hl : l.length = 32 := hsz
  simp only [cellsU8, Value.cells, Nat.mul_one] at hel
  have each : ∀ i, i < 32 → ∃ n : Int, l[i]? = some (.int .u8 n) ∧ 0 ≤ n ∧ n ≤ 255 := fun i hi => by
    have h1 := hel i hi
    have hi' : i < l.length := by omega
    obtain ⟨n, hn', hb⟩ := one_cell (c := l[i]) (h1.trans (by rw [List.getElem?_eq_getElem (by omega)])) (by
      simp only [List.drop_eq_getElem_cons hi']
      rfl)
    exact ⟨n, by rw [List.getElem?_eq_getElem hi', hn'], hb⟩
  obtain ⟨f, hff⟩ := choose_lt each
  refine ⟨(List.range 32).map f, ?_, by simp, fun z hz => ?_⟩
  · congr 1
    apply Array.ext'
    apply List.ext_getElem?
    intro j
    by_cases hj : j < 32
    · simp only [(hff j hj).1]
      simp [u8s, hj]
    · rw [List.getElem?_eq_none (by simp only; omega), List.getElem?_eq_none (by simp [u8s]; omega)]
  · obtain ⟨i, hi, rfl⟩ := List.mem_map.1 hz
    exact (hff i (by simpa using hi)).2
end
end Go.Proofs.Ytanmidiapbghnaa
