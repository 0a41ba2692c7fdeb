/-
  How the statements' arguments are opened; that they read as before behind a call that wrote nothing that was there. For every seat.
-/
import Derived.Test.YtgcpoanjjgbfjaaBMem
import Derived.ProofKit
import Derived.OpenShut
import Derived.SizedLaws
import Derived.Carry
import Derived.ChangeOld
import Derived.Deep.Slices
namespace Go.Proofs.Ytgcpoanjjgbfjaa
open Go.ChangeShapes Go.WideShapes Go.ChangeAt Go.RowKit Go.Deep
set_option linter.all false

theorem own : ownKnob Try.prog.godebug = none := by kernel_rfl
theorem laidOut : laidOutB Try.prog = true := by kernel_rfl
theorem reach_is : reachBytes = 140737488351232 := rfl
theorem cells_u8 : Try.prog.cellsOf 5 = 1 := by kernel_rfl
theorem bytes_u8 : Try.prog.bytesOf 5 = 1 := by kernel_rfl
section
variable {H : Type} {enc : TypeId × Value → H} {W W' : World}
theorem trodAll_below : ∀ {ts : List TypeId} {vs : List Value} {ds : List (DataW H)} {ps : List MemPlace}, (∀ t, t ∈ ts → Try.prog.readableRec t = true ∧ t < Try.prog.types.size) →
    DataW.TrodAll enc Try.prog W 0 (fun _ => true) true ts vs ds ps → Below W.heap.size W W' → (∀ x, x ∈ ps → x.block < W.heap.size) →
    DataW.TrodAll enc Try.prog W' 0 (fun b => decide (b < W.heap.size)) true ts vs ds ps
  | [], vs, ds, ps, _, h, _, _ => by
    cases vs <;> cases ds <;> simp [DataW.TrodAll] at h ⊢
    exact h
  | t :: ts, vs, ds, ps, hr, h, hb, hlt => by
    obtain ⟨v, vs', d, ds', p, q, rfl, rfl, rfl, h0, h1⟩ := trodAll_cons h
    exact trodAll_cons_mk (Below.trod laidOut (hr t (by simp)).1 (hr t (by simp)).2 h0 hb (fun x hx => hlt x (by simp [hx])))
      (trodAll_below (fun u hu => hr u (by simp [hu])) h1 hb (fun x hx => hlt x (by simp [hx])))
/-- a byte that was read. -/
theorem byte_cell {sp : Nat → Bool} {m : Nat} {cs : List Value} {c : Value} {y : DataW H × List MemPlace} (h : DataW.trod enc Try.prog W 0 sp true m 5 cs = some y) (hc : cs = [c]) :
    ∃ n : Int, c = .int .u8 n ∧ 0 ≤ n ∧ n ≤ 255 := by
  subst hc
  obtain ⟨n, e1, e2, hw⟩ := DataW.trod_int Try.underlying5 h
  simp at e1
  exact ⟨n, e1, bounds_u8 hw⟩
theorem int_cell {sp : Nat → Bool} {m : Nat} {cs : List Value} {c : Value} {y : DataW H × List MemPlace} (h : DataW.trod enc Try.prog W 0 sp true m 3 cs = some y) (hc : cs = [c]) :
    ∃ n : Int, c = .int .i64 n ∧ -9223372036854775808 ≤ n ∧ n ≤ 9223372036854775807 := by
  subst hc
  obtain ⟨n, e1, e2, hw⟩ := DataW.trod_int Try.underlying3 h
  simp at e1
  exact ⟨n, e1, bounds_i64 hw⟩
/-- a slice of bytes that was read. -/
theorem bytes_cell {sp : Nat → Bool} {m : Nat} {cs : List Value} {c : Value} {y : DataW H × List MemPlace} (hs : ∀ b, sp b = true) (h : DataW.trod enc Try.prog W 0 sp true m 36 cs = some y) (hc : cs = [c]) :
    ∃ pt : Part, c = pt.val ∧ pt.ok W ∧ (y.1 = .nil ∧ pt.zs = [] ∨ ∃ spare, y.1 = .slice (lits .u8 pt.zs) spare) := by
  subst hc
  rcases open_ints Try.underlying36 Try.underlying5 cells_u8 h with ⟨hcs, hx⟩ | ⟨x, l, c', zs, hcs, _, hl, hm, hz, hx, hcell, hwz⟩
  · simp at hcs
    subst hcs hx
    exact ⟨⟨none, 0, []⟩, rfl, ⟨by simp, by simp, Or.inl rfl⟩, Or.inl ⟨rfl, rfl⟩⟩
  · simp at hcs
    subst hcs hx
    rw [if_pos (hs _)] at hz
    have hlen : (zs.take l).length = l := by simp; omega
    refine ⟨⟨some x, c', zs.take l⟩, by simp [Part.val, hlen], ⟨fun z hz' => ?_, by simp only [hlen]; omega, ?_⟩, Or.inr ⟨_, rfl⟩⟩
    · exact bounds_u8 (hwz z (List.mem_of_mem_take hz'))
    · by_cases h0 : l = 0
      · left; simp [h0]
      · right
        obtain ⟨b, off, spot⟩ := x
        have hc := hcell 0 (by omega)
        have hspot : spot = none := by simpa [Addr.add] using World.cell?_spot hc
        subst hspot
        refine ⟨b, off, rfl, fun j hj => ?_⟩
        have hj' : j < l := by simpa [hlen] using hj
        have := hcell j (by omega)
        rw [show (⟨b, off, none⟩ : Addr).add j = ⟨b, off + j, none⟩ from by unfold Addr.add; split <;> simp_all] at this
        rw [List.getD_eq_getElem?_getD, List.getElem?_take, if_pos hj', ← List.getD_eq_getElem?_getD]
        simpa using this
set_option maxRecDepth 20000 in
theorem open_bytes {base : Nat} {sp : Nat → Bool} {v : Value} {d : DataW H} {p : List MemPlace} (hs : ∀ b, sp b = true) (hv : Value.okWide Try.prog W .any base 36 v) (h : DataW.Trod enc Try.prog W 0 sp true 36 v d p) :
    ∃ pt : Part, v = pt.val ∧ pt.ok W ∧ (d = .nil ∧ pt.zs = [] ∨ ∃ spare, d = .slice (lits .u8 pt.zs) spare) := by
  obtain ⟨a, len, cap, rfl⟩ := okWide_slice Try.underlying36 hv
  obtain ⟨fuel, hf⟩ := h
  obtain ⟨pt, h1, h2, h3⟩ := bytes_cell (y := (d, p)) hs hf rfl
  exact ⟨pt, h1, h2, h3⟩
theorem bytes_sized {ts : List TypeId} {ds : List (DataW H)} {d : DataW H} {pt : Part} (hsz : (DataW.weightsEach Try.prog ts ds).all (· ≤ reachBytes) = true) {j : Nat} (ht : ts[j]? = some 36) (hd : ds[j]? = some d)
    (h : d = .nil ∧ pt.zs = [] ∨ ∃ spare, d = .slice (lits .u8 pt.zs) spare) : pt.zs.length ≤ 140737488351232 := by
  rcases h with ⟨_, h⟩ | ⟨spare, rfl⟩
  · simp [h]
  · have := sized_slice hsz ht hd Try.underlying36
    rw [bytes_u8, reach_is] at this
    simp [lits] at this
    omega
end
end Go.Proofs.Ytgcpoanjjgbfjaa
