/-
  What a law's proof needs of its arguments: how each is opened, and that all of them read as before behind a call that wrote nothing that was there.
-/
import Derived.Test.YtohpdkeleilkjaaDoorFrame
import Derived.SizedLaws
import Derived.Carry
import Derived.ChangeOld
namespace Go.Proofs.YtohpdkeleilkjaaDoor
open Go.ChangeShapes Go.WideShapes Go.ChangeAt Go.RowKit
set_option linter.unusedVariables false

theorem laidOut : laidOutB Tryd.prog = true := by kernel_rfl

section
variable {H : Type} {enc : TypeId × Value → H} {W W' : World}

theorem trodAll_below : ∀ {ts : List TypeId} {vs : List Value} {ds : List (DataW H)} {ps : List MemPlace}, (∀ t, t ∈ ts → Tryd.prog.readableRec t = true ∧ t < Tryd.prog.types.size) →
    DataW.TrodAll enc Tryd.prog W 0 (fun _ => true) true ts vs ds ps → Below W.heap.size W W' → (∀ x, x ∈ ps → x.block < W.heap.size) →
    DataW.TrodAll enc Tryd.prog W' 0 (fun b => decide (b < W.heap.size)) true ts vs ds ps
  | [], vs, ds, ps, _, h, _, _ => by
    cases vs <;> cases ds <;> simp [DataW.TrodAll] at h ⊢
    exact h
  | t :: ts, vs, ds, ps, hr, h, hb, hlt => by
    obtain ⟨v, vs', d, ds', p, q, rfl, rfl, rfl, h0, h1⟩ := trodAll_cons h
    exact trodAll_cons_mk (Below.trod laidOut (hr t (by simp)).1 (hr t (by simp)).2 h0 hb (fun x hx => hlt x (by simp [hx])))
      (trodAll_below (fun u hu => hr u (by simp [hu])) h1 hb (fun x hx => hlt x (by simp [hx])))

theorem cellsU8 : Tryd.prog.cellsOf 5 = 1 := by kernel_rfl
theorem bytesU8 : Tryd.prog.bytesOf 5 = 1 := by kernel_rfl
theorem reach_is : reachBytes = 140737488351232 := rfl

/-- a slice of bytes that came in: its value, its bytes, that it lies there; it is no longer than what a machine has. -/
theorem open_bytes {base : Nat} {sp : Nat → Bool} {v : Value} {d : DataW H} {p : List MemPlace} (hs : ∀ b, sp b = true) (hv : Value.okWide Tryd.prog W .any base 24 v) (h : DataW.Trod enc Tryd.prog W 0 sp true 24 v d p) :
    ∃ pt : Part, v = pt.val ∧ pt.ok W ∧ (d = .nil ∧ pt.zs = [] ∨ ∃ spare, d = .slice (lits .u8 pt.zs) spare) := by
  obtain ⟨a, len, cap, rfl⟩ := okWide_slice Tryd.underlying24 hv
  obtain ⟨fuel, hf⟩ := h
  rcases open_ints Tryd.underlying24 Tryd.underlying5 cellsU8 hf with ⟨hcs, hx⟩ | ⟨x, l, c, zs, hcs, _, hl, hm, hz, hx, hcell, hwz⟩
  · simp [Value.cells] at hcs
    obtain ⟨rfl, rfl, rfl⟩ := hcs
    simp only [Prod.mk.injEq] at hx
    exact ⟨⟨none, 0, []⟩, rfl, ⟨by simp, Or.inl rfl⟩, Or.inl ⟨hx.1, rfl⟩⟩
  · simp [Value.cells] at hcs
    obtain ⟨rfl, rfl, rfl⟩ := hcs
    rw [if_pos (hs _)] at hz
    simp only [Prod.mk.injEq] at hx
    have hlen : (zs.take len).length = len := by simp; omega
    refine ⟨⟨some x, cap, zs.take len⟩, by simp [Part.val, hlen], ⟨fun z hz' => ?_, ?_⟩, Or.inr ⟨_, hx.1⟩⟩
    · exact bounds_u8 (hwz z (List.mem_of_mem_take hz'))
    · by_cases h0 : len = 0
      · left; simp [h0]
      · right
        obtain ⟨b, off, spot⟩ := x
        have hc := hcell 0 (by omega)
        have hspot : spot = none := by simpa [Addr.add] using World.cell?_spot hc
        subst hspot
        refine ⟨b, off, rfl, fun j hj => ?_⟩
        have hj' : j < len := by simpa [hlen] using hj
        have := hcell j (by omega)
        rw [show (⟨b, off, none⟩ : Addr).add j = ⟨b, off + j, none⟩ from by unfold Addr.add; split <;> simp_all] at this
        rw [List.getD_eq_getElem?_getD, List.getElem?_take, if_pos hj', ← List.getD_eq_getElem?_getD]
        simpa using this

theorem bytes_sized {ts : List TypeId} {ds : List (DataW H)} {d : DataW H} {pt : Part} (hsz : (DataW.weightsEach Tryd.prog ts ds).all (· ≤ reachBytes) = true) {j : Nat} (ht : ts[j]? = some 24) (hd : ds[j]? = some d)
    (h : d = .nil ∧ pt.zs = [] ∨ ∃ spare, d = .slice (lits .u8 pt.zs) spare) : pt.zs.length ≤ 140737488351232 := by
  rcases h with ⟨_, h⟩ | ⟨spare, rfl⟩
  · simp [h]
  · have := sized_slice hsz ht hd Tryd.underlying24
    rw [bytesU8, reach_is] at this
    simp [lits] at this
    omega

theorem cellsMac : Tryd.prog.cellsOf 42 = 6 := by kernel_rfl
theorem mac_cell {sp : Nat → Bool} {m : Nat} {c : Value} {cs : List Value} {x : Option (DataW H × List MemPlace)} {y : DataW H × List MemPlace} (hx : x = some y) (h : DataW.trod enc Tryd.prog W 0 sp true m 5 cs = x) (hc : cs = [c]) :
    ∃ n, c = .int .u8 n ∧ 0 ≤ n ∧ n ≤ 255 := by
  subst hc hx
  obtain ⟨n, e1, e2, hw⟩ := DataW.trod_int Tryd.underlying5 h
  simp at e1
  exact ⟨n, e1, bounds_u8 hw⟩
theorem open_mac {base : Nat} {sp : Nat → Bool} {v : Value} {d : DataW H} {p : List MemPlace} (hv : Value.okWide Tryd.prog W .any base 42 v) (h : DataW.Trod enc Tryd.prog W 0 sp true 42 v d p) :
    ∃ b0 b1 b2 b3 b4 b5 : Int, v = .agg #[.int .u8 b0, .int .u8 b1, .int .u8 b2, .int .u8 b3, .int .u8 b4, .int .u8 b5] ∧ (0 ≤ b0 ∧ b0 ≤ 255) ∧ (0 ≤ b1 ∧ b1 ≤ 255) ∧ (0 ≤ b2 ∧ b2 ≤ 255) ∧ (0 ≤ b3 ∧ b3 ≤ 255) ∧ (0 ≤ b4 ∧ b4 ≤ 255) ∧ (0 ≤ b5 ∧ b5 ≤ 255) := by
  simp only [Value.okWide, Tryd.underlying42] at hv
  obtain ⟨⟨l⟩, rfl, hsz, _⟩ := hv
  rw [cellsMac] at hsz
  obtain ⟨fuel, hf⟩ := h
  obtain ⟨xs, m, _, _, _, hn, hel⟩ := DataW.trod_array Tryd.underlying42 hf
  have hl : l.length = 6 := hsz
  simp only [cellsU8, Value.cells, Nat.mul_one] at hel
  match l, hl, xs, hn with
  | [c0, c1, c2, c3, c4, c5], _, [x0, x1, x2, x3, x4, x5], _ =>
    obtain ⟨n0, rfl, a0⟩ := mac_cell rfl (hel 0 (by omega)) rfl
    obtain ⟨n1, rfl, a1⟩ := mac_cell rfl (hel 1 (by omega)) rfl
    obtain ⟨n2, rfl, a2⟩ := mac_cell rfl (hel 2 (by omega)) rfl
    obtain ⟨n3, rfl, a3⟩ := mac_cell rfl (hel 3 (by omega)) rfl
    obtain ⟨n4, rfl, a4⟩ := mac_cell rfl (hel 4 (by omega)) rfl
    obtain ⟨n5, rfl, a5⟩ := mac_cell rfl (hel 5 (by omega)) rfl
    exact ⟨n0, n1, n2, n3, n4, n5, rfl, a0, a1, a2, a3, a4, a5⟩
end
end Go.Proofs.YtohpdkeleilkjaaDoor
