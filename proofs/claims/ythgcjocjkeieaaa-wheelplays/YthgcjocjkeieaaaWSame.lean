/-
  The document's Same, of two lists that are one.
-/
import Derived.Test.YthgcjocjkeieaaaWAdvI
import Derived.DeepKeys
namespace Go.Proofs.Ythgcjocjkeieaaa
open Go.RowKit
set_option linter.all false

/-- what is read of a list, also of one that is not at its block's head. -/
structure PartF (w : World) (v : Value) (F : List Tm) : Prop where
  ex : ∃ ad cap, v = .slice ad F.length cap ∧ F.length ≤ 1048576 ∧ (0 < F.length → ∃ g, ad = some ⟨g, 0, none⟩ ∧ ∀ j x, F[j]? = some x → w.cell? ⟨g, j * 3, none⟩ = some (.int .i64 x.t) ∧ w.cell? ⟨g, j * 3 + 1, none⟩ = some (.int .i64 x.id) ∧ w.cell? ⟨g, j * 3 + 2, none⟩ = some (.int .i64 x.tag))
theorem cellsF_get : ∀ (F : List Tm) (j t : Nat) (x : Tm), F[j]? = some x → t < 3 → (cellsF F)[j * 3 + t]? = (tmC x)[t]?
  | [], j, t, x, h, _ => by simp at h
  | f :: r, 0, t, x, h, ht => by
    simp at h
    subst h
    unfold cellsF
    rw [List.flatMap_cons, Nat.zero_mul, Nat.zero_add, List.getElem?_append_left (by exact ht)]
  | f :: r, j + 1, t, x, h, ht => by
    unfold cellsF
    rw [List.flatMap_cons, List.getElem?_append_right (by show 3 ≤ _; omega)]
    rw [show (j + 1) * 3 + t - (tmC f).length = j * 3 + t from by show (j + 1) * 3 + t - 3 = _; omega]
    exact cellsF_get r j t x (by simpa using h) ht
theorem PartF.of {w : World} {v : Value} {F : List Tm} (h : RowF w v F) (hl : F.length ≤ 1048576) : PartF w v F := by
  obtain ⟨ad, cap, hv, _⟩ := RowS.form h
  refine ⟨ad, cap, hv, hl, fun h0 => ?_⟩
  obtain ⟨g, cap', hv', _⟩ := RowS.some_of h h0
  rw [hv] at hv'
  simp only [Value.slice.injEq] at hv'
  obtain ⟨rfl, _, rfl⟩ := hv'
  subst hv
  refine ⟨g, rfl, fun j x hx => ⟨?_, ?_, ?_⟩⟩
  · exact RowS.cell h (by have := cellsF_get F j 0 x hx (by omega); rw [Nat.add_zero] at this; rw [this]; rfl)
  · exact RowS.cell h (by rw [cellsF_get F j 1 x hx (by omega)]; rfl)
  · exact RowS.cell h (by rw [cellsF_get F j 2 x hx (by omega)]; rfl)
theorem PartF.keep {w w' : World} {v : Value} {F : List Tm} (h : PartF w v F) (hk : ∀ g, v.ownBlock = some g → w'.heap[g]? = w.heap[g]?) : PartF w' v F := by
  obtain ⟨ad, cap, rfl, hl, h1⟩ := h.ex
  refine ⟨ad, cap, rfl, hl, fun h0 => ?_⟩
  obtain ⟨g, rfl, h2⟩ := h1 h0
  have hc : ∀ o, w'.cell? ⟨g, o, none⟩ = w.cell? ⟨g, o, none⟩ := fun o => World.cell?_of_block (w := w) (a := ⟨g, o, none⟩) (hk g rfl)
  exact ⟨g, rfl, fun j x hx => by rw [hc, hc, hc]; exact h2 j x hx⟩
theorem PartF.drewN {w : World} {v : Value} {F : List Tm} (h : PartF w v F) (n : Nat) : PartF (w.drewN n) v F := h.keep fun _ _ => rfl
set_option maxRecDepth 20000 in
theorem fired_same (a b c : Int) (w : World) : (Op.equalIn 10000 44 (.agg #[.int .i64 a, .int .i64 b, .int .i64 c]) (.agg #[.int .i64 a, .int .i64 b, .int .i64 c])).run Try.prog w = .ok true w := by
  have h1 : Try.prog.stoodInHeld 44 = false := by kernel_rfl
  have e3 : ∀ d z, (Op.equalIn (d + 1) 3 (.int .i64 z) (.int .i64 z)).run Try.prog w = .ok true w := fun d z => by
    simp [Op.equalIn, run_underlying Try.underlying3]
  rw [show (10000 : Nat) = 9998 + 1 + 1 from rfl]
  unfold Op.equalIn
  have p0 : (part 3 #[.int .i64 a, .int .i64 b, .int .i64 c] 0).run Try.prog w = .ok (.int .i64 a) w := by kernel_rfl
  have p1 : (part 3 #[.int .i64 a, .int .i64 b, .int .i64 c] 1).run Try.prog w = .ok (.int .i64 b) w := by kernel_rfl
  have p2 : (part 3 #[.int .i64 a, .int .i64 b, .int .i64 c] 2).run Try.prog w = .ok (.int .i64 c) w := by kernel_rfl
  have e9 : ∀ z, (Op.equalIn 9999 3 (.int .i64 z) (.int .i64 z)).run Try.prog w = .ok true w := fun z => e3 9998 z
  simp [run_underlying Try.underlying44, h1, p0, p1, p2, e9, Result.andThen]
set_option maxHeartbeats 2000000 in
theorem same_any (u v : Value) (F : List Tm) (w : World) (hu : PartF w u F) (hv : PartF w v F) :
    Calls Try.prog 18 #[u, v] w fun e w' => e = .returned (.bool true) ∧ ∃ q, w' = w.drewN q := by
  obtain ⟨a1, c1, rfl, hl, h1⟩ := hu.ex
  obtain ⟨a2, c2, rfl, _, h2⟩ := hv.ex
  have H1 := hid h1
  have H2 := hid h2
  obtain ⟨N, hN⟩ : ∃ N, N = F.length := ⟨_, rfl⟩
  have HN := hid hN
  rw [← hN] at hl ⊢
  clear hu hv h1 h2 hN
  have hNb : (N : Int) ≤ 1048576 := by omega
  go_enter Try.func18, Try.ntmps18
  go_wp2
  go_loopw [5] (fun v wr => ∃ j q : Nat, v = .int .i64 j ∧ Hid (j ≤ N) ∧ wr = w.drewN q) (fun v _ => N - (intOf v).toNat)
  case atStart => exact ⟨0, 0, rfl, Nat.zero_le _, rfl⟩
  case round =>
    obtain ⟨j, q, rfl, HJ, hwr⟩ := hrel
    by_cases hj : j < N
    · have hj2 : (j : Int) < N := by omega
      have hjF : j < F.length := by rw [← HN.out]; exact hj
      obtain ⟨g1, e1, k1⟩ := H1.out (by omega)
      obtain ⟨g2, e2, k2⟩ := H2.out (by omega)
      subst e1
      subst e2
      have hx : F[j]? = some F[j] := List.getElem?_eq_getElem hjF
      generalize F[j] = x at hx
      obtain ⟨x1, x2, x3⟩ := k1 j x hx
      obtain ⟨y1, y2, y3⟩ := k2 j x hx
      have hc : ∀ p, wr.cell? p = w.cell? p := fun p => by rw [hwr]; rfl
      rw [← hc] at x1 x2 x3 y1 y2 y3
      have HW : Hid (∀ n, wr.drewN n = w.drewN (q + n)) := fun n => by rw [hwr]; exact World.drewN_drewN _ _ _
      clear hwr hc k1 k2 H1 H2 hx hjF HN
      generalize x.t = t at *
      generalize x.id = i at *
      generalize x.tag = tg at *
      have hS := fun wx => fired_same t i tg wx
      go_wp2_with fail
      go_quiet (fail)
      go_wp2
      go_roundw
      case rel => exact ⟨j + 1, q + nq, by go_num, by unfold Hid; omega, HW.out nq⟩
      case measure => simp [intOf]; omega
    · have hje : j = N := by have := HJ.out; omega
      subst hje
      clear H1 H2 HN HJ hj
      go_wp2
      go_ret
      exact ⟨rfl, q, by first | exact hwr | rfl⟩
end Go.Proofs.Ythgcjocjkeieaaa
