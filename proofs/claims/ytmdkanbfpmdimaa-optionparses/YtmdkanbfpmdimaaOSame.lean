/-
  The contract of slipwayref15.Same, of two rows that are the same.
-/
import Derived.Test.YtmdkanbfpmdimaaOMem
namespace Go.Proofs.Ytmdkanbfpmdimaa
open Go.RowKit
set_option linter.all false

theorem drewN_drewN (w : World) (d : Nat) : ∀ n : Nat, ∃ m, (w.drewN d).drewN n = w.drewN m := fun n => ⟨d + n, by
  simp only [World.drewN]
  first | rfl | (congr 1; omega) | (simp; omega)⟩
set_option maxRecDepth 20000 in
set_option maxHeartbeats 2000000 in
theorem osame_yes (a a' : Option Addr) (c c' : Nat) (os qs : List OP) (w : World) (h : OV w a os) (h' : OV w a' qs) (he : absO os = absO qs) :
    Calls Try.prog 11 #[.slice a os.length c, .slice a' qs.length c'] w fun e w' => e = .returned (.bool true) ∧ Hid (Below w.heap.size w w') := by
  obtain ⟨n, hn⟩ : ∃ n, n = os.length := ⟨_, rfl⟩
  have hm : n = qs.length := by
    have := congrArg List.length he
    rw [absO_len, absO_len] at this
    omega
  have HN := hid hn
  have HM := hid hm
  have HE := hid he
  have hf := h.few
  rw [← hn] at hf ⊢
  rw [← hm]
  have HV := hid h
  have HV' := hid h'
  clear h h' hn hm he
  go_enter Try.func11, Try.ntmps11
  go_wp2
  go_loopw [5] (fun i wr => ∃ k : Nat, k ≤ n ∧ i = .int .i64 k ∧ (∃ d, wr = w.drewN d)) (fun i _ => n - (intOf i).toNat)
  case atStart => exact ⟨0, Nat.zero_le _, rfl, ⟨0, rfl⟩⟩
  case round =>
    obtain ⟨k, hk, rfl, ⟨d, rfl⟩⟩ := hrel
    by_cases hlt : k < n
    · have hlt' : (k : Int) < n := by omega
      obtain ⟨⟨cd, ad, cp, zs⟩, ho⟩ : ∃ o, os[k]? = some o := ⟨os[k]'(by rw [← HN.out]; exact hlt), List.getElem?_eq_getElem _⟩
      obtain ⟨⟨cd', ad', cp', zs'⟩, hq⟩ : ∃ o, qs[k]? = some o := ⟨qs[k]'(by rw [← HM.out]; exact hlt), List.getElem?_eq_getElem _⟩
      have e1 := absO_at ho
      rw [HE.out, absO_at hq] at e1
      simp only [Option.some.injEq, Prod.mk.injEq] at e1
      obtain ⟨rfl, rfl⟩ := e1
      obtain ⟨b, off, ea, c0, c1⟩ := HV.out.cell k _ ho
      obtain ⟨b', off', ea', c0', c1'⟩ := HV'.out.cell k _ hq
      have k1 : ∀ j, (convert 41 9 (.slice ad zs'.length cp)).run Try.prog (w.drewN j) = .ok (.string (strOfNums zs')) (w.drewN j) := fun j => conv_part ⟨ad, cp, zs'⟩ _ (Part.ok_drewN (HV.out.oks _ (List.mem_of_getElem? ho)).1 j)
      have k2 : ∀ j, (convert 41 9 (.slice ad' zs'.length cp')).run Try.prog (w.drewN j) = .ok (.string (strOfNums zs')) (w.drewN j) := fun j => conv_part ⟨ad', cp', zs'⟩ _ (Part.ok_drewN (HV'.out.oks _ (List.mem_of_getElem? hq)).1 j)
      simp only [Part.val] at c0 c1 c0' c1'
      subst ea ea'
      clear ho hq
      generalize strOfNums zs' = X at *
      generalize zs'.length = l at *
      have he' : (cd' != cd') = false := by simp
      have hs : (X.toList == X.toList) = true := by simp
      go_wp2
      go_quiet (fail)
      go_wp2
      go_roundw
      case rel => exact ⟨k + 1, by omega, by go_num, by first | exact ⟨_, rfl⟩ | exact drewN_drewN w d _⟩
      case measure => simp [intOf]; omega
    · have hge : ¬ (k : Int) < n := by omega
      go_wp2
      go_ret
      exact ⟨rfl, ⟨rfl, rfl, rfl, Nat.le_refl _, fun _ _ => rfl⟩⟩
end Go.Proofs.Ytmdkanbfpmdimaa
