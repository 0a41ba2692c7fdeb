/-
  The document's Decimal, of any number.
-/
import Derived.Test.YtdcppiknomoigaaDoorBBookJ
namespace Go.Proofs.YtdcppiknomoigaaDoor
open Go.RowKit
set_option linter.all false

/-- a number's digits. -/
def decB (n : Nat) : List Int := if n < 10 then [48 + (n : Int)] else decB (n / 10) ++ [48 + ((n % 10 : Nat) : Int)]
theorem decB_small {n : Nat} (h : n < 10) : decB n = [48 + (n : Int)] := by rw [decB, if_pos h]
theorem decB_big {n : Nat} (h : ¬ n < 10) : decB n = decB (n / 10) ++ [48 + ((n % 10 : Nat) : Int)] := by rw [decB, if_neg h]
theorem decB_bd (n : Nat) : ∀ z ∈ decB n, 48 ≤ z ∧ z ≤ 57 := by
  induction n using Nat.strongRecOn with
  | ind n ih =>
    intro z hz
    by_cases h : n < 10
    · rw [decB_small h] at hz
      simp at hz
      omega
    · rw [decB_big h] at hz
      rcases List.mem_append.1 hz with hz | hz
      · exact ih (n / 10) (by omega) z hz
      · simp at hz
        omega
theorem decB_ne (n : Nat) : decB n ≠ [] := by
  rw [decB]
  split <;> simp
theorem str_app (a b : List Int) : strOfNums (a ++ b) = strOfNums a ++ strOfNums b := by
  unfold strOfNums
  apply ByteArray.ext
  simp
def intOfD : Value → Int | .int _ q => q | _ => 0
set_option maxHeartbeats 1000000 in
theorem decimal_any (n : Nat) (w : World) (hn : (n : Int) ≤ 4611686018427387903) :
    Calls Tryd.prog 37 #[.int .i64 n] w fun e w' => e = .returned (.string (strOfNums (decB n))) ∧ Below w.heap.size w w' := by
  have HC : Hid (∀ (W : World) (z : Int), 0 ≤ z ∧ z ≤ 255 → (convert 24 9 (.slice (some ⟨W.heap.size, 0, none⟩) 1 1)).run Tryd.prog (W.alloc (.cells #[.int .u8 z] 5)) = .ok (.string (strOfNums [z])) (W.alloc (.cells #[.int .u8 z] 5))) := fun W z hz =>
    conv_part ⟨some ⟨W.heap.size, 0, none⟩, 1, [z]⟩ _ (Part.of_row (zs := [z]) (heap_new W _) (by simp) (by simpa using hz))
  go_enter Tryd.func37, Tryd.ntmps37
  go_wp2
  go_loopw [0, 3] (fun vn vs wr => ∃ (k : Nat) (sf : List Int), vn = .int .i64 k ∧ vs = .string (strOfNums sf) ∧ k ≤ n ∧ sf.length + k ≤ n ∧ Hid (decB n = decB k ++ sf) ∧ Hid (Below w.heap.size w wr)) (fun vn _ _ => (intOfD vn).toNat)
  case atStart => exact ⟨n, [], rfl, by simp [strOfNums], Nat.le_refl _, by simp, by simp [Hid], Below.refl _ _⟩
  case round =>
    obtain ⟨k, sf, rfl, rfl, hk, hsl, HD, HB⟩ := hrel
    by_cases hk9 : k < 10
    · have h9 : ¬ (9 : Int) < (k : Int) := by omega
      have hcv := HC.out wr (48 + (k : Int)) (by omega)
      have hw : IntKind.u8.wrap (48 + (k : Int)) = 48 + (k : Int) := by simp only [IntKind.wrap_u8]; omega
      have HE : Hid (strOfNums (decB n) = strOfNums [48 + (k : Int)] ++ strOfNums sf) := by
        unfold Hid; rw [HD.out, decB_small hk9, str_app]
      clear hk9 HD
      have hz1 : (strOfNums sf).size ≤ n := by rw [strOfNums_size]; omega
      have hz2 : (strOfNums [48 + (k : Int)]).size = 1 := by rw [strOfNums_size]; rfl
      generalize strOfNums sf = S at *
      generalize strOfNums [48 + (k : Int)] = S1 at *
      go_wp2
      go_ret
      exact ⟨by rw [HE.out]; first | rfl | (congr 1; apply ByteArray.ext; simp), bstep HB.out (bpush (Below.refl _ _) _)⟩
    · have h9 : (9 : Int) < (k : Int) := by omega
      obtain ⟨r, hr⟩ : ∃ r : Nat, r = k % 10 := ⟨_, rfl⟩
      have hri : (k : Int) % 10 = (r : Int) := by omega
      have hrb : r < 10 := by omega
      have hcv := HC.out wr (48 + (r : Int)) (by omega)
      have hw : IntKind.u8.wrap (48 + (r : Int)) = 48 + (r : Int) := by simp only [IntKind.wrap_u8]; omega
      obtain ⟨kq, hkq⟩ : ∃ kq : Nat, kq = k / 10 := ⟨_, rfl⟩
      have hqi : (k : Int) / 10 = (kq : Int) := by omega
      have hlt : kq ≤ k ∧ kq < k := by omega
      have HE : Hid (decB n = decB kq ++ (48 + (r : Int)) :: sf) := by
        unfold Hid; rw [HD.out, decB_big hk9, hr, hkq, List.append_assoc]; rfl
      have HS : Hid (strOfNums ((48 + (r : Int)) :: sf) = strOfNums [48 + (r : Int)] ++ strOfNums sf) := by
        unfold Hid; rw [← str_app]; rfl
      have hz1 : (strOfNums sf).size ≤ n := by rw [strOfNums_size]; omega
      have hz2 : (strOfNums [48 + (r : Int)]).size = 1 := by rw [strOfNums_size]; rfl
      clear hk9 HD hr hkq
      go_wp2
      go_roundw
      case rel => exact ⟨kq, (48 + (r : Int)) :: sf, by first | rfl | (congr 1; omega), by rw [HS.out], by omega, by simp only [List.length_cons]; omega, HE, bstep HB.out (bpush (Below.refl _ _) _)⟩
      case measure => simp only [intOfD]; omega
end Go.Proofs.YtdcppiknomoigaaDoor
