/-
  The contract of the document's place.
-/
import Derived.Test.YtmdkanbfpmdimaaOFst
namespace Go.Proofs.Ytmdkanbfpmdimaa
open Go.RowKit
set_option linter.all false

/-- the place of a code; -1: none. -/
def plI (os : List OP) (code : Int) : Int := match os.findIdx? (fun o => o.1 == code) with | some i => (i : Int) | none => -1
theorem plI_not {os : List OP} {code : Int} {k : Nat} (h : ∀ (j : Nat), j < k → ∀ o, os[j]? = some o → o.1 ≠ code) (hk : k = os.length) : plI os code = -1 := by
  unfold plI
  have : os.findIdx? (fun o => o.1 == code) = none := by
    rw [List.findIdx?_eq_none_iff]
    intro o ho
    obtain ⟨i, hi⟩ := List.getElem?_of_mem ho
    have := h i (by rw [hk]; exact (List.getElem?_eq_some_iff.1 hi).1) o hi
    simpa using this
  rw [this]
theorem plI_is {os : List OP} {code : Int} {k : Nat} {o : OP} (h : ∀ (j : Nat), j < k → ∀ o, os[j]? = some o → o.1 ≠ code) (hk : os[k]? = some o) (ho : o.1 = code) : plI os code = (k : Int) := by
  unfold plI
  have hl := (List.getElem?_eq_some_iff.1 hk).1
  rw [List.getElem?_eq_getElem hl] at hk
  simp only [Option.some.injEq] at hk
  have : os.findIdx? (fun o => o.1 == code) = some k := by
    rw [List.findIdx?_eq_some_iff_getElem]
    refine ⟨hl, by rw [hk]; simpa using ho, fun j hj => ?_⟩
    have := h j hj _ (List.getElem?_eq_getElem (by omega))
    simpa using this
  rw [this]
/-- as the first option of the code. -/
theorem plI_fst (os : List OP) (code : Int) : (plI os code = -1 ∧ fst? os code = none) ∨ ∃ (k : Nat) (o : OP), plI os code = (k : Int) ∧ os[k]? = some o ∧ fst? os code = some o := by
  unfold plI fst?
  cases h : os.findIdx? (fun o => o.1 == code) with
  | none =>
    left
    refine ⟨rfl, ?_⟩
    rw [List.findIdx?_eq_none_iff] at h
    rw [List.find?_eq_none]
    intro o ho
    simpa using h o ho
  | some k =>
    right
    rw [List.findIdx?_eq_some_iff_getElem] at h
    obtain ⟨hl, h1, h2⟩ := h
    refine ⟨k, os[k], rfl, List.getElem?_eq_getElem hl, ?_⟩
    rw [List.find?_eq_some_iff_getElem]
    exact ⟨h1, k, hl, rfl, fun j hj => by have := h2 j hj; simpa using this⟩
set_option maxHeartbeats 1000000 in
theorem place_any (a : Option Addr) (c : Nat) (os : List OP) (code : Int) (w : World) (h : OV w a os) :
    Calls Try.prog 21 #[.slice a os.length c, .int .i64 code] w fun e w' => e = .returned (.int .i64 (plI os code)) ∧ w' = w := by
  obtain ⟨n, hn⟩ : ∃ n, n = os.length := ⟨_, rfl⟩
  have HN := hid hn
  have hf := h.few
  rw [← hn] at hf ⊢
  have HV := hid h
  clear h hn
  go_enter Try.func21, Try.ntmps21
  go_wp2
  go_loop [5] (fun i => ∃ k : Nat, k ≤ n ∧ i = .int .i64 k ∧ Hid (∀ (j : Nat), j < k → ∀ o, os[j]? = some o → o.1 ≠ code)) (fun i => n - (intOf i).toNat)
  case atStart => exact ⟨0, Nat.zero_le _, rfl, fun j hj => by omega⟩
  case round =>
    obtain ⟨k, hk, rfl, HJ⟩ := hrel
    by_cases hlt : k < n
    · have hlt' : (k : Int) < n := by omega
      obtain ⟨⟨cd, ad, cp, zs⟩, ho⟩ : ∃ o, os[k]? = some o := ⟨os[k]'(by rw [← HN.out]; exact hlt), List.getElem?_eq_getElem _⟩
      obtain ⟨b, off, ea, c0, c1⟩ := HV.out.cell k _ ho
      simp only [Part.val] at c0 c1
      subst ea
      have HO := hid ho
      clear ho c1
      by_cases he : cd = code
      · have he' : (cd == code) = true := by simpa using he
        have HR : Hid (plI os code = (k : Int)) := plI_is HJ.out HO.out he
        clear he
        go_wp2
        go_ret
        exact ⟨by rw [HR.out]; rfl, rfl⟩
      · have he' : (cd == code) = false := by simpa using he
        have HE := hid he
        clear he
        go_wp2
        go_round
        case rel =>
          refine ⟨k + 1, by omega, by go_num, fun j hj o ho => ?_⟩
          rcases Nat.lt_or_ge j k with h1 | h1
          · exact HJ.out j h1 o ho
          · have : j = k := by omega
            subst this
            rw [HO.out] at ho
            simp only [Option.some.injEq] at ho
            subst ho
            exact HE.out
        case measure => simp [intOf]; omega
    · have hge : ¬ (k : Int) < n := by omega
      have hkn : k = n := by omega
      have HR : Hid (plI os code = -1) := plI_not HJ.out (by rw [hkn]; exact HN.out)
      go_wp2
      go_ret
      exact ⟨by rw [HR.out]; rfl, rfl⟩
end Go.Proofs.Ytmdkanbfpmdimaa
