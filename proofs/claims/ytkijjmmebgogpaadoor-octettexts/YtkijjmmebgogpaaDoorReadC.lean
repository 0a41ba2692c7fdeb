/-
  What the readers of addresses and of stations answer, by cases.
-/
import Derived.Test.YtkijjmmebgogpaaDoorMacEq
import Derived.Test.YtkijjmmebgogpaaDoorMem
namespace Go.Proofs.YtkijjmmebgogpaaDoor
open Go.RowKit
set_option linter.unusedVariables false

theorem undot_dot (ip : Int) (h0 : 0 ≤ ip) (h1 : ip ≤ 4294967295) : undot (dotTo ip 4) = (ip, 0) := by
  unfold undot; rw [loose_dot ip h0 h1, if_pos rfl]
theorem dotTo4_len (ip : Int) : (dotTo ip 4).length ≤ 16 := by have := dotTo_len ip 4; omega
theorem str_data (l : List UInt8) : (⟨l.toArray⟩ : ByteArray).data.toList = l := rfl
theorem str_eq (s : ByteArray) : (⟨s.data.toList.toArray⟩ : ByteArray) = s := rfl

/-- what Undotted answers: an address whose text it is, or none. -/
theorem undotted_cases (s : ByteArray) : (∃ c : Int, 0 ≤ c ∧ c ≤ 4294967295 ∧ s = ⟨(dotTo c 4).toArray⟩) ∨ undot s.data.toList = (0, 10) := by
  unfold undot
  have hb := loose_bd s.data.toList
  by_cases h : dotTo (loose s.data.toList) 4 = s.data.toList
  · left; exact ⟨_, hb.1, hb.2, by rw [h]⟩
  · right; rw [if_neg h]
/-- what Uncolons takes: a station whose text it is, or nothing. -/
theorem uncolons_cases (s : ByteArray) : (∃ b0 b1 b2 b3 b4 b5 : Int, (0 ≤ b0 ∧ b0 ≤ 255) ∧ (0 ≤ b1 ∧ b1 ≤ 255) ∧ (0 ≤ b2 ∧ b2 ≤ 255) ∧ (0 ≤ b3 ∧ b3 ≤ 255) ∧ (0 ≤ b4 ∧ b4 ≤ 255) ∧ (0 ≤ b5 ∧ b5 ≤ 255) ∧ s = ⟨(colL b0 b1 b2 b3 b4 b5).toArray⟩) ∨
    (∀ b0 b1 b2 b3 b4 b5 : Int, (0 ≤ b0 ∧ b0 ≤ 255) → (0 ≤ b1 ∧ b1 ≤ 255) → (0 ≤ b2 ∧ b2 ≤ 255) → (0 ≤ b3 ∧ b3 ≤ 255) → (0 ≤ b4 ∧ b4 ≤ 255) → (0 ≤ b5 ∧ b5 ≤ 255) → ¬ colL b0 b1 b2 b3 b4 b5 = s.data.toList) := by
  by_cases h : ∃ b0 b1 b2 b3 b4 b5 : Int, (0 ≤ b0 ∧ b0 ≤ 255) ∧ (0 ≤ b1 ∧ b1 ≤ 255) ∧ (0 ≤ b2 ∧ b2 ≤ 255) ∧ (0 ≤ b3 ∧ b3 ≤ 255) ∧ (0 ≤ b4 ∧ b4 ≤ 255) ∧ (0 ≤ b5 ∧ b5 ≤ 255) ∧ colL b0 b1 b2 b3 b4 b5 = s.data.toList
  · left
    obtain ⟨b0, b1, b2, b3, b4, b5, h0, h1, h2, h3, h4, h5, e⟩ := h
    exact ⟨b0, b1, b2, b3, b4, b5, h0, h1, h2, h3, h4, h5, by rw [e]⟩
  · right
    intro b0 b1 b2 b3 b4 b5 h0 h1 h2 h3 h4 h5 e
    exact h ⟨b0, b1, b2, b3, b4, b5, h0, h1, h2, h3, h4, h5, e⟩

end Go.Proofs.YtkijjmmebgogpaaDoor
