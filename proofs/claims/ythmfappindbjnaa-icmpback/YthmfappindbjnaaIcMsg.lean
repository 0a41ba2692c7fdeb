/-
  Messages as bytes, read and laid again.
-/
import Derived.Test.YthmfappindbjnaaIcDec
import Derived.Test.YthmfappindbjnaaIcEnc
namespace Go.Proofs.Ythmfappindbjnaa
open Go.RowKit
set_option linter.all false

theorem msg_back (zs : List Int) (h : ∀ z, z ∈ zs → 0 ≤ z ∧ z ≤ 255) (h8 : 8 ≤ zs.length) : zs = msgL (zs.getD 0 0) (zs.getD 1 0) (numAt zs 2) (num4 zs 4) (zs.drop 8) := by
  have hb := getD_mem_bd h
  obtain ⟨a, l, rfl⟩ : ∃ a l, zs = a :: l := by cases zs with | nil => simp at h8 | cons a l => exact ⟨a, l, rfl⟩
  obtain ⟨b, l, rfl⟩ : ∃ a l', l = a :: l' := by cases l with | nil => simp at h8 | cons a l => exact ⟨a, l, rfl⟩
  obtain ⟨c, l, rfl⟩ : ∃ a l', l = a :: l' := by cases l with | nil => simp at h8 | cons a l => exact ⟨a, l, rfl⟩
  obtain ⟨d, l, rfl⟩ : ∃ a l', l = a :: l' := by cases l with | nil => simp at h8 | cons a l => exact ⟨a, l, rfl⟩
  obtain ⟨e, l, rfl⟩ : ∃ a l', l = a :: l' := by cases l with | nil => simp at h8 | cons a l => exact ⟨a, l, rfl⟩
  obtain ⟨f, l, rfl⟩ : ∃ a l', l = a :: l' := by cases l with | nil => simp at h8 | cons a l => exact ⟨a, l, rfl⟩
  obtain ⟨g, l, rfl⟩ : ∃ a l', l = a :: l' := by cases l with | nil => simp at h8 | cons a l => exact ⟨a, l, rfl⟩
  obtain ⟨i, l, rfl⟩ : ∃ a l', l = a :: l' := by cases l with | nil => simp at h8 | cons a l => exact ⟨a, l, rfl⟩
  have b2 := hb 2
  have b3 := hb 3
  have b4 := hb 4
  have b5 := hb 5
  have b6 := hb 6
  have b7 := hb 7
  simp at b2 b3 b4 b5 b6 b7
  simp [msgL, op2, ip4, numAt, num4]
  omega
theorem encS_back (zs : List Int) (h : ∀ z, z ∈ zs → 0 ≤ z ∧ z ≤ 255) (h8 : 8 ≤ zs.length) : encS (zs.getD 0 0) (zs.getD 1 0) (num4 zs 4) (zs.drop 8) = isum zs := by
  have := msg_back zs h h8
  conv => rhs; rw [this]
  rfl
end Go.Proofs.Ythmfappindbjnaa
