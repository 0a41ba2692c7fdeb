/-
  Times, levels and slots: where a time lies as seen from another one.
-/
namespace Go.Proofs.Ythgcjocjkeieaaa
set_option linter.all false

def unit : Nat → Int
  | 0 => 1
  | 1 => 64
  | 2 => 4096
  | 3 => 262144
  | _ => 16777216
/-- the beginning of a slot. -/
def stt (t : Int) (l : Nat) : Int := t / unit l * unit l
def lev (n t : Int) : Nat := if n / 64 = t / 64 then 0 else if n / 4096 = t / 4096 then 1 else if n / 262144 = t / 262144 then 2 else if n / 16777216 = t / 16777216 then 3 else 4
def slt (t : Int) (l : Nat) : Nat := (t / unit l % 64).toNat
/-- the slot's number over all levels; 256: beyond. -/
def plc (n t : Int) : Nat := if lev n t = 4 then 256 else lev n t * 64 + slt t (lev n t)
theorem lev_le (n t : Int) : lev n t ≤ 4 := by unfold lev; (repeat' split) <;> omega
theorem slt_lt (t : Int) (l : Nat) : slt t l < 64 := by unfold slt; omega
theorem plc_le (n t : Int) : plc n t ≤ 256 := by
  have := lev_le n t
  have := slt_lt t (lev n t)
  unfold plc; split <;> omega
theorem plc_far {n t : Int} : plc n t = 256 ↔ lev n t = 4 := by
  have := lev_le n t
  have := slt_lt t (lev n t)
  unfold plc; split <;> omega
theorem plc_div (n t : Int) : plc n t / 64 = lev n t := by
  have := lev_le n t
  have := slt_lt t (lev n t)
  unfold plc; split <;> omega
theorem plc_near {n t : Int} (h : lev n t ≠ 4) : plc n t = lev n t * 64 + slt t (lev n t) := by unfold plc; rw [if_neg h]
theorem lev_cases (n t : Int) : (lev n t = 0 ∧ n / 64 = t / 64) ∨ (lev n t = 1 ∧ n / 64 ≠ t / 64 ∧ n / 4096 = t / 4096) ∨ (lev n t = 2 ∧ n / 4096 ≠ t / 4096 ∧ n / 262144 = t / 262144) ∨ (lev n t = 3 ∧ n / 262144 ≠ t / 262144 ∧ n / 16777216 = t / 16777216) ∨ (lev n t = 4 ∧ n / 16777216 ≠ t / 16777216) := by
  unfold lev
  by_cases h0 : n / 64 = t / 64
  · simp [h0]
  · by_cases h1 : n / 4096 = t / 4096
    · simp [h0, h1]
    · by_cases h2 : n / 262144 = t / 262144
      · simp [h0, h1, h2]
      · by_cases h3 : n / 16777216 = t / 16777216
        · simp [h0, h1, h2, h3]
        · simp [h0, h1, h2, h3]
theorem lev0 {n t : Int} (h : n / 64 = t / 64) : lev n t = 0 := by unfold lev; rw [if_pos h]
theorem lev1 {n t : Int} (h0 : n / 64 ≠ t / 64) (h : n / 4096 = t / 4096) : lev n t = 1 := by unfold lev; rw [if_neg h0, if_pos h]
theorem lev2 {n t : Int} (h0 : n / 4096 ≠ t / 4096) (h : n / 262144 = t / 262144) : lev n t = 2 := by unfold lev; rw [if_neg (by omega), if_neg h0, if_pos h]
theorem lev3 {n t : Int} (h0 : n / 262144 ≠ t / 262144) (h : n / 16777216 = t / 16777216) : lev n t = 3 := by unfold lev; rw [if_neg (by omega), if_neg (by omega), if_neg h0, if_pos h]
theorem lev4 {n t : Int} (h : n / 16777216 ≠ t / 16777216) : lev n t = 4 := by unfold lev; rw [if_neg (by omega), if_neg (by omega), if_neg (by omega), if_neg h]
/-- seen from a later time m that lies no further than t's slot, t lies where it lay. -/
theorem lev_keep {n m t : Int} (h0 : n ≤ m) (h1 : m < stt t (lev n t)) : lev m t = lev n t := by
  rcases lev_cases n t with ⟨e, h⟩ | ⟨e, h, k⟩ | ⟨e, h, k⟩ | ⟨e, h, k⟩ | ⟨e, h⟩
  · rw [e] at h1 ⊢; simp only [stt, unit] at h1; exact lev0 (by omega)
  · rw [e] at h1 ⊢; simp only [stt, unit] at h1; exact lev1 (by omega) (by omega)
  · rw [e] at h1 ⊢; simp only [stt, unit] at h1; exact lev2 (by omega) (by omega)
  · rw [e] at h1 ⊢; simp only [stt, unit] at h1; exact lev3 (by omega) (by omega)
  · rw [e] at h1 ⊢; simp only [stt, unit] at h1; exact lev4 (by omega)
theorem plc_keep {n m t : Int} (h0 : n ≤ m) (h1 : m < stt t (lev n t)) : plc m t = plc n t := by unfold plc; rw [lev_keep h0 h1]
/-- what stands in front, and what does not. -/
theorem stt_le (t : Int) (l : Nat) : stt t l ≤ t := by
  unfold stt
  match l with
  | 0 => simp only [unit]; omega
  | 1 => simp only [unit]; omega
  | 2 => simp only [unit]; omega
  | 3 => simp only [unit]; omega
  | _ + 4 => simp only [unit]; omega
theorem le_stt {n t : Int} (h : n ≤ t) : n ≤ stt t (lev n t) := by
  unfold stt
  rcases lev_cases n t with ⟨e, h⟩ | ⟨e, h, k⟩ | ⟨e, h, k⟩ | ⟨e, h, k⟩ | ⟨e, h⟩ <;> rw [e] <;> simp only [unit] <;> omega
/-- on one level, the further slot is the later one. -/
theorem later_slot {n x y : Int} (hx : n ≤ x) (hy : n ≤ y) (hl : lev n x = lev n y) (h4 : lev n x ≠ 4) (hs : slt x (lev n x) < slt y (lev n x)) : stt x (lev n x) + unit (lev n x) ≤ stt y (lev n x) := by
  unfold slt at hs
  unfold stt
  rcases lev_cases n x with ⟨e, h⟩ | ⟨e, h, k⟩ | ⟨e, h, k⟩ | ⟨e, h, k⟩ | ⟨e, h⟩ <;> rcases lev_cases n y with ⟨f, i⟩ | ⟨f, i, j⟩ | ⟨f, i, j⟩ | ⟨f, i, j⟩ | ⟨f, i⟩ <;> rw [e] at hl hs h4 ⊢ <;> simp only [unit] at hs ⊢ <;> omega
theorem same_slot {n x y : Int} (hx : n ≤ x) (hy : n ≤ y) (hl : lev n x = lev n y) (h4 : lev n x ≠ 4) (hs : slt x (lev n x) = slt y (lev n x)) : stt x (lev n x) = stt y (lev n x) := by
  unfold slt at hs
  unfold stt
  rcases lev_cases n x with ⟨e, h⟩ | ⟨e, h, k⟩ | ⟨e, h, k⟩ | ⟨e, h, k⟩ | ⟨e, h⟩ <;> rcases lev_cases n y with ⟨f, i⟩ | ⟨f, i, j⟩ | ⟨f, i, j⟩ | ⟨f, i, j⟩ | ⟨f, i⟩ <;> rw [e] at hl hs h4 ⊢ <;> simp only [unit] at hs ⊢ <;> omega
/-- what stands on a higher level is later. -/
theorem later_level {n x y : Int} (hx : n ≤ x) (hy : n ≤ y) (hl : lev n x < lev n y) : stt x (lev n x) + unit (lev n x) ≤ stt y (lev n y) := by
  unfold stt
  rcases lev_cases n x with ⟨e, h⟩ | ⟨e, h, k⟩ | ⟨e, h, k⟩ | ⟨e, h, k⟩ | ⟨e, h⟩ <;> rcases lev_cases n y with ⟨f, i⟩ | ⟨f, i, j⟩ | ⟨f, i, j⟩ | ⟨f, i, j⟩ | ⟨f, i⟩ <;> rw [e, f] at hl ⊢ <;> simp only [unit] at hl ⊢ <;> omega
theorem unit_pos (l : Nat) : 0 < unit l := by
  match l with
  | 0 => simp [unit]
  | 1 => simp [unit]
  | 2 => simp [unit]
  | 3 => simp [unit]
  | _ + 4 => simp [unit]
theorem later {n x y : Int} (hx : n ≤ x) (hy : n ≤ y) (h4 : lev n x ≠ 4) (h : plc n x < plc n y) : stt x (lev n x) + unit (lev n x) ≤ stt y (lev n y) := by
  have a := slt_lt x (lev n x)
  have b := slt_lt y (lev n y)
  have c := lev_le n y
  by_cases e : lev n x = lev n y
  · rw [← e]
    refine later_slot hx hy e h4 ?_
    rw [plc_near h4, plc_near (by omega), ← e] at h
    omega
  · refine later_level hx hy ?_
    rw [plc_near h4] at h
    have := plc_div n y
    omega
theorem same {n x y : Int} (hx : n ≤ x) (hy : n ≤ y) (h4 : lev n x ≠ 4) (h : plc n x = plc n y) : lev n x = lev n y ∧ stt x (lev n x) = stt y (lev n y) := by
  have e : lev n x = lev n y := by rw [← plc_div, ← plc_div, h]
  refine ⟨e, ?_⟩
  rw [← e]
  refine same_slot hx hy e h4 ?_
  rw [plc_near h4, plc_near (by omega), ← e] at h
  omega
/-- seen from its slot's beginning, a time lies on a lower level. -/
theorem lower {t : Int} (n : Int) (h0 : lev n t ≠ 0) : lev (stt t (lev n t)) t < lev n t := by
  unfold stt
  rcases lev_cases n t with ⟨e, h⟩ | ⟨e, h, k⟩ | ⟨e, h, k⟩ | ⟨e, h, k⟩ | ⟨e, h⟩
  · exact absurd e h0
  · rw [e]; simp only [unit]; rw [lev0 (by omega)]; omega
  · rw [e]; simp only [unit]; rcases lev_cases (t / 4096 * 4096) t with ⟨f, i⟩ | ⟨f, i, j⟩ | ⟨f, i, j⟩ | ⟨f, i, j⟩ | ⟨f, i⟩ <;> omega
  · rw [e]; simp only [unit]; rcases lev_cases (t / 262144 * 262144) t with ⟨f, i⟩ | ⟨f, i, j⟩ | ⟨f, i, j⟩ | ⟨f, i, j⟩ | ⟨f, i⟩ <;> omega
  · rw [e]; simp only [unit]; rcases lev_cases (t / 16777216 * 16777216) t with ⟨f, i⟩ | ⟨f, i, j⟩ | ⟨f, i, j⟩ | ⟨f, i, j⟩ | ⟨f, i⟩ <;> omega
/-- on the lowest level a slot is one time. -/
theorem lowest_at {n t : Int} (h : lev n t = 0) : stt t (lev n t) = t := by rw [h]; simp [stt, unit]
/-- far times: by the stretches of all levels together. -/
theorem far_stt {n t : Int} (h : lev n t = 4) : stt t (lev n t) = t / 16777216 * 16777216 := by rw [h]; simp [stt, unit]
theorem far_iff {s x y : Int} (hs : s = x / 16777216 * 16777216) (h : x ≤ y) : lev s y = 4 ↔ s + 16777216 ≤ y := by
  rcases lev_cases s y with ⟨f, i⟩ | ⟨f, i, j⟩ | ⟨f, i, j⟩ | ⟨f, i, j⟩ | ⟨f, i⟩ <;> omega
end Go.Proofs.Ythgcjocjkeieaaa
