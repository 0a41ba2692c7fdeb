/-
  The walk of the statement OctetRead.
-/
import Derived.Test.YtakjcjddbgapiabDoorMacEq
import Derived.Test.YtakjcjddbgapiabDoorMem
namespace Go.Proofs.YtakjcjddbgapiabDoor
open Go.RowKit
set_option linter.unusedVariables false

theorem undot_dot (ip : Int) (h0 : 0 ≤ ip) (h1 : ip ≤ 4294967295) : undot (dotTo ip 4) = (ip, 0) := by
  unfold undot; rw [loose_dot ip h0 h1, if_pos rfl]
theorem dotTo4_len (ip : Int) : (dotTo ip 4).length ≤ 16 := by have := dotTo_len ip 4; omega
theorem str_data (l : List UInt8) : (⟨l.toArray⟩ : ByteArray).data.toList = l := rfl
theorem str_eq (s : ByteArray) : (⟨s.data.toList.toArray⟩ : ByteArray) = s := rfl

/-- what Undotted answers: an address whose text it is, or none. -/
theorem undotted_cases (s : ByteArray) : (∃ c : Int, 0 ≤ c ∧ c ≤ 4294967295 ∧ s = ⟨(dotTo c 4).toArray⟩) ∨ undot s.data.toList = (0, 10) := by
  unfold undot
  have hb := loose_bd s.data.toList
  by_cases h : dotTo (loose s.data.toList) 4 = s.data.toList
  · left; exact ⟨_, hb.1, hb.2, by rw [h]⟩
  · right; rw [if_neg h]
/-- what Uncolons takes: a station whose text it is, or nothing. -/
theorem uncolons_cases (s : ByteArray) : (∃ b0 b1 b2 b3 b4 b5 : Int, (0 ≤ b0 ∧ b0 ≤ 255) ∧ (0 ≤ b1 ∧ b1 ≤ 255) ∧ (0 ≤ b2 ∧ b2 ≤ 255) ∧ (0 ≤ b3 ∧ b3 ≤ 255) ∧ (0 ≤ b4 ∧ b4 ≤ 255) ∧ (0 ≤ b5 ∧ b5 ≤ 255) ∧ s = ⟨(colL b0 b1 b2 b3 b4 b5).toArray⟩) ∨
    (∀ b0 b1 b2 b3 b4 b5 : Int, (0 ≤ b0 ∧ b0 ≤ 255) → (0 ≤ b1 ∧ b1 ≤ 255) → (0 ≤ b2 ∧ b2 ≤ 255) → (0 ≤ b3 ∧ b3 ≤ 255) → (0 ≤ b4 ∧ b4 ≤ 255) → (0 ≤ b5 ∧ b5 ≤ 255) → ¬ colL b0 b1 b2 b3 b4 b5 = s.data.toList) := by
  by_cases h : ∃ b0 b1 b2 b3 b4 b5 : Int, (0 ≤ b0 ∧ b0 ≤ 255) ∧ (0 ≤ b1 ∧ b1 ≤ 255) ∧ (0 ≤ b2 ∧ b2 ≤ 255) ∧ (0 ≤ b3 ∧ b3 ≤ 255) ∧ (0 ≤ b4 ∧ b4 ≤ 255) ∧ (0 ≤ b5 ∧ b5 ≤ 255) ∧ colL b0 b1 b2 b3 b4 b5 = s.data.toList
  · left
    obtain ⟨b0, b1, b2, b3, b4, b5, h0, h1, h2, h3, h4, h5, e⟩ := h
    exact ⟨b0, b1, b2, b3, b4, b5, h0, h1, h2, h3, h4, h5, by rw [e]⟩
  · right
    intro b0 b1 b2 b3 b4 b5 h0 h1 h2 h3 h4 h5 e
    exact h ⟨b0, b1, b2, b3, b4, b5, h0, h1, h2, h3, h4, h5, e⟩

set_option maxHeartbeats 2000000 in
theorem octetRead_walk (ip b0 b1 b2 b3 b4 b5 : Int) (s : ByteArray) (w : World) (ht : Pow10 w) (hip : 0 ≤ ip ∧ ip ≤ 4294967295) (h0 : 0 ≤ b0 ∧ b0 ≤ 255) (h1 : 0 ≤ b1 ∧ b1 ≤ 255) (h2 : 0 ≤ b2 ∧ b2 ≤ 255) (h3 : 0 ≤ b3 ∧ b3 ≤ 255) (h4 : 0 ≤ b4 ∧ b4 ≤ 255) (h5 : 0 ≤ b5 ∧ b5 ≤ 255) (hs : s.data.toList.length ≤ 140737488351232) :
    Calls Tryd.prog 7 #[.int .u32 ip, .agg #[.int .u8 b0, .int .u8 b1, .int .u8 b2, .int .u8 b3, .int .u8 b4, .int .u8 b5], .string s] w fun e w' => e = .returned (.bool true) ∧ Below w.heap.size w w' := by
  have HT : Hid (∀ w', Below w.heap.size w w' → Pow10 w') := Lib.tabBelow_of_tabIs ht
  have HSS : Hid (s.size ≤ maxLen) := by
    unfold Hid maxLen
    have : s.size = s.data.toList.length := by simp
    omega
  have hms := mac_same b0 b1 b2 b3 b4 b5
  have HMS : Hid (∀ w, (Op.equalIn 10000 34 (.agg #[.int .u8 b0, .int .u8 b1, .int .u8 b2, .int .u8 b3, .int .u8 b4, .int .u8 b5]) (.agg #[.int .u8 b0, .int .u8 b1, .int .u8 b2, .int .u8 b3, .int .u8 b4, .int .u8 b5])).run Tryd.prog w = .ok true w) := fun w => mac_same b0 b1 b2 b3 b4 b5 w h0 h1 h2 h3 h4 h5
  have hz0 : (0 : Int) ≤ 0 ∧ (0 : Int) ≤ 255 := by omega
  have HZS : Hid (∀ w, (Op.equalIn 10000 34 (.agg #[.int .u8 0, .int .u8 0, .int .u8 0, .int .u8 0, .int .u8 0, .int .u8 0]) (.agg #[.int .u8 0, .int .u8 0, .int .u8 0, .int .u8 0, .int .u8 0, .int .u8 0])).run Tryd.prog w = .ok true w) := fun w => mac_same 0 0 0 0 0 0 w hz0 hz0 hz0 hz0 hz0 hz0
  have HCO : Hid (∀ w, Calls Tryd.prog 20 #[.agg #[.int .u8 b0, .int .u8 b1, .int .u8 b2, .int .u8 b3, .int .u8 b4, .int .u8 b5]] w fun e w' => e = .returned (.string ⟨(colL b0 b1 b2 b3 b4 b5).toArray⟩) ∧ Below w.heap.size w w') := fun w => colons_any b0 b1 b2 b3 b4 b5 w h0 h1 h2 h3 h4 h5
  have HUN : Hid (∀ w, Calls Tryd.prog 16 #[.string ⟨(colL b0 b1 b2 b3 b4 b5).toArray⟩] w fun e w' => e = .returned (.tuple #[.agg #[.int .u8 b0, .int .u8 b1, .int .u8 b2, .int .u8 b3, .int .u8 b4, .int .u8 b5], .int .i64 0]) ∧ Below w.heap.size w w') := fun w => uncolons_yes b0 b1 b2 b3 b4 b5 w h0 h1 h2 h3 h4 h5
  have HUD : Hid (∀ w, Pow10 w → Calls Tryd.prog 14 #[.string ⟨(dotTo ip 4).toArray⟩] w fun e w' => e = .returned (.tuple #[.int .u32 ip, .int .i64 0]) ∧ Below w.heap.size w w') := fun w hw => by
    have h := undotted_any ⟨(dotTo ip 4).toArray⟩ w (by unfold maxLen; have := dotTo4_len ip; show (dotTo ip 4).toArray.size ≤ _; simp; omega) hw
    rw [str_data, undot_dot ip hip.1 hip.2] at h
    exact h
  have HC1 : Hid _ := undotted_cases s
  have HC2 : Hid _ := uncolons_cases s
  generalize colL b0 b1 b2 b3 b4 b5 = CL at *
  clear ht hs hms hz0
  go_enter Tryd.func7, Tryd.ntmps7
  go_wp2_with fail
  refine (live_any _ (HT.out _ ((Below.refl _ _).alloc (Nat.le_refl _) _))).mono ?_
  rintro e w1 ⟨rfl, hb1⟩
  have HM1 : Hid (∀ o, w1.cell? ⟨w.heap.size, o, none⟩ = (#[.int .u8 b0, .int .u8 b1, .int .u8 b2, .int .u8 b3, .int .u8 b4, .int .u8 b5] : Array Value)[o]?) := fun o => by
    rw [hb1.cell (p := ⟨w.heap.size, o, none⟩) (by simp), World.cell?_alloc_at _ _ _ _ rfl]
  have hz1 : w.heap.size + 1 ≤ w1.heap.size := by have := hb1.size; simpa using this
  have HB1 : Hid (Below w.heap.size w w1) := ((Below.refl _ _).alloc (Nat.le_refl _) _).trans (hb1.mono (by simp))
  clear hb1
  go_wp2_with fail
  refine (dotted_any ip _ hip.1 hip.2 (HT.out _ HB1.out)).mono ?_
  rintro e w2 ⟨rfl, hb2⟩
  have HB2 : Hid (Below w.heap.size w w2) := HB1.out.trans (hb2.mono (by omega))
  have HM2 : Hid (∀ o, w2.cell? ⟨w.heap.size, o, none⟩ = (#[.int .u8 b0, .int .u8 b1, .int .u8 b2, .int .u8 b3, .int .u8 b4, .int .u8 b5] : Array Value)[o]?) := fun o => by
    rw [hb2.cell (p := ⟨w.heap.size, o, none⟩) (by simp; omega), HM1.out]
  have hz2 : w.heap.size + 1 ≤ w2.heap.size := by have := hb2.size; omega
  clear hb2
  go_wp2_with fail
  refine (HUD.out _ (HT.out _ HB2.out)).mono ?_
  rintro e w3 ⟨rfl, hb3⟩
  have HB3 : Hid (Below w.heap.size w w3) := HB2.out.trans (hb3.mono (by omega))
  have hm3 : ∀ o, w3.cell? ⟨w.heap.size, o, none⟩ = (#[.int .u8 b0, .int .u8 b1, .int .u8 b2, .int .u8 b3, .int .u8 b4, .int .u8 b5] : Array Value)[o]? := fun o => by
    rw [hb3.cell (p := ⟨w.heap.size, o, none⟩) (by simp; omega), HM2.out]
  have HM3 : Hid (∀ o, w3.cell? ⟨w.heap.size, o, none⟩ = (#[.int .u8 b0, .int .u8 b1, .int .u8 b2, .int .u8 b3, .int .u8 b4, .int .u8 b5] : Array Value)[o]?) := hm3
  have hz3 : w.heap.size + 1 ≤ w3.heap.size := by have := hb3.size; omega
  clear hb3
  go_wp2_with fail
  clear hm3
  refine (HCO.out _).mono ?_
  rintro e w4 ⟨rfl, hb4⟩
  have HB4 : Hid (Below w.heap.size w w4) := HB3.out.trans (hb4.mono (by omega))
  have HM4 : Hid (∀ o, w4.cell? ⟨w.heap.size, o, none⟩ = (#[.int .u8 b0, .int .u8 b1, .int .u8 b2, .int .u8 b3, .int .u8 b4, .int .u8 b5] : Array Value)[o]?) := fun o => by
    rw [hb4.cell (p := ⟨w.heap.size, o, none⟩) (by simp; omega), HM3.out]
  have hz4 : w.heap.size + 1 ≤ w4.heap.size := by have := hb4.size; omega
  clear hb4
  go_wp2_with fail
  refine (HUN.out _).mono ?_
  rintro e w5 ⟨rfl, hb5⟩
  have HB5 : Hid (Below w.heap.size w w5) := HB4.out.trans (hb5.mono (by omega))
  have HM5 : Hid (∀ o, w5.cell? ⟨w.heap.size, o, none⟩ = (#[.int .u8 b0, .int .u8 b1, .int .u8 b2, .int .u8 b3, .int .u8 b4, .int .u8 b5] : Array Value)[o]?) := fun o => by
    rw [hb5.cell (p := ⟨w.heap.size, o, none⟩) (by simp; omega), HM4.out]
  have hz5 : w.heap.size + 1 ≤ w5.heap.size := by have := hb5.size; omega
  clear hb5
  go_wp2_with fail
  refine (undotted_any s _ HSS.out (HT.out _ (HB5.out.alloc (by omega) _))).mono ?_
  rintro e w6 ⟨rfl, hb6⟩
  have HB6 : Hid (Below w.heap.size w w6) := (HB5.out.alloc (by omega) _).trans (hb6.mono (by simp; omega))
  have HM6 : Hid (∀ o, w6.cell? ⟨w.heap.size, o, none⟩ = (#[.int .u8 b0, .int .u8 b1, .int .u8 b2, .int .u8 b3, .int .u8 b4, .int .u8 b5] : Array Value)[o]?) := fun o => by
    rw [hb6.cell (p := ⟨w.heap.size, o, none⟩) (by simp; omega), World.cell?_alloc_past _ _ _ (by omega), HM5.out]
  have HN6 : Hid (∀ o, w6.cell? ⟨w5.heap.size, o, none⟩ = (#[.int .u8 b0, .int .u8 b1, .int .u8 b2, .int .u8 b3, .int .u8 b4, .int .u8 b5] : Array Value)[o]?) := fun o => by
    rw [hb6.cell (p := ⟨w5.heap.size, o, none⟩) (by simp), World.cell?_alloc_at _ _ _ _ rfl]
  have hz6 : w5.heap.size + 1 ≤ w6.heap.size := by have := hb6.size; simpa using this
  clear hb6
  have HU : Hid (∃ c g : Int, undot s.data.toList = (c, g) ∧ ((g = 10 ∧ c = 0) ∨ (g = 0 ∧ 0 ≤ c ∧ c ≤ 4294967295 ∧ s = ⟨(dotTo c 4).toArray⟩))) := by
    rcases HC1.out with ⟨c, h0, h1, e⟩ | h
    · refine ⟨c, 0, ?_, Or.inr ⟨rfl, h0, h1, e⟩⟩
      rw [e, str_data, undot_dot c h0 h1]
    · exact ⟨0, 10, h, Or.inl ⟨rfl, rfl⟩⟩
  obtain ⟨c, g, hug, hcg⟩ := HU.out
  rw [hug]
  simp only
  have HCG : Hid _ := hcg
  clear hug HU HC1 hcg
  go_wp2_with fail
  have HV : Hid (∃ (d0 d1 d2 d3 d4 d5 h : Int), (∀ w, Calls Tryd.prog 16 #[.string s] w fun e w' => e = .returned (.tuple #[.agg #[.int .u8 d0, .int .u8 d1, .int .u8 d2, .int .u8 d3, .int .u8 d4, .int .u8 d5], .int .i64 h]) ∧ Below w.heap.size w w') ∧
      ((h = 10 ∧ d0 = 0 ∧ d1 = 0 ∧ d2 = 0 ∧ d3 = 0 ∧ d4 = 0 ∧ d5 = 0) ∨ (h = 0 ∧ ∀ w, Calls Tryd.prog 20 #[.agg #[.int .u8 d0, .int .u8 d1, .int .u8 d2, .int .u8 d3, .int .u8 d4, .int .u8 d5]] w fun e w' => e = .returned (.string s) ∧ Below w.heap.size w w'))) := by
    rcases HC2.out with ⟨d0, d1, d2, d3, d4, d5, k0, k1, k2, k3, k4, k5, e⟩ | h
    · refine ⟨d0, d1, d2, d3, d4, d5, 0, fun w => ?_, Or.inr ⟨rfl, fun w => ?_⟩⟩
      · rw [e]; exact uncolons_yes d0 d1 d2 d3 d4 d5 w k0 k1 k2 k3 k4 k5
      · rw [e]; exact colons_any d0 d1 d2 d3 d4 d5 w k0 k1 k2 k3 k4 k5
    · exact ⟨0, 0, 0, 0, 0, 0, 10, fun w => uncolons_no s w h, Or.inl ⟨rfl, rfl, rfl, rfl, rfl, rfl, rfl⟩⟩
  obtain ⟨d0, d1, d2, d3, d4, d5, h, hun, hdd⟩ := HV.out
  have HDD : Hid _ := hdd
  refine (hun _).mono ?_
  rintro e w7 ⟨rfl, hb7⟩
  have HB7 : Hid (Below w.heap.size w w7) := HB6.out.trans (hb7.mono (by omega))
  have HM7 : Hid (∀ o, w7.cell? ⟨w.heap.size, o, none⟩ = (#[.int .u8 b0, .int .u8 b1, .int .u8 b2, .int .u8 b3, .int .u8 b4, .int .u8 b5] : Array Value)[o]?) := fun o => by
    rw [hb7.cell (p := ⟨w.heap.size, o, none⟩) (by simp; omega), HM6.out]
  have HN7 : Hid (∀ o, w7.cell? ⟨w5.heap.size, o, none⟩ = (#[.int .u8 b0, .int .u8 b1, .int .u8 b2, .int .u8 b3, .int .u8 b4, .int .u8 b5] : Array Value)[o]?) := fun o => by
    rw [hb7.cell (p := ⟨w5.heap.size, o, none⟩) (by simp; omega), HN6.out]
  have hz7 : w5.heap.size + 1 ≤ w7.heap.size := by have := hb7.size; omega
  clear hb7 hun hdd HV HC2
  rcases HCG.out with ⟨rfl, rfl⟩ | ⟨rfl, hc0, hc1, hse⟩
  · rcases HDD.out with ⟨rfl, rfl, rfl, rfl, rfl, rfl, rfl⟩ | ⟨rfl, hcol⟩
    · have hmF := HM7.out
      have hnF := HN7.out
      have hmsF := HMS.out
      have hzsF := HZS.out
      have l1 : w.heap.size < w7.heap.size := by omega
      have l2 : w5.heap.size < w7.heap.size := by omega
      go_wp2
      go_ret
      exact ⟨rfl, HB7.out.alloc (by omega) _⟩
    · have HCOL : Hid (∀ w, Calls Tryd.prog 20 #[.agg #[.int .u8 d0, .int .u8 d1, .int .u8 d2, .int .u8 d3, .int .u8 d4, .int .u8 d5]] w fun e w' => e = .returned (.string s) ∧ Below w.heap.size w w') := hcol
      clear hcol
      go_wp2_with fail
      refine (HCOL.out _).mono ?_
      rintro e w9 ⟨rfl, hb9⟩
      have HB9 : Hid (Below w.heap.size w w9) := (HB7.out.alloc (by omega) _).trans (hb9.mono (by simp; omega))
      have hmF : ∀ o, w9.cell? ⟨w.heap.size, o, none⟩ = (#[.int .u8 b0, .int .u8 b1, .int .u8 b2, .int .u8 b3, .int .u8 b4, .int .u8 b5] : Array Value)[o]? := fun o => by
        rw [hb9.cell (p := ⟨w.heap.size, o, none⟩) (by simp; omega), World.cell?_alloc_past _ _ _ (by omega), HM7.out]
      have hnF : ∀ o, w9.cell? ⟨w5.heap.size, o, none⟩ = (#[.int .u8 b0, .int .u8 b1, .int .u8 b2, .int .u8 b3, .int .u8 b4, .int .u8 b5] : Array Value)[o]? := fun o => by
        rw [hb9.cell (p := ⟨w5.heap.size, o, none⟩) (by simp; omega), World.cell?_alloc_past _ _ _ (by omega), HN7.out]
      clear hb9
      have hmsF := HMS.out
      go_wp2
      go_ret
      exact ⟨rfl, HB9.out⟩
  · have HSE : Hid (s = ⟨(dotTo c 4).toArray⟩) := hse
    have hse2 : ((dotTo c 4) == s.toList) = true := by rw [ByteArray.toList_eq, HSE.out]; simp
    clear hse
    go_wp2_with fail
    refine (dotted_any c _ hc0 hc1 (HT.out _ (HB7.out.alloc (by omega) _))).mono ?_
    rintro e w8 ⟨rfl, hb8⟩
    have HB8 : Hid (Below w.heap.size w w8) := (HB7.out.alloc (by omega) _).trans (hb8.mono (by simp; omega))
    have HM8 : Hid (∀ o, w8.cell? ⟨w.heap.size, o, none⟩ = (#[.int .u8 b0, .int .u8 b1, .int .u8 b2, .int .u8 b3, .int .u8 b4, .int .u8 b5] : Array Value)[o]?) := fun o => by
      rw [hb8.cell (p := ⟨w.heap.size, o, none⟩) (by simp; omega), World.cell?_alloc_past _ _ _ (by omega), HM7.out]
    have HN8 : Hid (∀ o, w8.cell? ⟨w5.heap.size, o, none⟩ = (#[.int .u8 b0, .int .u8 b1, .int .u8 b2, .int .u8 b3, .int .u8 b4, .int .u8 b5] : Array Value)[o]?) := fun o => by
      rw [hb8.cell (p := ⟨w5.heap.size, o, none⟩) (by simp; omega), World.cell?_alloc_past _ _ _ (by omega), HN7.out]
    have HD8 : Hid (∀ o, w8.cell? ⟨w7.heap.size, o, none⟩ = (#[.int .u8 d0, .int .u8 d1, .int .u8 d2, .int .u8 d3, .int .u8 d4, .int .u8 d5] : Array Value)[o]?) := fun o => by
      rw [hb8.cell (p := ⟨w7.heap.size, o, none⟩) (by simp), World.cell?_alloc_at _ _ _ _ rfl]
    have hz8 : w7.heap.size + 1 ≤ w8.heap.size := by have := hb8.size; simpa using this
    clear hb8
    rcases HDD.out with ⟨rfl, rfl, rfl, rfl, rfl, rfl, rfl⟩ | ⟨rfl, hcol⟩
    · have hmF := HM8.out
      have hnF := HN8.out
      have hdF := HD8.out
      have hmsF := HMS.out
      have hzsF := HZS.out
      go_wp2
      go_ret
      exact ⟨rfl, HB8.out⟩
    · have hdF := HD8.out
      have HCOL : Hid (∀ w, Calls Tryd.prog 20 #[.agg #[.int .u8 d0, .int .u8 d1, .int .u8 d2, .int .u8 d3, .int .u8 d4, .int .u8 d5]] w fun e w' => e = .returned (.string s) ∧ Below w.heap.size w w') := hcol
      clear hcol
      go_wp2_with fail
      refine (HCOL.out _).mono ?_
      rintro e w9 ⟨rfl, hb9⟩
      have HB9 : Hid (Below w.heap.size w w9) := HB8.out.trans (hb9.mono (by omega))
      have HM9 : Hid (∀ o, w9.cell? ⟨w.heap.size, o, none⟩ = (#[.int .u8 b0, .int .u8 b1, .int .u8 b2, .int .u8 b3, .int .u8 b4, .int .u8 b5] : Array Value)[o]?) := fun o => by
        rw [hb9.cell (p := ⟨w.heap.size, o, none⟩) (by simp; omega), HM8.out]
      have HN9 : Hid (∀ o, w9.cell? ⟨w5.heap.size, o, none⟩ = (#[.int .u8 b0, .int .u8 b1, .int .u8 b2, .int .u8 b3, .int .u8 b4, .int .u8 b5] : Array Value)[o]?) := fun o => by
        rw [hb9.cell (p := ⟨w5.heap.size, o, none⟩) (by simp; omega), HN8.out]
      clear hb9 hdF
      have hmF := HM9.out
      have hnF := HN9.out
      have hmsF := HMS.out
      go_wp2
      go_ret
      exact ⟨rfl, HB9.out⟩

end Go.Proofs.YtakjcjddbgapiabDoor
