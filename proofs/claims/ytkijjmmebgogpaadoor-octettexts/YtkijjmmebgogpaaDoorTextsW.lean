/-
  The walk of the statement OctetTexts.
-/
import Derived.Test.YtkijjmmebgogpaaDoorReadC
import Derived.Test.YtkijjmmebgogpaaDoorRefDot
import Derived.Test.YtkijjmmebgogpaaDoorRefUncC
import Derived.Deep.RegionHeld3
namespace Go.Proofs.YtkijjmmebgogpaaDoor
open Go.RowKit
set_option linter.unusedVariables false

/-- what both readers of stations answer, one as the other. -/
theorem both_uncolons (s : ByteArray) : ∃ (d0 d1 d2 d3 d4 d5 h : Int), ((0 ≤ d0 ∧ d0 ≤ 255) ∧ (0 ≤ d1 ∧ d1 ≤ 255) ∧ (0 ≤ d2 ∧ d2 ≤ 255) ∧ (0 ≤ d3 ∧ d3 ≤ 255) ∧ (0 ≤ d4 ∧ d4 ≤ 255) ∧ (0 ≤ d5 ∧ d5 ≤ 255)) ∧
    (∀ w, Calls Tryd.prog 12 #[.string s] w fun e w' => e = .returned (.tuple #[.agg #[.int .u8 d0, .int .u8 d1, .int .u8 d2, .int .u8 d3, .int .u8 d4, .int .u8 d5], .int .i64 h]) ∧ Below w.heap.size w w') ∧
    (∀ w, Calls Tryd.prog 13 #[.string s] w fun e w' => e = .returned (.tuple #[.agg #[.int .u8 d0, .int .u8 d1, .int .u8 d2, .int .u8 d3, .int .u8 d4, .int .u8 d5], .int .i64 h]) ∧ Below w.heap.size w w') := by
  rcases uncolons_cases s with ⟨d0, d1, d2, d3, d4, d5, k0, k1, k2, k3, k4, k5, e⟩ | h
  · refine ⟨d0, d1, d2, d3, d4, d5, 0, ⟨k0, k1, k2, k3, k4, k5⟩, fun w => ?_, fun w => ?_⟩
    · rw [e]; exact uncolons_yes d0 d1 d2 d3 d4 d5 w k0 k1 k2 k3 k4 k5
    · rw [e]; exact refUncolons_yes d0 d1 d2 d3 d4 d5 w k0 k1 k2 k3 k4 k5
  · have z : (0 : Int) ≤ 0 ∧ (0 : Int) ≤ 255 := by omega
    exact ⟨0, 0, 0, 0, 0, 0, 10, ⟨z, z, z, z, z, z⟩, fun w => uncolons_no s w h, fun w => refUncolons_no s w h⟩

set_option maxHeartbeats 2000000 in
theorem octetTexts_walk (ip b0 b1 b2 b3 b4 b5 : Int) (s : ByteArray) (w : World) (ht : Pow10 w) (hip : 0 ≤ ip ∧ ip ≤ 4294967295) (h0 : 0 ≤ b0 ∧ b0 ≤ 255) (h1 : 0 ≤ b1 ∧ b1 ≤ 255) (h2 : 0 ≤ b2 ∧ b2 ≤ 255) (h3 : 0 ≤ b3 ∧ b3 ≤ 255) (h4 : 0 ≤ b4 ∧ b4 ≤ 255) (h5 : 0 ≤ b5 ∧ b5 ≤ 255) (hs : s.data.toList.length ≤ 140737488351232) :
    Calls Tryd.prog 4 #[.int .u32 ip, .agg #[.int .u8 b0, .int .u8 b1, .int .u8 b2, .int .u8 b3, .int .u8 b4, .int .u8 b5], .string s] w fun e w' => e = .returned (.bool true) ∧ Below w.heap.size w w' := by
  have HT : Hid (∀ w', Below w.heap.size w w' → Pow10 w') := Lib.tabBelow_of_tabIs ht
  have HSS : Hid (s.size ≤ maxLen) := by
    unfold Hid maxLen
    have : s.size = s.data.toList.length := by simp
    omega
  obtain ⟨d0, d1, d2, d3, d4, d5, h, ⟨k0, k1, k2, k3, k4, k5⟩, hu1, hu2⟩ := both_uncolons s
  have HU1 : Hid (∀ w, Calls Tryd.prog 12 #[.string s] w fun e w' => e = .returned (.tuple #[.agg #[.int .u8 d0, .int .u8 d1, .int .u8 d2, .int .u8 d3, .int .u8 d4, .int .u8 d5], .int .i64 h]) ∧ Below w.heap.size w w') := hu1
  have HU2 : Hid (∀ w, Calls Tryd.prog 13 #[.string s] w fun e w' => e = .returned (.tuple #[.agg #[.int .u8 d0, .int .u8 d1, .int .u8 d2, .int .u8 d3, .int .u8 d4, .int .u8 d5], .int .i64 h]) ∧ Below w.heap.size w w') := hu2
  have HDS : Hid (∀ w, (Op.equalIn 10000 35 (.agg #[.int .u8 d0, .int .u8 d1, .int .u8 d2, .int .u8 d3, .int .u8 d4, .int .u8 d5]) (.agg #[.int .u8 d0, .int .u8 d1, .int .u8 d2, .int .u8 d3, .int .u8 d4, .int .u8 d5])).run Tryd.prog w = .ok true w) := fun w => mac_same d0 d1 d2 d3 d4 d5 w k0 k1 k2 k3 k4 k5
  have HCO : Hid (∀ w, Calls Tryd.prog 16 #[.agg #[.int .u8 b0, .int .u8 b1, .int .u8 b2, .int .u8 b3, .int .u8 b4, .int .u8 b5]] w fun e w' => e = .returned (.string ⟨(colL b0 b1 b2 b3 b4 b5).toArray⟩) ∧ Below w.heap.size w w') := fun w => colons_any b0 b1 b2 b3 b4 b5 w h0 h1 h2 h3 h4 h5
  have HCR : Hid (∀ w, Calls Tryd.prog 17 #[.agg #[.int .u8 b0, .int .u8 b1, .int .u8 b2, .int .u8 b3, .int .u8 b4, .int .u8 b5]] w fun e w' => e = .returned (.string ⟨(colL b0 b1 b2 b3 b4 b5).toArray⟩) ∧ Below w.heap.size w w') := fun w => refColons_any b0 b1 b2 b3 b4 b5 w h0 h1 h2 h3 h4 h5
  have HDO : Hid (∀ w, Pow10 w → Calls Tryd.prog 14 #[.int .u32 ip] w fun e w' => e = .returned (.string ⟨(dotTo ip 4).toArray⟩) ∧ Below w.heap.size w w') := fun w hw => dotted_any ip w hip.1 hip.2 hw
  have HDR : Hid (∀ w, Calls Tryd.prog 15 #[.int .u32 ip] w fun e w' => e = .returned (.string ⟨(dotTo ip 4).toArray⟩) ∧ Below w.heap.size w w') := fun w => refDotted_any ip w hip.1 hip.2
  have HA1 : Hid (∀ w, Pow10 w → Calls Tryd.prog 10 #[.string s] w fun e w' => e = .returned (.tuple #[.int .u32 (undot s.data.toList).1, .int .i64 (undot s.data.toList).2]) ∧ Below w.heap.size w w') := fun w hw => undotted_any s w HSS.out hw
  have HA2 : Hid (∀ w, Calls Tryd.prog 11 #[.string s] w fun e w' => e = .returned (.tuple #[.int .u32 (undot s.data.toList).1, .int .i64 (undot s.data.toList).2]) ∧ Below w.heap.size w w') := fun w => refUndotted_any s w
  generalize (undot s.data.toList).1 = c at *
  generalize (undot s.data.toList).2 = g at *
  generalize colL b0 b1 b2 b3 b4 b5 = CL at *
  generalize dotTo ip 4 = DL at *
  clear ht hs hu1 hu2 k0 k1 k2 k3 k4 k5
  go_enter Tryd.func4, Tryd.ntmps4
  go_wp2_with fail
  refine (live_any _ (HT.out _ ((Below.refl _ _).alloc (Nat.le_refl _) _))).mono ?_
  rintro e w1 ⟨rfl, hb1⟩
  have HM1 : Hid (∀ o, w1.cell? ⟨w.heap.size, o, none⟩ = (#[.int .u8 b0, .int .u8 b1, .int .u8 b2, .int .u8 b3, .int .u8 b4, .int .u8 b5] : Array Value)[o]?) := fun o => by
    rw [hb1.cell (p := ⟨w.heap.size, o, none⟩) (by simp), World.cell?_alloc_at _ _ _ _ rfl]
  have hz1 : w.heap.size + 1 ≤ w1.heap.size := by have := hb1.size; simpa using this
  have HB1 : Hid (Below w.heap.size w w1) := ((Below.refl _ _).alloc (Nat.le_refl _) _).trans (hb1.mono (by simp))
  clear hb1
  go_wp2_with fail
  refine (HA1.out _ (HT.out _ HB1.out)).mono ?_
  rintro e w2 ⟨rfl, hb2⟩
  have HB2 : Hid (Below w.heap.size w w2) := HB1.out.trans (hb2.mono (by omega))
  have HM2 : Hid (∀ o, w2.cell? ⟨w.heap.size, o, none⟩ = (#[.int .u8 b0, .int .u8 b1, .int .u8 b2, .int .u8 b3, .int .u8 b4, .int .u8 b5] : Array Value)[o]?) := fun o => by
    rw [hb2.cell (p := ⟨w.heap.size, o, none⟩) (by simp; omega), HM1.out]
  have hz2 : w.heap.size + 1 ≤ w2.heap.size := by have := hb2.size; omega
  clear hb2
  go_wp2_with fail
  refine (HA2.out _).mono ?_
  rintro e w3 ⟨rfl, hb3⟩
  have HB3 : Hid (Below w.heap.size w w3) := HB2.out.trans (hb3.mono (by omega))
  have HM3 : Hid (∀ o, w3.cell? ⟨w.heap.size, o, none⟩ = (#[.int .u8 b0, .int .u8 b1, .int .u8 b2, .int .u8 b3, .int .u8 b4, .int .u8 b5] : Array Value)[o]?) := fun o => by
    rw [hb3.cell (p := ⟨w.heap.size, o, none⟩) (by simp; omega), HM2.out]
  have hz3 : w.heap.size + 1 ≤ w3.heap.size := by have := hb3.size; omega
  clear hb3
  go_wp2_with fail
  refine (HU1.out _).mono ?_
  rintro e w4 ⟨rfl, hb4⟩
  have HB4 : Hid (Below w.heap.size w w4) := HB3.out.trans (hb4.mono (by omega))
  have HM4 : Hid (∀ o, w4.cell? ⟨w.heap.size, o, none⟩ = (#[.int .u8 b0, .int .u8 b1, .int .u8 b2, .int .u8 b3, .int .u8 b4, .int .u8 b5] : Array Value)[o]?) := fun o => by
    rw [hb4.cell (p := ⟨w.heap.size, o, none⟩) (by simp; omega), HM3.out]
  have hz4 : w.heap.size + 1 ≤ w4.heap.size := by have := hb4.size; omega
  clear hb4
  go_wp2_with fail
  refine (HU2.out _).mono ?_
  rintro e w5 ⟨rfl, hb5⟩
  have HB5 : Hid (Below w.heap.size w w5) := (HB4.out.alloc (by omega) _).trans (hb5.mono (by simp; omega))
  have HM5 : Hid (∀ o, w5.cell? ⟨w.heap.size, o, none⟩ = (#[.int .u8 b0, .int .u8 b1, .int .u8 b2, .int .u8 b3, .int .u8 b4, .int .u8 b5] : Array Value)[o]?) := fun o => by
    rw [hb5.cell (p := ⟨w.heap.size, o, none⟩) (by simp; omega), World.cell?_alloc_past _ _ _ (by omega), HM4.out]
  have HN5 : Hid (∀ o, w5.cell? ⟨w4.heap.size, o, none⟩ = (#[.int .u8 d0, .int .u8 d1, .int .u8 d2, .int .u8 d3, .int .u8 d4, .int .u8 d5] : Array Value)[o]?) := fun o => by
    rw [hb5.cell (p := ⟨w4.heap.size, o, none⟩) (by simp), World.cell?_alloc_at _ _ _ _ rfl]
  have hz5 : w4.heap.size + 1 ≤ w5.heap.size := by have := hb5.size; simpa using this
  clear hb5
  go_wp2_with fail
  generalize hw6 : w5.alloc (.cells #[.int .u8 d0, .int .u8 d1, .int .u8 d2, .int .u8 d3, .int .u8 d4, .int .u8 d5] 35) = w6
  have hS6 : (∀ o, w6.cell? ⟨w.heap.size, o, none⟩ = (#[.int .u8 b0, .int .u8 b1, .int .u8 b2, .int .u8 b3, .int .u8 b4, .int .u8 b5] : Array Value)[o]?) ∧ (∀ o, w6.cell? ⟨w4.heap.size, o, none⟩ = (#[.int .u8 d0, .int .u8 d1, .int .u8 d2, .int .u8 d3, .int .u8 d4, .int .u8 d5] : Array Value)[o]?) ∧ (∀ o, w6.cell? ⟨w5.heap.size, o, none⟩ = (#[.int .u8 d0, .int .u8 d1, .int .u8 d2, .int .u8 d3, .int .u8 d4, .int .u8 d5] : Array Value)[o]?) ∧ Hid (Below w.heap.size w w6 ∧ w5.heap.size + 1 ≤ w6.heap.size) := by
    subst hw6
    refine ⟨fun o => ?_, fun o => ?_, fun o => ?_, (HB5.out.alloc (by omega) _), by simp⟩
    · rw [World.cell?_alloc_past _ _ _ (by omega), HM5.out]
    · rw [World.cell?_alloc_past _ _ _ (by omega), HN5.out]
    · rw [World.cell?_alloc_at _ _ _ _ rfl]
  have HK : Hid (∀ wc w', ((∀ o, wc.cell? ⟨w.heap.size, o, none⟩ = (#[.int .u8 b0, .int .u8 b1, .int .u8 b2, .int .u8 b3, .int .u8 b4, .int .u8 b5] : Array Value)[o]?) ∧ (∀ o, wc.cell? ⟨w4.heap.size, o, none⟩ = (#[.int .u8 d0, .int .u8 d1, .int .u8 d2, .int .u8 d3, .int .u8 d4, .int .u8 d5] : Array Value)[o]?) ∧ (∀ o, wc.cell? ⟨w5.heap.size, o, none⟩ = (#[.int .u8 d0, .int .u8 d1, .int .u8 d2, .int .u8 d3, .int .u8 d4, .int .u8 d5] : Array Value)[o]?) ∧ Hid (Below w.heap.size w wc ∧ w5.heap.size + 1 ≤ wc.heap.size)) → Below wc.heap.size wc w' → ((∀ o, w'.cell? ⟨w.heap.size, o, none⟩ = (#[.int .u8 b0, .int .u8 b1, .int .u8 b2, .int .u8 b3, .int .u8 b4, .int .u8 b5] : Array Value)[o]?) ∧ (∀ o, w'.cell? ⟨w4.heap.size, o, none⟩ = (#[.int .u8 d0, .int .u8 d1, .int .u8 d2, .int .u8 d3, .int .u8 d4, .int .u8 d5] : Array Value)[o]?) ∧ (∀ o, w'.cell? ⟨w5.heap.size, o, none⟩ = (#[.int .u8 d0, .int .u8 d1, .int .u8 d2, .int .u8 d3, .int .u8 d4, .int .u8 d5] : Array Value)[o]?) ∧ Hid (Below w.heap.size w w' ∧ w5.heap.size + 1 ≤ w'.heap.size))) := by
    intro wc w' ⟨a1, a2, a3, a4⟩ hb
    have q := a4.out
    have hsz := hb.size
    refine ⟨fun o => ?_, fun o => ?_, fun o => ?_, q.1.trans (hb.mono (by omega)), by omega⟩
    · rw [hb.cell (p := ⟨w.heap.size, o, none⟩) (by simp; omega), a1]
    · rw [hb.cell (p := ⟨w4.heap.size, o, none⟩) (by simp; omega), a2]
    · rw [hb.cell (p := ⟨w5.heap.size, o, none⟩) (by simp; omega), a3]
  have HF : Hid (∀ wf, ((∀ o, wf.cell? ⟨w.heap.size, o, none⟩ = (#[.int .u8 b0, .int .u8 b1, .int .u8 b2, .int .u8 b3, .int .u8 b4, .int .u8 b5] : Array Value)[o]?) ∧ (∀ o, wf.cell? ⟨w4.heap.size, o, none⟩ = (#[.int .u8 d0, .int .u8 d1, .int .u8 d2, .int .u8 d3, .int .u8 d4, .int .u8 d5] : Array Value)[o]?) ∧ (∀ o, wf.cell? ⟨w5.heap.size, o, none⟩ = (#[.int .u8 d0, .int .u8 d1, .int .u8 d2, .int .u8 d3, .int .u8 d4, .int .u8 d5] : Array Value)[o]?) ∧ Hid (Below w.heap.size w wf ∧ w5.heap.size + 1 ≤ wf.heap.size)) → Below w.heap.size w wf) := fun wf h => h.2.2.2.out.1
  have A1 : Hid (∀ wc, ((∀ o, wc.cell? ⟨w.heap.size, o, none⟩ = (#[.int .u8 b0, .int .u8 b1, .int .u8 b2, .int .u8 b3, .int .u8 b4, .int .u8 b5] : Array Value)[o]?) ∧ (∀ o, wc.cell? ⟨w4.heap.size, o, none⟩ = (#[.int .u8 d0, .int .u8 d1, .int .u8 d2, .int .u8 d3, .int .u8 d4, .int .u8 d5] : Array Value)[o]?) ∧ (∀ o, wc.cell? ⟨w5.heap.size, o, none⟩ = (#[.int .u8 d0, .int .u8 d1, .int .u8 d2, .int .u8 d3, .int .u8 d4, .int .u8 d5] : Array Value)[o]?) ∧ Hid (Below w.heap.size w wc ∧ w5.heap.size + 1 ≤ wc.heap.size)) → Calls Tryd.prog 14 #[.int .u32 ip] wc fun e w' => e = .returned (.string ⟨DL.toArray⟩) ∧ ((∀ o, w'.cell? ⟨w.heap.size, o, none⟩ = (#[.int .u8 b0, .int .u8 b1, .int .u8 b2, .int .u8 b3, .int .u8 b4, .int .u8 b5] : Array Value)[o]?) ∧ (∀ o, w'.cell? ⟨w4.heap.size, o, none⟩ = (#[.int .u8 d0, .int .u8 d1, .int .u8 d2, .int .u8 d3, .int .u8 d4, .int .u8 d5] : Array Value)[o]?) ∧ (∀ o, w'.cell? ⟨w5.heap.size, o, none⟩ = (#[.int .u8 d0, .int .u8 d1, .int .u8 d2, .int .u8 d3, .int .u8 d4, .int .u8 d5] : Array Value)[o]?) ∧ Hid (Below w.heap.size w w' ∧ w5.heap.size + 1 ≤ w'.heap.size))) := fun wc h => (HDO.out wc (HT.out _ (HF.out _ h))).mono fun e w' ⟨he, hb⟩ => ⟨he, HK.out _ _ h hb⟩
  have A2 : Hid (∀ wc, ((∀ o, wc.cell? ⟨w.heap.size, o, none⟩ = (#[.int .u8 b0, .int .u8 b1, .int .u8 b2, .int .u8 b3, .int .u8 b4, .int .u8 b5] : Array Value)[o]?) ∧ (∀ o, wc.cell? ⟨w4.heap.size, o, none⟩ = (#[.int .u8 d0, .int .u8 d1, .int .u8 d2, .int .u8 d3, .int .u8 d4, .int .u8 d5] : Array Value)[o]?) ∧ (∀ o, wc.cell? ⟨w5.heap.size, o, none⟩ = (#[.int .u8 d0, .int .u8 d1, .int .u8 d2, .int .u8 d3, .int .u8 d4, .int .u8 d5] : Array Value)[o]?) ∧ Hid (Below w.heap.size w wc ∧ w5.heap.size + 1 ≤ wc.heap.size)) → Calls Tryd.prog 15 #[.int .u32 ip] wc fun e w' => e = .returned (.string ⟨DL.toArray⟩) ∧ ((∀ o, w'.cell? ⟨w.heap.size, o, none⟩ = (#[.int .u8 b0, .int .u8 b1, .int .u8 b2, .int .u8 b3, .int .u8 b4, .int .u8 b5] : Array Value)[o]?) ∧ (∀ o, w'.cell? ⟨w4.heap.size, o, none⟩ = (#[.int .u8 d0, .int .u8 d1, .int .u8 d2, .int .u8 d3, .int .u8 d4, .int .u8 d5] : Array Value)[o]?) ∧ (∀ o, w'.cell? ⟨w5.heap.size, o, none⟩ = (#[.int .u8 d0, .int .u8 d1, .int .u8 d2, .int .u8 d3, .int .u8 d4, .int .u8 d5] : Array Value)[o]?) ∧ Hid (Below w.heap.size w w' ∧ w5.heap.size + 1 ≤ w'.heap.size))) := fun wc h => (HDR.out wc).mono fun e w' ⟨he, hb⟩ => ⟨he, HK.out _ _ h hb⟩
  have A3 : Hid (∀ wc, ((∀ o, wc.cell? ⟨w.heap.size, o, none⟩ = (#[.int .u8 b0, .int .u8 b1, .int .u8 b2, .int .u8 b3, .int .u8 b4, .int .u8 b5] : Array Value)[o]?) ∧ (∀ o, wc.cell? ⟨w4.heap.size, o, none⟩ = (#[.int .u8 d0, .int .u8 d1, .int .u8 d2, .int .u8 d3, .int .u8 d4, .int .u8 d5] : Array Value)[o]?) ∧ (∀ o, wc.cell? ⟨w5.heap.size, o, none⟩ = (#[.int .u8 d0, .int .u8 d1, .int .u8 d2, .int .u8 d3, .int .u8 d4, .int .u8 d5] : Array Value)[o]?) ∧ Hid (Below w.heap.size w wc ∧ w5.heap.size + 1 ≤ wc.heap.size)) → Calls Tryd.prog 16 #[.agg #[.int .u8 b0, .int .u8 b1, .int .u8 b2, .int .u8 b3, .int .u8 b4, .int .u8 b5]] wc fun e w' => e = .returned (.string ⟨CL.toArray⟩) ∧ ((∀ o, w'.cell? ⟨w.heap.size, o, none⟩ = (#[.int .u8 b0, .int .u8 b1, .int .u8 b2, .int .u8 b3, .int .u8 b4, .int .u8 b5] : Array Value)[o]?) ∧ (∀ o, w'.cell? ⟨w4.heap.size, o, none⟩ = (#[.int .u8 d0, .int .u8 d1, .int .u8 d2, .int .u8 d3, .int .u8 d4, .int .u8 d5] : Array Value)[o]?) ∧ (∀ o, w'.cell? ⟨w5.heap.size, o, none⟩ = (#[.int .u8 d0, .int .u8 d1, .int .u8 d2, .int .u8 d3, .int .u8 d4, .int .u8 d5] : Array Value)[o]?) ∧ Hid (Below w.heap.size w w' ∧ w5.heap.size + 1 ≤ w'.heap.size))) := fun wc h => (HCO.out wc).mono fun e w' ⟨he, hb⟩ => ⟨he, HK.out _ _ h hb⟩
  have A4 : Hid (∀ wc, ((∀ o, wc.cell? ⟨w.heap.size, o, none⟩ = (#[.int .u8 b0, .int .u8 b1, .int .u8 b2, .int .u8 b3, .int .u8 b4, .int .u8 b5] : Array Value)[o]?) ∧ (∀ o, wc.cell? ⟨w4.heap.size, o, none⟩ = (#[.int .u8 d0, .int .u8 d1, .int .u8 d2, .int .u8 d3, .int .u8 d4, .int .u8 d5] : Array Value)[o]?) ∧ (∀ o, wc.cell? ⟨w5.heap.size, o, none⟩ = (#[.int .u8 d0, .int .u8 d1, .int .u8 d2, .int .u8 d3, .int .u8 d4, .int .u8 d5] : Array Value)[o]?) ∧ Hid (Below w.heap.size w wc ∧ w5.heap.size + 1 ≤ wc.heap.size)) → Calls Tryd.prog 17 #[.agg #[.int .u8 b0, .int .u8 b1, .int .u8 b2, .int .u8 b3, .int .u8 b4, .int .u8 b5]] wc fun e w' => e = .returned (.string ⟨CL.toArray⟩) ∧ ((∀ o, w'.cell? ⟨w.heap.size, o, none⟩ = (#[.int .u8 b0, .int .u8 b1, .int .u8 b2, .int .u8 b3, .int .u8 b4, .int .u8 b5] : Array Value)[o]?) ∧ (∀ o, w'.cell? ⟨w4.heap.size, o, none⟩ = (#[.int .u8 d0, .int .u8 d1, .int .u8 d2, .int .u8 d3, .int .u8 d4, .int .u8 d5] : Array Value)[o]?) ∧ (∀ o, w'.cell? ⟨w5.heap.size, o, none⟩ = (#[.int .u8 d0, .int .u8 d1, .int .u8 d2, .int .u8 d3, .int .u8 d4, .int .u8 d5] : Array Value)[o]?) ∧ Hid (Below w.heap.size w w' ∧ w5.heap.size + 1 ≤ w'.heap.size))) := fun wc h => (HCR.out wc).mono fun e w' ⟨he, hb⟩ => ⟨he, HK.out _ _ h hb⟩
  have hds := HDS.out
  clear HT HSS HU1 HU2 HDS HCO HCR HDO HDR HA1 HA2 HM1 HM2 HM3 HM4 HM5 HN5 HB1 HB2 HB3 HB4 HB5 hz1 hz2 hz3 hz4 hz5 HK hw6
  go_region_held3 (fun w' => (∀ o, w'.cell? ⟨w.heap.size, o, none⟩ = (#[.int .u8 b0, .int .u8 b1, .int .u8 b2, .int .u8 b3, .int .u8 b4, .int .u8 b5] : Array Value)[o]?) ∧ (∀ o, w'.cell? ⟨w4.heap.size, o, none⟩ = (#[.int .u8 d0, .int .u8 d1, .int .u8 d2, .int .u8 d3, .int .u8 d4, .int .u8 d5] : Array Value)[o]?) ∧ (∀ o, w'.cell? ⟨w5.heap.size, o, none⟩ = (#[.int .u8 d0, .int .u8 d1, .int .u8 d2, .int .u8 d3, .int .u8 d4, .int .u8 d5] : Array Value)[o]?) ∧ Hid (Below w.heap.size w w' ∧ w5.heap.size + 1 ≤ w'.heap.size)) (first | assumption | exact ⟨hS6.1, hS6.2.1, hS6.2.2.1, hS6.2.2.2.out.1.drew, hS6.2.2.2.out.2⟩ | go_keep) (first
    | (go_at_call 14; refine (A1.out _ (by assumption)).mono ?_; rintro e w' ⟨rfl, hS⟩)
    | (go_at_call 15; refine (A2.out _ (by assumption)).mono ?_; rintro e w' ⟨rfl, hS⟩)
    | (go_at_call 16; refine (A3.out _ (by assumption)).mono ?_; rintro e w' ⟨rfl, hS⟩)
    | (go_at_call 17; refine (A4.out _ (by assumption)).mono ?_; rintro e w' ⟨rfl, hS⟩))
  all_goals go_wp2
  all_goals go_ret
  all_goals first | exact ⟨by simp, HF.out _ (by assumption)⟩ | exact ⟨by simp, (HF.out _ (by assumption)).drew⟩
end Go.Proofs.YtkijjmmebgogpaaDoor
