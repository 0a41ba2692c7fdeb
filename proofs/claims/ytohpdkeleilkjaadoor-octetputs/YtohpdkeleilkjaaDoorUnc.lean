/-
  The contract of octet.Uncolons.
-/
import Derived.Test.YtohpdkeleilkjaaDoorCol
import Derived.Test.YtohpdkeleilkjaaDoorSta
namespace Go.Proofs.YtohpdkeleilkjaaDoor
open Go.RowKit
set_option linter.unusedVariables false

def hxc (y : Int) : UInt8 := UInt8.ofNat (hexd y).toNat
theorem pr_hx : ∀ u : Fin 256, pr (hxc ((u.val : Int) / 16)) (hxc ((u.val : Int) % 16)) = (u.val : Int) := by decide +kernel
theorem pr_hex (b : Int) (h : 0 ≤ b ∧ b ≤ 255) : pr (hxc (b / 16)) (hxc (b % 16)) = b := by
  obtain ⟨n, rfl⟩ := Int.eq_ofNat_of_zero_le h.1
  exact pr_hx ⟨n, by omega⟩
theorem pr_bd (x y : UInt8) : 0 ≤ pr x y ∧ pr x y ≤ 255 := by
  unfold pr
  have h1 := ldig_bd (x.toNat : Int)
  have h2 := ldig_bd (y.toNat : Int)
  rw [u8_or _ _ (by omega) (by omega) h2.1 (by omega)]
  have : (ldig ↑x.toNat * 16 % 256).toNat ||| (ldig ↑y.toNat).toNat < 2 ^ 8 := Nat.or_lt_two_pow (by omega) (by omega)
  omega

set_option maxHeartbeats 400000 in
theorem uncolons_yes (b0 b1 b2 b3 b4 b5 : Int) (w : World) (h0 : 0 ≤ b0 ∧ b0 ≤ 255) (h1 : 0 ≤ b1 ∧ b1 ≤ 255) (h2 : 0 ≤ b2 ∧ b2 ≤ 255) (h3 : 0 ≤ b3 ∧ b3 ≤ 255) (h4 : 0 ≤ b4 ∧ b4 ≤ 255) (h5 : 0 ≤ b5 ∧ b5 ≤ 255) :
    Calls Tryd.prog 12 #[.string ⟨(colL b0 b1 b2 b3 b4 b5).toArray⟩] w fun e w' => e = .returned (.tuple #[.agg #[.int .u8 b0, .int .u8 b1, .int .u8 b2, .int .u8 b3, .int .u8 b4, .int .u8 b5], .int .i64 0]) ∧ Below w.heap.size w w' := by
  have HL : Hid (∀ w, Calls Tryd.prog 21 #[.string ⟨(colL b0 b1 b2 b3 b4 b5).toArray⟩] w fun e w' => e = .returned (.agg #[.int .u8 b0, .int .u8 b1, .int .u8 b2, .int .u8 b3, .int .u8 b4, .int .u8 b5]) ∧ Below w.heap.size w w') := by
    intro w
    have h := looseStation_yes (hxc (b0 / 16)) (hxc (b0 % 16)) 58 (hxc (b1 / 16)) (hxc (b1 % 16)) 58 (hxc (b2 / 16)) (hxc (b2 % 16)) 58 (hxc (b3 / 16)) (hxc (b3 % 16)) 58 (hxc (b4 / 16)) (hxc (b4 % 16)) 58 (hxc (b5 / 16)) (hxc (b5 % 16)) w
    simp only [macTo, pr_hex _ h0, pr_hex _ h1, pr_hex _ h2, pr_hex _ h3, pr_hex _ h4, pr_hex _ h5] at h
    exact h
  have HC : Hid (∀ w, Calls Tryd.prog 14 #[.agg #[.int .u8 b0, .int .u8 b1, .int .u8 b2, .int .u8 b3, .int .u8 b4, .int .u8 b5]] w fun e w' => e = .returned (.string ⟨(colL b0 b1 b2 b3 b4 b5).toArray⟩) ∧ Below w.heap.size w w') := fun w => colons_any b0 b1 b2 b3 b4 b5 w h0 h1 h2 h3 h4 h5
  obtain ⟨S, hS⟩ : ∃ S, S = (colL b0 b1 b2 b3 b4 b5) := ⟨_, rfl⟩
  rw [← hS] at HL HC ⊢
  clear hS h0 h1 h2 h3 h4 h5
  go_enter Tryd.func12, Tryd.ntmps12
  go_wp2_with fail
  refine (HL.out _).mono ?_
  rintro e w1 ⟨rfl, hb1⟩
  have hz1 : w.heap.size + 1 ≤ w1.heap.size := by have := hb1.size; simpa using this
  have HZ : Hid (∀ o, w1.cell? ⟨w.heap.size, o, none⟩ = (#[.int .u8 0, .int .u8 0, .int .u8 0, .int .u8 0, .int .u8 0, .int .u8 0] : Array Value)[o]?) := fun o => by
    rw [hb1.cell (p := ⟨w.heap.size, o, none⟩) (by simp), World.cell?_alloc_at _ _ _ _ rfl]
  have HF : Hid (∀ o, w1.frozen? ⟨w.heap.size, o, none⟩ = false) := fun o => by
    rw [hb1.frozen (p := ⟨w.heap.size, o, none⟩) (by simp), World.frozen?_alloc_at _ _ _ _ rfl]
  have HB1 : Hid (Below w.heap.size w w1) := ((Below.refl _ _).alloc (Nat.le_refl _) _).trans (hb1.mono (by simp))
  clear hb1
  go_wp2_with fail
  refine (HC.out _).mono ?_
  rintro e w2 ⟨rfl, hb2⟩
  have hm : ∀ o, w2.cell? ⟨w1.heap.size, o, none⟩ = (#[.int .u8 b0, .int .u8 b1, .int .u8 b2, .int .u8 b3, .int .u8 b4, .int .u8 b5] : Array Value)[o]? := fun o => by
    rw [hb2.cell (p := ⟨w1.heap.size, o, none⟩) (by simp), World.cell?_alloc_at _ _ _ _ rfl]
  have hzz : ∀ o, w2.cell? ⟨w.heap.size, o, none⟩ = (#[.int .u8 0, .int .u8 0, .int .u8 0, .int .u8 0, .int .u8 0, .int .u8 0] : Array Value)[o]? := fun o => by
    rw [hb2.cell (p := ⟨w.heap.size, o, none⟩) (by simp; omega), World.cell?_alloc_past _ _ _ (by omega), HZ.out]
  have hff : ∀ o, w2.frozen? ⟨w.heap.size, o, none⟩ = false := fun o => by
    rw [hb2.frozen (p := ⟨w.heap.size, o, none⟩) (by simp; omega), World.frozen?_alloc_past _ _ _ (by omega), HF.out]
  have HB2 : Hid (Below w.heap.size w w2) := (HB1.out.alloc (by omega) _).trans (hb2.mono (by simp; omega))
  have hz2 : w1.heap.size + 1 ≤ w2.heap.size := by have := hb2.size; simpa using this
  clear hb2
  go_wp2
  exact bodyPost_ret (v := .tuple #[.agg #[.int .u8 b0, .int .u8 b1, .int .u8 b2, .int .u8 b3, .int .u8 b4, .int .u8 b5], .int .i64 0]) (by simp [results, Tryd.results12, go_sem, hzz]) rfl ⟨rfl, ((((((HB2.out.setCell (Nat.le_refl _) _).setCell (Nat.le_refl _) _).setCell (Nat.le_refl _) _).setCell (Nat.le_refl _) _).setCell (Nat.le_refl _) _).setCell (Nat.le_refl _) _)⟩

set_option maxHeartbeats 400000 in
theorem uncolons_core (b0 b1 b2 b3 b4 b5 : Int) (s : ByteArray) (w : World) (h0 : 0 ≤ b0 ∧ b0 ≤ 255) (h1 : 0 ≤ b1 ∧ b1 ≤ 255) (h2 : 0 ≤ b2 ∧ b2 ≤ 255) (h3 : 0 ≤ b3 ∧ b3 ≤ 255) (h4 : 0 ≤ b4 ∧ b4 ≤ 255) (h5 : 0 ≤ b5 ∧ b5 ≤ 255)
    (hl : ∀ w, Calls Tryd.prog 21 #[.string s] w fun e w' => e = .returned (.agg #[.int .u8 b0, .int .u8 b1, .int .u8 b2, .int .u8 b3, .int .u8 b4, .int .u8 b5]) ∧ Below w.heap.size w w') (hne : ¬ colL b0 b1 b2 b3 b4 b5 = s.data.toList) :
    Calls Tryd.prog 12 #[.string s] w fun e w' => e = .returned (.tuple #[.agg #[.int .u8 0, .int .u8 0, .int .u8 0, .int .u8 0, .int .u8 0, .int .u8 0], .int .i64 10]) ∧ Below w.heap.size w w' := by
  have HL : Hid (∀ w, Calls Tryd.prog 21 #[.string s] w fun e w' => e = .returned (.agg #[.int .u8 b0, .int .u8 b1, .int .u8 b2, .int .u8 b3, .int .u8 b4, .int .u8 b5]) ∧ Below w.heap.size w w') := hl
  clear hl
  have HC : Hid (∀ w, Calls Tryd.prog 14 #[.agg #[.int .u8 b0, .int .u8 b1, .int .u8 b2, .int .u8 b3, .int .u8 b4, .int .u8 b5]] w fun e w' => e = .returned (.string ⟨(colL b0 b1 b2 b3 b4 b5).toArray⟩) ∧ Below w.heap.size w w') := fun w => colons_any b0 b1 b2 b3 b4 b5 w h0 h1 h2 h3 h4 h5
  obtain ⟨S, hS⟩ : ∃ S, S = (colL b0 b1 b2 b3 b4 b5) := ⟨_, rfl⟩
  rw [← hS] at HC hne
  have hn1 : (S == s.toList) = false := by rw [ByteArray.toList_eq]; simpa using hne
  clear hS h0 h1 h2 h3 h4 h5 hne
  go_enter Tryd.func12, Tryd.ntmps12
  go_wp2_with fail
  refine (HL.out _).mono ?_
  rintro e w1 ⟨rfl, hb1⟩
  have hz1 : w.heap.size + 1 ≤ w1.heap.size := by have := hb1.size; simpa using this
  have HZ : Hid (∀ o, w1.cell? ⟨w.heap.size, o, none⟩ = (#[.int .u8 0, .int .u8 0, .int .u8 0, .int .u8 0, .int .u8 0, .int .u8 0] : Array Value)[o]?) := fun o => by
    rw [hb1.cell (p := ⟨w.heap.size, o, none⟩) (by simp), World.cell?_alloc_at _ _ _ _ rfl]
  have HF : Hid (∀ o, w1.frozen? ⟨w.heap.size, o, none⟩ = false) := fun o => by
    rw [hb1.frozen (p := ⟨w.heap.size, o, none⟩) (by simp), World.frozen?_alloc_at _ _ _ _ rfl]
  have HB1 : Hid (Below w.heap.size w w1) := ((Below.refl _ _).alloc (Nat.le_refl _) _).trans (hb1.mono (by simp))
  clear hb1
  go_wp2_with fail
  refine (HC.out _).mono ?_
  rintro e w2 ⟨rfl, hb2⟩
  have hm : ∀ o, w2.cell? ⟨w1.heap.size, o, none⟩ = (#[.int .u8 b0, .int .u8 b1, .int .u8 b2, .int .u8 b3, .int .u8 b4, .int .u8 b5] : Array Value)[o]? := fun o => by
    rw [hb2.cell (p := ⟨w1.heap.size, o, none⟩) (by simp), World.cell?_alloc_at _ _ _ _ rfl]
  have hzz : ∀ o, w2.cell? ⟨w.heap.size, o, none⟩ = (#[.int .u8 0, .int .u8 0, .int .u8 0, .int .u8 0, .int .u8 0, .int .u8 0] : Array Value)[o]? := fun o => by
    rw [hb2.cell (p := ⟨w.heap.size, o, none⟩) (by simp; omega), World.cell?_alloc_past _ _ _ (by omega), HZ.out]
  have hff : ∀ o, w2.frozen? ⟨w.heap.size, o, none⟩ = false := fun o => by
    rw [hb2.frozen (p := ⟨w.heap.size, o, none⟩) (by simp; omega), World.frozen?_alloc_past _ _ _ (by omega), HF.out]
  have HB2 : Hid (Below w.heap.size w w2) := (HB1.out.alloc (by omega) _).trans (hb2.mono (by simp; omega))
  have hz2 : w1.heap.size + 1 ≤ w2.heap.size := by have := hb2.size; simpa using this
  clear hb2
  go_wp2
  exact bodyPost_ret (v := .tuple #[.agg #[.int .u8 0, .int .u8 0, .int .u8 0, .int .u8 0, .int .u8 0, .int .u8 0], .int .i64 10]) (by simp [results, Tryd.results12, go_sem, hzz]) rfl ⟨rfl, ((((((HB2.out.setCell (Nat.le_refl _) _).setCell (Nat.le_refl _) _).setCell (Nat.le_refl _) _).setCell (Nat.le_refl _) _).setCell (Nat.le_refl _) _).setCell (Nat.le_refl _) _)⟩

theorem colL_len (b0 b1 b2 b3 b4 b5 : Int) : (colL b0 b1 b2 b3 b4 b5).length = 17 := by simp [colL, hx2]

theorem uncolons_no (s : ByteArray) (w : World)
    (h : ∀ b0 b1 b2 b3 b4 b5 : Int, (0 ≤ b0 ∧ b0 ≤ 255) → (0 ≤ b1 ∧ b1 ≤ 255) → (0 ≤ b2 ∧ b2 ≤ 255) → (0 ≤ b3 ∧ b3 ≤ 255) → (0 ≤ b4 ∧ b4 ≤ 255) → (0 ≤ b5 ∧ b5 ≤ 255) → ¬ colL b0 b1 b2 b3 b4 b5 = s.data.toList) :
    Calls Tryd.prog 12 #[.string s] w fun e w' => e = .returned (.tuple #[.agg #[.int .u8 0, .int .u8 0, .int .u8 0, .int .u8 0, .int .u8 0, .int .u8 0], .int .i64 10]) ∧ Below w.heap.size w w' := by
  by_cases hs : s.size = 17
  · obtain ⟨⟨l⟩⟩ := s
    have hl : l.length = 17 := hs
    match l, hl with
    | [c0, c1, c2, c3, c4, c5, c6, c7, c8, c9, c10, c11, c12, c13, c14, c15, c16], _ =>
      have e := fun w => looseStation_yes c0 c1 c2 c3 c4 c5 c6 c7 c8 c9 c10 c11 c12 c13 c14 c15 c16 w
      simp only [macTo] at e
      exact uncolons_core _ _ _ _ _ _ _ w (pr_bd _ _) (pr_bd _ _) (pr_bd _ _) (pr_bd _ _) (pr_bd _ _) (pr_bd _ _) e (h _ _ _ _ _ _ (pr_bd _ _) (pr_bd _ _) (pr_bd _ _) (pr_bd _ _) (pr_bd _ _) (pr_bd _ _))
  · have hz : (0 : Int) ≤ 0 ∧ (0 : Int) ≤ 255 := by omega
    exact uncolons_core 0 0 0 0 0 0 s w hz hz hz hz hz hz (fun w => looseStation_no s w (by simp; omega)) (h _ _ _ _ _ _ hz hz hz hz hz hz)
end Go.Proofs.YtohpdkeleilkjaaDoor
