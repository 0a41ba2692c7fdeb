/-
  Tftp: the program's bytes.Cut at a byte 0, small, valueOf.
-/
import Derived.Test.YtdcppiknomoigaaDoorTgH
import Derived.Lib.OthersKept
namespace Go.Proofs.YtdcppiknomoigaaDoor
open Go.RowKit
set_option linter.all false

theorem index_txt : ∀ zs : List Int, (∀ z, z ∈ zs → 0 ≤ z ∧ z ≤ 255) → (Lib.indexByte (Lib.bytesOf zs) 0 = -1 ∧ cutG zs = none) ∨ ∃ i : Nat, Lib.indexByte (Lib.bytesOf zs) 0 = (i : Int) ∧ i < zs.length ∧ cutG zs = some (zs.take i, zs.drop (i + 1))
  | [], _ => Or.inl ⟨rfl, rfl⟩
  | z :: zs, h => by
    have hz := h z (by simp)
    have ih := index_txt zs (fun x hx => h x (by simp [hx]))
    have e : Lib.bytesOf (z :: zs) = UInt8.ofNat z.toNat :: Lib.bytesOf zs := rfl
    rw [e]
    unfold Lib.indexByte
    by_cases h0 : z = 0
    · subst h0
      right
      refine ⟨0, by simp, by simp, ?_⟩
      have := cutG_app [] zs (by simp)
      simpa using this
    · have hb : (UInt8.ofNat z.toNat == 0) = false := by
        simp only [beq_eq_false_iff_ne, ne_eq]
        intro e
        have := congrArg UInt8.toNat e
        rw [UInt8.toNat_ofNat_of_lt' (by show z.toNat < 256; omega)] at this
        simp at this
        omega
      rw [hb]
      simp only [Bool.false_eq_true, if_false]
      rcases ih with ⟨h1, h2⟩ | ⟨i, h1, h2, h3⟩
      · rw [h1]
        refine Or.inl ⟨by simp, ?_⟩
        unfold cutG at h2 ⊢
        split at h2
        · cases h2
        · rename_i hn
          rw [if_neg (by simp only [List.mem_cons, not_or]; exact ⟨fun e => h0 e.symm, hn⟩)]
      · have hn : (Lib.indexByte (Lib.bytesOf zs) 0 == -1) = false := by rw [h1]; simp
        rw [hn, h1]
        refine Or.inr ⟨i + 1, by simp, by simp; exact h2, ?_⟩
        obtain ⟨e1, e2⟩ := cutG_inv h3
        have e3 : z :: zs = (z :: zs.take i) ++ 0 :: zs.drop (i + 1) := by
          rw [List.cons_append]
          congr 1
        have := cutG_app (z :: zs.take i) (zs.drop (i + 1)) (by simp only [List.mem_cons, not_or]; exact ⟨fun e => h0 e.symm, e2⟩)
        rw [← e3] at this
        simpa using this
/-- what bytes.Cut answers at a byte 0. -/
def cutV (b o c : Nat) (zs : List Int) : Value := match cutG zs with
  | none => .tuple #[.slice (some ⟨b, o, none⟩) zs.length c, .slice none 0 0, .bool false]
  | some (t, r) => .tuple #[.slice (some ⟨b, o, none⟩) t.length c, .slice (if c = t.length + 1 then some ⟨b, o, none⟩ else some ⟨b, o + (t.length + 1), none⟩) r.length (c - (t.length + 1)), .bool true]
set_option maxHeartbeats 1000000 in
/-- bytes.Cut at a byte 0. -/
theorem pcut_any (b o c g : Nat) (zs : List Int) (w : World) (hok : Part.ok w ⟨some ⟨b, o, none⟩, c, zs⟩) (hl : zs.length ≤ 140737488353280) (h0 : w.cell? ⟨g, 0, none⟩ = some (.int .u8 0)) :
    Calls Tryd.prog 77 #[.slice (some ⟨b, o, none⟩) zs.length c, .slice (some ⟨g, 0, none⟩) 1 1] w fun e w' => e = .returned (cutV b o c zs) ∧ ∃ q, w' = w.drewN q := by
  have hcell : ∀ i, i < zs.length → w.cell? ((⟨b, o, none⟩ : Addr).add i) = some (.int .u8 (zs.getD i 0)) := fun i hi => by
    rw [show (⟨b, o, none⟩ : Addr).add i = ⟨b, o + i, none⟩ from by unfold Addr.add; split <;> simp_all]
    rcases hok.2.2 with h | ⟨b', o', ha, hc⟩
    · simp only at h; rw [h] at hi; simp at hi
    · simp only [Option.some.injEq, Addr.mk.injEq, and_true] at ha
      obtain ⟨rfl, rfl⟩ := ha
      exact hc i hi
  have C := Tryd.bytes_Index_one_at ⟨b, o, none⟩ zs.length c g 0 1 zs 0 w rfl hcell h0
  have e0 : (Int.toNat 0).toUInt8 = 0 := rfl
  rw [e0] at C
  have hcap : zs.length ≤ c := hok.2.1
  have ix := index_txt zs hok.1
  clear hcell hok h0
  unfold cutV
  rcases ix with ⟨h1, h2⟩ | ⟨i, h1, h2, h3⟩
  · rw [h1] at C
    rw [h2]
    simp only
    generalize zs.length = n at *
    clear h1 h2
    go_enter Tryd.func77, Tryd.ntmps77
    go_wp2_with (first
      | (go_at_call 81; refine C.mono ?_; rintro e w1 ⟨rfl, hw⟩; subst w1)
      | fail)
    go_ret3
    exact ⟨rfl, 0, rfl⟩
  · rw [h1] at C
    rw [h3]
    simp only
    have hlen : (zs.take i).length = i := by simp; omega
    have hlen2 : (zs.drop (i + 1)).length = zs.length - (i + 1) := by simp
    rw [hlen, hlen2]
    generalize zs.length = n at *
    have q1 : (0 : Int) ≤ (i : Int) := by omega
    have q2 : (i : Int) ≤ (c : Int) := by omega
    have q3 : ((i : Int) + 1) ≤ (n : Int) := by omega
    have q4 : IntKind.i64.wrap ((i : Int) + 1) = (i : Int) + 1 := by simp only [IntKind.wrap_i64]; omega
    have q5 : ((i : Int) + 1).toNat = i + 1 := by omega
    have q6 : (0 : Int) ≤ (i : Int) + 1 := by omega
    clear h1 h3 hlen hlen2
    go_enter Tryd.func77, Tryd.ntmps77
    go_wp2_with (first
      | (go_at_call 81; refine C.mono ?_; rintro e w1 ⟨rfl, hw⟩; subst w1)
      | fail)
    go_quiet (fail)
    all_goals go_wp2
    all_goals
      go_ret3
      exact ⟨by first | rfl | (split <;> simp_all), _, rfl⟩
/-! ### small -/
theorem get_nat (s : ByteArray) (i : Nat) (h : i < s.size) : (s.get! i) = s[i] := by
  cases s with | mk d =>
    have h' : i < d.size := h
    show d[i]! = d[i]
    simp [h']
/-- what a range over a string hands over. -/
theorem dec_facts (s : ByteArray) (i : Nat) (h : i < s.size) : 1 ≤ (Utf8.decode s i).2 ∧ ((s[i].toNat < 128 ∧ (Utf8.decode s i).1 = s[i].toNat ∧ (Utf8.decode s i).2 = 1) ∨ (128 ≤ (Utf8.decode s i).1 ∧ i + (Utf8.decode s i).2 ≤ s.size ∧ ∀ j (hj : j < s.size), i ≤ j → j < i + (Utf8.decode s i).2 → 128 ≤ s[j].toNat)) := by
  have g0 : (s.get! (i + 0)).toNat = s[i].toNat := by rw [Nat.add_zero, get_nat s i h]
  unfold Utf8.decode
  simp only [g0]
  have one : ∀ (h128 : ¬ s[i].toNat < 128), ∀ j (hj : j < s.size), i ≤ j → j < i + 1 → 128 ≤ s[j].toNat := fun h128 j hj h1 h2 => by
    obtain rfl : j = i := by omega
    omega
  have cont : ∀ k, (decide (i + k < s.size) && (s.get! (i + k)).toNat / 64 == 2) = true → ∃ hk : i + k < s.size, 128 ≤ (s[i + k]'hk).toNat := fun k hc => by
    simp only [Bool.and_eq_true, decide_eq_true_eq, beq_iff_eq] at hc
    refine ⟨hc.1, ?_⟩
    have := hc.2
    rw [get_nat s _ hc.1] at this
    omega
  by_cases h128 : s[i].toNat < 128
  · rw [if_pos h128]
    exact ⟨by simp, Or.inl ⟨h128, rfl, rfl⟩⟩
  · rw [if_neg h128]
    split
    · rename_i hc
      rw [Bool.and_eq_true] at hc
      obtain ⟨k1, c1⟩ := cont 1 hc.2
      split
      · rename_i hv
        refine ⟨by simp, Or.inr ⟨hv, by simp only; omega, fun j hj h1 h2 => ?_⟩⟩
        simp only at h2
        have : j = i ∨ j = i + 1 := by omega
        rcases this with rfl | rfl
        · omega
        · exact c1
      · exact ⟨by simp, Or.inr ⟨by decide, by simp only; omega, one h128⟩⟩
    · split
      · rename_i hc
        rw [Bool.and_eq_true, Bool.and_eq_true] at hc
        obtain ⟨k1, c1⟩ := cont 1 hc.1.2
        obtain ⟨k2, c2⟩ := cont 2 hc.2
        split
        · rename_i hv
          rw [Bool.and_eq_true] at hv
          refine ⟨by simp, Or.inr ⟨by have := hv.1; simp only [decide_eq_true_eq] at this; simp only; omega, by simp only; omega, fun j hj h1 h2 => ?_⟩⟩
          simp only at h2
          have : j = i ∨ j = i + 1 ∨ j = i + 2 := by omega
          rcases this with rfl | rfl | rfl
          · omega
          · exact c1
          · exact c2
        · exact ⟨by simp, Or.inr ⟨by decide, by simp only; omega, one h128⟩⟩
      · split
        · rename_i hc
          rw [Bool.and_eq_true, Bool.and_eq_true, Bool.and_eq_true] at hc
          obtain ⟨k1, c1⟩ := cont 1 hc.1.1.2
          obtain ⟨k2, c2⟩ := cont 2 hc.1.2
          obtain ⟨k3, c3⟩ := cont 3 hc.2
          split
          · rename_i hv
            rw [Bool.and_eq_true] at hv
            refine ⟨by simp, Or.inr ⟨by have := hv.1; simp only [decide_eq_true_eq] at this; simp only; omega, by simp only; omega, fun j hj h1 h2 => ?_⟩⟩
            simp only at h2
            have : j = i ∨ j = i + 1 ∨ j = i + 2 ∨ j = i + 3 := by omega
            rcases this with rfl | rfl | rfl | rfl
            · omega
            · exact c1
            · exact c2
            · exact c3
          · exact ⟨by simp, Or.inr ⟨by decide, by simp only; omega, one h128⟩⟩
        · exact ⟨by simp, Or.inr ⟨by decide, by simp only; omega, one h128⟩⟩
/-- how far it is small. -/
def zsAt (zs : List Int) (p : Nat) : List Int := smallL (zs.take p) ++ zs.drop p
theorem zsAt_len (zs : List Int) (p : Nat) : (zsAt zs p).length = zs.length := by
  unfold zsAt smallL; simp; omega
theorem zsAt_on (zs : List Int) (p n : Nat) (h : ∀ z, z ∈ (zs.drop p).take n → smallZ z = z) : zsAt zs (p + n) = zsAt zs p := by
  unfold zsAt smallL
  rw [List.take_add, List.map_append, List.map_congr_left (g := id) h, List.map_id, List.append_assoc, show zs.drop (p + n) = (zs.drop p).drop n from by rw [List.drop_drop], List.take_append_drop]
theorem zsAt_one (zs : List Int) (p : Nat) (hp : p < zs.length) : zsAt zs (p + 1) = (zsAt zs p).set p (smallZ (zs.getD p 0)) ∧ (zsAt zs p).getD p 0 = zs.getD p 0 := by
  have hd : zs.drop p = zs.getD p 0 :: zs.drop (p + 1) := by
    rw [List.drop_eq_getElem_cons hp, List.getD_eq_getElem?_getD, List.getElem?_eq_getElem hp]; rfl
  have hl : (smallL (zs.take p)).length = p := by unfold smallL; simp; omega
  constructor
  · unfold zsAt
    rw [hd, List.set_append_right _ _ (by omega), hl, Nat.sub_self, List.set_cons_zero, List.take_succ_eq_append_getElem hp]
    have : zs[p] = zs.getD p 0 := by rw [List.getD_eq_getElem?_getD, List.getElem?_eq_getElem hp]; rfl
    unfold smallL
    rw [List.map_append, this]
    simp
  · unfold zsAt
    rw [List.getD_eq_getElem?_getD, List.getElem?_append_right (by omega), hl, Nat.sub_self, hd]; rfl
theorem zsAt_end (zs : List Int) : zsAt zs zs.length = smallL zs := by unfold zsAt; simp
end Go.Proofs.YtdcppiknomoigaaDoor
