/-
  The walk of the statement DiceAdds.
-/
import Derived.Test.YtdfefhiajleejaaDiLive
namespace Go.Proofs.Ytdfefhiajleejaa
open Go.RowKit
set_option linter.all false

/-- a list that lies in a block that is none of the dices': what keeps it. -/
theorem RowU.guests {w : World} {a : Option Addr} {c : Nat} {zs : List Int} (h : RowU w a c zs) (hw : Words zs) : ∃ X : List (Nat × Obj), Holds w X ∧ (∀ x, x ∈ X → blk a = some x.1) ∧ ∀ w', Holds w' X → PartU w' a c zs := by
  rcases h with ⟨rfl, rfl, rfl⟩ | ⟨g, off, cur, rfl, hg, hl, hs, hc⟩
  · exact ⟨[], Holds.nil w, by simp, fun w' _ => PartU.nil w'⟩
  · refine ⟨[(g, .cells cur 37 (0, 0))], (Holds.nil w).cons hg, by simp [blk], fun w' hh => ⟨hw, hl, Or.inr ⟨g, off, rfl, fun j hj => ?_⟩⟩⟩
    rw [cell_of_heap (hh.at 0 _ _ rfl)]
    exact hc j hj
theorem DS.guests {w0 w w' : World} {l : DL} (h : DS w0 w l []) (hb : Below w.heap.size w w') {X : List (Nat × Obj)} (hX : Holds w' X) (hn : ∀ x, x ∈ X → w.heap.size ≤ x.1) : DS w0 w' l X := by
  obtain ⟨A, C, h⟩ := h
  refine ⟨A, C, fun i t p zs hi => (h.ok i t p zs hi).below hb, h.ge, h.apart, hX, fun x hx i t p zs k hi hk => ?_, bstep h.bel hb⟩
  have := (h.ok i t p zs hi).lt k hk; have := hn x hx; omega
/-- two dices. -/
abbrev TL (p q : Nat) (xs ys : List Int) : DL := [(46, p, xs), (46, q, ys)]
section
variable {w0 w : World} {p q : Nat} {X : List (Nat × Obj)} {xs ys : List Int}
theorem tl_next1 (h : DS w0 w (TL p q xs ys) X) (hl : xs.length ≤ maxLen) : Calls Try.prog 14 #[.pointer (some ⟨p, 0, none⟩)] w fun e w' => e = .returned (.int .u32 (hd0 xs)) ∧ Hid (DS w0 w' (TL p q xs.tail ys) X) := ds_next h 0 rfl hl
theorem tl_next2 (h : DS w0 w (TL p q xs ys) X) (hl : ys.length ≤ maxLen) : Calls Try.prog 14 #[.pointer (some ⟨q, 0, none⟩)] w fun e w' => e = .returned (.int .u32 (hd0 ys)) ∧ Hid (DS w0 w' (TL p q xs ys.tail) X) := ds_next h 1 rfl hl
theorem tl_left1 (h : DS w0 w (TL p q xs ys) X) : Calls Try.prog 12 #[.pointer (some ⟨p, 0, none⟩)] w fun e w' => e = .returned (.int .i64 xs.length) ∧ w' = w := ds_left h 0 rfl
theorem tl_left2 (h : DS w0 w (TL p q xs ys) X) : Calls Try.prog 12 #[.pointer (some ⟨q, 0, none⟩)] w fun e w' => e = .returned (.int .i64 ys.length) ∧ w' = w := ds_left h 1 rfl
end
theorem hd0_drop (zs : List Int) (k : Nat) : hd0 (zs.drop k) = zs.getD k 0 := by
  simp [hd0, List.headD_eq_head?_getD, List.head?_drop, List.getD_eq_getElem?_getD]
theorem tail_drop' (zs : List Int) (k : Nat) : (zs.drop k).tail = zs.drop (k + 1) := by rw [List.tail_drop]
/-- both have the draws from k on. -/
structure BothI (w0 w : World) (p q : Nat) (X : List (Nat × Obj)) (A B : List Int) (k : Nat) : Prop where
  ds : DS w0 w (TL p q (A.drop k) (B.drop k)) X
  same : hd0 (A.drop k) = hd0 (B.drop k)
theorem both_next1 {w0 w : World} {p q : Nat} {X : List (Nat × Obj)} {A B : List Int} {k : Nat} (h : DS w0 w (TL p q (A.drop k) (B.drop k)) X) (ha : A.length ≤ 2097152) :
    Calls Try.prog 14 #[.pointer (some ⟨p, 0, none⟩)] w fun e w' => e = .returned (.int .u32 (A.getD k 0)) ∧ Hid (DS w0 w' (TL p q (A.drop (k + 1)) (B.drop k)) X) :=
  (tl_next1 h (by rw [List.length_drop]; unfold maxLen; omega)).mono fun e w' z => ⟨z.1.trans (ret_int (hd0_drop _ _)), by have := z.2; rwa [tail_drop'] at this⟩
theorem both_next2 {w0 w : World} {p q : Nat} {X : List (Nat × Obj)} {A B : List Int} {k : Nat} (h : DS w0 w (TL p q (A.drop (k + 1)) (B.drop k)) X) (ha : B.length ≤ 2097152) :
    Calls Try.prog 14 #[.pointer (some ⟨q, 0, none⟩)] w fun e w' => e = .returned (.int .u32 (B.getD k 0)) ∧ Hid (DS w0 w' (TL p q (A.drop (k + 1)) (B.drop (k + 1))) X) :=
  (tl_next2 h (by rw [List.length_drop]; unfold maxLen; omega)).mono fun e w' z => ⟨z.1.trans (ret_int (hd0_drop _ _)), by have := z.2; rwa [tail_drop'] at this⟩
/-- the lists of the statement, laid: what stands behind its first lines. -/
structure LaidI (w w1 w2 w3 w4 : World) (p : Nat) (a b : Option Addr) (c d : Nat) (za zb : List Int) (a3 a4 : Option Addr) (c3 c4 : Nat) (X : List (Nat × Obj)) : Prop where
  run1 : (Builtin.append_ #[22, 22] 22 #[.slice none 0 0, .slice a za.length c]).run Try.prog w2 = .ok (.slice a3 za.length c3) w3
  run2 : (Builtin.append_ #[22, 22] 22 #[.slice a3 za.length c3, .slice b zb.length d]).run Try.prog w3 = .ok (.slice a4 (za.length + zb.length) c4) w4
  ds : DS w1 w4 [(46, p, za)] X
  part : ∀ w', Holds w' X → PartU w' a4 c4 (za ++ zb)
theorem laid_of {w w1 w2 : World} {p : Nat} {a b : Option Addr} {c d : Nat} {za zb : List Int} (h : DS w1 w2 [(46, p, za)] []) (ha : PartU w2 a c za) (hb : PartU w2 b d zb) (la : za.length ≤ 1048576) (lb : zb.length ≤ 1048576) :
    ∃ w3 w4 a3 a4 c3 c4 X, LaidI w w1 w2 w3 w4 p a b c d za zb a3 a4 c3 c4 X := by
  obtain ⟨a3, c3, w3, h1, h2, h3, h4⟩ := append_u (RowU.nil w2) ha (by simp; omega) 22
  have hB3 : Below w2.heap.size w2 w3 := h3.below (fun k hk => by simp [blk] at hk) (Nat.le_refl _)
  have hf3 : FreshA w2 a3 := fun k hk => by
    rcases h4 with h4 | h4
    · rw [h4] at hk; simp [blk] at hk
    · exact h4 k hk
  simp only [List.nil_append] at h1 h2
  obtain ⟨a4, c4, w4, k1, k2, k3, k4⟩ := append_u h2 (hb.below hB3) (by omega) 22
  have hB4 : Below w2.heap.size w2 w4 := hB3.trans (k3.below (fun k hk => hf3 k hk) hB3.size)
  have hf4 : FreshA w2 a4 := fun k hk => by
    rcases k4 with k4 | k4
    · rw [k4] at hk; exact hf3 k hk
    · have := k4 k hk; have := hB3.size; omega
  obtain ⟨X, x1, x2, x3⟩ := k2.guests (ha.words.app hb.words)
  rw [List.length_append] at k1
  exact ⟨w3, w4, a3, a4, c3, c4, X, h1, k1, h.guests hB4 x1 (fun x hx => hf4 _ (x2 x hx)), x3⟩
theorem new_joined {w w1 w2 w3 w4 : World} {p : Nat} {a b : Option Addr} {c d : Nat} {za zb : List Int} {a3 a4 : Option Addr} {c3 c4 : Nat} {X : List (Nat × Obj)} (h : LaidI w w1 w2 w3 w4 p a b c d za zb a3 a4 c3 c4 X) (la : za.length ≤ 1048576) (lb : zb.length ≤ 1048576) :
    Calls Try.prog 8 #[.slice a4 (za.length + zb.length) c4] w4 fun e w' => ∃ q, e = .returned (.pointer (some ⟨q, 0, none⟩)) ∧ Hid (DS w1 w' (TL p q (za.drop 0) ((za ++ zb).drop 0)) X) ∧ Hid (Below w4.heap.size w4 w') := by
  have := ds_new (ps := za ++ zb) h.ds (h.part w4 h.ds.ho) (by rw [List.length_append]; omega)
  rw [List.length_append] at this
  exact this
set_option maxRecDepth 20000
theorem getD_words' {w1 wr : World} {p q : Nat} {X : List (Nat × Obj)} {L : List Int} {a4 : Option Addr} {c4 : Nat} (HPT : Hid (∀ w', Holds w' X → PartU w' a4 c4 L)) {xs ys : List Int} (h : DS w1 wr (TL p q xs ys) X) (k : Nat) : 0 ≤ L.getD k 0 ∧ L.getD k 0 ≤ 4294967295 := (HPT.out wr h.ho).words.get k

set_option maxHeartbeats 4000000 in
theorem adds_a (a : Option Addr) (c : Nat) (za : List Int) (b : Option Addr) (d : Nat) (zb : List Int) (ahead : Int) (w : World) (hpa : PartU w a c za) (hpb : PartU w b d zb) (la : za.length ≤ 1048576) (lb : zb.length ≤ 1048576) (h0 : ahead ≤ 0) :
    Calls Try.prog 5 #[.slice a za.length c, .slice b zb.length d, .int .i64 ahead] w fun e w' => e = .returned (.bool true) ∧ Below w.heap.size w w' := by
  have HPA := hid hpa
  have HPB := hid hpb
  have HLA := hid la
  have HLB := hid lb
  have HLL : Hid ((za ++ zb).length = za.length + zb.length) := List.length_append
  have HNA : Hid (0 ≤ za.length) := by unfold Hid; omega
  have ka : (za.length : Int) ≤ 1048576 := by omega
  have kb : (zb.length : Int) ≤ 1048576 := by omega
  have h0' : ¬ 0 < ahead := by omega
  clear hpa hpb la lb
  go_enter Try.func5, Try.ntmps5
  go_wp2_with (first
    | (go_at_call 6; refine (awake_any w).mono ?_; go_loud (rintro e w1 ⟨rfl, hb1⟩; have HB1 := hid hb1; clear hb1))
    | (go_at_call 8; (with_reducible refine (ds_new (DS.nil w1) (HPA.out.below HB1.out) (by have := HLA.out; omega)).mono ?_); go_loud (rintro e w2 ⟨p, rfl, I1, I2⟩; have I3 : Hid (DS w1 w2 [(46, p, za)] []) := I1; obtain ⟨w3, w4, a3, a4, c3, c4, X, hL⟩ := laid_of (w := w) I3.out ((HPA.out.below HB1.out).below I2.out) ((HPB.out.below HB1.out).below I2.out) HLA.out HLB.out; have HL := hid hL; clear hL I1 I3))
    | (at_builtin; refine wpList_append_run w2 rfl _ _ _ _ rfl _ _ rfl rfl HL.out.run1 ?_)
    | (at_builtin; refine wpList_append_run w3 rfl _ _ _ _ rfl _ _ rfl rfl HL.out.run2 ?_)
    | (go_at_call 8; refine (new_joined HL.out HLA.out HLB.out).mono ?_; go_loud (rintro e w5 ⟨q, rfl, I4, _⟩; have I5 : Hid (DS w1 w5 (TL p q (za.drop 0) ((za ++ zb).drop 0)) X) := I4; have HPT : Hid (∀ w', Holds w' X → PartU w' a4 c4 (za ++ zb)) := HL.out.part; clear I4 HL))
    | fail)
  go_loopw [12] (fun i wr => ∃ k : Nat, k ≤ 0 ∧ i = .int .i64 k ∧ Hid (DS w1 wr (TL p q (za.drop k) ((za ++ zb).drop k)) X)) (fun i _ => 0 - (intOf i).toNat)
  case atStart => exact ⟨0, by omega, rfl, I5⟩
  case round =>
    obtain ⟨k, hk, rfl, HD⟩ := hrel
    clear I5
    by_cases hlt : k < 0
    · have hlt2 : (k : Int) < 0 := by omega
      have HE : Hid ((za ++ zb).getD k 0 = za.getD k 0) := getD_app_left (by have := HNA.out; omega)
      go_wp2_with (first
        | (go_at_call 14; (with_reducible refine (both_next1 HD.out (by have := HLA.out; omega)).mono ?_); go_loud (rintro e w6 ⟨rfl, J1⟩; clear HD))
        | (go_at_call 14; (with_reducible refine (both_next2 J1.out (by have := HLA.out; have := HLB.out; have := HLL.out; omega)).mono ?_); go_loud (rintro e w7 ⟨rfl, J2⟩; clear J1; rw [HE.out]))
        | fail)
      go_roundw
      case rel => exact ⟨k + 1, by omega, by go_num, J2⟩
      case measure => simp [intOf]; omega
    · have hge : ¬ (k : Int) < 0 := by omega
      have hkn : k = 0 := by omega
      have HD2 : Hid (DS w1 wr (TL p q (za.drop 0) ((za ++ zb).drop 0)) X) := by rw [hkn] at HD; exact HD
      have HDR : Hid ((za ++ zb).drop 0 = za.drop 0 ++ zb) := by
        unfold Hid
        rw [List.drop_append_of_le_length HNA.out]
      clear HD hkn
      go_wp2_with (first
        | (go_at_call 20; (with_reducible refine (ds_add HD2.out 0 rfl (HPB.out.below (bstep HB1.out HD2.out.bel)) (by have := HLA.out; have := HLB.out; rw [List.length_drop]; omega)).mono ?_); go_loud (rintro e w6 ⟨rfl, J1⟩; have J2 : Hid (DS w1 w6 (TL p q ((za ++ zb).drop 0) ((za ++ zb).drop 0)) X) := (by have := J1; rw [← HDR.out] at this; exact this); clear J1 HD2 HDR))
        | fail)
      have HN2 : Hid (0 ≤ za.length + zb.length + 1) := by have := HNA.out; unfold Hid; omega
      go_loopw [14] (fun i wr => ∃ k : Nat, k ≤ za.length + zb.length + 1 ∧ i = .int .i64 k ∧ Hid (DS w1 wr (TL p q ((za ++ zb).drop k) ((za ++ zb).drop k)) X)) (fun i _ => za.length + zb.length + 1 - (intOf i).toNat)
      case atStart => exact ⟨0, HN2.out, rfl, J2⟩
      case round =>
        obtain ⟨k, hk, rfl, HD⟩ := hrel
        clear J2
        by_cases hl2 : k < za.length + zb.length + 1
        · have hl3 : (k : Int) < (za.length : Int) + zb.length + 1 := by omega
          have hz := getD_words' HPT HD.out k
          by_cases hl4 : k < za.length + zb.length
          · have hl5 : (k : Int) < (za.length : Int) + zb.length := by omega
            obtain ⟨g, o, ha4, hcell⟩ : ∃ g o, a4 = some ⟨g, o, none⟩ ∧ ∀ w', Holds w' X → w'.cell? ⟨g, o + k, none⟩ = some (.int .u32 ((za ++ zb).getD k 0)) := by
              have hp0 := HPT.out wr HD.out.ho
              rcases hp0.lies with h | ⟨g, o, h, _⟩
              · have := HLL.out; rw [h] at this; simp at this; omega
              · refine ⟨g, o, h, fun w' hh => ?_⟩
                have hp1 := HPT.out w' hh
                rcases hp1.lies with h' | ⟨g', o', h', hc⟩
                · have := HLL.out; rw [h'] at this; simp at this; omega
                · rw [h] at h'
                  simp only [Option.some.injEq, Addr.mk.injEq, and_true] at h'
                  obtain ⟨rfl, rfl⟩ := h'
                  exact hc k (by rw [HLL.out]; exact hl4)
            subst ha4
            have HC := hid hcell
            clear hcell
            obtain ⟨Z, hZ⟩ : ∃ Z, (za ++ zb).getD k 0 = Z := ⟨_, rfl⟩
            have HZ := hid hZ
            rw [hZ] at hz
            clear hZ
            go_wp2_with (first
              | (go_at_call 14; (with_reducible refine (both_next1 HD.out (by have := HLA.out; have := HLB.out; have := HLL.out; omega)).mono ?_); go_loud (rintro e w6 ⟨rfl, J1⟩; clear HD; rw [HZ.out]))
              | (go_at_call 14; (with_reducible refine (both_next2 J1.out (by have := HLA.out; have := HLB.out; have := HLL.out; omega)).mono ?_); go_loud (rintro e w7 ⟨rfl, J2⟩; clear J1; rw [HZ.out]; have hc7 : w7.cell? ⟨g, o + k, none⟩ = some (.int .u32 Z) := (by rw [← HZ.out]; exact HC.out w7 J2.out.ho)))
              | (go_at_call 12; (with_reducible refine (tl_left1 J2.out).mono ?_); go_loud (rintro e w' ⟨rfl, hw⟩; subst w'))
              | (go_at_call 12; (with_reducible refine (tl_left2 J2.out).mono ?_); go_loud (rintro e w' ⟨rfl, hw⟩; subst w'))
              | fail)
            go_roundw
            case rel => exact ⟨k + 1, by omega, by go_num, J2⟩
            case measure => simp [intOf]; omega
          · have hl5 : ¬ (k : Int) < (za.length : Int) + zb.length := by omega
            obtain ⟨Z, hZ⟩ : ∃ Z, (za ++ zb).getD k 0 = Z := ⟨_, rfl⟩
            have HZ := hid hZ
            rw [hZ] at hz
            clear hZ
            go_wp2_with (first
              | (go_at_call 14; (with_reducible refine (both_next1 HD.out (by have := HLA.out; have := HLB.out; have := HLL.out; omega)).mono ?_); go_loud (rintro e w6 ⟨rfl, J1⟩; clear HD; rw [HZ.out]))
              | (go_at_call 14; (with_reducible refine (both_next2 J1.out (by have := HLA.out; have := HLB.out; have := HLL.out; omega)).mono ?_); go_loud (rintro e w7 ⟨rfl, J2⟩; clear J1; rw [HZ.out]))
              | (go_at_call 12; (with_reducible refine (tl_left1 J2.out).mono ?_); go_loud (rintro e w' ⟨rfl, hw⟩; subst w'))
              | (go_at_call 12; (with_reducible refine (tl_left2 J2.out).mono ?_); go_loud (rintro e w' ⟨rfl, hw⟩; subst w'))
              | fail)
            go_roundw
            case rel => exact ⟨k + 1, by omega, by go_num, J2⟩
            case measure => simp [intOf]; omega
        · have hl3 : ¬ (k : Int) < (za.length : Int) + zb.length + 1 := by omega
          go_wp2
          go_ret
          exact ⟨rfl, bstep HB1.out HD.out.bel⟩

set_option maxHeartbeats 4000000 in
theorem adds_b (a : Option Addr) (c : Nat) (za : List Int) (b : Option Addr) (d : Nat) (zb : List Int) (n : Nat) (w : World) (hpa : PartU w a c za) (hpb : PartU w b d zb) (la : za.length ≤ 1048576) (lb : zb.length ≤ 1048576) (h0 : 0 < n) (h1 : n < za.length) :
    Calls Try.prog 5 #[.slice a za.length c, .slice b zb.length d, .int .i64 (n : Int)] w fun e w' => e = .returned (.bool true) ∧ Below w.heap.size w w' := by
  have HPA := hid hpa
  have HPB := hid hpb
  have HLA := hid la
  have HLB := hid lb
  have HLL : Hid ((za ++ zb).length = za.length + zb.length) := List.length_append
  have HNA : Hid (n ≤ za.length) := by unfold Hid; omega
  have ka : (za.length : Int) ≤ 1048576 := by omega
  have kb : (zb.length : Int) ≤ 1048576 := by omega
  have h0' : (0 : Int) < n := by omega
  have h1' : (n : Int) < za.length := by omega
  have h2' : (n : Int) ≤ za.length := by omega
  have h3' : ¬ (za.length : Int) < n := by omega
  have h4' : ¬ (za.length : Int) ≤ n := by omega
  clear hpa hpb la lb
  go_enter Try.func5, Try.ntmps5
  go_wp2_with (first
    | (go_at_call 6; refine (awake_any w).mono ?_; go_loud (rintro e w1 ⟨rfl, hb1⟩; have HB1 := hid hb1; clear hb1))
    | (go_at_call 8; (with_reducible refine (ds_new (DS.nil w1) (HPA.out.below HB1.out) (by have := HLA.out; omega)).mono ?_); go_loud (rintro e w2 ⟨p, rfl, I1, I2⟩; have I3 : Hid (DS w1 w2 [(46, p, za)] []) := I1; obtain ⟨w3, w4, a3, a4, c3, c4, X, hL⟩ := laid_of (w := w) I3.out ((HPA.out.below HB1.out).below I2.out) ((HPB.out.below HB1.out).below I2.out) HLA.out HLB.out; have HL := hid hL; clear hL I1 I3))
    | (at_builtin; refine wpList_append_run w2 rfl _ _ _ _ rfl _ _ rfl rfl HL.out.run1 ?_)
    | (at_builtin; refine wpList_append_run w3 rfl _ _ _ _ rfl _ _ rfl rfl HL.out.run2 ?_)
    | (go_at_call 8; refine (new_joined HL.out HLA.out HLB.out).mono ?_; go_loud (rintro e w5 ⟨q, rfl, I4, _⟩; have I5 : Hid (DS w1 w5 (TL p q (za.drop 0) ((za ++ zb).drop 0)) X) := I4; have HPT : Hid (∀ w', Holds w' X → PartU w' a4 c4 (za ++ zb)) := HL.out.part; clear I4 HL))
    | fail)
  go_loopw [12] (fun i wr => ∃ k : Nat, k ≤ n ∧ i = .int .i64 k ∧ Hid (DS w1 wr (TL p q (za.drop k) ((za ++ zb).drop k)) X)) (fun i _ => n - (intOf i).toNat)
  case atStart => exact ⟨0, by omega, rfl, I5⟩
  case round =>
    obtain ⟨k, hk, rfl, HD⟩ := hrel
    clear I5
    by_cases hlt : k < n
    · have hlt2 : (k : Int) < n := by omega
      have HE : Hid ((za ++ zb).getD k 0 = za.getD k 0) := getD_app_left (by have := HNA.out; omega)
      go_wp2_with (first
        | (go_at_call 14; (with_reducible refine (both_next1 HD.out (by have := HLA.out; omega)).mono ?_); go_loud (rintro e w6 ⟨rfl, J1⟩; clear HD))
        | (go_at_call 14; (with_reducible refine (both_next2 J1.out (by have := HLA.out; have := HLB.out; have := HLL.out; omega)).mono ?_); go_loud (rintro e w7 ⟨rfl, J2⟩; clear J1; rw [HE.out]))
        | fail)
      go_roundw
      case rel => exact ⟨k + 1, by omega, by go_num, J2⟩
      case measure => simp [intOf]; omega
    · have hge : ¬ (k : Int) < n := by omega
      have hkn : k = n := by omega
      have HD2 : Hid (DS w1 wr (TL p q (za.drop n) ((za ++ zb).drop n)) X) := by rw [hkn] at HD; exact HD
      have HDR : Hid ((za ++ zb).drop n = za.drop n ++ zb) := by
        unfold Hid
        rw [List.drop_append_of_le_length HNA.out]
      clear HD hkn
      go_wp2_with (first
        | (go_at_call 20; (with_reducible refine (ds_add HD2.out 0 rfl (HPB.out.below (bstep HB1.out HD2.out.bel)) (by have := HLA.out; have := HLB.out; rw [List.length_drop]; omega)).mono ?_); go_loud (rintro e w6 ⟨rfl, J1⟩; have J2 : Hid (DS w1 w6 (TL p q ((za ++ zb).drop n) ((za ++ zb).drop n)) X) := (by have := J1; rw [← HDR.out] at this; exact this); clear J1 HD2 HDR))
        | fail)
      have HN2 : Hid (n ≤ za.length + zb.length + 1) := by have := HNA.out; unfold Hid; omega
      go_loopw [14] (fun i wr => ∃ k : Nat, k ≤ za.length + zb.length + 1 ∧ i = .int .i64 k ∧ Hid (DS w1 wr (TL p q ((za ++ zb).drop k) ((za ++ zb).drop k)) X)) (fun i _ => za.length + zb.length + 1 - (intOf i).toNat)
      case atStart => exact ⟨n, HN2.out, rfl, J2⟩
      case round =>
        obtain ⟨k, hk, rfl, HD⟩ := hrel
        clear J2
        by_cases hl2 : k < za.length + zb.length + 1
        · have hl3 : (k : Int) < (za.length : Int) + zb.length + 1 := by omega
          have hz := getD_words' HPT HD.out k
          by_cases hl4 : k < za.length + zb.length
          · have hl5 : (k : Int) < (za.length : Int) + zb.length := by omega
            obtain ⟨g, o, ha4, hcell⟩ : ∃ g o, a4 = some ⟨g, o, none⟩ ∧ ∀ w', Holds w' X → w'.cell? ⟨g, o + k, none⟩ = some (.int .u32 ((za ++ zb).getD k 0)) := by
              have hp0 := HPT.out wr HD.out.ho
              rcases hp0.lies with h | ⟨g, o, h, _⟩
              · have := HLL.out; rw [h] at this; simp at this; omega
              · refine ⟨g, o, h, fun w' hh => ?_⟩
                have hp1 := HPT.out w' hh
                rcases hp1.lies with h' | ⟨g', o', h', hc⟩
                · have := HLL.out; rw [h'] at this; simp at this; omega
                · rw [h] at h'
                  simp only [Option.some.injEq, Addr.mk.injEq, and_true] at h'
                  obtain ⟨rfl, rfl⟩ := h'
                  exact hc k (by rw [HLL.out]; exact hl4)
            subst ha4
            have HC := hid hcell
            clear hcell
            obtain ⟨Z, hZ⟩ : ∃ Z, (za ++ zb).getD k 0 = Z := ⟨_, rfl⟩
            have HZ := hid hZ
            rw [hZ] at hz
            clear hZ
            go_wp2_with (first
              | (go_at_call 14; (with_reducible refine (both_next1 HD.out (by have := HLA.out; have := HLB.out; have := HLL.out; omega)).mono ?_); go_loud (rintro e w6 ⟨rfl, J1⟩; clear HD; rw [HZ.out]))
              | (go_at_call 14; (with_reducible refine (both_next2 J1.out (by have := HLA.out; have := HLB.out; have := HLL.out; omega)).mono ?_); go_loud (rintro e w7 ⟨rfl, J2⟩; clear J1; rw [HZ.out]; have hc7 : w7.cell? ⟨g, o + k, none⟩ = some (.int .u32 Z) := (by rw [← HZ.out]; exact HC.out w7 J2.out.ho)))
              | (go_at_call 12; (with_reducible refine (tl_left1 J2.out).mono ?_); go_loud (rintro e w' ⟨rfl, hw⟩; subst w'))
              | (go_at_call 12; (with_reducible refine (tl_left2 J2.out).mono ?_); go_loud (rintro e w' ⟨rfl, hw⟩; subst w'))
              | fail)
            go_roundw
            case rel => exact ⟨k + 1, by omega, by go_num, J2⟩
            case measure => simp [intOf]; omega
          · have hl5 : ¬ (k : Int) < (za.length : Int) + zb.length := by omega
            obtain ⟨Z, hZ⟩ : ∃ Z, (za ++ zb).getD k 0 = Z := ⟨_, rfl⟩
            have HZ := hid hZ
            rw [hZ] at hz
            clear hZ
            go_wp2_with (first
              | (go_at_call 14; (with_reducible refine (both_next1 HD.out (by have := HLA.out; have := HLB.out; have := HLL.out; omega)).mono ?_); go_loud (rintro e w6 ⟨rfl, J1⟩; clear HD; rw [HZ.out]))
              | (go_at_call 14; (with_reducible refine (both_next2 J1.out (by have := HLA.out; have := HLB.out; have := HLL.out; omega)).mono ?_); go_loud (rintro e w7 ⟨rfl, J2⟩; clear J1; rw [HZ.out]))
              | (go_at_call 12; (with_reducible refine (tl_left1 J2.out).mono ?_); go_loud (rintro e w' ⟨rfl, hw⟩; subst w'))
              | (go_at_call 12; (with_reducible refine (tl_left2 J2.out).mono ?_); go_loud (rintro e w' ⟨rfl, hw⟩; subst w'))
              | fail)
            go_roundw
            case rel => exact ⟨k + 1, by omega, by go_num, J2⟩
            case measure => simp [intOf]; omega
        · have hl3 : ¬ (k : Int) < (za.length : Int) + zb.length + 1 := by omega
          go_wp2
          go_ret
          exact ⟨rfl, bstep HB1.out HD.out.bel⟩

set_option maxHeartbeats 4000000 in
theorem adds_c (a : Option Addr) (c : Nat) (za : List Int) (b : Option Addr) (d : Nat) (zb : List Int)  (w : World) (hpa : PartU w a c za) (hpb : PartU w b d zb) (la : za.length ≤ 1048576) (lb : zb.length ≤ 1048576) (h0 : 0 < za.length) :
    Calls Try.prog 5 #[.slice a za.length c, .slice b zb.length d, .int .i64 (za.length : Int)] w fun e w' => e = .returned (.bool true) ∧ Below w.heap.size w w' := by
  have HPA := hid hpa
  have HPB := hid hpb
  have HLA := hid la
  have HLB := hid lb
  have HLL : Hid ((za ++ zb).length = za.length + zb.length) := List.length_append
  have HNA : Hid (za.length ≤ za.length) := by unfold Hid; omega
  have ka : (za.length : Int) ≤ 1048576 := by omega
  have kb : (zb.length : Int) ≤ 1048576 := by omega
  have h0' : (0 : Int) < za.length := by omega
  have h2' : (za.length : Int) ≤ za.length := by omega
  clear hpa hpb la lb
  go_enter Try.func5, Try.ntmps5
  go_wp2_with (first
    | (go_at_call 6; refine (awake_any w).mono ?_; go_loud (rintro e w1 ⟨rfl, hb1⟩; have HB1 := hid hb1; clear hb1))
    | (go_at_call 8; (with_reducible refine (ds_new (DS.nil w1) (HPA.out.below HB1.out) (by have := HLA.out; omega)).mono ?_); go_loud (rintro e w2 ⟨p, rfl, I1, I2⟩; have I3 : Hid (DS w1 w2 [(46, p, za)] []) := I1; obtain ⟨w3, w4, a3, a4, c3, c4, X, hL⟩ := laid_of (w := w) I3.out ((HPA.out.below HB1.out).below I2.out) ((HPB.out.below HB1.out).below I2.out) HLA.out HLB.out; have HL := hid hL; clear hL I1 I3))
    | (at_builtin; refine wpList_append_run w2 rfl _ _ _ _ rfl _ _ rfl rfl HL.out.run1 ?_)
    | (at_builtin; refine wpList_append_run w3 rfl _ _ _ _ rfl _ _ rfl rfl HL.out.run2 ?_)
    | (go_at_call 8; refine (new_joined HL.out HLA.out HLB.out).mono ?_; go_loud (rintro e w5 ⟨q, rfl, I4, _⟩; have I5 : Hid (DS w1 w5 (TL p q (za.drop 0) ((za ++ zb).drop 0)) X) := I4; have HPT : Hid (∀ w', Holds w' X → PartU w' a4 c4 (za ++ zb)) := HL.out.part; clear I4 HL))
    | fail)
  go_loopw [12] (fun i wr => ∃ k : Nat, k ≤ za.length ∧ i = .int .i64 k ∧ Hid (DS w1 wr (TL p q (za.drop k) ((za ++ zb).drop k)) X)) (fun i _ => za.length - (intOf i).toNat)
  case atStart => exact ⟨0, by omega, rfl, I5⟩
  case round =>
    obtain ⟨k, hk, rfl, HD⟩ := hrel
    clear I5
    by_cases hlt : k < za.length
    · have hlt2 : (k : Int) < za.length := by omega
      have HE : Hid ((za ++ zb).getD k 0 = za.getD k 0) := getD_app_left (by have := HNA.out; omega)
      go_wp2_with (first
        | (go_at_call 14; (with_reducible refine (both_next1 HD.out (by have := HLA.out; omega)).mono ?_); go_loud (rintro e w6 ⟨rfl, J1⟩; clear HD))
        | (go_at_call 14; (with_reducible refine (both_next2 J1.out (by have := HLA.out; have := HLB.out; have := HLL.out; omega)).mono ?_); go_loud (rintro e w7 ⟨rfl, J2⟩; clear J1; rw [HE.out]))
        | fail)
      go_roundw
      case rel => exact ⟨k + 1, by omega, by go_num, J2⟩
      case measure => simp [intOf]; omega
    · have hge : ¬ (k : Int) < za.length := by omega
      have hkn : k = za.length := by omega
      have HD2 : Hid (DS w1 wr (TL p q (za.drop za.length) ((za ++ zb).drop za.length)) X) := by rw [hkn] at HD; exact HD
      have HDR : Hid ((za ++ zb).drop za.length = za.drop za.length ++ zb) := by
        unfold Hid
        rw [List.drop_append_of_le_length HNA.out]
      clear HD hkn
      go_wp2_with (first
        | (go_at_call 20; (with_reducible refine (ds_add HD2.out 0 rfl (HPB.out.below (bstep HB1.out HD2.out.bel)) (by have := HLA.out; have := HLB.out; rw [List.length_drop]; omega)).mono ?_); go_loud (rintro e w6 ⟨rfl, J1⟩; have J2 : Hid (DS w1 w6 (TL p q ((za ++ zb).drop za.length) ((za ++ zb).drop za.length)) X) := (by have := J1; rw [← HDR.out] at this; exact this); clear J1 HD2 HDR))
        | fail)
      have HN2 : Hid (za.length ≤ za.length + zb.length + 1) := by have := HNA.out; unfold Hid; omega
      go_loopw [14] (fun i wr => ∃ k : Nat, k ≤ za.length + zb.length + 1 ∧ i = .int .i64 k ∧ Hid (DS w1 wr (TL p q ((za ++ zb).drop k) ((za ++ zb).drop k)) X)) (fun i _ => za.length + zb.length + 1 - (intOf i).toNat)
      case atStart => exact ⟨za.length, HN2.out, rfl, J2⟩
      case round =>
        obtain ⟨k, hk, rfl, HD⟩ := hrel
        clear J2
        by_cases hl2 : k < za.length + zb.length + 1
        · have hl3 : (k : Int) < (za.length : Int) + zb.length + 1 := by omega
          have hz := getD_words' HPT HD.out k
          by_cases hl4 : k < za.length + zb.length
          · have hl5 : (k : Int) < (za.length : Int) + zb.length := by omega
            obtain ⟨g, o, ha4, hcell⟩ : ∃ g o, a4 = some ⟨g, o, none⟩ ∧ ∀ w', Holds w' X → w'.cell? ⟨g, o + k, none⟩ = some (.int .u32 ((za ++ zb).getD k 0)) := by
              have hp0 := HPT.out wr HD.out.ho
              rcases hp0.lies with h | ⟨g, o, h, _⟩
              · have := HLL.out; rw [h] at this; simp at this; omega
              · refine ⟨g, o, h, fun w' hh => ?_⟩
                have hp1 := HPT.out w' hh
                rcases hp1.lies with h' | ⟨g', o', h', hc⟩
                · have := HLL.out; rw [h'] at this; simp at this; omega
                · rw [h] at h'
                  simp only [Option.some.injEq, Addr.mk.injEq, and_true] at h'
                  obtain ⟨rfl, rfl⟩ := h'
                  exact hc k (by rw [HLL.out]; exact hl4)
            subst ha4
            have HC := hid hcell
            clear hcell
            obtain ⟨Z, hZ⟩ : ∃ Z, (za ++ zb).getD k 0 = Z := ⟨_, rfl⟩
            have HZ := hid hZ
            rw [hZ] at hz
            clear hZ
            go_wp2_with (first
              | (go_at_call 14; (with_reducible refine (both_next1 HD.out (by have := HLA.out; have := HLB.out; have := HLL.out; omega)).mono ?_); go_loud (rintro e w6 ⟨rfl, J1⟩; clear HD; rw [HZ.out]))
              | (go_at_call 14; (with_reducible refine (both_next2 J1.out (by have := HLA.out; have := HLB.out; have := HLL.out; omega)).mono ?_); go_loud (rintro e w7 ⟨rfl, J2⟩; clear J1; rw [HZ.out]; have hc7 : w7.cell? ⟨g, o + k, none⟩ = some (.int .u32 Z) := (by rw [← HZ.out]; exact HC.out w7 J2.out.ho)))
              | (go_at_call 12; (with_reducible refine (tl_left1 J2.out).mono ?_); go_loud (rintro e w' ⟨rfl, hw⟩; subst w'))
              | (go_at_call 12; (with_reducible refine (tl_left2 J2.out).mono ?_); go_loud (rintro e w' ⟨rfl, hw⟩; subst w'))
              | fail)
            go_roundw
            case rel => exact ⟨k + 1, by omega, by go_num, J2⟩
            case measure => simp [intOf]; omega
          · have hl5 : ¬ (k : Int) < (za.length : Int) + zb.length := by omega
            obtain ⟨Z, hZ⟩ : ∃ Z, (za ++ zb).getD k 0 = Z := ⟨_, rfl⟩
            have HZ := hid hZ
            rw [hZ] at hz
            clear hZ
            go_wp2_with (first
              | (go_at_call 14; (with_reducible refine (both_next1 HD.out (by have := HLA.out; have := HLB.out; have := HLL.out; omega)).mono ?_); go_loud (rintro e w6 ⟨rfl, J1⟩; clear HD; rw [HZ.out]))
              | (go_at_call 14; (with_reducible refine (both_next2 J1.out (by have := HLA.out; have := HLB.out; have := HLL.out; omega)).mono ?_); go_loud (rintro e w7 ⟨rfl, J2⟩; clear J1; rw [HZ.out]))
              | (go_at_call 12; (with_reducible refine (tl_left1 J2.out).mono ?_); go_loud (rintro e w' ⟨rfl, hw⟩; subst w'))
              | (go_at_call 12; (with_reducible refine (tl_left2 J2.out).mono ?_); go_loud (rintro e w' ⟨rfl, hw⟩; subst w'))
              | fail)
            go_roundw
            case rel => exact ⟨k + 1, by omega, by go_num, J2⟩
            case measure => simp [intOf]; omega
        · have hl3 : ¬ (k : Int) < (za.length : Int) + zb.length + 1 := by omega
          go_wp2
          go_ret
          exact ⟨rfl, bstep HB1.out HD.out.bel⟩

set_option maxHeartbeats 4000000 in
theorem adds_d (a : Option Addr) (c : Nat) (za : List Int) (b : Option Addr) (d : Nat) (zb : List Int) (ahead : Int) (w : World) (hpa : PartU w a c za) (hpb : PartU w b d zb) (la : za.length ≤ 1048576) (lb : zb.length ≤ 1048576) (h0 : 0 < ahead) (h1 : (za.length : Int) < ahead) :
    Calls Try.prog 5 #[.slice a za.length c, .slice b zb.length d, .int .i64 ahead] w fun e w' => e = .returned (.bool true) ∧ Below w.heap.size w w' := by
  have HPA := hid hpa
  have HPB := hid hpb
  have HLA := hid la
  have HLB := hid lb
  have HLL : Hid ((za ++ zb).length = za.length + zb.length) := List.length_append
  have HNA : Hid (za.length ≤ za.length) := by unfold Hid; omega
  have ka : (za.length : Int) ≤ 1048576 := by omega
  have kb : (zb.length : Int) ≤ 1048576 := by omega
  have h2' : ¬ ahead < (za.length : Int) := by omega
  have h3' : ¬ ahead ≤ (za.length : Int) := by omega
  clear hpa hpb la lb
  go_enter Try.func5, Try.ntmps5
  go_wp2_with (first
    | (go_at_call 6; refine (awake_any w).mono ?_; go_loud (rintro e w1 ⟨rfl, hb1⟩; have HB1 := hid hb1; clear hb1))
    | (go_at_call 8; (with_reducible refine (ds_new (DS.nil w1) (HPA.out.below HB1.out) (by have := HLA.out; omega)).mono ?_); go_loud (rintro e w2 ⟨p, rfl, I1, I2⟩; have I3 : Hid (DS w1 w2 [(46, p, za)] []) := I1; obtain ⟨w3, w4, a3, a4, c3, c4, X, hL⟩ := laid_of (w := w) I3.out ((HPA.out.below HB1.out).below I2.out) ((HPB.out.below HB1.out).below I2.out) HLA.out HLB.out; have HL := hid hL; clear hL I1 I3))
    | (at_builtin; refine wpList_append_run w2 rfl _ _ _ _ rfl _ _ rfl rfl HL.out.run1 ?_)
    | (at_builtin; refine wpList_append_run w3 rfl _ _ _ _ rfl _ _ rfl rfl HL.out.run2 ?_)
    | (go_at_call 8; refine (new_joined HL.out HLA.out HLB.out).mono ?_; go_loud (rintro e w5 ⟨q, rfl, I4, _⟩; have I5 : Hid (DS w1 w5 (TL p q (za.drop 0) ((za ++ zb).drop 0)) X) := I4; have HPT : Hid (∀ w', Holds w' X → PartU w' a4 c4 (za ++ zb)) := HL.out.part; clear I4 HL))
    | fail)
  go_loopw [12] (fun i wr => ∃ k : Nat, k ≤ za.length ∧ i = .int .i64 k ∧ Hid (DS w1 wr (TL p q (za.drop k) ((za ++ zb).drop k)) X)) (fun i _ => za.length - (intOf i).toNat)
  case atStart => exact ⟨0, by omega, rfl, I5⟩
  case round =>
    obtain ⟨k, hk, rfl, HD⟩ := hrel
    clear I5
    by_cases hlt : k < za.length
    · have hlt2 : (k : Int) < za.length := by omega
      have HE : Hid ((za ++ zb).getD k 0 = za.getD k 0) := getD_app_left (by have := HNA.out; omega)
      go_wp2_with (first
        | (go_at_call 14; (with_reducible refine (both_next1 HD.out (by have := HLA.out; omega)).mono ?_); go_loud (rintro e w6 ⟨rfl, J1⟩; clear HD))
        | (go_at_call 14; (with_reducible refine (both_next2 J1.out (by have := HLA.out; have := HLB.out; have := HLL.out; omega)).mono ?_); go_loud (rintro e w7 ⟨rfl, J2⟩; clear J1; rw [HE.out]))
        | fail)
      go_roundw
      case rel => exact ⟨k + 1, by omega, by go_num, J2⟩
      case measure => simp [intOf]; omega
    · have hge : ¬ (k : Int) < za.length := by omega
      have hkn : k = za.length := by omega
      have HD2 : Hid (DS w1 wr (TL p q (za.drop za.length) ((za ++ zb).drop za.length)) X) := by rw [hkn] at HD; exact HD
      have HDR : Hid ((za ++ zb).drop za.length = za.drop za.length ++ zb) := by
        unfold Hid
        rw [List.drop_append_of_le_length HNA.out]
      clear HD hkn
      go_wp2_with (first
        | (go_at_call 20; (with_reducible refine (ds_add HD2.out 0 rfl (HPB.out.below (bstep HB1.out HD2.out.bel)) (by have := HLA.out; have := HLB.out; rw [List.length_drop]; omega)).mono ?_); go_loud (rintro e w6 ⟨rfl, J1⟩; have J2 : Hid (DS w1 w6 (TL p q ((za ++ zb).drop za.length) ((za ++ zb).drop za.length)) X) := (by have := J1; rw [← HDR.out] at this; exact this); clear J1 HD2 HDR))
        | fail)
      have HN2 : Hid (za.length ≤ za.length + zb.length + 1) := by have := HNA.out; unfold Hid; omega
      go_loopw [14] (fun i wr => ∃ k : Nat, k ≤ za.length + zb.length + 1 ∧ i = .int .i64 k ∧ Hid (DS w1 wr (TL p q ((za ++ zb).drop k) ((za ++ zb).drop k)) X)) (fun i _ => za.length + zb.length + 1 - (intOf i).toNat)
      case atStart => exact ⟨za.length, HN2.out, rfl, J2⟩
      case round =>
        obtain ⟨k, hk, rfl, HD⟩ := hrel
        clear J2
        by_cases hl2 : k < za.length + zb.length + 1
        · have hl3 : (k : Int) < (za.length : Int) + zb.length + 1 := by omega
          have hz := getD_words' HPT HD.out k
          by_cases hl4 : k < za.length + zb.length
          · have hl5 : (k : Int) < (za.length : Int) + zb.length := by omega
            obtain ⟨g, o, ha4, hcell⟩ : ∃ g o, a4 = some ⟨g, o, none⟩ ∧ ∀ w', Holds w' X → w'.cell? ⟨g, o + k, none⟩ = some (.int .u32 ((za ++ zb).getD k 0)) := by
              have hp0 := HPT.out wr HD.out.ho
              rcases hp0.lies with h | ⟨g, o, h, _⟩
              · have := HLL.out; rw [h] at this; simp at this; omega
              · refine ⟨g, o, h, fun w' hh => ?_⟩
                have hp1 := HPT.out w' hh
                rcases hp1.lies with h' | ⟨g', o', h', hc⟩
                · have := HLL.out; rw [h'] at this; simp at this; omega
                · rw [h] at h'
                  simp only [Option.some.injEq, Addr.mk.injEq, and_true] at h'
                  obtain ⟨rfl, rfl⟩ := h'
                  exact hc k (by rw [HLL.out]; exact hl4)
            subst ha4
            have HC := hid hcell
            clear hcell
            obtain ⟨Z, hZ⟩ : ∃ Z, (za ++ zb).getD k 0 = Z := ⟨_, rfl⟩
            have HZ := hid hZ
            rw [hZ] at hz
            clear hZ
            go_wp2_with (first
              | (go_at_call 14; (with_reducible refine (both_next1 HD.out (by have := HLA.out; have := HLB.out; have := HLL.out; omega)).mono ?_); go_loud (rintro e w6 ⟨rfl, J1⟩; clear HD; rw [HZ.out]))
              | (go_at_call 14; (with_reducible refine (both_next2 J1.out (by have := HLA.out; have := HLB.out; have := HLL.out; omega)).mono ?_); go_loud (rintro e w7 ⟨rfl, J2⟩; clear J1; rw [HZ.out]; have hc7 : w7.cell? ⟨g, o + k, none⟩ = some (.int .u32 Z) := (by rw [← HZ.out]; exact HC.out w7 J2.out.ho)))
              | (go_at_call 12; (with_reducible refine (tl_left1 J2.out).mono ?_); go_loud (rintro e w' ⟨rfl, hw⟩; subst w'))
              | (go_at_call 12; (with_reducible refine (tl_left2 J2.out).mono ?_); go_loud (rintro e w' ⟨rfl, hw⟩; subst w'))
              | fail)
            go_roundw
            case rel => exact ⟨k + 1, by omega, by go_num, J2⟩
            case measure => simp [intOf]; omega
          · have hl5 : ¬ (k : Int) < (za.length : Int) + zb.length := by omega
            obtain ⟨Z, hZ⟩ : ∃ Z, (za ++ zb).getD k 0 = Z := ⟨_, rfl⟩
            have HZ := hid hZ
            rw [hZ] at hz
            clear hZ
            go_wp2_with (first
              | (go_at_call 14; (with_reducible refine (both_next1 HD.out (by have := HLA.out; have := HLB.out; have := HLL.out; omega)).mono ?_); go_loud (rintro e w6 ⟨rfl, J1⟩; clear HD; rw [HZ.out]))
              | (go_at_call 14; (with_reducible refine (both_next2 J1.out (by have := HLA.out; have := HLB.out; have := HLL.out; omega)).mono ?_); go_loud (rintro e w7 ⟨rfl, J2⟩; clear J1; rw [HZ.out]))
              | (go_at_call 12; (with_reducible refine (tl_left1 J2.out).mono ?_); go_loud (rintro e w' ⟨rfl, hw⟩; subst w'))
              | (go_at_call 12; (with_reducible refine (tl_left2 J2.out).mono ?_); go_loud (rintro e w' ⟨rfl, hw⟩; subst w'))
              | fail)
            go_roundw
            case rel => exact ⟨k + 1, by omega, by go_num, J2⟩
            case measure => simp [intOf]; omega
        · have hl3 : ¬ (k : Int) < (za.length : Int) + zb.length + 1 := by omega
          go_wp2
          go_ret
          exact ⟨rfl, bstep HB1.out HD.out.bel⟩
end Go.Proofs.Ytdfefhiajleejaa
