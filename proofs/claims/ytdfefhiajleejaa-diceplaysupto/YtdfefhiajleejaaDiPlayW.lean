/-
  The walk of the statement DicePlays.
-/
import Derived.Test.YtdfefhiajleejaaDiStep
import Derived.Test.YtdfefhiajleejaaDiOpenO
namespace Go.Proofs.Ytdfefhiajleejaa
open Go.RowKit
set_option linter.all false

theorem and_one (v : Int) : ∃ k : Nat, k < 2 ∧ bits .and .i64 v 1 = k := by
  refine ⟨(BitVec.ofInt 64 v).toNat % 2, Nat.mod_lt _ (by decide), ?_⟩
  have e : (BitVec.ofInt 64 v &&& BitVec.ofInt 64 1).toNat = (BitVec.ofInt 64 v).toNat % 2 := by
    rw [BitVec.toNat_and, show (BitVec.ofInt 64 1).toNat = 2 ^ 1 - 1 from by decide, Nat.and_two_pow_sub_one_eq_mod]
  show IntKind.wrap .i64 ((BitVec.ofInt 64 v &&& BitVec.ofInt 64 1).toNat : Int) = _
  rw [e]
  have h : (BitVec.ofInt 64 v).toNat % 2 = 0 ∨ (BitVec.ofInt 64 v).toNat % 2 = 1 := by omega
  rcases h with h | h <;> rw [h] <;> rfl
/-- the four dices. -/
abbrev PL (p0 p1 q0 q1 : Nat) (z0 z1 : List Int) : DL := [(46, p0, z0), (46, p1, z1), (48, q0, z0), (48, q1, z1)]
def DO (p0 p1 : Nat) : Obj := .cells #[.pointer (some ⟨p0, 0, none⟩), .pointer (some ⟨p1, 0, none⟩)] 26 (0, 0)
def RO (p0 p1 : Nat) : Obj := .cells #[.pointer (some ⟨p0, 0, none⟩), .pointer (some ⟨p1, 0, none⟩)] 29 (0, 0)
abbrev GX (gr gd p0 p1 q0 q1 : Nat) : List (Nat × Obj) := [(gr, RO q0 q1), (gd, DO p0 p1)]
/-- the loads of a round. -/
structure TabC (w : World) (gr gd p0 p1 q0 q1 : Nat) : Prop where
  d0 : w.cell? ⟨gd, 0, none⟩ = some (.pointer (some ⟨p0, 0, none⟩))
  d1 : w.cell? ⟨gd, 1, none⟩ = some (.pointer (some ⟨p1, 0, none⟩))
  r0 : w.cell? ⟨gr, 0, none⟩ = some (.pointer (some ⟨q0, 0, none⟩))
  r1 : w.cell? ⟨gr, 1, none⟩ = some (.pointer (some ⟨q1, 0, none⟩))
theorem tabC {w0 w : World} {l : DL} {gr gd p0 p1 q0 q1 : Nat} (h : DS w0 w l (GX gr gd p0 p1 q0 q1)) : TabC w gr gd p0 p1 q0 q1 :=
  ⟨cellHeap (h.ho.at 1 _ _ rfl) 0 rfl, cellHeap (h.ho.at 1 _ _ rfl) 1 rfl, cellHeap (h.ho.at 0 _ _ rfl) 0 rfl, cellHeap (h.ho.at 0 _ _ rfl) 1 rfl⟩
/-- how many draws the dice at q has, by its cell. -/
def leftIn (w : World) (q : Nat) : Nat := match w.cell? ⟨q, 0, none⟩ with | some (.slice _ n _) => n | _ => 0
theorem DS.leftIn {w0 w : World} {l : DL} {X : List (Nat × Obj)} (h : DS w0 w l X) (i : Nat) {t : TypeId} {p : Nat} {zs : List Int} (hi : l[i]? = some (t, p, zs)) : Go.Proofs.Ytdfefhiajleejaa.leftIn w p = zs.length := by
  obtain ⟨a, c, h1, _⟩ := h.at hi
  unfold Go.Proofs.Ytdfefhiajleejaa.leftIn
  rw [cellHeap h1.box 0 rfl]
  rfl
theorem hd0_nil : hd0 [] = 0 := rfl
section
variable {w0 w : World} {X : List (Nat × Obj)} {p0 p1 q0 q1 : Nat} {z0 z1 : List Int} {a : Option Addr} {c : Nat} {ds : List Int}
theorem play_step0 (h : DS w0 w (PL p0 p1 q0 q1 z0 z1) X) (kd on x y t : Int) (hp : PartU w0 a c ds) (hl : z0.length + ds.length ≤ 1048576) (hx : -9223372036854775808 ≤ x ∧ x ≤ 9223372036854775807) (hy : -9223372036854775808 ≤ y ∧ y ≤ 9223372036854775807) (ht : -9223372036854775808 ≤ t ∧ t ≤ 9223372036854775807) :
    Calls Try.prog 11 #[.pointer (some ⟨p0, 0, none⟩), .pointer (some ⟨q0, 0, none⟩), .agg #[.int .i64 kd, .int .i64 on, .int .i64 x, .int .i64 y, .int .i64 t, .slice a ds.length c]] w fun e w' => e = .returned (.bool true) ∧ ∃ z, Hid (z.length ≤ z0.length + ds.length) ∧ Hid (DS w0 w' (PL p0 p1 q0 q1 z z1) X) :=
  (step_any w h 0 2 (by decide) rfl rfl kd on x y t a c ds hp hl hx hy ht).mono fun e w' k => ⟨k.1, by obtain ⟨z, k1, k2⟩ := k.2.ex; exact ⟨z, k1, k2⟩⟩
theorem play_step1 (h : DS w0 w (PL p0 p1 q0 q1 z0 z1) X) (kd on x y t : Int) (hp : PartU w0 a c ds) (hl : z1.length + ds.length ≤ 1048576) (hx : -9223372036854775808 ≤ x ∧ x ≤ 9223372036854775807) (hy : -9223372036854775808 ≤ y ∧ y ≤ 9223372036854775807) (ht : -9223372036854775808 ≤ t ∧ t ≤ 9223372036854775807) :
    Calls Try.prog 11 #[.pointer (some ⟨p1, 0, none⟩), .pointer (some ⟨q1, 0, none⟩), .agg #[.int .i64 kd, .int .i64 on, .int .i64 x, .int .i64 y, .int .i64 t, .slice a ds.length c]] w fun e w' => e = .returned (.bool true) ∧ ∃ z, Hid (z.length ≤ z1.length + ds.length) ∧ Hid (DS w0 w' (PL p0 p1 q0 q1 z0 z) X) :=
  (step_any w h 1 3 (by decide) rfl rfl kd on x y t a c ds hp hl hx hy ht).mono fun e w' k => ⟨k.1, by obtain ⟨z, k1, k2⟩ := k.2.ex; exact ⟨z, k1, k2⟩⟩
end
/-- both have been made: the two lists of dices, and what was lent. -/
theorem guests_off {w0 w : World} {l : DL} {X : List (Nat × Obj)} (h : DS w0 w l X) {g : Nat} (hg : w.heap.size ≤ g) : ∀ x, x ∈ X → x.1 ≠ g := fun x hx => by have := h.ho.lt hx; omega
set_option maxRecDepth 20000 in
set_option maxHeartbeats 8000000 in
theorem dicePlays_go (aa : Option Addr) (ca : Nat) (za : List Int) (ab : Option Addr) (cb : Nat) (zb : List Int) (xs : List OpU) (ax : Option Addr) (cx : Nat) (w : World) (hpa : PartU w aa ca za) (hpb : PartU w ab cb zb) (hops : OpsAt w ax xs) (hl : za.length + zb.length + total xs + xs.length ≤ 1048576) :
    Calls Try.prog 3 #[.slice aa za.length ca, .slice ab zb.length cb, .slice ax xs.length cx] w fun e w' => e = .returned (.bool true) ∧ Below w.heap.size w w' := by
  have HPA := hid hpa
  have HPB := hid hpb
  have HOPS := hid hops
  have HL := hid hl
  have la : za.length ≤ 1048576 := by omega
  have lb : zb.length ≤ 1048576 := by omega
  have hN0 : xs.length ≤ 1048576 := by omega
  have HLA := hid la
  have HLB := hid lb
  obtain ⟨N, hN⟩ : ∃ N, N = xs.length := ⟨_, rfl⟩
  have HN := hid hN
  rw [← hN] at hN0 ⊢
  clear hpa hpb hops hl la lb hN
  go_enter Try.func3, Try.ntmps3
  go_wp2_with (first
    | (go_at_call 6; refine (awake_any w).mono ?_; go_loud (rintro e w1 ⟨rfl, hb1⟩; have HB1 := hid hb1; have HA1 : Hid (PartU w1 aa ca za) := HPA.out.below hb1; have HA2 : Hid (PartU w1 ab cb zb) := HPB.out.below hb1; clear hb1 HPA HPB))
    | (go_at_call 7; (with_reducible refine (ds_lent (DS.nil w1) HA1.out HLA.out).mono ?_); go_loud (rintro e w2 ⟨gx, rfl, I1, G1⟩))
    | (go_at_call 7; (with_reducible refine (ds_lent I1.out HA2.out HLB.out).mono ?_); go_loud (rintro e w3 ⟨gy, rfl, I2, G2⟩; clear I1))
    | (go_at_call 8; (with_reducible refine (ds_new I2.out (partL2 (I2.out.ho.at 1 gx _ rfl) HA1.out.words) (by have := HLA.out; omega)).mono ?_); go_loud (rintro e w4 ⟨p0, rfl, I3, _⟩; clear I2))
    | (go_at_call 8; (with_reducible refine (ds_new I3.out (partL2 (I3.out.ho.at 0 gy _ rfl) HA2.out.words) (by have := HLB.out; omega)).mono ?_); go_loud (rintro e w5 ⟨p1, rfl, I4, _⟩; clear I3; have I5 : Hid (DS w1 (w5.alloc (DO p0 p1)) [(46, p0, za), (46, p1, zb)] [(w5.heap.size, DO p0 p1), (gy, LentO zb), (gx, LentO za)]) := I4.out.push _; have GD : Hid (gx ≠ w5.heap.size ∧ gy ≠ w5.heap.size) := (by have := I4.out.ho.lt (p := (gx, LentO za)) (by simp); have := I4.out.ho.lt (p := (gy, LentO zb)) (by simp); unfold Hid; constructor <;> (simp only at *; omega)); clear I4))
    | (go_at_call 9; refine (dr_new I5.out (HA1.out.below I5.out.bel) (by have := HLA.out; omega)).mono ?_; go_loud (rintro e w6 ⟨q0, rfl, I6, _⟩; clear I5))
    | (go_at_call 9; refine (dr_new I6.out (HA2.out.below I6.out.bel) (by have := HLB.out; omega)).mono ?_; go_loud (rintro e w7 ⟨q1, rfl, I7, _⟩; clear I6; have I8 : Hid (DS w1 (w7.alloc (RO q0 q1)) (PL p0 p1 q0 q1 za zb) [(w7.heap.size, RO q0 q1), (w5.heap.size, DO p0 p1), (gy, LentO zb), (gx, LentO za)]) := I7.out.push _; have GR : Hid (gx ≠ w7.heap.size ∧ gy ≠ w7.heap.size) := (by have := I7.out.ho.lt (p := (gx, LentO za)) (by simp); have := I7.out.ho.lt (p := (gy, LentO zb)) (by simp); unfold Hid; constructor <;> (simp only at *; omega)); have I9 : Hid (DS w1 (w7.alloc (RO q0 q1)) (PL p0 p1 q0 q1 za zb) ((gx, LentO za) :: [(w7.heap.size, RO q0 q1), (w5.heap.size, DO p0 p1), (gy, LentO zb)])) := I8.out.drop (fun x hx => by simp at hx ⊢; rcases hx with h | h | h | h <;> simp [h]); clear I7 I8))
    | (go_at_call 10; refine (ds_asLent I9.out HA1.out HLA.out ⟨G1.out.1, fun x hx => by have g1 := GD.out; have g2 := GR.out; have g3 := G2.out.2 (gx, LentO za) (by simp); simp at hx g3; rcases hx with h | h | h <;> subst h <;> simp only <;> omega⟩).mono ?_; go_loud (rintro e w8 ⟨rfl, I10⟩; clear I9; have I11 : Hid (DS w1 w8 (PL p0 p1 q0 q1 za zb) ((gy, LentO zb) :: GX w7.heap.size w5.heap.size p0 p1 q0 q1)) := I10.out.drop (fun x hx => by simp at hx ⊢; rcases hx with h | h | h <;> simp [h]); clear I10))
    | (go_at_call 10; (with_reducible refine (ds_asLent I11.out HA2.out HLB.out ⟨G2.out.1, fun x hx => by have g1 := GD.out; have g2 := GR.out; simp at hx; rcases hx with h | h <;> subst h <;> simp only <;> omega⟩).mono ?_); go_loud (rintro e w9 ⟨rfl, I12⟩; clear I11; obtain ⟨t1, t2, t3, t4⟩ := tabC I12.out))
    | fail)
  clear t1 t2 t3 t4 G1 G2 GD GR HA1 HA2
  have HP1 : Hid (∀ k, k < N → ∃ b o, ax = some ⟨b, o, none⟩ ∧ (∀ i u, (xs.getD k OpU.nil).cells[i]? = some u → w1.cell? ⟨b, o + k * 6 + i, none⟩ = some u) ∧ (xs.getD k OpU.nil).ok w1) := fun k hk => by
    obtain ⟨b, o, h1, h2, h3⟩ := HOPS.out k (by rw [← HN.out]; exact hk)
    exact ⟨b, o, h1, fun i u hi => (HB1.out.cell (World.block_lt_of_cell? w _ (h2 i u hi))).trans (h2 i u hi), h3.x, h3.y, h3.t, h3.part.below HB1.out⟩
  clear HOPS
  generalize w7.heap.size = gr at *
  generalize w5.heap.size = gd at *
  go_loopw [14] (fun i wr => ∃ k : Nat, k ≤ N ∧ i = .int .i64 k ∧ ∃ z0 z1, Hid (DS w1 wr (PL p0 p1 q0 q1 z0 z1) (GX gr gd p0 p1 q0 q1)) ∧ Hid (z0.length + z1.length ≤ za.length + zb.length + total (xs.take k))) (fun i _ => N - (intOf i).toNat)
  case atStart => exact ⟨0, by omega, rfl, za, zb, I12, by unfold Hid; omega⟩
  case round =>
    clear I12
    obtain ⟨k, hk, rfl, z0, z1, HD, HZ⟩ := hrel
    by_cases hlt : k < N
    · have hlt2 : (k : Int) < N := by omega
      obtain ⟨b, o, hax, hcl, hok⟩ := HP1.out k hlt
      have hts := total_step xs k (by rw [← HN.out]; exact hlt)
      subst hax
      generalize xs.getD k OpU.nil = qq at hcl hok hts
      obtain ⟨kd, on, x, y, t, a, c, ds⟩ := qq
      have HTS := hid hts
      have HOK := hid hok
      have hcl' : ∀ i u, (OpU.cells ⟨kd, on, x, y, t, a, c, ds⟩)[i]? = some u → wr.cell? ⟨b, o + k * 6 + i, none⟩ = some u := fun i u hi => (HD.out.bel.cell (World.block_lt_of_cell? w1 _ (hcl i u hi))).trans (hcl i u hi)
      have e0 : wr.cell? ⟨b, o + k * 6, none⟩ = some (.int .i64 kd) := hcl' 0 _ rfl
      have e1 : wr.cell? ⟨b, o + k * 6 + 1, none⟩ = some (.int .i64 on) := hcl' 1 _ rfl
      have e2 : wr.cell? ⟨b, o + k * 6 + 2, none⟩ = some (.int .i64 x) := hcl' 2 _ rfl
      have e3 : wr.cell? ⟨b, o + k * 6 + 3, none⟩ = some (.int .i64 y) := hcl' 3 _ rfl
      have e4 : wr.cell? ⟨b, o + k * 6 + 4, none⟩ = some (.int .i64 t) := hcl' 4 _ rfl
      have e5 : wr.cell? ⟨b, o + k * 6 + 5, none⟩ = some (.slice a ds.length c) := hcl' 5 _ rfl
      clear hts hok hcl hcl'
      obtain ⟨j, hj, hand⟩ := and_one on
      obtain ⟨t1, t2, t3, t4⟩ := tabC HD.out
      rcases (show j = 0 ∨ j = 1 by omega) with rfl | rfl
      · replace hand : bits .and .i64 on 1 = 0 := hand
        have HST : Hid (∀ w', DS w1 w' (PL p0 p1 q0 q1 z0 z1) (GX gr gd p0 p1 q0 q1) → Calls Try.prog 11 #[.pointer (some ⟨p0, 0, none⟩), .pointer (some ⟨q0, 0, none⟩), .agg #[.int .i64 kd, .int .i64 on, .int .i64 x, .int .i64 y, .int .i64 t, .slice a ds.length c]] w' fun e w'' => e = .returned (.bool true) ∧ ∃ z, Hid (z.length ≤ z0.length + ds.length) ∧ Hid (DS w1 w'' (PL p0 p1 q0 q1 z z1) (GX gr gd p0 p1 q0 q1))) := fun w' h =>
          play_step0 h kd on x y t HOK.out.part (by have h1 := HZ.out; have h2 := HTS.out; have h3 := HL.out; simp only at h2; omega) HOK.out.x HOK.out.y HOK.out.t
        have HTS2 : Hid (total (xs.take (k + 1)) = total (xs.take k) + ds.length) := HTS.out.1
        clear HOK HTS
        go_wp2_with fail
        go_region_with (first | (go_at_call 11; refine (HST.out _ (by first | exact HD.out | exact HD.out.drewN 1)).mono ?_; go_loud (rintro e w10 ⟨rfl, z, HZ2, HD2⟩; obtain ⟨s1, s2, s3, s4⟩ := tabC HD2.out)) | fail)
        all_goals (
          go_wp2_with (first
            | (go_at_call 12; refine (ds_left HD2.out 0 rfl).mono ?_; go_loud (rintro e w' ⟨rfl, hw⟩; subst w'))
            | (go_at_call 13; refine (dr_left HD2.out 2 rfl).mono ?_; go_loud (rintro e w' ⟨rfl, hw⟩; subst w'))
            | fail)
          go_roundw
          case rel => exact ⟨k + 1, by omega, by go_num, z, z1, HD2, by unfold Hid; have := HTS2.out; have := HZ.out; have := HZ2.out; omega⟩
          case measure => simp [intOf]; omega)
      · replace hand : bits .and .i64 on 1 = 1 := hand
        have HST : Hid (∀ w', DS w1 w' (PL p0 p1 q0 q1 z0 z1) (GX gr gd p0 p1 q0 q1) → Calls Try.prog 11 #[.pointer (some ⟨p1, 0, none⟩), .pointer (some ⟨q1, 0, none⟩), .agg #[.int .i64 kd, .int .i64 on, .int .i64 x, .int .i64 y, .int .i64 t, .slice a ds.length c]] w' fun e w'' => e = .returned (.bool true) ∧ ∃ z, Hid (z.length ≤ z1.length + ds.length) ∧ Hid (DS w1 w'' (PL p0 p1 q0 q1 z0 z) (GX gr gd p0 p1 q0 q1))) := fun w' h =>
          play_step1 h kd on x y t HOK.out.part (by have h1 := HZ.out; have h2 := HTS.out; have h3 := HL.out; simp only at h2; omega) HOK.out.x HOK.out.y HOK.out.t
        have HTS2 : Hid (total (xs.take (k + 1)) = total (xs.take k) + ds.length) := HTS.out.1
        clear HOK HTS
        go_wp2_with fail
        go_region_with (first | (go_at_call 11; refine (HST.out _ (by first | exact HD.out | exact HD.out.drewN 1)).mono ?_; go_loud (rintro e w10 ⟨rfl, z, HZ2, HD2⟩; obtain ⟨s1, s2, s3, s4⟩ := tabC HD2.out)) | fail)
        all_goals (
          go_wp2_with (first
            | (go_at_call 12; refine (ds_left HD2.out 1 rfl).mono ?_; go_loud (rintro e w' ⟨rfl, hw⟩; subst w'))
            | (go_at_call 13; refine (dr_left HD2.out 3 rfl).mono ?_; go_loud (rintro e w' ⟨rfl, hw⟩; subst w'))
            | fail)
          go_roundw
          case rel => exact ⟨k + 1, by omega, by go_num, z0, z, HD2, by unfold Hid; have := HTS2.out; have := HZ.out; have := HZ2.out; omega⟩
          case measure => simp [intOf]; omega)
    · have hge : ¬ (k : Int) < N := by omega
      go_wp2_with fail
      have HYY : Hid (z0.length + z1.length ≤ 1048576) := by
        have h1 := HZ.out
        have h3 := HL.out
        have h4 : total (xs.take k) ≤ total xs := by
          rw [show k = xs.length by rw [← HN.out]; omega, List.take_length]; exact Nat.le_refl _
        unfold Hid; omega
      go_loopw [18] (fun i wr => ∃ m : Nat, m ≤ 2 ∧ i = .int .i64 m ∧ ∃ y0 y1, Hid (DS w1 wr (PL p0 p1 q0 q1 y0 y1) (GX gr gd p0 p1 q0 q1)) ∧ Hid (y0.length + y1.length ≤ 1048576)) (fun i _ => 2 - (intOf i).toNat)
      case atStart => exact ⟨0, by omega, rfl, z0, z1, HD, HYY⟩
      case round =>
        clear HD HYY HZ
        obtain ⟨m, hm, rfl, y0, y1, HE, HY⟩ := hrel
        rcases (show m = 0 ∨ m = 1 ∨ m = 2 by omega) with rfl | rfl | rfl
        · skip
          go_wp2_with fail
          go_loopw [19] (fun _ wr => ∃ z, Hid (DS w1 wr (PL p0 p1 q0 q1 z y1) (GX gr gd p0 p1 q0 q1)) ∧ Hid (z.length ≤ 1048576)) (fun _ wr => leftIn wr q0)
          case atStart => exact ⟨y0, HE, by unfold Hid; have := HY.out; omega⟩
          case round =>
            clear HE
            obtain ⟨z, HE, HZL⟩ := hrel
            obtain ⟨s1, s2, s3, s4⟩ := tabC HE.out
            have HLI : Hid (leftIn wr q0 = z.length) := HE.out.leftIn 2 rfl
            by_cases hz : 0 < z.length
            · have hz2 : (0 : Int) < z.length := by omega
              go_wp2_with (first
                | (go_at_call 13; refine (dr_left HE.out 2 rfl).mono ?_; go_loud (rintro e w' ⟨rfl, hw⟩; subst w'))
                | (go_at_call 14; refine (ds_next HE.out 0 rfl (by have := HZL.out; unfold maxLen; omega)).mono ?_; go_loud (rintro e w11 ⟨rfl, J1⟩; obtain ⟨u1, u2, u3, u4⟩ := tabC J1.out))
                | (go_at_call 15; refine (dr_next J1.out 2 rfl (by have := HZL.out; unfold maxLen; omega)).mono ?_; go_loud (rintro e w12 ⟨rfl, J2⟩; have J3 : Hid (DS w1 w12 (PL p0 p1 q0 q1 (z.tail) y1) (GX gr gd p0 p1 q0 q1)) := J2; clear J1 J2))
                | fail)
              go_roundw
              case rel => exact ⟨_, _, _, _, _, _, _, _, _, _, _, _, _, _, _, _, _, _, _, _, ⟨z.tail, J3, by unfold Hid; rw [List.length_tail]; have := HZL.out; omega⟩, rfl⟩
              case measure => rw [HLI.out, J3.out.leftIn 2 rfl, List.length_tail]; omega
            · have hz0 : z = [] := List.eq_nil_of_length_eq_zero (by omega)
              subst hz0
              clear hz
              go_wp2_with (first
                | (go_at_call 13; refine (dr_left HE.out 2 rfl).mono ?_; go_loud (rintro e w' ⟨rfl, hw⟩; subst w'))
                | (go_at_call 14; refine (ds_next HE.out 0 rfl (by simp)).mono ?_; go_loud (rintro e w11 ⟨rfl, J1⟩; have J3 : Hid (DS w1 w11 (PL p0 p1 q0 q1 [] y1) (GX gr gd p0 p1 q0 q1)) := J1; rw [hd0_nil]; obtain ⟨u1, u2, u3, u4⟩ := tabC J3.out))
                | (go_at_call 12; refine (ds_left J3.out 0 rfl).mono ?_; go_loud (rintro e w' ⟨rfl, hw⟩; subst w'))
                | fail)
              go_roundw
              case rel => exact ⟨1, by omega, rfl, [], y1, J3, by unfold Hid; have := HY.out; simp; omega⟩
              case measure => simp [intOf]
        · skip
          go_wp2_with fail
          go_loopw [19] (fun _ wr => ∃ z, Hid (DS w1 wr (PL p0 p1 q0 q1 y0 z) (GX gr gd p0 p1 q0 q1)) ∧ Hid (z.length ≤ 1048576)) (fun _ wr => leftIn wr q1)
          case atStart => exact ⟨y1, HE, by unfold Hid; have := HY.out; omega⟩
          case round =>
            clear HE
            obtain ⟨z, HE, HZL⟩ := hrel
            obtain ⟨s1, s2, s3, s4⟩ := tabC HE.out
            have HLI : Hid (leftIn wr q1 = z.length) := HE.out.leftIn 3 rfl
            by_cases hz : 0 < z.length
            · have hz2 : (0 : Int) < z.length := by omega
              go_wp2_with (first
                | (go_at_call 13; refine (dr_left HE.out 3 rfl).mono ?_; go_loud (rintro e w' ⟨rfl, hw⟩; subst w'))
                | (go_at_call 14; refine (ds_next HE.out 1 rfl (by have := HZL.out; unfold maxLen; omega)).mono ?_; go_loud (rintro e w11 ⟨rfl, J1⟩; obtain ⟨u1, u2, u3, u4⟩ := tabC J1.out))
                | (go_at_call 15; refine (dr_next J1.out 3 rfl (by have := HZL.out; unfold maxLen; omega)).mono ?_; go_loud (rintro e w12 ⟨rfl, J2⟩; have J3 : Hid (DS w1 w12 (PL p0 p1 q0 q1 y0 (z.tail)) (GX gr gd p0 p1 q0 q1)) := J2; clear J1 J2))
                | fail)
              go_roundw
              case rel => exact ⟨_, _, _, _, _, _, _, _, _, _, _, _, _, _, _, _, _, _, _, _, ⟨z.tail, J3, by unfold Hid; rw [List.length_tail]; have := HZL.out; omega⟩, rfl⟩
              case measure => rw [HLI.out, J3.out.leftIn 3 rfl, List.length_tail]; omega
            · have hz0 : z = [] := List.eq_nil_of_length_eq_zero (by omega)
              subst hz0
              clear hz
              go_wp2_with (first
                | (go_at_call 13; refine (dr_left HE.out 3 rfl).mono ?_; go_loud (rintro e w' ⟨rfl, hw⟩; subst w'))
                | (go_at_call 14; refine (ds_next HE.out 1 rfl (by simp)).mono ?_; go_loud (rintro e w11 ⟨rfl, J1⟩; have J3 : Hid (DS w1 w11 (PL p0 p1 q0 q1 y0 []) (GX gr gd p0 p1 q0 q1)) := J1; rw [hd0_nil]; obtain ⟨u1, u2, u3, u4⟩ := tabC J3.out))
                | (go_at_call 12; refine (ds_left J3.out 1 rfl).mono ?_; go_loud (rintro e w' ⟨rfl, hw⟩; subst w'))
                | fail)
              go_roundw
              case rel => exact ⟨2, by omega, rfl, y0, [], J3, by unfold Hid; have := HY.out; simp; omega⟩
              case measure => simp [intOf]
        · skip
          go_wp2
          go_ret
          exact ⟨rfl, bstep HB1.out HE.out.bel⟩
end Go.Proofs.Ytdfefhiajleejaa
