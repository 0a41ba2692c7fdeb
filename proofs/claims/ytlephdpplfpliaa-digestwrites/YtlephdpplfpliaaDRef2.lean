/-
  The document's digest: a block's words.
-/
import Derived.Test.YtlephdpplfpliaaDRef1
import Derived.Deep.RegionHeld3
namespace Go.Proofs.Ytlephdpplfpliaa
open Go.RowKit
set_option linter.all false

theorem Wd.drew {w x : World} {L : List Int} {v : Value} (h : Wd w L v x) : Wd w L v x.drew :=
  ⟨h.1.below (Below.refl _ _).drew, h.2.1, h.2.2.drew⟩
theorem Wd.cells {w x : World} {L : List Int} {v : Value} (h : Wd w L v x) (hl : 0 < L.length) :
    ∃ (g cap : Nat), v = .slice (some ⟨g, 0, none⟩) L.length cap ∧ ∀ j, j < L.length → x.cell? ⟨g, j, none⟩ = some (.int .u32 (L.getD j 0)) := by
  obtain ⟨g, cap, e, _⟩ := h.1.cell 0 (by rw [u32s_len]; exact hl)
  rw [u32s_len] at e
  refine ⟨g, cap, e, fun j hj => ?_⟩
  obtain ⟨g2, cap2, e2, hc⟩ := h.1.cell j (by rw [u32s_len]; exact hj)
  have hg : g2 = g := by
    have := e2.symm.trans e
    simp at this
    exact this.1
  rw [hg] at hc
  rw [hc]
  simp [u32s, List.getD_eq_getElem?_getD, hj]

theorem Wd.two {w wr : World} {L : List Int} {g k c5 : Nat} (h : Wd w L (.slice (some ⟨g, 0, none⟩) k c5) wr) (hk : L.length = k) (h0 : 0 < k) (x : Int) (hl : L.length ≤ 2000) :
    ∃ gg nn cc w', (Builtin.append_ #[43, 43] 43 #[.slice (some ⟨g, 0, none⟩) k c5, .slice (some ⟨wr.heap.size, 0, none⟩) 1 1]).run Try.prog (wr.alloc (.cells #[.int .u32 x] 47)).drew = .ok (.slice (some ⟨gg, 0, none⟩) nn cc) w' ∧ Wd w (L ++ [x]) (.slice (some ⟨gg, 0, none⟩) nn cc) w' ∧
      ∀ j, j < k → w'.cell? ⟨g, j, none⟩ = some (.int .u32 (L.getD j 0)) := by
  obtain ⟨h2, h3, h4⟩ := h
  have hs := h4.size
  have ra := h2.below (w' := (wr.alloc (.cells #[.int .u32 x] 47)).drew) (((Below.refl _ _).alloc (Nat.le_refl _) _).drew)
  have hlt := ra.lt (b := g) rfl
  have wa : Wd w L (.slice (some ⟨g, 0, none⟩) k c5) (wr.alloc (.cells #[.int .u32 x] 47)).drew := ⟨ra, h3, (h4.alloc (by omega) _).drew⟩
  obtain ⟨g1, c1, e1, hcl⟩ := wa.cells (by omega)
  have hg1 : g1 = g := by simp at e1; exact e1.1.symm
  rw [hg1] at hcl
  obtain ⟨g', w', hrun, row', hgr', hcase⟩ := Bk.append_one 43 43 47 _ 4 Try.underlying43 infoU32 rfl ra (.int .u32 x) rfl wr.heap.size _ (Bk.heap_new wr _) (by rw [u32s_len]; unfold maxLen; omega) (by rw [u32s_len]; omega)
  have hbel : Below w.heap.size w w' := ((h4.alloc (by omega) _).drew).grown hgr' (by simp; omega) (fun k hk => by have := h3 k hk; omega)
  have erow : u32s L ++ [Value.int .u32 x] = u32s (L ++ [x]) := by simp [u32s]
  rw [erow] at row'
  rcases hcase with ⟨g0, cap, e1, e2⟩ | ⟨g0, cap, e2, hnew, hgn⟩
  · subst e2
    have hg0 : g0 = g := by simp at e1; exact e1.1.symm
    have wd' : Wd w (L ++ [x]) (.slice (some ⟨g0, 0, none⟩) ((u32s L).length + 1) cap) w' := ⟨row', fun b hb => h3 b (by rw [e1]; exact hb), hbel⟩
    refine ⟨g0, _, cap, w', hrun, wd', fun j hj => ?_⟩
    obtain ⟨g2, c2, e2, hc2⟩ := wd'.cells (by simp)
    have hg2 : g2 = g := by simp at e2; omega
    rw [hg2] at hc2
    rw [hc2 j (by simp; omega)]
    simp [List.getD_eq_getElem?_getD, List.getElem?_append, hk, hj]
  · subst e2
    refine ⟨g0, _, cap, w', hrun, ⟨row', fun b hb => by simp [Value.ownBlock] at hb; simp at hnew; omega, hbel⟩, fun j hj => ?_⟩
    have hbn := (Below.refl (wr.alloc (.cells #[.int .u32 x] 47)).drew.heap.size (wr.alloc (.cells #[.int .u32 x] 47)).drew).grown hgn (Nat.le_refl _) (fun k hk => by simp at hk)
    rw [hbn.cell (p := ⟨g, j, none⟩) hlt]
    exact hcl j (by omega)

set_option maxRecDepth 20000 in
set_option maxHeartbeats 4000000 in
theorem refWords_any (b o cap : Nat) (B : List Int) (w : World) (hB : B.length = 64) (hz : ∀ z, z ∈ B → 0 ≤ z ∧ z ≤ 255) (hbl : b < w.heap.size) (hc : ∀ j, j < 64 → w.cell? ⟨b, o + j, none⟩ = some (.int .u8 (B.getD j 0))) :
    Calls Try.prog 31 #[.slice (some ⟨b, o, none⟩) 64 cap] w fun e w' => ∃ a n c, e = .returned (.slice a n c) ∧ Wd w (schedL B 64) (.slice a n c) w' := by
  have HBD : Hid (∀ j, 0 ≤ B.getD j 0 ∧ B.getD j 0 ≤ 255) := getD_bd (by omega) hz
  have HC : Hid (∀ wr : World, Below w.heap.size w wr → ∀ j, j < 64 → wr.cell? ⟨b, o + j, none⟩ = some (.int .u8 (B.getD j 0))) := fun wr hb j hj => by rw [hb.cell (p := ⟨b, o + j, none⟩) hbl, hc j hj]
  clear hz hc hB
  go_enter Try.func31, Try.ntmps31
  go_wp2
  go_loopw [3, 4] (fun v i wr => ∃ k : Nat, k ≤ 16 ∧ i = .int .i64 k ∧ Wd w (schedL B k) v wr) (fun _ i _ => 16 - (intOf i).toNat)
  case atStart => exact ⟨0, by omega, rfl, Bk.Row.nil _ _, by simp [Value.ownBlock], Below.refl _ _⟩
  case round =>
    obtain ⟨k, hk, rfl, hw⟩ := hrel
    have HW := Bk.hid hw
    obtain ⟨a4, c4, e4, hj⟩ := hw.1.form
    rw [u32s_len, schedL_len] at e4
    clear hw hj
    subst e4
    by_cases hlt : k < 16
    · have hlt2 : (k : Int) < 16 := by omega
      have c0 := HC.out wr HW.out.2.2 (4 * k) (by omega)
      have c1 := HC.out wr HW.out.2.2 (4 * k + 1) (by omega)
      have c2 := HC.out wr HW.out.2.2 (4 * k + 2) (by omega)
      have c3 := HC.out wr HW.out.2.2 (4 * k + 3) (by omega)
      have b0 := HBD.out (4 * k)
      have b1 := HBD.out (4 * k + 1)
      have b2 := HBD.out (4 * k + 2)
      have b3 := HBD.out (4 * k + 3)
      obtain ⟨gg, nn, cc, w', hrun, hw'⟩ := HW.out.one (firstW B k) (by rw [schedL_len]; omega)
      have hnx : schedL B (k + 1) = schedL B k ++ [firstW B k] := by rw [schedL, if_pos hlt]
      rw [← hnx] at hw'
      clear hnx
      have hf4 : firstW B k = bits .or .u32 (bits .or .u32 (bits .or .u32 (B.getD (4 * k) 0 * 16777216) (B.getD (4 * k + 1) 0 * 65536)) (B.getD (4 * k + 2) 0 * 256)) (B.getD (4 * k + 3) 0) := rfl
      rw [hf4] at hrun
      clear hf4
      have hs2 : w'.cell? ⟨b, o + 4 * k, none⟩ = some (.int .u8 (B.getD (4 * k) 0)) ∧ w'.cell? ⟨b, o + (4 * k + 1), none⟩ = some (.int .u8 (B.getD (4 * k + 1) 0)) ∧ w'.cell? ⟨b, o + (4 * k + 2), none⟩ = some (.int .u8 (B.getD (4 * k + 2) 0)) ∧ w'.cell? ⟨b, o + (4 * k + 3), none⟩ = some (.int .u8 (B.getD (4 * k + 3) 0)) :=
        ⟨HC.out w' hw'.2.2 _ (by omega), HC.out w' hw'.2.2 _ (by omega), HC.out w' hw'.2.2 _ (by omega), HC.out w' hw'.2.2 _ (by omega)⟩
      generalize B.getD (4 * k) 0 = z0 at *
      generalize B.getD (4 * k + 1) 0 = z1 at *
      generalize B.getD (4 * k + 2) 0 = z2 at *
      generalize B.getD (4 * k + 3) 0 = z3 at *
      have y0 : IntKind.u32.wrap (z0 * 16777216) = z0 * 16777216 := by simp only [IntKind.wrap_u32]; omega
      have y1 : IntKind.u32.wrap (z1 * 65536) = z1 * 65536 := by simp only [IntKind.wrap_u32]; omega
      have y2 : IntKind.u32.wrap (z2 * 256) = z2 * 256 := by simp only [IntKind.wrap_u32]; omega
      obtain ⟨p0, hp0⟩ : ∃ p, z0 * 16777216 = p := ⟨_, rfl⟩
      obtain ⟨p1, hp1⟩ : ∃ p, z1 * 65536 = p := ⟨_, rfl⟩
      obtain ⟨p2, hp2⟩ : ∃ p, z2 * 256 = p := ⟨_, rfl⟩
      rw [hp0, hp1, hp2] at hrun
      have x0 := y0.trans hp0
      have x1 := y1.trans hp1
      have x2 := y2.trans hp2
      clear y0 y1 y2 hp0 hp1 hp2
      have v0 : IntKind.u32.wrap z0 = z0 := by simp only [IntKind.wrap_u32]; omega
      have v1 : IntKind.u32.wrap z1 = z1 := by simp only [IntKind.wrap_u32]; omega
      have v2 : IntKind.u32.wrap z2 = z2 := by simp only [IntKind.wrap_u32]; omega
      have v3 : IntKind.u32.wrap z3 = z3 := by simp only [IntKind.wrap_u32]; omega
      clear b0 b1 b2 b3
      have HRUN := Bk.hid hrun
      have HW' := Bk.hid hw'
      have HS2 := Bk.hid hs2
      clear hrun hw' hs2
      have hbw : b < wr.heap.size := by have := HW.out.2.2.size; omega
      have i0 : (0:Int) ≤ 4 * k ∧ (4:Int) * k < 64 := by omega
      have i1 : (0:Int) ≤ 4 * k + 1 ∧ (4:Int) * k + 1 < 64 := by omega
      have i2 : (0:Int) ≤ 4 * k + 2 ∧ (4:Int) * k + 2 < 64 := by omega
      have i3 : (0:Int) ≤ 4 * k + 3 ∧ (4:Int) * k + 3 < 64 := by omega
      have t0 : (4 * (k:Int)).toNat = 4 * k := by omega
      have t1 : (4 * (k:Int) + 1).toNat = 4 * k + 1 := by omega
      have t2 : (4 * (k:Int) + 2).toNat = 4 * k + 2 := by omega
      have t3 : (4 * (k:Int) + 3).toNat = 4 * k + 3 := by omega
      have q0 : IntKind.i64.wrap (4 * (k : Int)) = 4 * k := by simp only [IntKind.wrap_i64]; omega
      have q1 : IntKind.i64.wrap (4 * (k : Int) + 1) = 4 * k + 1 := by simp only [IntKind.wrap_i64]; omega
      have q2 : IntKind.i64.wrap (4 * (k : Int) + 2) = 4 * k + 2 := by simp only [IntKind.wrap_i64]; omega
      have q3 : IntKind.i64.wrap (4 * (k : Int) + 3) = 4 * k + 3 := by simp only [IntKind.wrap_i64]; omega
      go_wp2
      go_region_held3 (fun x => x.cell? ⟨b, o + 4 * k, none⟩ = some (.int .u8 z0) ∧ x.cell? ⟨b, o + (4 * k + 1), none⟩ = some (.int .u8 z1) ∧ x.cell? ⟨b, o + (4 * k + 2), none⟩ = some (.int .u8 z2) ∧ x.cell? ⟨b, o + (4 * k + 3), none⟩ = some (.int .u8 z3)) (first | exact HS2.out | go_keep)
        ((refine Bk.step_append_run rfl (.tmp 14) (.tmp 48) 43 43 rfl _ _ rfl rfl HRUN.out ?_))
      go_wp2
      go_roundw
      case rel => exact ⟨k + 1, by omega, by go_num, HW'.out⟩
      case measure => simp [intOf]; omega
    · have HW2 : Hid (Wd w (schedL B 16) (.slice a4 k c4) wr) := by
        have hk16 : k = 16 := by omega
        subst hk16; exact HW
      have hge : ¬ (k : Int) < 16 := by omega
      clear HW
      go_wp2_with fail
      go_loopw [3, 5] (fun v i wr => ∃ k : Nat, 16 ≤ k ∧ k ≤ 64 ∧ i = .int .i64 k ∧ Wd w (schedL B k) v wr) (fun _ i _ => 64 - (intOf i).toNat)
      case atStart => exact ⟨16, by omega, by omega, rfl, HW2.out⟩
      case round =>
        clear HW2 HBD HC hk hlt hge
        obtain ⟨k, hk1, hk2, rfl, hw⟩ := hrel
        have HW := Bk.hid hw
        by_cases hlt : k < 64
        · have hlt2 : (k : Int) < 64 := by omega
          obtain ⟨g, c5, e4, hcl⟩ := hw.cells (by rw [schedL_len]; omega)
          rw [schedL_len] at e4 hcl
          subst e4
          have c15 := hcl (k - 15) (by omega)
          have c2 := hcl (k - 2) (by omega)
          have c7 := hcl (k - 7) (by omega)
          have c16 := hcl (k - 16) (by omega)
          have b15 := getD_bd (by omega) (schedL_bd B k) (k - 15)
          have b2 := getD_bd (by omega) (schedL_bd B k) (k - 2)
          have b7 := getD_bd (by omega) (schedL_bd B k) (k - 7)
          have b16 := getD_bd (by omega) (schedL_bd B k) (k - 16)
          have hnx : schedL B (k + 1) = schedL B k ++ [nextW (schedL B k) k] := by rw [schedL, if_neg (by omega)]
          obtain ⟨gg, nn, cc, w', hrun, hw', hc'⟩ := (hw.drew.drew.drew.drew).two (schedL_len B k) (by omega) (nextW (schedL B k) k) (by rw [schedL_len]; omega)
          rw [← hnx] at hw'
          have hs2 : w'.cell? ⟨g, k - 7, none⟩ = some (.int .u32 ((schedL B k).getD (k - 7) 0)) ∧ w'.cell? ⟨g, k - 16, none⟩ = some (.int .u32 ((schedL B k).getD (k - 16) 0)) := ⟨hc' _ (by omega), hc' _ (by omega)⟩
          have HNW : Hid (nextW (schedL B k) k = (sg1 ((schedL B k).getD (k - 2) 0) + (schedL B k).getD (k - 7) 0 + sg0 ((schedL B k).getD (k - 15) 0) + (schedL B k).getD (k - 16) 0) % 4294967296) := rfl
          clear hnx hw hcl hc'
          generalize (schedL B k).getD (k - 15) 0 = x at *
          generalize (schedL B k).getD (k - 2) 0 = y at *
          generalize (schedL B k).getD (k - 7) 0 = p at *
          generalize (schedL B k).getD (k - 16) 0 = q at *
          go_wp2_with (go_at_call 32; refine (turn_i _ _ _ (by omega) (by omega) (by omega) (by omega)).mono ?_; rintro e w' ⟨rfl, rfl⟩)
          have HS0 : Hid (sg0 x = bits .xor .u32 (bits .xor .u32 (rr x 7) (rr x 18)) (x / 8)) := rfl
          have HS1 : Hid (sg1 y = bits .xor .u32 (bits .xor .u32 (rr y 17) (rr y 19)) (y / 1024)) := rfl
          generalize bits .xor .u32 (bits .xor .u32 (rr x 7) (rr x 18)) (x / 8) = s0 at *
          generalize bits .xor .u32 (bits .xor .u32 (rr y 17) (rr y 19)) (y / 1024) = s1 at *
          have d7 : wr.drew.drew.drew.drew.cell? ⟨g, k - 7, none⟩ = some (.int .u32 p) := c7
          have d16 : wr.drew.drew.drew.drew.cell? ⟨g, k - 16, none⟩ = some (.int .u32 q) := c16
          obtain ⟨m1, hm1⟩ : ∃ m, IntKind.u32.wrap (s1 + p) = m := ⟨_, rfl⟩
          obtain ⟨m2, hm2⟩ : ∃ m, IntKind.u32.wrap (m1 + s0) = m := ⟨_, rfl⟩
          obtain ⟨m3, hm3⟩ : ∃ m, IntKind.u32.wrap (m2 + q) = m := ⟨_, rfl⟩
          have hN : nextW (schedL B k) k = m3 := by
            rw [HNW.out, HS0.out, HS1.out, ← hm3, ← hm2, ← hm1]
            simp only [IntKind.wrap_u32]
            omega
          rw [hN] at hrun
          clear hN HNW HS0 HS1 c15 c2 c7 c16 b15 b2 b7 b16
          generalize wr.drew.drew.drew.drew = w4 at *
          have HRUN := Bk.hid hrun
          have HW' := Bk.hid hw'
          have HS2 := Bk.hid hs2
          clear hrun hw' hs2
          have i7 : (0:Int) ≤ k - 7 := by omega
          have i16 : (0:Int) ≤ k - 16 := by omega
          have j7 : (7:Int) ≤ k := by omega
          have j16 : (16:Int) ≤ k := by omega
          have l7 : (k:Int) - 7 < k := by omega
          have l16 : (k:Int) - 16 < k := by omega
          have t7 : ((k:Int) - 7).toNat = k - 7 := by omega
          have t16 : ((k:Int) - 16).toNat = k - 16 := by omega
          have q7 : IntKind.i64.wrap ((k : Int) - 7) = k - 7 := by simp only [IntKind.wrap_i64]; omega
          have q16 : IntKind.i64.wrap ((k : Int) - 16) = k - 16 := by simp only [IntKind.wrap_i64]; omega
          go_region_held3 (fun x => x.cell? ⟨g, k - 7, none⟩ = some (.int .u32 p) ∧ x.cell? ⟨g, k - 16, none⟩ = some (.int .u32 q)) (first | exact HS2.out | go_keep)
            ((refine Bk.step_append_run rfl (.tmp 80) (.tmp 96) 43 43 rfl _ _ rfl rfl HRUN.out ?_))
          go_wp2
          go_roundw
          case rel => exact ⟨k + 1, by omega, by omega, by go_num, HW'.out⟩
          case measure => simp [intOf]; omega
        · obtain rfl : k = 64 := by omega
          obtain ⟨a5, c5, e5, _⟩ := hw.1.form
          rw [u32s_len, schedL_len] at e5
          subst e5
          clear hw
          go_wp2_with fail
          go_ret
          exact ⟨_, _, _, rfl, HW.out⟩
end Go.Proofs.Ytlephdpplfpliaa
