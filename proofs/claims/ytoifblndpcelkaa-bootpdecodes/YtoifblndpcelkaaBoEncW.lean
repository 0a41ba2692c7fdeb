/-
  bootp.Encode: bytes come out.
-/
import Derived.Test.YtoifblndpcelkaaBoNumK
namespace Go.Proofs.Ytoifblndpcelkaa
open Go.RowKit
set_option linter.all false

theorem unE_zero {m : Bp} {b : Bool} (h : unE m b = 0) : (m.op = 1 ∨ m.op = 2) ∧ (0 ≤ m.hops ∧ m.hops ≤ 255) ∧ (0 ≤ m.secs ∧ m.secs ≤ 65535) ∧ zeroIn m.sname = false ∧ zeroIn m.file = false ∧ m.sname.size ≤ 63 ∧ m.file.size ≤ 127 ∧ b = false := by
  unfold unE at h
  split at h
  · omega
  · next h1 =>
    split at h
    · omega
    · next h2 =>
      split at h
      · omega
      · next h3 =>
        have h1 : badB m = false := by simpa using h1
        have h2 : longB m = false := by simpa using h2
        simp only [badB, Bool.or_eq_false_iff, Bool.not_eq_false', Bool.or_eq_true, Bool.and_eq_true, decide_eq_true_eq] at h1
        simp only [longB, Bool.or_eq_false_iff, decide_eq_false_iff_not] at h2
        obtain ⟨⟨⟨⟨a1, a2⟩, a3⟩, a4⟩, a5⟩ := h1
        exact ⟨a1, a2, a3, a4, a5, by omega, by omega, by simpa using h3⟩
theorem heap_cell4 {w : World} {g : Nat} {A : Array Value} {t : TypeId} (h : w.heap[g]? = some (.cells A t (0, 0))) {j : Nat} {v : Value} (hv : A[j]? = some v) : w.cell? ⟨g, j, none⟩ = some v := by rw [cell_of_heap h, hv]
/-- an Encode within the loop: with the list of numbers. -/
def EnL (w : World) (gm g gn : Nat) (C : Array Value) (ao : Option Addr) (no co : Nat) (O L : List Int) (W : World) : Prop :=
  EnS w gm g C ao no co O L W ∧ W.heap[gn]? = some (.cells numC 78 (0, 0))
theorem EnL.ne {w W : World} {gm g gn : Nat} {C : Array Value} {ao : Option Addr} {no co : Nat} {O L : List Int} (h : EnL w gm g gn C ao no co O L W) : gn ≠ g := fun e => by
  have h1 := h.2
  have h2 := h.1.row
  rw [e, h2] at h1
  simp at h1
set_option maxRecDepth 20000 in
set_option maxHeartbeats 4000000 in
theorem encode_ok (m : Bp) (hm : m.ok) (a : Option Addr) (c : Nat) (os : List OP) (w : World) (h : OV w a os) (he : unE m (ovB os) = 0) (hp : packE (absO os) 1232 = 0) (hs : (layL (absO os)).length ≤ 35184372088832) (hO : ∀ z, z ∈ packA (absO os) 1232 → 0 ≤ z ∧ z ≤ 255) (hol : (packA (absO os) 1232).length ≤ 1232) :
    Calls Try.prog 14 #[m.val (.slice a os.length c)] w fun e w' => ∃ g, e = .returned (.tuple #[.slice (some ⟨g, 0, none⟩) (encL m (packA (absO os) 1232)).length (encL m (packA (absO os) 1232)).length, .int .i64 0]) ∧ Hid (w.heap.size ≤ g ∧ w'.heap[g]? = some (.cells (u8s (encL m (packA (absO os) 1232))).toArray 5 (0, 0)) ∧ Below w.heap.size w w') := by
  obtain ⟨u1, u2, u3, u4, u5, u6, u7, u8⟩ := unE_zero he
  have HU := hid (fun wx (hw : Below w.heap.size w wx) => unlayable_any m a c os wx (h.below hw))
  rw [he] at HU
  have HP := hid (fun wx (hw : Below w.heap.size w wx) => pack_any a c os 1232 wx (h.below hw) (by omega) hs)
  rw [hp] at HP
  obtain ⟨O, hOd⟩ : ∃ O, O = packA (absO os) 1232 := ⟨_, rfl⟩
  rw [← hOd] at HP hO hol ⊢
  clear hOd
  have HOB := hid hO
  obtain ⟨n, hn⟩ : ∃ n, n = os.length := ⟨_, rfl⟩
  rw [← hn] at HU HP ⊢
  clear hn
  obtain ⟨N, hN⟩ : ∃ N, N = (encL m O).length := ⟨_, rfl⟩
  have hNx : N = max (240 + O.length) 300 := by rw [hN]; exact encL_len m O (by omega) (by omega)
  rw [← hN]
  have HNL := hid hN
  have hn1 : 300 ≤ N := by omega
  have hn2 : N ≤ 1472 := by omega
  have HNK := hid (fun k hk => num_k m (.slice a n c) hm (by omega) u2 u3 k hk)
  have hmk0 : ∀ (M : Int), M = (N : Int) → ∀ wx : World, (Instr.makeSlice 33 (.int .i64 M) (.int .i64 M)).run Try.prog wx = .ok (.slice (some ⟨wx.heap.size, 0, none⟩) N N) (wx.alloc (.cells (u8s (zs0 N)).toArray 5)) := fun M hM wx => by
    subst hM
    rw [Go.run_make_row' (P := Try.prog) 33 5 (.int .u8 0) 1 Try.underlying33 infoU8 rfl .i64 .i64 N (by omega) (by omega) wx, made_eq]
    rfl
  have HZ0 : Hid (zs0 N = (segN 0 m [0, 0] (segT0 m O.length)).flatten) := by
    unfold Hid
    rw [hNx, ← segZ_all m O.length (by omega) (by omega)]
    rfl
  obtain ⟨o, ho⟩ : ∃ o, o = O.length := ⟨_, rfl⟩
  have HOL := hid ho
  rw [← ho] at HP HZ0 hol hNx
  have hmk : ∀ wx : World, (Instr.makeSlice 33 (.int .i64 (max (240 + (o : Int)) 300)) (.int .i64 (max (240 + (o : Int)) 300))).run Try.prog wx = .ok (.slice (some ⟨wx.heap.size, 0, none⟩) N N) (wx.alloc (.cells (u8s (zs0 N)).toArray 5)) := hmk0 _ (by omega)
  have HLN : Hid (∀ k, (segN k m [0, 0] (segT0 m o)).flatten.length = N) := fun k => by rw [segT0_len m o (by omega) (by omega) k, hNx]
  have HST := hid (enc_steps m O N u6 u7 (by rw [← ho]; exact hNx))
  rw [← ho] at HST
  have H6 : Hid (m.sname.size ≤ 63 ∧ m.file.size ≤ 127) := ⟨u6, u7⟩
  have HMZ : Hid (∀ z, z ∈ m.mac.zs → 0 ≤ z ∧ z ≤ 255) := Mac.bytes hm.mac
  clear hmk0 hN ho hO h hs hp he u1 u2 u3 u4 u5 u6 u7 u8 hm
  have HNX := hid hNx
  clear hNx
  simp only [Bp.val] at *
  have HZ : Hid (some 18 = some (m.cells (.slice a n c)).size) := rfl
  have H17 : Hid ((m.cells (.slice a n c))[17]? = some (.slice a n c)) := rfl
  have HCM : Hid (∀ j, j < 6 → (m.cells (.slice a n c))[9 + j]? = some (.int .u8 (m.mac.zs.getD j 0))) := fun j hj => by
    rcases (show j = 0 ∨ j = 1 ∨ j = 2 ∨ j = 3 ∨ j = 4 ∨ j = 5 by omega) with rfl | rfl | rfl | rfl | rfl | rfl <;> rfl
  have H15 : Hid ((m.cells (.slice a n c))[15]? = some (.string m.sname)) := rfl
  have H16 : Hid ((m.cells (.slice a n c))[16]? = some (.string m.file)) := rfl
  have HNV : Hid (∀ W k pl wd fk nv, NumT m (.slice a n c) k pl wd fk nv → Calls Try.prog fk #[.agg (m.cells (.slice a n c))] W fun e w' => e = .returned (.int .u64 nv) ∧ Hid (Below W.heap.size W w')) := fun W k pl wd fk nv h => h.tk W
  generalize hC : m.cells (.slice a n c) = C at *
  clear hC
  go_enter Try.func14, Try.ntmps14
  go_upto_region 8 with (first
    | (refine wpList_load_row rfl 28 _ rfl w.heap.size rfl 28 C (0, 0) _ (heap_new w _) Try.underlying28 rfl (sizeBp.trans HZ.out) ?_)
    | (go_at_call 41; refine (HU.out _ (bpush (Below.refl _ _) _)).mono ?_; rintro e w1 ⟨rfl, HB⟩
       have k1 : w1.cell? ⟨w.heap.size, 17, none⟩ = some (.slice a n c) := (cell_of_heap (kept (heap_new w _) HB.out) 17).trans H17.out)
    | (go_at_call 42; refine (HP.out _ (bstep (bpush (Below.refl _ _) _) HB.out)).mono ?_; rintro e w2 ⟨ao, co, rfl, HA⟩)
    | fail)
  have HS0 : Hid (EnS w w.heap.size w2.heap.size C ao o co O (zs0 N) (w2.alloc (.cells (u8s (zs0 N)).toArray 5))) := by
    have hb := bstep (bstep (bpush (Below.refl _ _) _) HB.out) HA.out.2.2
    have hk := kept (kept (heap_new w (.cells C 28)) HB.out) HA.out.2.2
    refine ⟨(heap_old _ _ (heap_lt hk)).trans hk, heap_new _ _, HA.out.1.below (bpush (Below.refl _ _) _), fun b hb => ?_, ?_, hb.size, bpush hb _⟩
    · have := HA.out.1.lt hb
      omega
    · have := heap_lt hk
      omega
  clear k1 HA HB HU HP hmk
  generalize w2.alloc (.cells (u8s (zs0 N)).toArray 5) = W3 at *
  generalize w2.heap.size = g at *
  obtain ⟨gm, hgm⟩ : ∃ gm, gm = w.heap.size := ⟨_, rfl⟩
  rw [← hgm] at HS0 ⊢
  have HGM := hid hgm
  clear hgm
  have HNA := hid (fun W => numbers_any W)
  have HE0 : Hid (∀ w', w' = W3.alloc (.cells numC 78) → EnL w gm g W3.heap.size C ao o co O (zs0 N) w') := fun w' e => by
    rw [e]
    exact ⟨HS0.out.keep (bpush (Below.refl _ _) _), heap_new _ _⟩
  go_wp2_with (first
    | (go_at_call 43; refine (HNA.out _).mono ?_; rintro e w4 ⟨rfl, HW4⟩
       have HE4 := hid (HE0.out _ HW4.out))
    | fail)
  clear HE0 HW4 HS0 HNA
  generalize W3.heap.size = gn at *
  go_loopw [31] (fun i wr => ∃ k : Nat, k ≤ 9 ∧ i = .int .i64 k ∧ Hid (EnL w gm g gn C ao o co O (segN k m [0, 0] (segT0 m o)).flatten wr)) (fun i _ => 9 - (intOf i).toNat)
  case atStart => exact ⟨0, by omega, rfl, by rw [← HZ0.out]; exact HE4⟩
  case round =>
    obtain ⟨k, hk, rfl, HE⟩ := hrel
    clear HE4
    by_cases hlt : k < 9
    · have hlt' : (k : Int) < 9 := by omega
      obtain ⟨pl, wd, fk, fp, nv, NK, NT⟩ := HNK.out k hlt
      have c0 : wr.cell? ⟨gn, k * 4, none⟩ = some (.int .i64 pl) := heap_cell4 HE.out.2 NK.c0
      have c1 : wr.cell? ⟨gn, k * 4 + 1, none⟩ = some (.int .i64 wd) := heap_cell4 HE.out.2 NK.c1
      have c2 : wr.cell? ⟨gn, k * 4 + 2, none⟩ = some (fn fk) := heap_cell4 HE.out.2 NK.c2
      have c3 : wr.cell? ⟨gn, k * 4 + 3, none⟩ = some (fn fp) := heap_cell4 HE.out.2 NK.c3
      have hent := NK.ent
      have HK := hid NK
      have HT := hid NT
      clear NK NT
      unfold fn at *
      go_upto_region 11 with (first
        | (refine wpList_store_row rfl 78 _ _ rfl wr.heap.size #[.int .i64 pl, .int .i64 wd, .func (.func fk) #[] #[], .func (.func fp) #[] #[]] rfl rfl 78 _ (heap_new wr _) (by kernel_rfl) rfl (by simp [Value.oneCell']) ?_)
        | fail)
      have HB5 : Hid (Below wr.heap.size wr ((wr.alloc (.cells #[.int .i64 0, .int .i64 0, .nilFunc, .nilFunc] 78)).setRow wr.heap.size #[.int .i64 pl, .int .i64 wd, .func (.func fk) #[] #[], .func (.func fp) #[] #[]])) := bbut (bpush (Below.refl _ _) _) (But.setRow _ _ _) (Nat.le_refl _)
      have HX5 : Hid (((wr.alloc (.cells #[.int .i64 0, .int .i64 0, .nilFunc, .nilFunc] 78)).setRow wr.heap.size #[.int .i64 pl, .int .i64 wd, .func (.func fk) #[] #[], .func (.func fp) #[] #[]]).heap[wr.heap.size]? = some (.cells #[.int .i64 pl, .int .i64 wd, .func (.func fk) #[] #[], .func (.func fp) #[] #[]] 78 (0, 0))) := setRow_heap _ _ _ _ _ _ (heap_new wr _)
      have HE5 := hid (And.intro (HE.out.1.keep HB5.out) (kept HE.out.2 HB5.out))
      generalize ((wr.alloc (.cells #[.int .i64 0, .int .i64 0, .nilFunc, .nilFunc] 78)).setRow wr.heap.size #[.int .i64 pl, .int .i64 wd, .func (.func fk) #[] #[], .func (.func fp) #[] #[]]) = W5 at *
      generalize wr.heap.size = gx at *
      clear HE HB5 c0 c1 c2 c3
      simp only [Act.put]
      have HSS : Hid (∀ W : World, W.heap[gm]? = some (.cells C 28 (0, 0)) → W.heap[gx]? = some (.cells #[.int .i64 pl, .int .i64 wd, .func (.func fk) #[] #[], .func (.func fp) #[] #[]] 78 (0, 0)) → W.heap[gm]? = some (.cells C 28 (0, 0)) ∧ W.cell? ⟨gx, 0, none⟩ = some (.int .i64 pl) ∧ W.cell? ⟨gx, 1, none⟩ = some (.int .i64 wd) ∧ W.cell? ⟨gx, 2, none⟩ = some (.func (.func fk) #[] #[])) := fun W h1 h2 => ⟨h1, heap_cell4 h2 rfl, heap_cell4 h2 rfl, heap_cell4 h2 rfl⟩
      have HCZ : Hid (C.size = 18) := by have := HZ.out; simp at this; exact this.symm
      refine wp_region_noPanic ?_
      refine wp_region_held_drew (S := fun w' => w'.heap[gm]? = some (.cells C 28 (0, 0)) ∧ w'.cell? ⟨gx, 0, none⟩ = some (.int .i64 pl) ∧ w'.cell? ⟨gx, 1, none⟩ = some (.int .i64 wd) ∧ w'.cell? ⟨gx, 2, none⟩ = some (.func (.func fk) #[] #[])) (by kernel_rfl) (HSS.out _ HE5.out.1.box HX5.out) (fun hHeld => ?_)
      refine wpAnyH_take (i := 0) (oi := { dst := some 35, op := .move (.tmp 7), type := _, pos := _, after := _, guard := none }) (v := .slice (some ⟨g, 0, none⟩) N N) rfl (by kernel_rfl) (by kernel_rfl) (by kernel_rfl) (fun _ _ _ h => h) (Or.inl ⟨by rfl, fun wq hSw => by (try dsimp only at hSw); go_simp⟩) (by assumption) ?_
      try simp only [Act.put, List.setIfInBounds_toArray, List.set_cons_zero, List.set_cons_succ]
      refine wpAnyH_take (i := 1) (oi := { dst := some 36, op := .fieldAddr 78 (.tmp 9) 0, type := _, pos := _, after := _, guard := none }) (v := .pointer (some ⟨gx, 0, none⟩)) rfl (by kernel_rfl) (by kernel_rfl) (by kernel_rfl) (fun _ _ _ h => h) (Or.inl ⟨by rfl, fun wq hSw => by (try dsimp only at hSw); go_simp⟩) (by assumption) ?_
      try simp only [Act.put, List.setIfInBounds_toArray, List.set_cons_zero, List.set_cons_succ]
      refine wpAnyH_take (i := 2) (oi := { dst := some 37, op := .load 3 (.tmp 36), type := _, pos := _, after := _, guard := none }) (v := .int .i64 pl) rfl (by kernel_rfl) (by kernel_rfl) (by kernel_rfl) (fun _ _ _ h => h) (Or.inl ⟨by rfl, fun wq hSw => by (try dsimp only at hSw); go_simp⟩) (by assumption) ?_
      try simp only [Act.put, List.setIfInBounds_toArray, List.set_cons_zero, List.set_cons_succ]
      refine wpAnyH_take (i := 3) (oi := { dst := some 38, op := .fieldAddr 78 (.tmp 9) 1, type := _, pos := _, after := _, guard := none }) (v := .pointer (some ⟨gx, 1, none⟩)) rfl (by kernel_rfl) (by kernel_rfl) (by kernel_rfl) (fun _ _ _ h => h) (Or.inl ⟨by rfl, fun wq hSw => by (try dsimp only at hSw); go_simp⟩) (by assumption) ?_
      try simp only [Act.put, List.setIfInBounds_toArray, List.set_cons_zero, List.set_cons_succ]
      refine wpAnyH_take (i := 4) (oi := { dst := some 39, op := .load 3 (.tmp 38), type := _, pos := _, after := _, guard := none }) (v := .int .i64 wd) rfl (by kernel_rfl) (by kernel_rfl) (by kernel_rfl) (fun _ _ _ h => h) (Or.inl ⟨by rfl, fun wq hSw => by (try dsimp only at hSw); go_simp⟩) (by assumption) ?_
      try simp only [Act.put, List.setIfInBounds_toArray, List.set_cons_zero, List.set_cons_succ]
      refine wpAnyH_take (i := 5) (oi := { dst := some 40, op := .fieldAddr 78 (.tmp 9) 2, type := _, pos := _, after := _, guard := none }) (v := .pointer (some ⟨gx, 2, none⟩)) rfl (by kernel_rfl) (by kernel_rfl) (by kernel_rfl) (fun _ _ _ h => h) (Or.inl ⟨by rfl, fun wq hSw => by (try dsimp only at hSw); go_simp⟩) (by assumption) ?_
      try simp only [Act.put, List.setIfInBounds_toArray, List.set_cons_zero, List.set_cons_succ]
      refine wpAnyH_take (i := 6) (oi := { dst := some 41, op := .load 75 (.tmp 40), type := _, pos := _, after := _, guard := none }) (v := .func (.func fk) #[] #[]) rfl (by kernel_rfl) (by kernel_rfl) (by kernel_rfl) (fun _ _ _ h => h) (Or.inl ⟨by rfl, fun wq hSw => by (try dsimp only at hSw); go_simp⟩) (by assumption) ?_
      try simp only [Act.put, List.setIfInBounds_toArray, List.set_cons_zero, List.set_cons_succ]
      refine wpAnyH_take (i := 7) (oi := { dst := some 42, op := .load 28 (.tmp 1), type := _, pos := _, after := _, guard := none }) (v := .agg C) rfl (by kernel_rfl) (by kernel_rfl) (by kernel_rfl) (fun _ _ _ h => h) (yields_row rfl 28 _ rfl gm rfl C (fun wq hSw => load_bp wq gm C hSw.1 HCZ.out)) (by assumption) ?_
      try simp only [Act.put, List.setIfInBounds_toArray, List.set_cons_zero, List.set_cons_succ]
      refine wpAnyH_ready (rs := [8]) (by kernel_rfl) (by simp) ?_
      refine AllReadyH.cons (o := { dst := some 43, op := .call { callee := .value (.tmp 41), args := #[.tmp 42], argTypes := #[28] }, type := _, pos := _, after := _, guard := none }) rfl (fun K hK => ?_) AllReadyH.nil
      go_simp
      refine (HNV.out _ _ _ _ _ _ HT.out).mono ?_
      rintro e w6 ⟨rfl, HB6⟩
      have HE6 := hid (And.intro ((HE5.out.1.keep (Below.refl _ _).drew).keep HB6.out) (kept (w := W5.drew) HE5.out.2 HB6.out))
      have HX6 := hid (kept (w := W5.drew) HX5.out HB6.out)
      refine hK.out _ _ (HSS.out _ HE6.out.1.box HX6.out) (fun hHeld => ?_)
      clear hK
      try simp only [Act.put, List.setIfInBounds_toArray, List.set_cons_zero, List.set_cons_succ]
      refine wpAnyH_ready (rs := [9]) (by kernel_rfl) (by simp) ?_
      refine AllReadyH.cons (o := { dst := some 44, op := .call { callee := .value (.func 44), args := #[.tmp 35, .tmp 37, .tmp 39, .tmp 43], argTypes := #[33, 3, 3, 71] }, type := _, pos := _, after := _, guard := none }) rfl (fun K hK => ?_) AllReadyH.nil
      go_simp
      refine (lay_any g N _ pl wd nv w6 HK.out.w124 (HLN.out k) (by have := HK.out.inn; omega) (by omega) HT.out.bd.1 (by have := HT.out.bd.2; omega) HE6.out.1.row).mono ?_
      rintro e w7 ⟨rfl, HG7, HB7⟩
      have HGX : Hid (gx ≠ g) := fun e => by
        have h1 := HX6.out
        rw [e, HE6.out.1.row] at h1
        simp at h1
      have HE7 : Hid (EnL w gm g gn C ao o co O (segN (k + 1) m [0, 0] (segT0 m o)).flatten w7) := by
        have hr := HG7.out
        rw [HT.out.seg [0, 0] _ rfl] at hr
        exact ⟨HE6.out.1.next hr HB7.out, keptBut HE6.out.2 HB7.out (EnL.ne HE6.out)⟩
      have HX7 := hid (keptBut HX6.out HB7.out HGX.out)
      refine hK.out _ _ (HSS.out _ HE7.out.1.box HX7.out) (fun hHeld => ?_)
      clear hK HX6 HE6 HG7 HB7 HB6 HX5 HE5
      try simp only [Act.put, List.setIfInBounds_toArray, List.set_cons_zero, List.set_cons_succ]
      refine wpAnyH_done (by kernel_rfl) ?_ _
      refine NoPanic.normal ?_
      go_wp2
      go_roundw
      case rel => exact ⟨k + 1, by omega, by go_num, HE7⟩
      case measure => simp [intOf]; omega
    · have hge : ¬ (k : Int) < 9 := by omega
      have hk9 : k = 9 := by omega
      subst hk9
      obtain ⟨L10, L11, L12, L13, L14, e1, n10, e2, n11, e3, n12, e4, n13, e5, n14, e6⟩ := HST.out
      have HL9 := hid (HLN.out 9)
      generalize (segN 9 m [0, 0] (segT0 m o)).flatten = L9 at *
      have HE9 := hid HE.out.1
      clear HE
      have M13 : Hid (∀ W, W.heap[g]? = some (.cells (u8s L9).toArray 5 (0, 0)) → Calls Try.prog 44 #[.slice (some ⟨g, 0, none⟩) N N, .int .i64 1, .int .i64 2, .int .u64 262] W fun e w' => e = .returned (.tuple #[]) ∧ Hid (w'.heap[g]? = some (.cells (u8s L10).toArray 5 (0, 0))) ∧ Hid (But g W w')) := fun W hW => by
        have := lay_any g N L9 1 2 262 W (by omega) HL9.out (by omega) (by omega) (by omega) (by omega) hW
        rw [e1] at this
        exact this
      have M17 : Hid (∀ W, W.heap[g]? = some (.cells (u8s L13).toArray 5 (0, 0)) → Calls Try.prog 44 #[.slice (some ⟨g, 0, none⟩) N N, .int .i64 236, .int .i64 4, .int .u64 1669485411] W fun e w' => e = .returned (.tuple #[]) ∧ Hid (w'.heap[g]? = some (.cells (u8s L14).toArray 5 (0, 0))) ∧ Hid (But g W w')) := fun W hW => by
        have := lay_any g N L13 236 4 1669485411 W (by omega) n13 (by omega) (by omega) (by omega) (by omega) hW
        rw [e5] at this
        exact this
      have E2 := hid e2
      have E3 := hid e3
      have E4 := hid e4
      have E6 := hid e6
      have N10 := hid n10
      have N11 := hid n11
      have N12 := hid n12
      have N14 := hid n14
      clear e1 e2 e3 e4 e5 e6 n10 n11 n12 n13 n14 HST HLN
      have q28 : (28 : Int) ≤ (N : Int) := by omega
      have q44 : (44 : Int) ≤ (N : Int) := by omega
      have q108 : (108 : Int) ≤ (N : Int) := by omega
      have q240 : (240 : Int) ≤ (N : Int) := by omega
      have r28 : ¬ N = 28 := by omega
      have r44 : ¬ N = 44 := by omega
      have r108 : ¬ N = 108 := by omega
      have r240 : ¬ N = 240 := by omega
      have HPM : Hid (∀ W : World, W.heap[gm]? = some (.cells C 28 (0, 0)) → Part.ok W ⟨some ⟨gm, 9, none⟩, 6, m.mac.zs⟩) := fun W hW => Part.of_heap hW 9 (by simp [Mac.zs]) (fun j hj => HCM.out j (by simpa [Mac.zs] using hj)) HMZ.out
      have HM6 : Hid (m.mac.zs.length = 6) := rfl
      generalize m.mac.zs = MZ at *
      go_wp2_with (first
        | (go_at_call 44; refine (M13.out _ HE9.out.row).mono ?_; rintro e w5 ⟨rfl, HG5, HB5⟩)
        | fail)
      have HE5 := hid (HE9.out.next HG5.out HB5.out)
      clear HE9 HG5 HB5
      go_region_held3 (fun w' => True) (exact trivial) (first
        | (refine step_copy rfl _ _ rfl ⟨some ⟨gm, 9, none⟩, 6, MZ⟩ g 28 _ _ L10 5 rfl (by show _ = Value.slice _ _ _; rw [HM6.out]; rfl) (by exact HE5.out.row) (by exact HPM.out _ HE5.out.box) (by rw [HM6.out]; omega) (by rw [HM6.out, N10.out]; omega) ?_; intro w6 hg6 hb6; have HE6 := hid (EnS.next (L' := L11) (HE5.out.keep (Below.refl _ _).drew) (by rw [← E2.out]; exact hg6.out) hb6.out))
        | fail)
      have k15 : w6.cell? ⟨gm, 15, none⟩ = some (.string m.sname) := (cell_of_heap HE6.out.box 15).trans H15.out
      clear HE5 hg6 hb6
      go_wp2
      go_region_held3 (fun w' => w'.cell? ⟨gm, 15, none⟩ = some (.string m.sname)) (first | assumption | go_keep) (first
        | (refine step_copyS rfl _ _ rfl m.sname g 44 _ _ L11 5 rfl rfl (by exact HE6.out.row) (by have := H6.out.1; omega) (by have := H6.out.1; rw [N11.out]; omega) ?_; intro w7 hg7 hb7; have HE7 := hid (EnS.next (L' := L12) (HE6.out.keep (Below.refl _ _).drew) (by rw [← E3.out]; exact hg7.out) hb7.out); have k15' : w7.cell? ⟨gm, 15, none⟩ = some (.string m.sname) := (cell_of_heap HE7.out.box 15).trans H15.out)
        | fail)
      have k16 : w7.cell? ⟨gm, 16, none⟩ = some (.string m.file) := (cell_of_heap HE7.out.box 16).trans H16.out
      clear HE6 hg7 hb7 k15 k15'
      go_wp2
      go_region_held3 (fun w' => w'.cell? ⟨gm, 16, none⟩ = some (.string m.file)) (first | assumption | go_keep) (first
        | (refine step_copyS rfl _ _ rfl m.file g 108 _ _ L12 5 rfl rfl (by exact HE7.out.row) (by have := H6.out.2; omega) (by have := H6.out.2; rw [N12.out]; omega) ?_; intro w8 hg8 hb8; have HE8 := hid (EnS.next (L' := L13) (HE7.out.keep (Below.refl _ _).drew) (by rw [← E4.out]; exact hg8.out) hb8.out); have k16' : w8.cell? ⟨gm, 16, none⟩ = some (.string m.file) := (cell_of_heap HE8.out.box 16).trans H16.out)
        | fail)
      clear HE7 hg8 hb8 k16 k16'
      have HOP : Hid (∀ W, Row W 5 (.slice ao o co) (u8s O) → Part.ok W ⟨ao, co, O⟩) := fun W hr => by
        obtain ⟨pt, e1, e2, ok⟩ := hr.part HOB.out
        obtain ⟨pa, pc, pz⟩ := pt
        simp only [Part.val, Value.slice.injEq] at e1 e2
        obtain ⟨rfl, _, rfl⟩ := e1
        subst e2
        exact ok
      go_wp2_with (first
        | (go_at_call 44; refine (M17.out _ HE8.out.row).mono ?_; rintro e w9 ⟨rfl, HG9, HB9⟩; have HE9 := hid (HE8.out.next HG9.out HB9.out))
        | (refine wpList_copy rfl _ _ rfl ⟨ao, co, O⟩ g 240 _ _ L14 5 rfl (by show _ = Value.slice _ _ _; rw [← HOL.out]; rfl) (by exact HE9.out.row) (by exact HOP.out _ HE9.out.opt) (by have := HNX.out; rw [← HOL.out]; omega) (by have := HNX.out; rw [← HOL.out, N14.out]; omega) ?_; intro w10 hg10 hb10)
        | fail)
      go_ret2
      exact ⟨g, rfl, HE9.out.low, by rw [← E6.out]; exact hg10.out, bbut HE9.out.below hb10.out HE9.out.low⟩
end Go.Proofs.Ytoifblndpcelkaa
