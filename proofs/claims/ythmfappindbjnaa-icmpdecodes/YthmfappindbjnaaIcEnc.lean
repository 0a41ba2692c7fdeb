/-
  icmp.Encode.
-/
import Derived.Test.YthmfappindbjnaaIcAct
namespace Go.Proofs.Ythmfappindbjnaa
open Go.RowKit
set_option linter.all false

/-- a message's bytes. -/
def msgL (k c s r : Int) (zs : List Int) : List Int := [k, c] ++ op2 s ++ ip4 r ++ zs
theorem msgL_len (k c s r : Int) (zs : List Int) : (msgL k c s r zs).length = 8 + zs.length := by simp [msgL, op2, ip4]; omega
theorem msgL_bd (s r : Int) {k c : Int} {zs : List Int} (hk : 0 ≤ k ∧ k ≤ 255) (hc : 0 ≤ c ∧ c ≤ 255) (h : ∀ z, z ∈ zs → 0 ≤ z ∧ z ≤ 255) : ∀ z, z ∈ msgL k c s r zs → 0 ≤ z ∧ z ≤ 255 := fun z hz => by
  simp only [msgL, List.append_assoc, List.mem_append, List.mem_cons, List.not_mem_nil, or_false] at hz
  rcases hz with (rfl | rfl) | hz | hz | hz
  · exact hk
  · exact hc
  · exact op2_bd _ z hz
  · exact ip4_bd _ z hz
  · exact h z hz
theorem msgL_isum (k c s t r : Int) (zs : List Int) : isum (msgL k c s r zs) = isum (msgL k c t r zs) := rfl
/-- the sum that is written. -/
def encS (k c r : Int) (zs : List Int) : Int := isum (msgL k c 0 r zs)
/-- the first error. -/
def encE (k c : Int) (n : Nat) : Int := if kindB k = false then 140 else if c < 0 ∨ 255 < c then 1 else if 1472 < n then 2 else 0
/-- the answer's bytes. -/
def encB (k c r : Int) (zs : List Int) : List Int := if encE k c zs.length = 0 then msgL k c (encS k c r zs) r zs else []
theorem kind_bd {k : Int} (h : kindB k = true) : 0 ≤ k ∧ k ≤ 255 := by
  simp [kindB] at h; omega

theorem splice_app (A Z X : List Int) (n : Nat) (hn : A.length = n) : splice (A ++ Z) n X = (A ++ X) ++ Z.drop X.length := by
  subst hn
  simp [splice, List.drop_append]

theorem cut1 {α : Type} {G : Prop} {H : α → Prop} (P : α → Prop) (h1 : (∀ a, H a → P a) → G) (h2 : ∀ a, H a → P a) : G := h1 h2
/-- an Encode under way: the message's box, the bytes so far. -/
def EnI (w : World) (F : Array Value) (L : List Int) (w' : World) : Prop :=
  w'.heap[w.heap.size]? = some (.cells F 26 (0, 0)) ∧ w'.heap[w.heap.size + 1]? = some (.cells (u8s L).toArray 5 (0, 0)) ∧ Below w.heap.size w w'
theorem EnI.first (w : World) (F : Array Value) (L : List Int) : EnI w F L ((w.alloc (.cells F 26)).alloc (.cells (u8s L).toArray 5)) := by
  have h := ((Holds.nil w).push (.cells F 26)).push (.cells (u8s L).toArray 5)
  simp only [World.size_alloc] at h
  exact ⟨h.at 1 _ _ rfl, h.at 0 _ _ rfl, bpush (bpush (Below.refl _ _) _) _⟩
theorem EnI.next {w W W' w' : World} {F : Array Value} {L L' : List Int} (h : EnI w F L W) (hB : Below W.heap.size W W') (hg : w'.heap[w.heap.size + 1]? = some (.cells (u8s L').toArray 5 (0, 0))) (hb : But (w.heap.size + 1) W' w') : EnI w F L' w' :=
  ⟨keptBut (kept h.1 hB) hb (by omega), hg, bbut (bstep h.2.2 hB) hb (by omega)⟩
theorem EnI.two {w W : World} {F : Array Value} {L : List Int} (h : EnI w F (0 :: 0 :: L) W) (x y : Int) : EnI w F (x :: y :: L) ((W.setCell ⟨w.heap.size + 1, 0, none⟩ (.int .u8 x)).setCell ⟨w.heap.size + 1, 1, none⟩ (.int .u8 y)).drew := by
  refine h.next (Below.refl _ _) ?_ (((But.setCell _ _ _ _).trans (But.setCell _ _ _ _)).trans (But.drew _ _))
  have := heap_setCell (j := 1) (v := .int .u8 y) (heap_setCell (j := 0) (v := .int .u8 x) h.2.1)
  exact this

set_option maxHeartbeats 1000000 in
theorem encode_kind (k : Int) (c r v : Value) (w : World) (h : kindB k = false) :
    Calls Try.prog 10 #[.agg #[.int .i64 k, c, r, v]] w fun e w' => e = .returned (.tuple #[.slice none 0 0, .int .i64 140]) ∧ Below w.heap.size w w' := by
  have P1 : Hid (∀ w, _) := fun w => isKind_any k w
  rw [h] at P1
  clear h
  go_enter Try.func10, Try.ntmps10
  go_wp2_with fail
  refine (P1.out _).mono ?_
  rintro e w1 ⟨rfl, hw⟩
  subst w1
  go_wp2
  go_ret2
  exact ⟨rfl, bpush (Below.refl _ _) _⟩
set_option maxHeartbeats 1000000 in
theorem encode_arg (k c : Int) (r v : Value) (w : World) (h : kindB k = true) (hc : c < 0 ∨ 255 < c) :
    Calls Try.prog 10 #[.agg #[.int .i64 k, .int .i64 c, r, v]] w fun e w' => e = .returned (.tuple #[.slice none 0 0, .int .i64 1]) ∧ Below w.heap.size w w' := by
  have P1 : Hid (∀ w, _) := fun w => isKind_any k w
  rw [h] at P1
  clear h
  by_cases h1 : c < 0
  · clear hc
    go_enter Try.func10, Try.ntmps10
    go_wp2_with fail
    refine (P1.out _).mono ?_
    rintro e w1 ⟨rfl, hw⟩
    subst w1
    go_wp2
    go_ret2
    exact ⟨rfl, bpush (Below.refl _ _) _⟩
  · have h2 : 255 < c := by omega
    clear hc
    go_enter Try.func10, Try.ntmps10
    go_wp2_with fail
    refine (P1.out _).mono ?_
    rintro e w1 ⟨rfl, hw⟩
    subst w1
    go_wp2
    go_ret2
    exact ⟨rfl, bpush (Below.refl _ _) _⟩
set_option maxHeartbeats 1000000 in
theorem encode_long (k c : Int) (r : Value) (a : Option Addr) (n cp : Nat) (w : World) (h : kindB k = true) (h0 : 0 ≤ c) (h1 : c ≤ 255) (hn : 1472 < n) :
    Calls Try.prog 10 #[.agg #[.int .i64 k, .int .i64 c, r, .slice a n cp]] w fun e w' => e = .returned (.tuple #[.slice none 0 0, .int .i64 2]) ∧ Below w.heap.size w w' := by
  have P1 : Hid (∀ w, _) := fun w => isKind_any k w
  rw [h] at P1
  clear h
  have h3 : ¬ c < 0 := by omega
  have h4 : ¬ 255 < c := by omega
  have h5 : (1472 : Int) < (n : Int) := by omega
  go_enter Try.func10, Try.ntmps10
  go_wp2_with fail
  refine (P1.out _).mono ?_
  rintro e w1 ⟨rfl, hw⟩
  subst w1
  go_wp2
  go_ret2
  exact ⟨rfl, bpush (Below.refl _ _) _⟩

set_option maxRecDepth 20000 in
set_option maxHeartbeats 4000000 in
theorem encode_ok (k c r : Int) (pt : Part) (w : World) (hk : kindB k = true) (h0 : 0 ≤ c) (h1 : c ≤ 255) (r0 : 0 ≤ r ∧ r ≤ 4294967295) (hok : pt.ok w) (hn : pt.zs.length ≤ 1472) :
    Calls Try.prog 10 #[.agg #[.int .i64 k, .int .i64 c, .int .u32 r, pt.val]] w fun e w' => ∃ a n c', e = .returned (.tuple #[.slice a n c', .int .i64 0]) ∧ Ans w w' (msgL k c (encS k c r pt.zs) r pt.zs) a n c' := by
  have P1 : Hid (∀ w, _) := fun w => isKind_any k w
  have hkb := kind_bd hk
  rw [hk] at P1
  have HP := hid hok
  have HM := hid (msgL_bd 0 r hkb ⟨h0, h1⟩ hok.1)
  have HSB := hid (isum_bd HM.out)
  have W4 : Hid (∀ w, _) := fun w => put4_any r w r0.1 (by omega)
  have W2 : Hid (∀ w, _) := fun w => put2_any (encS k c r pt.zs) w HSB.out.1 (by have := HSB.out.2; unfold encS; omega)
  have HU : Hid (∀ (W : World), W.heap[w.heap.size + 1]? = some (.cells (u8s (msgL k c 0 r pt.zs)).toArray 5 (0, 0)) → Calls Try.prog 25 #[.slice (some ⟨w.heap.size + 1, 0, none⟩) (8 + pt.zs.length) (8 + pt.zs.length)] W fun e w' => e = .returned (.int .u64 (encS k c r pt.zs)) ∧ Below W.heap.size W w') := fun W hg => by
    have h := isumOf_any ⟨some ⟨w.heap.size + 1, 0, none⟩, 8 + pt.zs.length, msgL k c 0 r pt.zs⟩ W (Part.of_row hg (by rw [msgL_len]; omega) HM.out) (by rw [msgL_len]; omega) (by rw [msgL_len]; omega)
    simp only [Part.val, msgL_len] at h
    exact h
  have hmk : ∀ wx : World, (Instr.makeSlice 24 (.int .i64 (8 + (pt.zs.length : Int))) (.int .i64 (8 + (pt.zs.length : Int)))).run Try.prog wx = .ok (.slice (some ⟨wx.heap.size, 0, none⟩) (8 + pt.zs.length) (8 + pt.zs.length)) (wx.alloc (.cells (u8s (0 :: 0 :: ([0, 0] ++ List.replicate (4 + pt.zs.length) 0))).toArray 5)) := fun wx => by
    have := Go.run_make_row' (P := Try.prog) 24 5 (.int .u8 0) 1 Try.underlying24 infoU8 rfl .i64 .i64 (8 + pt.zs.length) (by omega) (by omega) wx
    rw [made_eq] at this
    have e : List.replicate (8 + pt.zs.length) (0 : Int) = 0 :: 0 :: ([0, 0] ++ List.replicate (4 + pt.zs.length) 0) := by
      rw [show 8 + pt.zs.length = (4 + pt.zs.length) + 1 + 1 + 1 + 1 by omega]
      rfl
    rw [e] at this
    rw [show (8 + (pt.zs.length : Int)) = ((8 + pt.zs.length : Nat) : Int) by omega]
    exact this
  have E1 : Hid (splice ([k, c] ++ ([0, 0] ++ List.replicate (4 + pt.zs.length) 0)) 4 (ip4 r) = [k, c, 0, 0] ++ ip4 r ++ List.replicate pt.zs.length 0) := by
    have := splice_app [k, c, 0, 0] (List.replicate (4 + pt.zs.length) 0) (ip4 r) 4 rfl
    refine this.trans ?_
    rw [List.drop_replicate, show 4 + pt.zs.length - (ip4 r).length = pt.zs.length from by simp [ip4]]
  have E2 : Hid (splice ([k, c, 0, 0] ++ ip4 r ++ List.replicate pt.zs.length 0) 8 pt.zs = msgL k c 0 r pt.zs) := by
    have := splice_app ([k, c, 0, 0] ++ ip4 r) (List.replicate pt.zs.length 0) pt.zs 8 rfl
    refine this.trans ?_
    rw [List.drop_replicate, Nat.sub_self]
    simp [msgL, op2]
  have E3 : Hid (splice (msgL k c 0 r pt.zs) 2 (op2 (encS k c r pt.zs)) = msgL k c (encS k c r pt.zs) r pt.zs) := rfl
  have L1 : Hid ((ip4 r).length = 4 ∧ (∀ z, z ∈ ip4 r → 0 ≤ z ∧ z ≤ 255) ∧ ([k, c] ++ ([0, 0] ++ List.replicate (4 + pt.zs.length) (0 : Int))).length = 8 + pt.zs.length) := ⟨rfl, ip4_bd r, by simp; omega⟩
  have L2 : Hid (([k, c, 0, 0] ++ ip4 r ++ List.replicate pt.zs.length (0 : Int)).length = 8 + pt.zs.length) := by unfold Hid; simp [ip4]; omega
  have L3 : Hid ((op2 (encS k c r pt.zs)).length = 2 ∧ (∀ z, z ∈ op2 (encS k c r pt.zs) → 0 ≤ z ∧ z ≤ 255) ∧ (msgL k c 0 r pt.zs).length = 8 + pt.zs.length ∧ (msgL k c (encS k c r pt.zs) r pt.zs).length = 8 + pt.zs.length) := ⟨rfl, op2_bd _, msgL_len _ _ _ _ _, msgL_len _ _ _ _ _⟩
  have kw : IntKind.u8.wrap k = k := by simp only [IntKind.wrap_u8]; omega
  have cw : IntKind.u8.wrap c = c := by simp only [IntKind.wrap_u8]; omega
  have rw' : IntKind.u64.wrap r = r := by simp only [IntKind.wrap_u64]; omega
  have hk8 : IntKind.i64.wrap (8 + (pt.zs.length : Int)) = 8 + (pt.zs.length : Int) := by simp only [IntKind.wrap_i64]; omega
  have HI := hid (EnI.first w #[.int .i64 k, .int .i64 c, .int .u32 r, pt.val] (0 :: 0 :: ([0, 0] ++ List.replicate (4 + pt.zs.length) 0)))
  have HV : Hid (pt.val = .slice pt.a pt.zs.length pt.c) := rfl
  rw [HV.out] at HI ⊢
  clear hk hkb hok HSB HM r0
  have E0 : Hid (∀ W, EnI w #[.int .i64 k, .int .i64 c, .int .u32 r, .slice pt.a pt.zs.length pt.c] (0 :: 0 :: ([0, 0] ++ List.replicate (4 + pt.zs.length) 0)) W → EnI w #[.int .i64 k, .int .i64 c, .int .u32 r, .slice pt.a pt.zs.length pt.c] ([k, c] ++ ([0, 0] ++ List.replicate (4 + pt.zs.length) 0)) ((W.setCell ⟨w.heap.size + 1, 0, none⟩ (.int .u8 k)).setCell ⟨w.heap.size + 1, 1, none⟩ (.int .u8 c)).drew) := fun W h => h.two k c
  obtain ⟨l, hl⟩ : ∃ l, l = pt.zs.length := ⟨_, rfl⟩
  have Hl : Hid (pt.zs.length = l) := hl.symm
  rw [Hl.out] at hmk E1 E2 L1 L2 L3 hk8 HI E0 hn HU ⊢
  generalize hA1 : ([k, c] ++ ([0, 0] ++ List.replicate (4 + l) (0 : Int))) = A1 at *
  generalize hA2 : ([k, c, 0, 0] ++ ip4 r ++ List.replicate l (0 : Int)) = A2 at *
  generalize hA0 : (0 :: 0 :: ([0, 0] ++ List.replicate (4 + l) (0 : Int))) = A0 at *
  generalize msgL k c (encS k c r pt.zs) r pt.zs = A4 at *
  generalize msgL k c 0 r pt.zs = A3 at *
  generalize encS k c r pt.zs = ES at *
  generalize hX4 : ip4 r = X4 at *
  generalize hX2 : op2 ES = X2 at *
  have HA0 : Hid ((u8s A0).toArray[0]? = some (.int .u8 0) ∧ (u8s A0).toArray[1]? = some (.int .u8 0)) := by rw [← hA0]; exact ⟨rfl, rfl⟩
  clear hA0 hA1 hA2 hX2 hX4 hl
  have q0 : ¬ c < 0 := by omega
  have q1 : ¬ 255 < c := by omega
  have q2 : ¬ (1472 : Int) < (l : Int) := by omega
  have q3 : (0 : Int) < 8 + (l : Int) := by omega
  have q4 : (1 : Int) < 8 + (l : Int) := by omega
  have q5 : (4 : Int) ≤ 8 + (l : Int) := by omega
  have q6 : (8 : Int) ≤ 8 + (l : Int) := by omega
  have q7 : (2 : Int) ≤ 8 + (l : Int) := by omega
  have q8 : ¬ 8 + l = 4 := by omega
  have q9 : ¬ 8 + l = 2 := by omega
  go_enter Try.func10, Try.ntmps10
  go_wp2_with fail
  refine (P1.out _).mono ?_
  rintro e w1 ⟨rfl, hw⟩
  subst w1
  go_wp2
  generalize (w.alloc (.cells #[.int .i64 k, .int .i64 c, .int .u32 r, .slice pt.a l pt.c] 26)).alloc (.cells (u8s A0).toArray 5) = W at *
  have c0 : W.cell? ⟨w.heap.size + 1, 0, none⟩ = some (.int .u8 0) := by rw [cell_of_heap HI.out.2.1]; exact HA0.out.1
  have c1 : W.cell? ⟨w.heap.size + 1, 1, none⟩ = some (.int .u8 0) := by rw [cell_of_heap HI.out.2.1]; exact HA0.out.2
  have f0 : W.frozen? ⟨w.heap.size + 1, 0, none⟩ = false := frozen_of_heap HI.out.2.1 0
  have f1 : W.frozen? ⟨w.heap.size + 1, 1, none⟩ = false := frozen_of_heap HI.out.2.1 1
  have m0 : W.cell? ⟨w.heap.size, 0, none⟩ = some (.int .i64 k) := cell_of_heap HI.out.1 0
  have m1 : W.cell? ⟨w.heap.size, 1, none⟩ = some (.int .i64 c) := cell_of_heap HI.out.1 1
  go_region
  have H1 := hid (E0.out W HI.out)
  clear c0 c1 f0 f1 m0 m1 HI E0 HA0 hmk
  generalize ((W.setCell ⟨w.heap.size + 1, 0, none⟩ (.int .u8 k)).setCell ⟨w.heap.size + 1, 1, none⟩ (.int .u8 c)).drew = W1 at *
  have m2 : W1.cell? ⟨w.heap.size, 2, none⟩ = some (.int .u32 r) := cell_of_heap H1.out.1 2
  go_wp2
  go_region_held3 (fun w' => w'.cell? ⟨w.heap.size, 2, none⟩ = some (.int .u32 r)) (first | assumption | go_keep) (first
    | (go_at_call 24; (with_reducible refine (W4.out _).mono ?_); rintro e w' ⟨rfl, hw⟩; subst w')
    | (refine step_copy rfl _ _ rfl ⟨some ⟨W1.heap.size, 0, none⟩, 4, X4⟩ (w.heap.size + 1) 4 _ _ A1 5 rfl (by show _ = Value.slice _ _ _; rw [L1.out.1]; rfl) (by exact (heap_old W1.drew _ (heap_lt (w := W1.drew) H1.out.2.1)).trans H1.out.2.1) (by exact Part.of_row (heap_new W1.drew _) (by rw [L1.out.1]; omega) L1.out.2.1) (by rw [L1.out.1]; omega) (by rw [L1.out.1, L1.out.2.2]; omega) ?_; intro w2 hg2 hb2; have H2 : Hid (EnI w _ _ w2) := H1.out.next (((Below.refl _ _).drew).alloc (Nat.le_refl _) _) hg2.out hb2.out; have m22 : w2.cell? ⟨w.heap.size, 2, none⟩ = some (.int .u32 r) := cell_of_heap H2.out.1 2)
    | fail)
  rw [E1.out] at H2
  clear hg2 hb2 m2 m22 H1 E1
  have m3 : w2.cell? ⟨w.heap.size, 3, none⟩ = some (.slice pt.a l pt.c) := cell_of_heap H2.out.1 3
  go_wp2
  by_cases hl0 : l = 0
  case' pos =>
    subst hl0
    have hz : Hid (pt.zs = []) := List.eq_nil_of_length_eq_zero Hl.out
    have E2' : Hid (splice A2 0 ([] : List Int) = A3) := by
      have := E2.out
      rw [hz.out] at this
      rw [← this]
      unfold Hid
      simp [splice]
    go_region_held3 (fun w' => w'.cell? ⟨w.heap.size, 3, none⟩ = some (.slice pt.a 0 pt.c)) (first | assumption | go_keep) (first
      | (refine step_copy rfl _ _ rfl pt (w.heap.size + 1) 0 _ _ A2 5 rfl (by show _ = Value.slice _ _ _; rw [Hl.out]; rfl) (by exact H2.out.2.1) (by exact Part.ok_below HP.out H2.out.2.2.drew) (by rw [Hl.out]; omega) (by rw [Hl.out]; omega) ?_; intro w3 hg3 hb3; have H3 : Hid (EnI w _ _ w3) := H2.out.next (Below.refl _ _).drew hg3.out hb3.out; have m23 : w3.cell? ⟨w.heap.size, 3, none⟩ = some (.slice pt.a 0 pt.c) := cell_of_heap H3.out.1 3)
      | fail)
    rw [hz.out, E2'.out] at H3
    clear E2' hz
  case' neg =>
    have q88 : ¬ 8 + l = 8 := by omega
    go_region_held3 (fun w' => w'.cell? ⟨w.heap.size, 3, none⟩ = some (.slice pt.a l pt.c)) (first | assumption | go_keep) (first
      | (refine step_copy rfl _ _ rfl pt (w.heap.size + 1) 8 _ _ A2 5 rfl (by show _ = Value.slice _ _ _; rw [Hl.out]; rfl) (by exact H2.out.2.1) (by exact Part.ok_below HP.out H2.out.2.2.drew) (by rw [Hl.out]; omega) (by rw [Hl.out, L2.out]; omega) ?_; intro w3 hg3 hb3; have H3 : Hid (EnI w _ _ w3) := H2.out.next (Below.refl _ _).drew hg3.out hb3.out; have m23 : w3.cell? ⟨w.heap.size, 3, none⟩ = some (.slice pt.a l pt.c) := cell_of_heap H3.out.1 3)
      | fail)
    rw [E2.out] at H3
  all_goals
    clear H2 m3 E2 L2 m23 hg3 hb3
    go_wp2
    go_region_held3 (fun w' => True) (exact trivial) (first
      | (go_at_call 25; refine (HU.out w3.drew H3.out.2.1).mono ?_; rintro e w4 ⟨rfl, hb4⟩; have HG4 := hid (kept (w := w3.drew) H3.out.2.1 hb4); have HB4 := hid (bstep (a := w3) (Below.refl _ _).drew hb4); clear hb4)
      | (go_at_call 24; (with_reducible refine (W2.out _).mono ?_); rintro e w' ⟨rfl, hw⟩; subst w')
      | (refine step_copy rfl _ _ rfl ⟨some ⟨w4.heap.size, 0, none⟩, 2, X2⟩ (w.heap.size + 1) 2 _ _ A3 5 rfl (by show _ = Value.slice _ _ _; rw [L3.out.1]; rfl) (by exact (heap_old w4 _ (heap_lt HG4.out)).trans HG4.out) (by exact Part.of_row (heap_new w4 _) (by rw [L3.out.1]; omega) L3.out.2.1) (by rw [L3.out.1]; omega) (by rw [L3.out.1, L3.out.2.2.1]; omega) ?_; intro w5 hg5 hb5; have H5 : Hid (EnI w _ _ w5) := H3.out.next (bpush HB4.out _) hg5.out hb5.out)
      | fail)
    rw [E3.out] at H5
    clear hg5 hb5 H3
    go_wp2
    go_ret2
    exact ⟨_, _, _, rfl, ans_row L3.out.2.2.2 (by unfold maxLen; omega) H5.out.2.1 (by omega) H5.out.2.2⟩

theorem encode_u (k c r : Int) (pt : Part) (w : World) (r0 : 0 ≤ r ∧ r ≤ 4294967295) (hok : pt.ok w) :
    Calls Try.prog 10 #[.agg #[.int .i64 k, .int .i64 c, .int .u32 r, pt.val]] w fun e w' => ∃ a n c', e = .returned (.tuple #[.slice a n c', .int .i64 (encE k c pt.zs.length)]) ∧ Ans w w' (encB k c r pt.zs) a n c' := by
  unfold encB encE
  by_cases h1 : kindB k = false
  · rw [if_pos h1, if_neg (by decide)]
    exact (encode_kind k _ _ _ w h1).mono fun e w' h => ⟨_, _, _, h.1, ans_nil h.2⟩
  · rw [if_neg h1]
    have h1' : kindB k = true := by simpa using h1
    by_cases h2 : c < 0 ∨ 255 < c
    · rw [if_pos h2, if_neg (by decide)]
      exact (encode_arg k c _ _ w h1' h2).mono fun e w' h => ⟨_, _, _, h.1, ans_nil h.2⟩
    · rw [if_neg h2]
      by_cases h3 : 1472 < pt.zs.length
      · rw [if_pos h3, if_neg (by decide)]
        exact (encode_long k c _ _ _ _ w h1' (by omega) (by omega) h3).mono fun e w' h => ⟨_, _, _, h.1, ans_nil h.2⟩
      · rw [if_neg h3, if_pos rfl]
        exact encode_ok k c r pt w h1' (by omega) (by omega) r0 hok (by omega)
end Go.Proofs.Ythmfappindbjnaa
