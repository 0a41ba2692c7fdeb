/-
  The document's Encode, whole.
-/
import Derived.Test.YtccmkljbedddiaaIRefE
namespace Go.Proofs.Ytccmkljbedddiaa
open Go.RowKit
set_option linter.all false

set_option maxRecDepth 20000 in
set_option maxHeartbeats 2000000 in
theorem refEncode_arg (h : Ip) (v : Value) (w : World) (hh : layB h = false) :
    Calls Try.prog 9 #[h.val, v] w fun e w' => e = .returned (.tuple #[.slice none 0 0, .int .i64 1]) ∧ Below w.heap.size w w' := by
  have hbd : ¬ ((0 ≤ h.tos ∧ h.tos ≤ 255) ∧ (0 ≤ h.proto ∧ h.proto ≤ 255) ∧ (0 ≤ h.id ∧ h.id ≤ 65535) ∧ (1 ≤ h.ttl ∧ h.ttl ≤ 255)) := by
    intro hc
    have : layB h = true := by simpa [layB, inB, and_assoc] using hc
    rw [this] at hh; cases hh
  clear hh
  obtain ⟨ht, hi, hl, hp, hk, hs, hd⟩ := h
  simp only [Ip.val] at *
  have hcs : (ht < 0) ∨ (¬ ht < 0 ∧ 255 < ht) ∨ (¬ ht < 0 ∧ ¬ 255 < ht ∧ hp < 0) ∨ (¬ ht < 0 ∧ ¬ 255 < ht ∧ ¬ hp < 0 ∧ 255 < hp) ∨ (¬ ht < 0 ∧ ¬ 255 < ht ∧ ¬ hp < 0 ∧ ¬ 255 < hp ∧ hi < 0) ∨ (¬ ht < 0 ∧ ¬ 255 < ht ∧ ¬ hp < 0 ∧ ¬ 255 < hp ∧ ¬ hi < 0 ∧ 65535 < hi)
      ∨ (¬ ht < 0 ∧ ¬ 255 < ht ∧ ¬ hp < 0 ∧ ¬ 255 < hp ∧ ¬ hi < 0 ∧ ¬ 65535 < hi ∧ hl < 1) ∨ (¬ ht < 0 ∧ ¬ 255 < ht ∧ ¬ hp < 0 ∧ ¬ 255 < hp ∧ ¬ hi < 0 ∧ ¬ 65535 < hi ∧ ¬ hl < 1 ∧ 255 < hl) := by omega
  clear hbd
  rcases hcs with c1 | ⟨c1, c2⟩ | ⟨c1, c2, c3⟩ | ⟨c1, c2, c3, c4⟩ | ⟨c1, c2, c3, c4, c5⟩ | ⟨c1, c2, c3, c4, c5, c6⟩ | ⟨c1, c2, c3, c4, c5, c6, c7⟩ | ⟨c1, c2, c3, c4, c5, c6, c7, c8⟩
  all_goals
    go_enter Try.func9, Try.ntmps9
    go_wp2
    go_ret2
    exact ⟨rfl, bpush (Below.refl _ _) _⟩
set_option maxRecDepth 20000 in
set_option maxHeartbeats 1000000 in
theorem refEncode_long (h : Ip) (a : Option Addr) (l c : Nat) (w : World) (hh : layB h = true) (hl : 1480 < l) (hl2 : l ≤ 281474976710656) :
    Calls Try.prog 9 #[h.val, .slice a l c] w fun e w' => e = .returned (.tuple #[.slice none 0 0, .int .i64 2]) ∧ Below w.heap.size w w' := by
  have hbd : (0 ≤ h.tos ∧ h.tos ≤ 255) ∧ (0 ≤ h.proto ∧ h.proto ≤ 255) ∧ (0 ≤ h.id ∧ h.id ≤ 65535) ∧ (1 ≤ h.ttl ∧ h.ttl ≤ 255) := by simpa [layB, inB, and_assoc] using hh
  clear hh
  have h1 : (1500 : Int) < 20 + (l : Int) := by omega
  obtain ⟨ht, hi, hll, hp, hk, hs, hd⟩ := h
  simp only [Ip.val] at *
  have c1 : ¬ ht < 0 := by omega
  have c2 : ¬ 255 < ht := by omega
  have c3 : ¬ hp < 0 := by omega
  have c4 : ¬ 255 < hp := by omega
  have c5 : ¬ hi < 0 := by omega
  have c6 : ¬ 65535 < hi := by omega
  have c7 : ¬ hll < 1 := by omega
  have c8 : ¬ 255 < hll := by omega
  clear hbd
  go_enter Try.func9, Try.ntmps9
  go_wp2
  go_ret2
  exact ⟨rfl, bpush (Below.refl _ _) _⟩
set_option maxRecDepth 20000 in
set_option maxHeartbeats 2000000 in
theorem refEncode_ok (h : Ip) (pt : Part) (w : World) (hok : h.ok) (hh : layB h = true) (hp : pt.ok w) (hl : pt.zs.length ≤ 1480) :
    Calls Try.prog 9 #[h.val, pt.val] w fun e w' => ∃ a n c, e = .returned (.tuple #[.slice a n c, .int .i64 0]) ∧ Ans w w' (encL h pt.zs) a n c := by
  have hbd : (0 ≤ h.tos ∧ h.tos ≤ 255) ∧ (0 ≤ h.proto ∧ h.proto ≤ 255) ∧ (0 ≤ h.id ∧ h.id ≤ 65535) ∧ (1 ≤ h.ttl ∧ h.ttl ≤ 255) := by simpa [layB, inB, and_assoc] using hh
  have hsb := sumOf_bd (headL h (20 + pt.zs.length : Int) 0) (headL_bd _ _ _)
  have HH0 : Hid (∀ w' : World, Calls Try.prog 17 #[h.val, .int .i64 (20 + (pt.zs.length : Int)), .int .i64 0] w' fun e w'' => ∃ a l c, e = .returned (.slice a l c) ∧ Ans w' w'' (headL h (20 + (pt.zs.length : Int)) 0) a l c) := fun w' => refHead_any h _ 0 w' hok hh (by omega) (by omega)
  have HH2 : Hid (∀ w' : World, Calls Try.prog 17 #[h.val, .int .i64 (20 + (pt.zs.length : Int)), .int .i64 (sumH h (20 + (pt.zs.length : Int)))] w' fun e w'' => ∃ a l c, e = .returned (.slice a l c) ∧ Ans w' w'' (headL h (20 + (pt.zs.length : Int)) (sumH h (20 + (pt.zs.length : Int)))) a l c) := fun w' => refHead_any h _ _ w' hok hh (by omega) hsb
  have HSO : Hid (∀ (w' : World) (a : Option Addr) (l c : Nat), Row w' 5 (.slice a l c) (u8s (headL h (20 + (pt.zs.length : Int)) 0)) → Calls Try.prog 18 #[.slice a l c] w' fun e w'' => e = .returned (.int .u16 (sumH h (20 + (pt.zs.length : Int)))) ∧ Below w'.heap.size w' w'') := fun w' a l c hr => by
    obtain ⟨pt', e1, e2, ok⟩ := hr.part (headL_bd _ _ _)
    rw [e1]
    have := refSumOf_any pt' w' ok (by rw [e2, headL_len]; omega)
    rw [e2] at this
    exact this
  have HEL : Hid (encL h pt.zs = headL h (20 + pt.zs.length : Int) (sumH h (20 + pt.zs.length : Int)) ++ pt.zs) := rfl
  have hsw : IntKind.i64.wrap (sumH h (20 + pt.zs.length : Int)) = sumH h (20 + pt.zs.length : Int) := by unfold sumH; simp only [IntKind.wrap_i64]; omega
  have HL2 : Hid ((headL h (20 + pt.zs.length : Int) (sumH h (20 + pt.zs.length : Int))).length = 20) := headL_len _ _ _
  have h1 : ¬ (1500 : Int) < 20 + (pt.zs.length : Int) := by omega
  have HPO := hid hp
  clear hsb hp
  generalize encL h pt.zs = EL at *
  generalize sumH h _ = SH at *
  generalize headL h _ SH = L2 at *
  generalize headL h _ 0 = L1 at *
  obtain ⟨ht, hi, hll, hpp, hk, hs, hd⟩ := h
  simp only [Ip.val] at *
  have c1 : ¬ ht < 0 := by omega
  have c2 : ¬ 255 < ht := by omega
  have c3 : ¬ hpp < 0 := by omega
  have c4 : ¬ 255 < hpp := by omega
  have c5 : ¬ hi < 0 := by omega
  have c6 : ¬ 65535 < hi := by omega
  have c7 : ¬ hll < 1 := by omega
  have c8 : ¬ 255 < hll := by omega
  clear hbd hh hok
  have HV : Hid (pt.val = .slice pt.a pt.zs.length pt.c) := rfl
  rw [HV.out]
  obtain ⟨dl, Hdl⟩ : ∃ dl, Hid (pt.zs.length = dl) := ⟨_, rfl⟩
  rw [Hdl.out] at h1 hl HH0 HH2 ⊢
  go_enter Try.func9, Try.ntmps9
  go_wp2_with fail
  refine (HH0.out _).mono ?_
  rintro e w1 ⟨a1, n1, c1', rfl, an1⟩
  have HB1 := hid (bstep (bpush (Below.refl _ w) _) an1.2.2)
  have hf1 := kept (heap_new w (.cells #[.int .i64 ht, .int .i64 hi, .int .i64 hll, .int .i64 hpp, .bool hk, .int .u32 hs, .int .u32 hd] 27)) an1.2.2
  have HF1 := hid hf1
  have HR1 := hid an1.1
  clear an1 hf1
  go_wp2_with fail
  refine (HSO.out _ _ _ _ HR1.out).mono ?_
  rintro e w2 ⟨rfl, hb2⟩
  have HB2 := hid (bstep HB1.out hb2)
  have HF2 := hid (kept HF1.out hb2)
  clear hb2 HB1 HF1 HR1
  have cc : ∀ q, w2.cell? ⟨w.heap.size, q, none⟩ = (#[.int .i64 ht, .int .i64 hi, .int .i64 hll, .int .i64 hpp, .bool hk, .int .u32 hs, .int .u32 hd] : Array Value)[q]? := fun q => cell_of_heap HF2.out q
  go_wp2_with fail
  refine (HH2.out _).mono ?_
  rintro e w3 ⟨a3, n3, c3', rfl, an3⟩
  have HB3 := hid (bstep HB2.out an3.2.2)
  obtain ⟨a4, c4', w4, h1', h2', h3', h4'⟩ := append_row_part an3.1 w.heap.size HB3.out.size (fun b hb => by have := an3.2.1 b hb; have := HB2.out.size; omega) pt (Part.ok_below HPO.out HB3.out) (by rw [HL2.out, Hdl.out]; omega) 28
  rw [HL2.out, HV.out, Hdl.out] at h1'
  rw [HL2.out, Hdl.out] at h2' h4'
  rw [← HEL.out] at h2'
  have HR4 := hid h1'
  have HA4 : Hid (Ans w w4 EL a4 (20 + dl) c4') := ⟨h2', h4', HB3.out.trans h3'⟩
  clear h1' h2' h3' h4' an3 cc HB2 HF2
  go_wp2_with (first | (at_builtin; refine wpList_append_run _ rfl _ _ 28 28 rfl _ _ rfl rfl HR4.out ?_) | fail)
  go_ret2
  exact ⟨_, _, _, rfl, HA4.out⟩
theorem refEncode_u (h : Ip) (pt : Part) (w : World) (hok : h.ok) (hp : pt.ok w) (hz : pt.zs.length ≤ 281474976710656) : Calls Try.prog 9 #[h.val, pt.val] w fun e w' => ∃ a n c, e = .returned (.tuple #[.slice a n c, .int .i64 (encE h pt.zs)]) ∧ Ans w w' (encB h pt.zs) a n c := by
  unfold encB encE
  cases hb : layB h
  · simp only [Bool.false_eq_true, if_false]
    exact (refEncode_arg h pt.val w hb).mono fun e w' ⟨he, hb⟩ => ⟨none, 0, 0, he, by simpa using ans_nil hb⟩
  · simp only [if_true]
    by_cases hl : pt.zs.length ≤ 1480
    · simp only [hl, if_true]
      exact refEncode_ok h pt w hok hb hp hl
    · simp only [hl, if_false]
      exact (refEncode_long h pt.a pt.zs.length pt.c w hb (by omega) hz).mono fun e w' ⟨he, hb⟩ => ⟨none, 0, 0, he, by simpa using ans_nil hb⟩
end Go.Proofs.Ytccmkljbedddiaa
