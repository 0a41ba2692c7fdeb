/-
  The walk of BootpMakes. Written by mkbomkw.py.
-/
import Derived.Test.YtoifblndpcelkaaBoRfL
import Derived.Test.YtoifblndpcelkaaBoOwJ
import Derived.Test.YtoifblndpcelkaaBoLenJ
import Derived.Test.YtoifblndpcelkaaBoBey
import Derived.Test.YtoifblndpcelkaaOOpen
namespace Go.Proofs.Ytoifblndpcelkaa
open Go.RowKit
set_option linter.all false

theorem askM_ok {mac : Mac} {xid secs ci : Int} (hm : mac.ok) (hx : 0 ≤ xid ∧ xid ≤ 4294967295) (hc : 0 ≤ ci ∧ ci ≤ 4294967295) : (askM mac xid secs ci).ok := by
  refine ⟨by simp [askM], by simp [askM], hx, ?_, hc, by simp [askM], by simp [askM], by simp [askM], hm, by simp [askM, noText, ByteArray.size], by simp [askM, noText, ByteArray.size]⟩
  show _ ≤ min (max secs 0) 65535 ∧ min (max secs 0) 65535 ≤ _
  omega
theorem ansM_ok {kind : Int} {m : Bp} {yi : Int} (hm : m.ok) (hy : 0 ≤ yi ∧ yi ≤ 4294967295) : (ansM kind m yi).ok := by
  refine ⟨by simp [ansM], by simp [ansM], hm.xid, by simp [ansM], ?_, hy, by simp [ansM], by simp [ansM], hm.mac, by simp [ansM, noText, ByteArray.size], by simp [ansM, noText, ByteArray.size]⟩
  show 0 ≤ (if kind = 5 then m.ci else 0) ∧ (if kind = 5 then m.ci else 0) ≤ 4294967295
  split
  · exact hm.ci
  · omega
theorem yields_bp {ops : Array Oper} {S : World → Prop} {o : Oper} {a : Act} (hw : Region.wanted o (yielded ops a.tmps) = true) (x : Operand) (ho : o.op = .load 28 x) (g : Nat) (hx : a.eval x = .pointer (some ⟨g, 0, none⟩)) (C : Array Value) (hC : C.size = 18) (hg : ∀ w, S w → w.heap[g]? = some (.cells C 28 (0, 0))) : YieldsIf Try.prog ops S o (.agg C) a :=
  Or.inl ⟨hw, fun w hS => by
    unfold execOp
    simp only [ho, hx, Instr.loadAt, Instr.sureAddr, Sem.run_bind, Sem.run_pure, Result.andThen_ok, load_bp w g C (hg w hS) hC]⟩
theorem OwT.of {B B1 B2 : Nat} {W : World} {va vb : Value} {Ea Eb : List (Opt × Value)} (oa : OwnO B1 W va Ea) (ob : OwnO B2 W vb Eb) (h1 : B ≤ B1) (h2 : B ≤ B2) (hs : ∀ b, InO va Ea b → b < B2) (hla : ∀ p ∈ Ea, p.1.2.length ≤ 140737488351232) (hlb : ∀ p ∈ Eb, p.1.2.length ≤ 140737488351232) (hf : Ea.length + Eb.length ≤ 4000000000000) (hB : B ≤ W.heap.size) : OwT B W va vb Ea Eb := by
  refine ⟨oa.row, ob.row, fun k hk e => ?_, fun k hk => ?_, ⟨fun p hp => ?_, fun p hp b hb => ?_, fun i j p q b hij hp hq hb e => ?_, fun p hp => ?_, fun p hp => ?_, by rw [List.length_append]; exact hf⟩, hB⟩
  · have := hs k (Or.inl hk)
    have := ob.low k e
    omega
  · rcases hk with hk | hk
    · exact Nat.le_trans h1 (oa.low k hk)
    · exact Nat.le_trans h2 (ob.low k hk)
  · rcases List.mem_append.1 hp with hp | hp
    · exact oa.data p hp
    · exact ob.data p hp
  · rcases List.mem_append.1 hp with hp | hp
    · exact Nat.le_trans h1 (oa.dlow p hp b hb)
    · exact Nat.le_trans h2 (ob.dlow p hp b hb)
  · rw [List.getElem?_append] at hp hq
    split at hp <;> split at hq
    · exact oa.apart i j p q b hij hp hq hb e
    · have := hs b (Or.inr ⟨p, List.mem_of_getElem? hp, hb⟩)
      have := ob.dlow q (List.mem_of_getElem? hq) b e
      omega
    · have := hs b (Or.inr ⟨q, List.mem_of_getElem? hq, e⟩)
      have := ob.dlow p (List.mem_of_getElem? hp) b hb
      omega
    · exact ob.apart _ _ p q b (by omega) hp hq hb e
  · rcases List.mem_append.1 hp with hp | hp
    · exact oa.oks p hp
    · exact ob.oks p hp
  · rcases List.mem_append.1 hp with hp | hp
    · exact hla p hp
    · exact hlb p hp
/-- the boxes at the end: two messages of the program's, two of the document's, the one that came in. -/
structure Mk4 (w : World) (g13 g19 g20 g22 g23 : Nat) (XT X19 X20 X22 X23 : Array Value) (W : World) : Prop where
  h13 : W.heap[g13]? = some (.cells XT 28 (0, 0))
  h19 : W.heap[g19]? = some (.cells X19 28 (0, 0))
  h20 : W.heap[g20]? = some (.cells X20 28 (0, 0))
  h22 : W.heap[g22]? = some (.cells X22 28 (0, 0))
  h23 : W.heap[g23]? = some (.cells X23 28 (0, 0))
  below : Below w.heap.size w W
theorem Mk4.keep {w W W' : World} {g13 g19 g20 g22 g23 : Nat} {XT X19 X20 X22 X23 : Array Value} (h : Mk4 w g13 g19 g20 g22 g23 XT X19 X20 X22 X23 W) (hb : Below W.heap.size W W') : Mk4 w g13 g19 g20 g22 g23 XT X19 X20 X22 X23 W' := ⟨kept h.h13 hb, kept h.h19 hb, kept h.h20 hb, kept h.h22 hb, kept h.h23 hb, bstep h.below hb⟩
set_option maxRecDepth 20000 in
set_option maxHeartbeats 4000000 in
theorem bootpMakes_walk (kind : Int) (mac : Mac) (xid secs ci : Int) (os : List OP) (a : Option Addr) (c : Nat) (m : Bp) (tos : List OP) (ta : Option Addr) (tc : Nat) (w : World) (hk : -9223372036854775808 ≤ kind ∧ kind ≤ 9223372036854775807) (hmac : mac.ok) (hx : 0 ≤ xid ∧ xid ≤ 4294967295) (hsc : -9223372036854775808 ≤ secs ∧ secs ≤ 9223372036854775807) (hci : 0 ≤ ci ∧ ci ≤ 4294967295) (h0 : OV0 w a os) (hsz : os.length ≤ 4398046511104 ∧ ∀ o ∈ os, o.2.zs.length ≤ 140737488351232) (hm : m.ok) (ht : OV w ta tos) :
    Calls Try.prog 8 #[.int .i64 kind, mac.val, .int .u32 xid, .int .i64 secs, .int .u32 ci, .slice a os.length c, m.val (.slice ta tos.length tc)] w fun e w' => e = .returned (.bool true) ∧ Below w.heap.size w w' := by
  have h := h0.full hsz.2 hsz.1
  have HLEN := hid hsz.2
  have HBY := hid (fun (W : World) (hb : Below w.heap.size w W) => bobey_any a c os W (h.below hb))
  have HBZ := hid (fun (W : World) (hb : Below w.heap.size w W) => bobey_any ta tc tos W (ht.below hb))
  have HLE := hid (fun (W : World) (hb : Below w.heap.size w W) => lentO_any a c os W (h.below hb))
  have HTV : Hid (∀ W, Below w.heap.size w W → BpV m (absO tos) (m.cells (.slice ta tos.length tc)) W) := fun W hb => ⟨ta, tos, tc, rfl, ht.below hb, rfl⟩
  have H17 : Hid ((m.cells (.slice ta tos.length tc))[17]? = some (.slice ta tos.length tc)) := rfl
  have HV := hid h
  have HM := hid hm
  have HAM : Hid (askM mac xid secs ci).ok := askM_ok hmac hx hci
  have HNM : Hid (ansM kind m ci).ok := ansM_ok hm hci
  have HCX : Hid ((0 ≤ xid ∧ xid ≤ 4294967295) ∧ (-9223372036854775808 ≤ kind ∧ kind ≤ 9223372036854775807) ∧ (-9223372036854775808 ≤ secs ∧ secs ≤ 9223372036854775807)) := ⟨hx, hk, hsc⟩
  obtain ⟨b0, b1, b2, b3, b4, b5⟩ := mac
  obtain ⟨n, hn⟩ : ∃ n, n = os.length := ⟨_, rfl⟩
  obtain ⟨tn, htn⟩ : ∃ n, n = tos.length := ⟨_, rfl⟩
  have HN := hid hn
  rw [← hn] at HBY HLE ⊢
  rw [← htn] at HBZ HTV H17 ⊢
  clear h h0 hsz hm ht hk hmac hx hsc hci hn htn
  unfold Bp.val Mac.val
  simp only
  generalize m.cells (.slice ta tn tc) = XT at *
  have HB0 := hid (bpush (bpush (Below.refl _ w) (.cells #[.int .u8 b0, .int .u8 b1, .int .u8 b2, .int .u8 b3, .int .u8 b4, .int .u8 b5] 25)) (.cells XT 28))
  have HM0 := hid ((heap_old (w.alloc (.cells #[.int .u8 b0, .int .u8 b1, .int .u8 b2, .int .u8 b3, .int .u8 b4, .int .u8 b5] 25)) (.cells XT 28) (by simp)).trans (heap_new w (.cells #[.int .u8 b0, .int .u8 b1, .int .u8 b2, .int .u8 b3, .int .u8 b4, .int .u8 b5] 25)))
  have HX0 := hid (heap_new (w.alloc (.cells #[.int .u8 b0, .int .u8 b1, .int .u8 b2, .int .u8 b3, .int .u8 b4, .int .u8 b5] 25)) (.cells XT 28))
  rw [World.size_alloc] at HX0
  have k17 : ((w.alloc (.cells #[.int .u8 b0, .int .u8 b1, .int .u8 b2, .int .u8 b3, .int .u8 b4, .int .u8 b5] 25)).alloc (.cells XT 28)).cell? ⟨w.heap.size + 1, 17, none⟩ = some (.slice ta tn tc) := (cell_of_heap HX0.out 17).trans H17.out
  have cm := fun q => cell_of_heap HM0.out q
  go_enter Try.func8, Try.ntmps8
  go_upto_region 1 with (fail)
  generalize (w.alloc (.cells #[.int .u8 b0, .int .u8 b1, .int .u8 b2, .int .u8 b3, .int .u8 b4, .int .u8 b5] 25)).alloc (.cells XT 28) = W0 at *
  have HNG : Hid (w.heap.size ≤ w.heap.size + 1) := Nat.le_succ _
  generalize w.heap.size + 1 = g13 at *
  obtain ⟨g8, hg8⟩ : ∃ g, g = w.heap.size := ⟨_, rfl⟩
  rw [← hg8] at HM0 cm ⊢
  have HG8 := hid hg8
  clear hg8
  by_cases hby : 2147483647 < bulkO os
  · have q1 := HBY.out _ HB0.out
    have q2 := HBZ.out _ HB0.out
    rw [decide_eq_true hby] at q1
    have H1 := hid q1
    have H2 := hid q2
    clear q1 q2 hby
    generalize decide (2147483647 < bulkO tos) = BB at *
    go_wp2_with (first
      | (go_at_call_of 11 (Value.slice a n c); refine H1.out.mono ?_; rintro e w1 ⟨rfl, hw⟩; subst w1)
      | (go_at_call_of 11 (Value.slice ta tn tc); refine H2.out.mono ?_; rintro e w1 ⟨rfl, hw⟩; subst w1)
      | fail)
    go_ret
    exact ⟨rfl, HB0.out⟩
  · by_cases hbz : 2147483647 < bulkO tos
    · have q1 := HBY.out _ HB0.out
      have q2 := HBZ.out _ HB0.out
      rw [decide_eq_false hby] at q1
      rw [decide_eq_true hbz] at q2
      have H1 := hid q1
      have H2 := hid q2
      clear q1 q2 hby hbz
      go_wp2_with (first
        | (go_at_call_of 11 (Value.slice a n c); refine H1.out.mono ?_; rintro e w1 ⟨rfl, hw⟩; subst w1)
        | (go_at_call_of 11 (Value.slice ta tn tc); refine H2.out.mono ?_; rintro e w1 ⟨rfl, hw⟩; subst w1)
        | fail)
      go_ret
      exact ⟨rfl, HB0.out⟩
    · have q1 := HBY.out _ HB0.out
      have q2 := HBZ.out _ HB0.out
      rw [decide_eq_false hby] at q1
      rw [decide_eq_false hbz] at q2
      have H1 := hid q1
      have H2 := hid q2
      have HFN : Hid (n ≤ 4294967296) := by
        have := bulkO_sum os
        have := HN.out
        unfold Hid
        omega
      have HFN2 : Hid (os.length ≤ 4294967296) := by rw [← HN.out]; exact HFN
      clear q1 q2 hby hbz HBY HBZ
      go_upto_region 6 with (first
        | (go_at_call_of 11 (Value.slice a n c); refine H1.out.mono ?_; rintro e w1 ⟨rfl, hw⟩; subst w1)
        | (go_at_call_of 11 (Value.slice ta tn tc); refine H2.out.mono ?_; rintro e w1 ⟨rfl, hw⟩; subst w1)
        | (go_at_call 9; refine (live_any _).mono ?_; rintro e w2 ⟨rfl, HB2⟩)
        | fail)
      have HM2 := hid (kept HM0.out HB2.out)
      have HX2 := hid (kept HX0.out HB2.out)
      have HBW2 := hid (bstep HB0.out HB2.out)
      have HG2 : Hid (w.heap.size ≤ w2.heap.size) := HBW2.out.size
      clear k17 cm H1 H2 HM0 HX0 HB0 HB2
      have HL2 := hid (HLE.out _ HBW2.out)
      obtain ⟨ga, hga⟩ : ∃ ga, ga = w2.heap.size := ⟨_, rfl⟩
      rw [← hga] at HL2
      have HGA := hid hga
      clear hga HLE
      have HLG : Hid (g8 < ga ∧ g13 < ga) := by rw [HGA.out]; exact ⟨heap_lt HM2.out, heap_lt HX2.out⟩
      go_upto_region 7 with (first
        | (go_at_call 13; refine HL2.out.mono ?_; rintro e w3 ⟨rfl, HF⟩)
        | fail)
      obtain ⟨XL, hF⟩ := HF.out
      have HM3 := hid (kept HM2.out hF.i.below)
      have HX3 := hid (kept HX2.out hF.i.below)
      have HBW3 := hid (bstep HBW2.out hF.i.below)
      have HK3 := hid hF.k
      have HS3 : Hid (w3.heap.size = ga + 1 + n) := hid (by rw [hF.i.hs, HN.out])
      clear hF HF HL2 HM2 HX2 HBW2
      have cm := fun q => cell_of_heap HM3.out q
      have HASK : Hid (Calls Try.prog 26 #[.int .i64 kind, .agg #[.int .u8 b0, .int .u8 b1, .int .u8 b2, .int .u8 b3, .int .u8 b4, .int .u8 b5], .int .u32 xid, .int .i64 secs, .int .u32 ci, .slice (some ⟨ga, 0, none⟩) n (n + 2)] w3 fun e w' => ∃ X, e = .returned (.agg X) ∧ Hid (BpV (askM ⟨b0, b1, b2, b3, b4, b5⟩ xid secs ci) ((53, op1 kind) :: absO os) X w' ∧ Below w3.heap.size w3 w' ∧ ∃ a' n' c', X = (askM ⟨b0, b1, b2, b3, b4, b5⟩ xid secs ci).cells (.slice a' n' c') ∧ OptI w3 w' (.slice a' n' c') ((53, op1 kind) :: absO os))) := by
        have := bp_ask kind HCX.out.2.1 ⟨b0, b1, b2, b3, b4, b5⟩ xid secs ci HCX.out.2.2 (some ⟨ga, 0, none⟩) (n + 2) (lentOs ga os) w3 (HK3.out.view HV.out) (by rw [lentOs_len]; exact HFN2.out)
        rw [lentOs_len, lentOs_abs, ← HN.out] at this
        exact this
      go_upto_region 8 with (first
        | (go_at_call 26; refine HASK.out.mono ?_; rintro e w4 ⟨X19, rfl, H19⟩)
        | (refine wpList_alloc_to rfl 28 rfl zeroC (by kernel_rfl) ?_)
        | (refine wpList_store_row rfl 28 _ _ rfl w4.heap.size X19 rfl rfl 28 _ (heap_new w4 _) H19.out.1.info (by rw [H19.out.1.size]; rfl) H19.out.1.one ?_)
        | fail)
      have hl4 := box_laid w4 X19
      have hb4 := bstep H19.out.2.1 hl4.2
      have HM4 := hid (kept HM3.out hb4)
      have HX4 := hid (kept HX3.out hb4)
      have HBW4 := hid (bstep HBW3.out hb4)
      have HK4 := hid (HK3.out.below hb4)
      have HS4 : Hid (w3.heap.size ≤ w4.heap.size) := H19.out.2.1.size
      have HV19 := hid (H19.out.1.below hl4.2)
      have HO19 : Hid (∃ a' n' c', X19 = (askM ⟨b0, b1, b2, b3, b4, b5⟩ xid secs ci).cells (.slice a' n' c') ∧ OptI w3 w4 (.slice a' n' c') ((53, op1 kind) :: absO os)) := H19.out.2.2
      have H19b := hid hl4.1
      have HBL4 := hid hl4.2
      clear hl4 hb4 H19 HM3 HX3 HBW3 HK3 cm HASK
      generalize (w4.alloc (.cells zeroC 28)).setRow w4.heap.size X19 = W4 at *
      obtain ⟨g19, hg19⟩ : ∃ g, g = w4.heap.size := ⟨_, rfl⟩
      have HG19 := hid hg19
      rw [← hg19] at H19b ⊢
      clear hg19
      have HANS : Hid (Calls Try.prog 27 #[.int .i64 kind, .agg XT, .int .u32 ci, .int .u32 xid, .slice (some ⟨ga, 0, none⟩) n (n + 2)] W4 fun e w' => ∃ Y, e = .returned (.agg Y) ∧ Hid (BpV (ansM kind m ci) ((53, op1 kind) :: (54, ip4 xid) :: absO os) Y w' ∧ Below W4.heap.size W4 w' ∧ ∃ a' n' c', Y = (ansM kind m ci).cells (.slice a' n' c') ∧ OptI W4 w' (.slice a' n' c') ((53, op1 kind) :: (54, ip4 xid) :: absO os))) := by
        have := bp_answer kind HCX.out.2.1 ci xid HCX.out.1 (some ⟨ga, 0, none⟩) (n + 2) (lentOs ga os) W4 (HTV.out _ HBW4.out) (HK4.out.view HV.out) (by rw [lentOs_len]; exact HFN2.out)
        rw [lentOs_len, lentOs_abs, ← HN.out] at this
        exact this
      have HIT : Hid ((Try.prog.info? 28).map (·.size) = some XT.size) := (HTV.out _ HBW4.out).info
      go_upto_region 9 with (first
        | (refine wpList_load_row rfl 28 _ rfl g13 rfl 28 XT (0, 0) _ HX4.out Try.underlying28 rfl HIT.out ?_)
        | (go_at_call 27; refine HANS.out.mono ?_; rintro e w5 ⟨X20, rfl, H20⟩)
        | (refine wpList_alloc_to rfl 28 rfl zeroC (by kernel_rfl) ?_)
        | (refine wpList_store_row rfl 28 _ _ rfl w5.heap.size X20 rfl rfl 28 _ (heap_new w5 _) H20.out.1.info (by rw [H20.out.1.size]; rfl) H20.out.1.one ?_)
        | fail)
      have hl5 := box_laid w5 X20
      have hb5 := bstep H20.out.2.1 hl5.2
      have HM5 := hid (kept HM4.out hb5)
      have HX5 := hid (kept HX4.out hb5)
      have H19c := hid (kept H19b.out hb5)
      have HBW5 := hid (bstep HBW4.out hb5)
      have HK5 := hid (HK4.out.below hb5)
      have HV20 := hid (H20.out.1.below hl5.2)
      have HO20 : Hid (∃ a' n' c', X20 = (ansM kind m ci).cells (.slice a' n' c') ∧ OptI W4 w5 (.slice a' n' c') ((53, op1 kind) :: (54, ip4 xid) :: absO os)) := H20.out.2.2
      have H20b := hid hl5.1
      have HBL5 := hid hl5.2
      have HB45 := hid hb5
      have HS5 : Hid (W4.heap.size ≤ w5.heap.size) := H20.out.2.1.size
      clear hl5 hb5 H20 HM4 HX4 H19b HBW4 HK4 HANS HV19 HV20
      generalize (w5.alloc (.cells zeroC 28)).setRow w5.heap.size X20 = W5 at *
      obtain ⟨g20, hg20⟩ : ∃ g, g = w5.heap.size := ⟨_, rfl⟩
      have HG20 := hid hg20
      rw [← hg20] at H20b ⊢
      clear hg20
      have HAL : Hid (Calls Try.prog 15 #[.slice (some ⟨ga, 0, none⟩) n (n + 2), .slice a n c] W5 fun e w' => e = .returned (.bool true) ∧ Hid (Btw ga (ga + 1 + n) W5 w')) := by
        have := asLentO_any ga w.heap.size XL a c os W5 HK5.out ((Low.of HV.out).below HBW5.out) (by have := HGA.out; have := HBW5.out.size; have := HG2.out; omega)
        rw [← HN.out] at this
        exact this
      go_upto_region 10 with (first
        | (go_at_call 15; refine HAL.out.mono ?_; rintro e w6 ⟨rfl, HT6⟩)
        | fail)
      have lo6 : ∀ k, k < ga → w6.heap[k]? = W5.heap[k]? := fun k hk => HT6.out.block k (by have := HK5.out.lt ga (Nat.le_refl _) (by omega); omega) (Or.inl hk)
      have hi6 : ∀ k, k < W5.heap.size → ga + 1 + n ≤ k → w6.heap[k]? = W5.heap[k]? := fun k hk hh => HT6.out.block k hk (Or.inr hh)
      have HM6 : Hid (w6.heap[g8]? = some (.cells #[.int .u8 b0, .int .u8 b1, .int .u8 b2, .int .u8 b3, .int .u8 b4, .int .u8 b5] 25 (0, 0))) := (lo6 g8 HLG.out.1).trans HM5.out
      have HX6 : Hid (w6.heap[g13]? = some (.cells XT 28 (0, 0))) := (lo6 g13 HLG.out.2).trans HX5.out
      have H19d : Hid (w6.heap[g19]? = some (.cells X19 28 (0, 0))) := (hi6 g19 (heap_lt H19c.out) (by have := HG19.out; have := HS4.out; have := HS3.out; omega)).trans H19c.out
      have H20d : Hid (w6.heap[g20]? = some (.cells X20 28 (0, 0))) := (hi6 g20 (heap_lt H20b.out) (by have := HG20.out; have := HS5.out; have := HBL4.out.size; have := HS4.out; have := HS3.out; omega)).trans H20b.out
      have HBW6 : Hid (Below w.heap.size w w6) := HBW5.out.trans (HT6.out.below (by have := HGA.out; have := HG2.out; omega) HBW5.out.size)
      obtain ⟨a1, n1, c1, hX19, Ea, oa, ea⟩ := HO19.out
      obtain ⟨a2, n2, c2, hX20, Eb, ob, eb⟩ := HO20.out
      have HLA : Hid (∀ b, InO (.slice a1 n1 c1) Ea b → b < W4.heap.size) := fun b hb => Nat.lt_of_lt_of_le (oa.lt hb).2 HBL4.out.size
      have oa5 := (oa.below HBL4.out).below HB45.out
      have ob5 := ob.below HBL5.out
      have HOA : Hid (OwnO w3.heap.size w6 (.slice a1 n1 c1) Ea) := oa5.keep fun b hb => hi6 b (oa5.lt hb).2 (by have := (oa5.lt hb).1; have := HS3.out; omega)
      have HOB : Hid (OwnO W4.heap.size w6 (.slice a2 n2 c2) Eb) := ob5.keep fun b hb => hi6 b (ob5.lt hb).2 (by have := (ob5.lt hb).1; have := HS3.out; have := HS4.out; have := HBL4.out.size; omega)
      have HEA := hid ea
      have HEB := hid eb
      have HY19 := hid hX19
      have HY20 := hid hX20
      have HRO := hid HV.out.readable
      have HV19 : Hid (BpV (askM ⟨b0, b1, b2, b3, b4, b5⟩ xid secs ci) ((53, op1 kind) :: absO os) X19 w6) := by
        rw [hX19]
        exact OptI.bp (w := w3) _ ⟨Ea, HOA.out, ea⟩ (readable_cons HRO.out (by simp [op1]) (by simp) (by rw [absO_len]; have := HFN2.out; omega))
      have HV20 : Hid (BpV (ansM kind m ci) ((53, op1 kind) :: (54, ip4 xid) :: absO os) X20 w6) := by
        rw [hX20]
        exact OptI.bp (w := W4) _ ⟨Eb, HOB.out, eb⟩ (readable_cons (readable_cons HRO.out (by simp [ip4]) (by simp) (by rw [absO_len]; have := HFN2.out; omega)) (by simp [op1]) (by simp) (by simp [absO_len]; have := HFN2.out; omega))
      clear lo6 hi6 hX19 hX20 oa ob ea eb oa5 ob5 HT6 HAL HM5 HX5 H19c H20b HBW5 HK5 HO19 HO20 HBL5 HB45
      have cm := fun q => cell_of_heap HM6.out q
      have HRA : Hid (Calls Try.prog 28 #[.int .i64 kind, .agg #[.int .u8 b0, .int .u8 b1, .int .u8 b2, .int .u8 b3, .int .u8 b4, .int .u8 b5], .int .u32 xid, .int .i64 secs, .int .u32 ci, .slice a n c] w6 fun e w' => ∃ X, e = .returned (.agg X) ∧ Hid (BpV (askM ⟨b0, b1, b2, b3, b4, b5⟩ xid secs ci) ((53, op1 kind) :: absO os) X w' ∧ Below w6.heap.size w6 w')) := by
        have := refAsk_any kind HCX.out.2.1 ⟨b0, b1, b2, b3, b4, b5⟩ xid secs ci a c os w6 (HV.out.below HBW6.out) HFN2.out
        rw [← HN.out] at this
        exact this
      go_upto_region 11 with (first
        | (go_at_call 28; refine HRA.out.mono ?_; rintro e w7 ⟨X22, rfl, H22⟩)
        | (refine wpList_alloc_to rfl 28 rfl zeroC (by kernel_rfl) ?_)
        | (refine wpList_store_row rfl 28 _ _ rfl w7.heap.size X22 rfl rfl 28 _ (heap_new w7 _) H22.out.1.info (by rw [H22.out.1.size]; rfl) H22.out.1.one ?_)
        | fail)
      have hl7 := box_laid w7 X22
      have hb7 := bstep H22.out.2 hl7.2
      have HX7 := hid (kept HX6.out hb7)
      have H19e := hid (kept H19d.out hb7)
      have H20e := hid (kept H20d.out hb7)
      have HBW7 := hid (bstep HBW6.out hb7)
      have HW19 := hid (HV19.out.below hb7)
      have HW20 := hid (HV20.out.below hb7)
      have HW22 := hid (H22.out.1.below hl7.2)
      have HOA7 := hid (HOA.out.below hb7)
      have HOB7 := hid (HOB.out.below hb7)
      have H22b := hid hl7.1
      clear hl7 hb7 H22 HX6 H19d H20d HBW6 HV19 HV20 HOA HOB cm HM6 HRA
      generalize (w7.alloc (.cells zeroC 28)).setRow w7.heap.size X22 = W7 at *
      generalize w7.heap.size = g22 at *
      have HRN : Hid (Calls Try.prog 29 #[.int .i64 kind, .agg XT, .int .u32 ci, .int .u32 xid, .slice a n c] W7 fun e w' => ∃ Y, e = .returned (.agg Y) ∧ Hid (BpV (ansM kind m ci) ((53, op1 kind) :: (54, ip4 xid) :: absO os) Y w' ∧ Below W7.heap.size W7 w')) := by
        have := refAnswer_any kind HCX.out.2.1 ci xid HCX.out.1 a c os W7 (HTV.out _ HBW7.out) (HV.out.below HBW7.out) HFN2.out
        rw [← HN.out] at this
        exact this
      go_upto_region 12 with (first
        | (refine wpList_load_row rfl 28 _ rfl g13 rfl 28 XT (0, 0) _ HX7.out Try.underlying28 rfl HIT.out ?_)
        | (go_at_call 29; refine HRN.out.mono ?_; rintro e w8 ⟨X23, rfl, H23⟩)
        | (refine wpList_alloc_to rfl 28 rfl zeroC (by kernel_rfl) ?_)
        | (refine wpList_store_row rfl 28 _ _ rfl w8.heap.size X23 rfl rfl 28 _ (heap_new w8 _) H23.out.1.info (by rw [H23.out.1.size]; rfl) H23.out.1.one ?_)
        | fail)
      have hl8 := box_laid w8 X23
      have hb8 := bstep H23.out.2 hl8.2
      have HQ8 : Hid (Mk4 w g13 g19 g20 g22 w8.heap.size XT X19 X20 X22 X23 ((w8.alloc (.cells zeroC 28)).setRow w8.heap.size X23)) := ⟨kept HX7.out hb8, kept H19e.out hb8, kept H20e.out hb8, kept H22b.out hb8, hl8.1, bstep HBW7.out hb8⟩
      have HVW : Hid (BpV (askM ⟨b0, b1, b2, b3, b4, b5⟩ xid secs ci) ((53, op1 kind) :: absO os) X19 ((w8.alloc (.cells zeroC 28)).setRow w8.heap.size X23) ∧ BpV (ansM kind m ci) ((53, op1 kind) :: (54, ip4 xid) :: absO os) X20 ((w8.alloc (.cells zeroC 28)).setRow w8.heap.size X23) ∧ BpV (askM ⟨b0, b1, b2, b3, b4, b5⟩ xid secs ci) ((53, op1 kind) :: absO os) X22 ((w8.alloc (.cells zeroC 28)).setRow w8.heap.size X23) ∧ BpV (ansM kind m ci) ((53, op1 kind) :: (54, ip4 xid) :: absO os) X23 ((w8.alloc (.cells zeroC 28)).setRow w8.heap.size X23) ∧ OwnO w3.heap.size ((w8.alloc (.cells zeroC 28)).setRow w8.heap.size X23) (.slice a1 n1 c1) Ea ∧ OwnO W4.heap.size ((w8.alloc (.cells zeroC 28)).setRow w8.heap.size X23) (.slice a2 n2 c2) Eb) := ⟨HW19.out.below hb8, HW20.out.below hb8, HW22.out.below hb8, H23.out.1.below hl8.2, HOA7.out.below hb8, HOB7.out.below hb8⟩
      clear hl8 hb8 H23 HX7 H19e H20e H22b HBW7 HW19 HW20 HW22 HOA7 HOB7 HRN
      generalize (w8.alloc (.cells zeroC 28)).setRow w8.heap.size X23 = W8 at *
      generalize w8.heap.size = g23 at *
      go_upto_region 13 with (first
        | (refine wpList_load_row rfl 28 _ rfl g19 rfl 28 X19 (0, 0) _ HQ8.out.h19 Try.underlying28 rfl HVW.out.1.info ?_)
        | (refine wpList_load_row rfl 28 _ rfl g22 rfl 28 X22 (0, 0) _ HQ8.out.h22 Try.underlying28 rfl HVW.out.2.2.1.info ?_)
        | (go_at_call 21; refine (bp_same HAM.out HVW.out.1 HVW.out.2.2.1).mono ?_; rintro e w9 ⟨rfl, HB9⟩)
        | fail)
      have HQ9 := hid (HQ8.out.keep HB9.out)
      have HVW9 : Hid (BpV (askM ⟨b0, b1, b2, b3, b4, b5⟩ xid secs ci) ((53, op1 kind) :: absO os) X19 w9 ∧ BpV (ansM kind m ci) ((53, op1 kind) :: (54, ip4 xid) :: absO os) X20 w9 ∧ BpV (askM ⟨b0, b1, b2, b3, b4, b5⟩ xid secs ci) ((53, op1 kind) :: absO os) X22 w9 ∧ BpV (ansM kind m ci) ((53, op1 kind) :: (54, ip4 xid) :: absO os) X23 w9 ∧ OwnO w3.heap.size w9 (.slice a1 n1 c1) Ea ∧ OwnO W4.heap.size w9 (.slice a2 n2 c2) Eb) := ⟨HVW.out.1.below HB9.out, HVW.out.2.1.below HB9.out, HVW.out.2.2.1.below HB9.out, HVW.out.2.2.2.1.below HB9.out, HVW.out.2.2.2.2.1.below HB9.out, HVW.out.2.2.2.2.2.below HB9.out⟩
      clear HQ8 HVW HB9
      go_upto_region 14 with (first
        | (refine wpList_load_row rfl 28 _ rfl g20 rfl 28 X20 (0, 0) _ HQ9.out.h20 Try.underlying28 rfl HVW9.out.2.1.info ?_)
        | (refine wpList_load_row rfl 28 _ rfl g23 rfl 28 X23 (0, 0) _ HQ9.out.h23 Try.underlying28 rfl HVW9.out.2.2.2.1.info ?_)
        | (go_at_call 21; refine (bp_same HNM.out HVW9.out.2.1 HVW9.out.2.2.2.1).mono ?_; rintro e w10 ⟨rfl, HB10⟩)
        | fail)
      have HQ10 := hid (HQ9.out.keep HB10.out)
      have HVX : Hid (BpV (askM ⟨b0, b1, b2, b3, b4, b5⟩ xid secs ci) ((53, op1 kind) :: absO os) X19 w10 ∧ BpV (askM ⟨b0, b1, b2, b3, b4, b5⟩ xid secs ci) ((53, op1 kind) :: absO os) X22 w10 ∧ OwnO w3.heap.size w10 (.slice a1 n1 c1) Ea ∧ OwnO W4.heap.size w10 (.slice a2 n2 c2) Eb) := ⟨HVW9.out.1.below HB10.out, HVW9.out.2.2.1.below HB10.out, HVW9.out.2.2.2.2.1.below HB10.out, HVW9.out.2.2.2.2.2.below HB10.out⟩
      clear HQ9 HVW9 HB10
      have HT10 : Hid (BpV m (absO tos) XT w10) := HTV.out _ HQ10.out.below
      have HSZ : Hid (X19.size = 18 ∧ X22.size = 18 ∧ XT.size = 18) := ⟨HVX.out.1.size, HVX.out.2.1.size, HT10.out.size⟩
      obtain ⟨S, hSd⟩ : ∃ S : World → Prop, S = fun w' => Hid (w'.heap[g13]? = some (.cells XT 28 (0, 0)) ∧ w'.heap[g19]? = some (.cells X19 28 (0, 0)) ∧ w'.heap[g22]? = some (.cells X22 28 (0, 0))) := ⟨_, rfl⟩
      have HS : Hid (∀ W, Mk4 w g13 g19 g20 g22 g23 XT X19 X20 X22 X23 W → S W) := fun W h => by rw [hSd]; exact ⟨h.h13, h.h19, h.h22⟩
      have HS13 : Hid (∀ W, S W → W.heap[g13]? = some (.cells XT 28 (0, 0))) := fun W h => by rw [hSd] at h; exact h.out.1
      have HS19 : Hid (∀ W, S W → W.heap[g19]? = some (.cells X19 28 (0, 0))) := fun W h => by rw [hSd] at h; exact h.out.2.1
      have HS22 : Hid (∀ W, S W → W.heap[g22]? = some (.cells X22 28 (0, 0))) := fun W h => by rw [hSd] at h; exact h.out.2.2
      have HST : Hid (∀ W W', Below W.heap.size W W' → S W → S W') := fun W W' hb h => by rw [hSd] at h ⊢; exact ⟨kept h.out.1 hb, kept h.out.2.1 hb, kept h.out.2.2 hb⟩
      have HTY1 : Hid (∀ W, Below w10.heap.size w10 W → Calls Try.prog 22 #[.agg X19] W fun e w' => e = .returned (.int .i64 (typG ((53, op1 kind) :: absO os))) ∧ Hid (Below W.heap.size W w')) := fun W hb => bp_type (HVX.out.1.below hb)
      have HTY2 : Hid (∀ W, Below w10.heap.size w10 W → Calls Try.prog 23 #[.agg X22] W fun e w' => e = .returned (.int .i64 (typG ((53, op1 kind) :: absO os))) ∧ Hid (Below W.heap.size W w')) := fun W hb => bp_refType (HVX.out.2.1.below hb)
      have HTY3 : Hid (∀ W, Below w10.heap.size w10 W → Calls Try.prog 22 #[.agg XT] W fun e w' => e = .returned (.int .i64 (typG (absO tos))) ∧ Hid (Below W.heap.size W w')) := fun W hb => bp_type (HT10.out.below hb)
      have HTY4 : Hid (∀ W, Below w10.heap.size w10 W → Calls Try.prog 23 #[.agg XT] W fun e w' => e = .returned (.int .i64 (typG (absO tos))) ∧ Hid (Below W.heap.size W w')) := fun W hb => bp_refType (HT10.out.below hb)
      generalize typG ((53, op1 kind) :: absO os) = T1 at *
      generalize typG (absO tos) = T2 at *
      have HS10 := hid (HS.out _ HQ10.out)
      have HB10d : Hid (Below w10.heap.size w10 w10.drew) := (Below.refl _ _).drew
      clear hSd HS
      refine wp_region_noPanic ?_
      refine wp_region_held_drew (S := S) (by kernel_rfl) (HST.out _ _ HB10d.out HS10.out) (fun hHeld => ?_)
      refine wpAnyH_take (i := 0) (oi := { dst := some 73, op := .move (.tmp 17), type := _, pos := _, after := _, guard := none }) (v := .bool true) rfl (by kernel_rfl) (by kernel_rfl) (by kernel_rfl) (fun _ _ _ h => h) (Or.inl ⟨by rfl, fun wq hSw => by go_simp⟩) (by assumption) ?_
      try simp only [Act.put, List.setIfInBounds_toArray, List.set_cons_zero, List.set_cons_succ]
      refine wpAnyH_take (i := 1) (oi := { dst := some 74, op := .unOp .not 4 (.tmp 73), type := _, pos := _, after := _, guard := none }) (v := .bool false) rfl (by kernel_rfl) (by kernel_rfl) (by kernel_rfl) (fun _ _ _ h => h) (Or.inl ⟨by rfl, fun wq hSw => by go_simp⟩) (by assumption) ?_
      try simp only [Act.put, List.setIfInBounds_toArray, List.set_cons_zero, List.set_cons_succ]
      refine wpAnyH_take (i := 2) (oi := { dst := some 75, op := .move (.tmp 74), type := _, pos := _, after := _, guard := none }) (v := .bool false) rfl (by kernel_rfl) (by kernel_rfl) (by kernel_rfl) (fun _ _ _ h => h) (Or.inl ⟨by rfl, fun wq hSw => by go_simp⟩) (by assumption) ?_
      try simp only [Act.put, List.setIfInBounds_toArray, List.set_cons_zero, List.set_cons_succ]
      refine wpAnyH_take (i := 3) (oi := { dst := some 76, op := .move (.tmp 21), type := _, pos := _, after := _, guard := some (2, false) }) (v := .bool true) rfl (by kernel_rfl) (by kernel_rfl) (by kernel_rfl) (fun _ _ _ h => h) (Or.inl ⟨by rfl, fun wq hSw => by go_simp⟩) (by assumption) ?_
      try simp only [Act.put, List.setIfInBounds_toArray, List.set_cons_zero, List.set_cons_succ]
      refine wpAnyH_take (i := 4) (oi := { dst := some 77, op := .unOp .not 4 (.tmp 76), type := _, pos := _, after := _, guard := some (2, false) }) (v := .bool false) rfl (by kernel_rfl) (by kernel_rfl) (by kernel_rfl) (fun _ _ _ h => h) (Or.inl ⟨by rfl, fun wq hSw => by go_simp⟩) (by assumption) ?_
      try simp only [Act.put, List.setIfInBounds_toArray, List.set_cons_zero, List.set_cons_succ]
      refine wpAnyH_take (i := 5) (oi := { dst := some 78, op := .pick (.tmp 75) (.const (.bool true)) (.tmp 77), type := _, pos := _, after := _, guard := none }) (v := .bool false) rfl (by kernel_rfl) (by kernel_rfl) (by kernel_rfl) (fun _ _ _ h => h) (Or.inl ⟨by rfl, fun wq hSw => by go_simp⟩) (by assumption) ?_
      try simp only [Act.put, List.setIfInBounds_toArray, List.set_cons_zero, List.set_cons_succ]
      refine wpAnyH_take (i := 6) (oi := { dst := some 79, op := .move (.tmp 78), type := _, pos := _, after := _, guard := none }) (v := .bool false) rfl (by kernel_rfl) (by kernel_rfl) (by kernel_rfl) (fun _ _ _ h => h) (Or.inl ⟨by rfl, fun wq hSw => by go_simp⟩) (by assumption) ?_
      try simp only [Act.put, List.setIfInBounds_toArray, List.set_cons_zero, List.set_cons_succ]
      refine wpAnyH_take (i := 7) (oi := { dst := some 80, op := .move (.tmp 24), type := _, pos := _, after := _, guard := some (6, false) }) (v := .bool true) rfl (by kernel_rfl) (by kernel_rfl) (by kernel_rfl) (fun _ _ _ h => h) (Or.inl ⟨by rfl, fun wq hSw => by go_simp⟩) (by assumption) ?_
      try simp only [Act.put, List.setIfInBounds_toArray, List.set_cons_zero, List.set_cons_succ]
      refine wpAnyH_take (i := 8) (oi := { dst := some 81, op := .unOp .not 4 (.tmp 80), type := _, pos := _, after := _, guard := some (6, false) }) (v := .bool false) rfl (by kernel_rfl) (by kernel_rfl) (by kernel_rfl) (fun _ _ _ h => h) (Or.inl ⟨by rfl, fun wq hSw => by go_simp⟩) (by assumption) ?_
      try simp only [Act.put, List.setIfInBounds_toArray, List.set_cons_zero, List.set_cons_succ]
      refine wpAnyH_take (i := 9) (oi := { dst := some 82, op := .pick (.tmp 79) (.const (.bool true)) (.tmp 81), type := _, pos := _, after := _, guard := none }) (v := .bool false) rfl (by kernel_rfl) (by kernel_rfl) (by kernel_rfl) (fun _ _ _ h => h) (Or.inl ⟨by rfl, fun wq hSw => by go_simp⟩) (by assumption) ?_
      try simp only [Act.put, List.setIfInBounds_toArray, List.set_cons_zero, List.set_cons_succ]
      refine wpAnyH_take (i := 10) (oi := { dst := some 83, op := .move (.tmp 82), type := _, pos := _, after := _, guard := none }) (v := .bool false) rfl (by kernel_rfl) (by kernel_rfl) (by kernel_rfl) (fun _ _ _ h => h) (Or.inl ⟨by rfl, fun wq hSw => by go_simp⟩) (by assumption) ?_
      try simp only [Act.put, List.setIfInBounds_toArray, List.set_cons_zero, List.set_cons_succ]
      refine wpAnyH_take (i := 11) (oi := { dst := some 84, op := .move (.tmp 25), type := _, pos := _, after := _, guard := some (10, false) }) (v := .bool true) rfl (by kernel_rfl) (by kernel_rfl) (by kernel_rfl) (fun _ _ _ h => h) (Or.inl ⟨by rfl, fun wq hSw => by go_simp⟩) (by assumption) ?_
      try simp only [Act.put, List.setIfInBounds_toArray, List.set_cons_zero, List.set_cons_succ]
      refine wpAnyH_take (i := 12) (oi := { dst := some 85, op := .unOp .not 4 (.tmp 84), type := _, pos := _, after := _, guard := some (10, false) }) (v := .bool false) rfl (by kernel_rfl) (by kernel_rfl) (by kernel_rfl) (fun _ _ _ h => h) (Or.inl ⟨by rfl, fun wq hSw => by go_simp⟩) (by assumption) ?_
      try simp only [Act.put, List.setIfInBounds_toArray, List.set_cons_zero, List.set_cons_succ]
      refine wpAnyH_take (i := 13) (oi := { dst := some 86, op := .pick (.tmp 83) (.const (.bool true)) (.tmp 85), type := _, pos := _, after := _, guard := none }) (v := .bool false) rfl (by kernel_rfl) (by kernel_rfl) (by kernel_rfl) (fun _ _ _ h => h) (Or.inl ⟨by rfl, fun wq hSw => by go_simp⟩) (by assumption) ?_
      try simp only [Act.put, List.setIfInBounds_toArray, List.set_cons_zero, List.set_cons_succ]
      refine wpAnyH_take (i := 14) (oi := { dst := some 87, op := .move (.tmp 86), type := _, pos := _, after := _, guard := none }) (v := .bool false) rfl (by kernel_rfl) (by kernel_rfl) (by kernel_rfl) (fun _ _ _ h => h) (Or.inl ⟨by rfl, fun wq hSw => by go_simp⟩) (by assumption) ?_
      try simp only [Act.put, List.setIfInBounds_toArray, List.set_cons_zero, List.set_cons_succ]
      refine wpAnyH_take (i := 15) (oi := { dst := some 88, op := .load 28 (.tmp 19), type := _, pos := _, after := _, guard := some (14, false) }) (v := .agg X19) rfl (by kernel_rfl) (by kernel_rfl) (by kernel_rfl) (fun _ _ _ h => h) (yields_bp (by rfl) (.tmp 19) rfl g19 rfl X19 HSZ.out.1 HS19.out) (by assumption) ?_
      try simp only [Act.put, List.setIfInBounds_toArray, List.set_cons_zero, List.set_cons_succ]
      refine wpAnyH_take (i := 17) (oi := { dst := some 90, op := .load 28 (.tmp 22), type := _, pos := _, after := _, guard := some (14, false) }) (v := .agg X22) rfl (by kernel_rfl) (by kernel_rfl) (by kernel_rfl) (fun _ _ _ h => h) (yields_bp (by rfl) (.tmp 22) rfl g22 rfl X22 HSZ.out.2.1 HS22.out) (by assumption) ?_
      try simp only [Act.put, List.setIfInBounds_toArray, List.set_cons_zero, List.set_cons_succ]
      refine wpAnyH_ready (rs := [16]) (by kernel_rfl) (by simp) ?_
      refine AllReadyH.cons (o := { dst := some 89, op := .call { callee := .value (.func 22), args := #[.tmp 88], argTypes := #[28] }, type := _, pos := _, after := _, guard := some (14, false) }) rfl (fun K hK => ?_) AllReadyH.nil
      go_simp
      refine (HTY1.out w10.drew HB10d.out).mono ?_
      rintro e w11 ⟨rfl, HB11⟩
      have HB11s := hid (HST.out _ _ HB11.out hHeld)
      refine hK.out _ _ HB11s.out (fun hHeld => ?_)
      clear hK
      try simp only [Act.put, List.setIfInBounds_toArray, List.set_cons_zero, List.set_cons_succ]
      have HC11 := hid (HB10d.out.trans (HB11.out.mono HB10d.out.size))
      refine wpAnyH_ready (rs := [18]) (by kernel_rfl) (by simp) ?_
      refine AllReadyH.cons (o := { dst := some 91, op := .call { callee := .value (.func 23), args := #[.tmp 90], argTypes := #[28] }, type := _, pos := _, after := _, guard := some (14, false) }) rfl (fun K hK => ?_) AllReadyH.nil
      go_simp
      refine (HTY2.out w11 HC11.out).mono ?_
      rintro e w12 ⟨rfl, HB12⟩
      have HB12s := hid (HST.out _ _ HB12.out hHeld)
      refine hK.out _ _ HB12s.out (fun hHeld => ?_)
      clear hK
      try simp only [Act.put, List.setIfInBounds_toArray, List.set_cons_zero, List.set_cons_succ]
      have HC12 := hid (HC11.out.trans (HB12.out.mono HC11.out.size))
      refine wpAnyH_take (i := 19) (oi := { dst := some 92, op := .binOp .neq 3 (.tmp 89) (.tmp 91) 3, type := _, pos := _, after := _, guard := some (14, false) }) (v := .bool false) rfl (by kernel_rfl) (by kernel_rfl) (by kernel_rfl) (fun _ _ _ h => h) (Or.inl ⟨by rfl, fun wq hSw => by go_simp⟩) (by assumption) ?_
      try simp only [Act.put, List.setIfInBounds_toArray, List.set_cons_zero, List.set_cons_succ]
      refine wpAnyH_take (i := 20) (oi := { dst := some 93, op := .pick (.tmp 87) (.const (.bool true)) (.tmp 92), type := _, pos := _, after := _, guard := none }) (v := .bool false) rfl (by kernel_rfl) (by kernel_rfl) (by kernel_rfl) (fun _ _ _ h => h) (Or.inl ⟨by rfl, fun wq hSw => by go_simp⟩) (by assumption) ?_
      try simp only [Act.put, List.setIfInBounds_toArray, List.set_cons_zero, List.set_cons_succ]
      refine wpAnyH_take (i := 21) (oi := { dst := some 94, op := .move (.tmp 93), type := _, pos := _, after := _, guard := none }) (v := .bool false) rfl (by kernel_rfl) (by kernel_rfl) (by kernel_rfl) (fun _ _ _ h => h) (Or.inl ⟨by rfl, fun wq hSw => by go_simp⟩) (by assumption) ?_
      try simp only [Act.put, List.setIfInBounds_toArray, List.set_cons_zero, List.set_cons_succ]
      refine wpAnyH_take (i := 22) (oi := { dst := some 95, op := .load 28 (.tmp 13), type := _, pos := _, after := _, guard := some (21, false) }) (v := .agg XT) rfl (by kernel_rfl) (by kernel_rfl) (by kernel_rfl) (fun _ _ _ h => h) (yields_bp (by rfl) (.tmp 13) rfl g13 rfl XT HSZ.out.2.2 HS13.out) (by assumption) ?_
      try simp only [Act.put, List.setIfInBounds_toArray, List.set_cons_zero, List.set_cons_succ]
      refine wpAnyH_take (i := 24) (oi := { dst := some 97, op := .load 28 (.tmp 13), type := _, pos := _, after := _, guard := some (21, false) }) (v := .agg XT) rfl (by kernel_rfl) (by kernel_rfl) (by kernel_rfl) (fun _ _ _ h => h) (yields_bp (by rfl) (.tmp 13) rfl g13 rfl XT HSZ.out.2.2 HS13.out) (by assumption) ?_
      try simp only [Act.put, List.setIfInBounds_toArray, List.set_cons_zero, List.set_cons_succ]
      refine wpAnyH_ready (rs := [23]) (by kernel_rfl) (by simp) ?_
      refine AllReadyH.cons (o := { dst := some 96, op := .call { callee := .value (.func 22), args := #[.tmp 95], argTypes := #[28] }, type := _, pos := _, after := _, guard := some (21, false) }) rfl (fun K hK => ?_) AllReadyH.nil
      go_simp
      refine (HTY3.out w12 HC12.out).mono ?_
      rintro e w13 ⟨rfl, HB13⟩
      have HB13s := hid (HST.out _ _ HB13.out hHeld)
      refine hK.out _ _ HB13s.out (fun hHeld => ?_)
      clear hK
      try simp only [Act.put, List.setIfInBounds_toArray, List.set_cons_zero, List.set_cons_succ]
      have HC13 := hid (HC12.out.trans (HB13.out.mono HC12.out.size))
      refine wpAnyH_ready (rs := [25]) (by kernel_rfl) (by simp) ?_
      refine AllReadyH.cons (o := { dst := some 98, op := .call { callee := .value (.func 23), args := #[.tmp 97], argTypes := #[28] }, type := _, pos := _, after := _, guard := some (21, false) }) rfl (fun K hK => ?_) AllReadyH.nil
      go_simp
      refine (HTY4.out w13 HC13.out).mono ?_
      rintro e w14 ⟨rfl, HB14⟩
      have HB14s := hid (HST.out _ _ HB14.out hHeld)
      refine hK.out _ _ HB14s.out (fun hHeld => ?_)
      clear hK
      try simp only [Act.put, List.setIfInBounds_toArray, List.set_cons_zero, List.set_cons_succ]
      have HC14 := hid (HC13.out.trans (HB14.out.mono HC13.out.size))
      refine wpAnyH_take (i := 26) (oi := { dst := some 99, op := .binOp .neq 3 (.tmp 96) (.tmp 98) 3, type := _, pos := _, after := _, guard := some (21, false) }) (v := .bool false) rfl (by kernel_rfl) (by kernel_rfl) (by kernel_rfl) (fun _ _ _ h => h) (Or.inl ⟨by rfl, fun wq hSw => by go_simp⟩) (by assumption) ?_
      try simp only [Act.put, List.setIfInBounds_toArray, List.set_cons_zero, List.set_cons_succ]
      refine wpAnyH_take (i := 27) (oi := { dst := some 100, op := .pick (.tmp 94) (.const (.bool true)) (.tmp 99), type := _, pos := _, after := _, guard := none }) (v := .bool false) rfl (by kernel_rfl) (by kernel_rfl) (by kernel_rfl) (fun _ _ _ h => h) (Or.inl ⟨by rfl, fun wq hSw => by go_simp⟩) (by assumption) ?_
      try simp only [Act.put, List.setIfInBounds_toArray, List.set_cons_zero, List.set_cons_succ]
      refine wpAnyH_done (by kernel_rfl) ?_ _
      refine NoPanic.normal ?_
      have HQ14 := hid (HQ10.out.keep HC14.out)
      have k19 : w14.cell? ⟨g19, 17, none⟩ = some (.slice a1 n1 c1) := (cell_of_heap HQ14.out.h19 17).trans (by rw [HY19.out]; rfl)
      have k20 : w14.cell? ⟨g20, 17, none⟩ = some (.slice a2 n2 c2) := (cell_of_heap HQ14.out.h20 17).trans (by rw [HY20.out]; rfl)
      have HOW : Hid (Calls Try.prog 24 #[.slice a1 n1 c1, .slice a2 n2 c2] w14 fun e w' => e = .returned (.bool true) ∧ Hid (Below w.heap.size w14 w')) := by
        have oa := HVX.out.2.2.1.below HC14.out
        have ob := HVX.out.2.2.2.below HC14.out
        have hla : ∀ p ∈ Ea, p.1.2.length ≤ 140737488351232 := fun p hp => by
          have : p.1 ∈ (53, op1 kind) :: absO os := by rw [← HEA.out]; exact List.mem_map.2 ⟨p, hp, rfl⟩
          rcases List.mem_cons.1 this with h | h
          · rw [h]; simp [op1]
          · obtain ⟨o, ho, e⟩ := List.mem_map.1 h
            rw [← e]
            exact HLEN.out o ho
        have hlb : ∀ p ∈ Eb, p.1.2.length ≤ 140737488351232 := fun p hp => by
          have : p.1 ∈ (53, op1 kind) :: (54, ip4 xid) :: absO os := by rw [← HEB.out]; exact List.mem_map.2 ⟨p, hp, rfl⟩
          rcases List.mem_cons.1 this with h | h
          · rw [h]; simp [op1]
          · rcases List.mem_cons.1 h with h | h
            · rw [h]; simp [ip4]
            · obtain ⟨o, ho, e⟩ := List.mem_map.1 h
              rw [← e]
              exact HLEN.out o ho
        have na : Ea.length = os.length + 1 := by
          have := congrArg List.length HEA.out
          simpa [codes, absO] using this
        have nb : Eb.length = os.length + 2 := by
          have := congrArg List.length HEB.out
          simpa [codes, absO] using this
        have hf2 := HFN2.out
        have l1 : w.heap.size ≤ w3.heap.size := by have := HG2.out; have := HGA.out; have := HS3.out; omega
        have l2 : w.heap.size ≤ W4.heap.size := by have := HS4.out; have := HBL4.out.size; omega
        obtain ⟨_, _, e1, _⟩ := oa.form
        obtain ⟨_, _, e2, _⟩ := ob.form
        simp only [Value.slice.injEq] at e1 e2
        exact owned16_any w.heap.size a1 a2 n1 n2 c1 c2 Ea Eb w14 e1.2.1 e2.2.1 (OwT.of oa ob l1 l2 HLA.out hla hlb (by omega) HQ14.out.below.size)
      have HBQ := hid HQ14.out.below
      go_wp2_with (first
        | (go_at_call 24; refine HOW.out.mono ?_; rintro e w15 ⟨rfl, HB15⟩)
        | fail)
      go_ret
      exact ⟨rfl, HBQ.out.trans HB15.out⟩
end Go.Proofs.Ytoifblndpcelkaa
