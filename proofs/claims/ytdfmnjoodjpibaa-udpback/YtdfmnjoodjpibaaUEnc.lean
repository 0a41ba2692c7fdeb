/-
  udp.Encode.
-/
import Derived.Test.YtdfmnjoodjpibaaUSum
import Derived.Test.YtdfmnjoodjpibaaBRowC
import Derived.Deep.RegionHeld3
namespace Go.Proofs.Ytdfmnjoodjpibaa
open Go.RowKit
set_option linter.all false

/-- a datagram's bytes, with a sum. -/
def datL (s d su : Int) (zs : List Int) : List Int := op2 s ++ op2 d ++ op2 (8 + zs.length) ++ op2 su ++ zs
theorem datL_len (s d su : Int) (zs : List Int) : (datL s d su zs).length = 8 + zs.length := by simp [datL, op2]; omega
theorem datL_bd (s d su : Int) {zs : List Int} (h : ∀ z, z ∈ zs → 0 ≤ z ∧ z ≤ 255) : ∀ z, z ∈ datL s d su zs → 0 ≤ z ∧ z ≤ 255 := fun z hz => by
  simp only [datL, List.mem_append] at hz
  rcases hz with (((hz | hz) | hz) | hz) | hz
  · exact op2_bd _ z hz
  · exact op2_bd _ z hz
  · exact op2_bd _ z hz
  · exact op2_bd _ z hz
  · exact h z hz
theorem datL_sum (s d u su : Int) (zs : List Int) : splice (datL s d u zs) 6 (op2 su) = datL s d su zs := rfl
/-- the sum that is written. -/
def encS (src dst s d : Int) (zs : List Int) : Int := if usum src dst (datL s d 0 zs) = 0 then 65535 else usum src dst (datL s d 0 zs)
/-- the first error. -/
def encE (s d : Int) (n : Nat) : Int := if (portB s && portB d) = false then 1 else if d = 0 then 120 else if 1472 < n then 2 else 0
/-- the answer's bytes. -/
def encB (src dst s d : Int) (zs : List Int) : List Int := if encE s d zs.length = 0 then datL s d (encS src dst s d zs) zs else []

set_option maxHeartbeats 400000 in
theorem encode_arg (src dst s d : Int) (v : Value) (w : World) (h : (portB s && portB d) = false) :
    Calls Try.prog 10 #[.int .u32 src, .int .u32 dst, .agg #[.int .i64 s, .int .i64 d, v]] w fun e w' => e = .returned (.tuple #[.slice none 0 0, .int .i64 1]) ∧ Below w.heap.size w w' := by
  have P1 : Hid (∀ w, _) := fun w => isPort_any s w
  have P2 : Hid (∀ w, _) := fun w => isPort_any d w
  generalize portB s = b1 at *
  generalize portB d = b2 at *
  cases b1 <;> cases b2
  all_goals first | (simp at h; done) | skip
  all_goals
    go_enter Try.func10, Try.ntmps10
    go_wp2_with (first
      | (go_at_call 19; (with_reducible refine (P1.out _).mono ?_); rintro e w1 ⟨rfl, hw⟩; subst w1)
      | (go_at_call 19; (with_reducible refine (P2.out _).mono ?_); rintro e w1 ⟨rfl, hw⟩; subst w1)
      | fail)
    go_ret2
    exact ⟨rfl, bpush (Below.refl _ _) _⟩
set_option maxHeartbeats 400000 in
theorem encode_zero (src dst s : Int) (v : Value) (w : World) (h : portB s = true) :
    Calls Try.prog 10 #[.int .u32 src, .int .u32 dst, .agg #[.int .i64 s, .int .i64 0, v]] w fun e w' => e = .returned (.tuple #[.slice none 0 0, .int .i64 120]) ∧ Below w.heap.size w w' := by
  have P1 : Hid (∀ w, _) := fun w => isPort_any s w
  have P2 : Hid (∀ w, _) := fun w => isPort_any 0 w
  have h0 : portB 0 = true := rfl
  rw [h] at P1
  rw [h0] at P2
  clear h h0
  go_enter Try.func10, Try.ntmps10
  go_wp2_with (first
      | (go_at_call 19; (with_reducible refine (P1.out _).mono ?_); rintro e w1 ⟨rfl, hw⟩; subst w1)
      | (go_at_call 19; (with_reducible refine (P2.out _).mono ?_); rintro e w1 ⟨rfl, hw⟩; subst w1)
      | fail)
  go_ret2
  exact ⟨rfl, bpush (Below.refl _ _) _⟩
set_option maxHeartbeats 400000 in
theorem encode_long (src dst s d : Int) (a : Option Addr) (n c : Nat) (w : World) (h : portB s = true) (h2 : portB d = true) (h3 : ¬ d = 0) (h4 : 1472 < n) :
    Calls Try.prog 10 #[.int .u32 src, .int .u32 dst, .agg #[.int .i64 s, .int .i64 d, .slice a n c]] w fun e w' => e = .returned (.tuple #[.slice none 0 0, .int .i64 2]) ∧ Below w.heap.size w w' := by
  have P1 : Hid (∀ w, _) := fun w => isPort_any s w
  have P2 : Hid (∀ w, _) := fun w => isPort_any d w
  rw [h] at P1
  rw [h2] at P2
  clear h h2
  have h5 : (1472 : Int) < (n : Int) := by omega
  have h6 : (d == 0) = false := by simpa using h3
  go_enter Try.func10, Try.ntmps10
  go_wp2_with (first
      | (go_at_call 19; (with_reducible refine (P1.out _).mono ?_); rintro e w1 ⟨rfl, hw⟩; subst w1)
      | (go_at_call 19; (with_reducible refine (P2.out _).mono ?_); rintro e w1 ⟨rfl, hw⟩; subst w1)
      | fail)
  go_ret2
  exact ⟨rfl, bpush (Below.refl _ _) _⟩

/-- the bare datagram. -/
theorem joined_dat (V : World) (s d : Int) (pt : Part) (hok : pt.ok V) (hl : pt.zs.length ≤ 1472) :
    Calls Try.prog 20 #[.slice (some ⟨V.heap.size + 4, 0, none⟩) 5 5] (((((V.alloc (.cells (u8s (op2 s)).toArray 5)).alloc (.cells (u8s (op2 d)).toArray 5)).alloc (.cells (u8s (op2 (8 + pt.zs.length))).toArray 5)).alloc (.cells (u8s (op2 0)).toArray 5)).alloc (.cells #[.slice (some ⟨V.heap.size, 0, none⟩) 2 2, .slice (some ⟨V.heap.size + 1, 0, none⟩) 2 2, .slice (some ⟨V.heap.size + 2, 0, none⟩) 2 2, .slice (some ⟨V.heap.size + 3, 0, none⟩) 2 2, pt.val] 24))
      fun e w' => ∃ a n c, e = .returned (.slice a n c) ∧ Ans V w' (datL s d 0 pt.zs) a n c := by
  have hh := (((((Holds.nil V).push (.cells (u8s (op2 s)).toArray 5)).push (.cells (u8s (op2 d)).toArray 5)).push (.cells (u8s (op2 (8 + pt.zs.length))).toArray 5)).push (.cells (u8s (op2 0)).toArray 5)).push (.cells #[.slice (some ⟨V.heap.size, 0, none⟩) 2 2, .slice (some ⟨V.heap.size + 1, 0, none⟩) 2 2, .slice (some ⟨V.heap.size + 2, 0, none⟩) 2 2, .slice (some ⟨V.heap.size + 3, 0, none⟩) 2 2, pt.val] 24)
  simp only [World.size_alloc] at hh
  have bb := bpush (bpush (bpush (bpush (bpush (Below.refl _ V) (.cells (u8s (op2 s)).toArray 5)) (.cells (u8s (op2 d)).toArray 5)) (.cells (u8s (op2 (8 + pt.zs.length))).toArray 5)) (.cells (u8s (op2 0)).toArray 5)) (.cells #[.slice (some ⟨V.heap.size, 0, none⟩) 2 2, .slice (some ⟨V.heap.size + 1, 0, none⟩) 2 2, .slice (some ⟨V.heap.size + 2, 0, none⟩) 2 2, .slice (some ⟨V.heap.size + 3, 0, none⟩) 2 2, pt.val] 24)
  have HJ := joined5 _ (V.heap.size + 4) ⟨some ⟨V.heap.size, 0, none⟩, 2, op2 s⟩ ⟨some ⟨V.heap.size + 1, 0, none⟩, 2, op2 d⟩ ⟨some ⟨V.heap.size + 2, 0, none⟩, 2, op2 (8 + pt.zs.length)⟩ ⟨some ⟨V.heap.size + 3, 0, none⟩, 2, op2 0⟩ pt
    (Part.of_row (hh.at 4 _ _ rfl) (by simp [op2]) (op2_bd _)) (Part.of_row (hh.at 3 _ _ rfl) (by simp [op2]) (op2_bd _)) (Part.of_row (hh.at 2 _ _ rfl) (by simp [op2]) (op2_bd _)) (Part.of_row (hh.at 1 _ _ rfl) (by simp [op2]) (op2_bd _)) (Part.ok_below hok bb) (hh.at 0 _ _ rfl) (by simp [op2]; omega)
  refine HJ.mono ?_
  rintro e w' ⟨a, n, c, rfl, an⟩
  refine ⟨a, n, c, rfl, an.1, fun b hb => ?_, bstep bb an.2.2⟩
  have h1 := an.2.1 b hb
  have h2 := bb.size
  omega

set_option maxRecDepth 20000 in
set_option maxHeartbeats 2000000 in
theorem encode_ok (src dst s d : Int) (pt : Part) (w : World) (s0 : 0 ≤ src ∧ src ≤ 4294967295) (d0 : 0 ≤ dst ∧ dst ≤ 4294967295) (h : portB s = true) (h2 : portB d = true) (h3 : ¬ d = 0) (hok : pt.ok w) (h4 : pt.zs.length ≤ 1472) :
    Calls Try.prog 10 #[.int .u32 src, .int .u32 dst, .agg #[.int .i64 s, .int .i64 d, pt.val]] w fun e w' => ∃ a n c, e = .returned (.tuple #[.slice a n c, .int .i64 0]) ∧ Ans w w' (datL s d (encS src dst s d pt.zs) pt.zs) a n c := by
  have P1 : Hid (∀ w, _) := fun w => isPort_any s w
  have P2 : Hid (∀ w, _) := fun w => isPort_any d w
  have hps : 0 ≤ s ∧ s ≤ 65535 := by simpa [portB] using h
  have hpd : 0 ≤ d ∧ d ≤ 65535 := by simpa [portB] using h2
  rw [h] at P1
  rw [h2] at P2
  clear h h2
  have h5 : ¬ (1472 : Int) < (pt.zs.length : Int) := by omega
  have h6 : (d == 0) = false := by simpa using h3
  have W1 : Hid (∀ w, _) := fun w => word_any s w hps.1 (by omega)
  have W2 : Hid (∀ w, _) := fun w => word_any d w hpd.1 (by omega)
  have W3 : Hid (∀ w, _) := fun w => word_any (8 + pt.zs.length) w (by omega) (by omega)
  have W4 : Hid (∀ w, _) := fun w => word_any 0 w (by omega) (by omega)
  have HJ : Hid (∀ V : World, Below w.heap.size w V → _) := fun V hb => joined_dat V s d pt (Part.ok_below hok hb) h4
  have HS : Hid (∀ (V : World) (a : Option Addr) (n c : Nat), Row V 5 (.slice a n c) (u8s (datL s d 0 pt.zs)) → Calls Try.prog 22 #[.int .u32 src, .int .u32 dst, .slice a n c] V fun e w' => e = .returned (.int .u16 (usum src dst (datL s d 0 pt.zs))) ∧ Below V.heap.size V w') := fun V a n c hr => by
    obtain ⟨q, e1, e2, e3⟩ := hr.part (datL_bd s d 0 hok.1)
    have h := sumOf_any src dst q V s0 d0 e3 (by rw [e2, datL_len]; omega)
    rw [← e1, e2] at h
    exact h
  have hsb := usum_bd src dst (datL_bd s d 0 hok.1)
  have W5 : Hid (∀ w, _) := fun w => word_any (encS src dst s d pt.zs) w (by unfold encS; split <;> omega) (by unfold encS; split <;> omega)
  have hse : IntKind.i64.wrap (encS src dst s d pt.zs) = encS src dst s d pt.zs := by unfold encS; simp only [IntKind.wrap_i64]; split <;> omega
  have HEB := hid (op2_bd (encS src dst s d pt.zs))
  have HLN : Hid ((datL s d 0 pt.zs).length = 8 + pt.zs.length) := datL_len _ _ _ _
  have HEN : Hid (splice (datL s d 0 pt.zs) 6 (op2 (encS src dst s d pt.zs)) = datL s d (encS src dst s d pt.zs) pt.zs) := datL_sum _ _ _ _ _
  have hk : IntKind.i64.wrap (8 + (pt.zs.length : Int)) = 8 + (pt.zs.length : Int) := by simp only [IntKind.wrap_i64]; omega
  have hES : Hid (encS src dst s d pt.zs = if usum src dst (datL s d 0 pt.zs) = 0 then 65535 else usum src dst (datL s d 0 pt.zs)) := rfl
  have HXL : Hid ((op2 (encS src dst s d pt.zs)).length = 2) := rfl
  clear hps hpd hok s0 d0 hsb
  unfold Part.val at *
  generalize datL s d (encS src dst s d pt.zs) pt.zs = DL at *
  generalize datL s d 0 pt.zs = DB at *
  generalize encS src dst s d pt.zs = ES at *
  generalize usum src dst DB = US at *
  generalize op2 s = X1 at *
  generalize op2 d = X2 at *
  generalize op2 (8 + (pt.zs.length : Int)) = X3 at *
  generalize op2 0 = X4 at *
  generalize op2 ES = X5 at *
  generalize pt.zs.length = l at *
  generalize pt.a = pa at *
  generalize pt.c = pc at *
  go_enter Try.func10, Try.ntmps10
  go_wp2_with (first
      | (go_at_call 19; (with_reducible refine (P1.out _).mono ?_); rintro e w1 ⟨rfl, hw⟩; subst w1)
      | (go_at_call 19; (with_reducible refine (P2.out _).mono ?_); rintro e w1 ⟨rfl, hw⟩; subst w1)
      | fail)
  have HB0 : Hid (Below w.heap.size w (w.alloc (.cells #[.int .i64 s, .int .i64 d, .slice pa l pc] 26)).drew) := (bpush (Below.refl _ _) _).drew
  have HCC : Hid (∀ w', Below (w.alloc (.cells #[.int .i64 s, .int .i64 d, .slice pa l pc] 26)).heap.size (w.alloc (.cells #[.int .i64 s, .int .i64 d, .slice pa l pc] 26)) w' → ∀ q, w'.cell? ⟨w.heap.size, q, none⟩ = (#[.int .i64 s, .int .i64 d, .slice pa l pc] : Array Value)[q]?) := fun w' hb q => cell_of_heap (kept (heap_new _ _) hb) q
  generalize w.alloc (.cells #[.int .i64 s, .int .i64 d, .slice pa l pc] 26) = W0 at *
  go_region_held3 (fun w' => ∀ q, w'.cell? ⟨w.heap.size, q, none⟩ = (#[.int .i64 s, .int .i64 d, .slice pa l pc] : Array Value)[q]?) (first | assumption | (refine HCC.out _ ?_; repeat (first | exact Below.refl _ _ | refine bpush ?_ _ | refine Below.drew ?_))) (first
    | (go_at_call 21; (with_reducible refine (W1.out _).mono ?_); rintro e w1 ⟨rfl, hw⟩; subst w1; clear W1)
    | (go_at_call 21; (with_reducible refine (W2.out _).mono ?_); rintro e w1 ⟨rfl, hw⟩; subst w1; clear W2)
    | (go_at_call 21; (with_reducible refine (W3.out _).mono ?_); rintro e w1 ⟨rfl, hw⟩; subst w1; clear W3)
    | (go_at_call 21; (with_reducible refine (W4.out _).mono ?_); rintro e w1 ⟨rfl, hw⟩; subst w1; clear W4)
    | (go_at_call 20; refine (HJ.out W0.drew HB0.out).mono ?_; rintro e w1 ⟨a1, n1, c1, rfl, an⟩; have hc1 := HCC.out w1 ((Below.refl _ _).drew.trans (an.2.2)))
    | fail)
  have HR1 := hid an.1
  have HB1 := hid (HB0.out.trans (an.2.2.mono HB0.out.size))
  have HF1 : Hid (∀ b, (Value.slice a1 n1 c1).ownBlock = some b → w.heap.size ≤ b) := fun b hb => by have := an.2.1 b hb; have := HB0.out.size; omega
  clear an hc1 HCC HJ
  clear HB0
  obtain ⟨g, hg, hn1, hc8⟩ := HR1.out.addr (by rw [u8s_len, HLN.out]; omega)
  rw [u8s_len, HLN.out] at hn1
  subst hg
  have hc8' : 8 ≤ c1 := by omega
  have q1 : (8 : Int) ≤ (c1 : Int) := by omega
  have q2 : ¬ c1 = 6 := by omega
  have HN1 := hid hn1
  clear hn1 hc8
  go_wp2_with fail
  refine (HS.out _ _ _ _ HR1.out).mono ?_
  rintro e w2 ⟨rfl, hb2⟩
  have HR2 := hid (HR1.out.below hb2)
  have HB2 := hid (bstep HB1.out hb2)
  clear hb2 HR1 HB1
  have hb3 : Below w2.heap.size w2 (w2.alloc (.cells (u8s X5).toArray 5)).drew := (bpush (Below.refl _ _) _).drew
  obtain ⟨w3, hrun, row3, but3⟩ := Row.copy (HR2.out.below hb3) ⟨some ⟨w2.heap.size, 0, none⟩, 2, X5⟩ (by exact Part.of_row (w := (w2.alloc (.cells (u8s X5).toArray 5)).drew) (heap_new w2.drew _) (by rw [HXL.out]; omega) HEB.out) (fun e => by have := HXL.out; simp only at e; rw [e] at this; simp at this) 6 2 (c1 - 6) (by simp only [HXL.out]; omega) (by simp only [HXL.out, HLN.out]; omega) 3
  simp only [HEN.out] at row3
  have HRUN := hid hrun
  simp only [Part.val, HXL.out] at HRUN
  have HR3 := hid row3
  have HB3 := hid (bbut (bstep HB2.out hb3) but3 (HF1.out g rfl))
  clear hrun row3 but3 hb3 HR2 HB2
  by_cases hu : US = 0
  · have he : ES = 65535 := by rw [hES.out, if_pos hu]
    subst hu
    subst he
    clear hES
    go_wp2
    go_region_held3 (fun w' => True) (exact trivial) (first
      | (refine step_copy_run rfl _ _ 24 24 rfl _ _ rfl rfl HRUN.out ?_)
      | (go_at_call 21; (with_reducible refine (W5.out _).mono ?_); rintro e w1 ⟨rfl, hw⟩; subst w1)
      | fail)
    go_wp2
    go_ret2
    exact ⟨_, _, _, rfl, HR3.out, HF1.out, HB3.out⟩
  · have he : ES = US := by rw [hES.out, if_neg hu]
    subst he
    clear hES
    go_wp2
    go_region_held3 (fun w' => True) (exact trivial) (first
      | (refine step_copy_run rfl _ _ 24 24 rfl _ _ rfl rfl HRUN.out ?_)
      | (go_at_call 21; (with_reducible refine (W5.out _).mono ?_); rintro e w1 ⟨rfl, hw⟩; subst w1)
      | fail)
    go_wp2
    go_ret2
    exact ⟨_, _, _, rfl, HR3.out, HF1.out, HB3.out⟩

theorem encode_u (src dst s d : Int) (pt : Part) (w : World) (s0 : 0 ≤ src ∧ src ≤ 4294967295) (d0 : 0 ≤ dst ∧ dst ≤ 4294967295) (hok : pt.ok w) :
    Calls Try.prog 10 #[.int .u32 src, .int .u32 dst, .agg #[.int .i64 s, .int .i64 d, pt.val]] w fun e w' => ∃ a n c, e = .returned (.tuple #[.slice a n c, .int .i64 (encE s d pt.zs.length)]) ∧ Ans w w' (encB src dst s d pt.zs) a n c := by
  unfold encB encE
  by_cases h1 : (portB s && portB d) = false
  · rw [if_pos h1, if_neg (by decide)]
    exact (encode_arg src dst s d _ w h1).mono fun e w' h => ⟨_, _, _, h.1, ans_nil h.2⟩
  · rw [if_neg h1]
    have h2 : portB s = true ∧ portB d = true := by simpa using h1
    by_cases h3 : d = 0
    · subst h3
      rw [if_pos rfl, if_neg (by decide)]
      exact (encode_zero src dst s _ w h2.1).mono fun e w' h => ⟨_, _, _, h.1, ans_nil h.2⟩
    · rw [if_neg h3]
      by_cases h4 : 1472 < pt.zs.length
      · rw [if_pos h4, if_neg (by decide)]
        exact (encode_long src dst s d _ _ _ w h2.1 h2.2 h3 h4).mono fun e w' h => ⟨_, _, _, h.1, ans_nil h.2⟩
      · rw [if_neg h4, if_pos rfl]
        exact encode_ok src dst s d pt w s0 d0 h2.1 h2.2 h3 hok (by omega)
end Go.Proofs.Ytdfmnjoodjpibaa
