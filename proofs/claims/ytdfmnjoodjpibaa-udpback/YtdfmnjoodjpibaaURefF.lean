/-
  The document's Encode, whole; Same.
-/
import Derived.Test.YtdfmnjoodjpibaaURefE
namespace Go.Proofs.Ytdfmnjoodjpibaa
open Go.RowKit
set_option linter.all false

set_option maxHeartbeats 1000000 in
theorem refEncode_arg (src dst s d : Int) (v : Value) (w : World) (h : (portB s && portB d) = false) :
    Calls Try.prog 8 #[.int .u32 src, .int .u32 dst, .agg #[.int .i64 s, .int .i64 d, v]] w fun e w' => e = .returned (.tuple #[.slice none 0 0, .int .i64 1]) ∧ Below w.heap.size w w' := by
  have h' : s < 0 ∨ 65535 < s ∨ d < 0 ∨ 65535 < d := by
    simp only [portB, Bool.and_eq_false_iff, decide_eq_false_iff_not] at h
    omega
  clear h
  by_cases h1 : s < 0
  · clear h'
    go_enter Try.func8, Try.ntmps8
    go_wp2
    go_ret2
    exact ⟨rfl, bpush (Below.refl _ _) _⟩
  · by_cases h2 : 65535 < s
    · clear h'
      go_enter Try.func8, Try.ntmps8
      go_wp2
      go_ret2
      exact ⟨rfl, bpush (Below.refl _ _) _⟩
    · by_cases h3 : d < 0
      · clear h'
        go_enter Try.func8, Try.ntmps8
        go_wp2
        go_ret2
        exact ⟨rfl, bpush (Below.refl _ _) _⟩
      · have h4 : 65535 < d := by omega
        clear h'
        go_enter Try.func8, Try.ntmps8
        go_wp2
        go_ret2
        exact ⟨rfl, bpush (Below.refl _ _) _⟩
set_option maxHeartbeats 1000000 in
theorem refEncode_zero (src dst s : Int) (v : Value) (w : World) (h : portB s = true) :
    Calls Try.prog 8 #[.int .u32 src, .int .u32 dst, .agg #[.int .i64 s, .int .i64 0, v]] w fun e w' => e = .returned (.tuple #[.slice none 0 0, .int .i64 120]) ∧ Below w.heap.size w w' := by
  have hps : 0 ≤ s ∧ s ≤ 65535 := by simpa [portB] using h
  obtain ⟨p1, p2⟩ := hps
  clear h
  have p3 : ¬ s < 0 := by omega
  have p4 : ¬ 65535 < s := by omega
  go_enter Try.func8, Try.ntmps8
  go_wp2
  go_ret2
  exact ⟨rfl, bpush (Below.refl _ _) _⟩
set_option maxHeartbeats 1000000 in
theorem refEncode_long (src dst s d : Int) (a : Option Addr) (n c : Nat) (w : World) (h : portB s = true) (h2 : portB d = true) (h3 : ¬ d = 0) (h4 : 1472 < n) :
    Calls Try.prog 8 #[.int .u32 src, .int .u32 dst, .agg #[.int .i64 s, .int .i64 d, .slice a n c]] w fun e w' => e = .returned (.tuple #[.slice none 0 0, .int .i64 2]) ∧ Below w.heap.size w w' := by
  have hps : 0 ≤ s ∧ s ≤ 65535 := by simpa [portB] using h
  have hpd : 0 ≤ d ∧ d ≤ 65535 := by simpa [portB] using h2
  obtain ⟨p1, p2⟩ := hps
  obtain ⟨p5, p6⟩ := hpd
  clear h h2
  have p3 : ¬ s < 0 := by omega
  have p4 : ¬ 65535 < s := by omega
  have p7 : ¬ d < 0 := by omega
  have p8 : ¬ 65535 < d := by omega
  have h5 : (1472 : Int) < (n : Int) := by omega
  have h6 : (d == 0) = false := by simpa using h3
  go_enter Try.func8, Try.ntmps8
  go_wp2
  go_ret2
  exact ⟨rfl, bpush (Below.refl _ _) _⟩

set_option maxRecDepth 20000 in
set_option maxHeartbeats 2000000 in
theorem refEncode_ok (src dst s d : Int) (pt : Part) (w : World) (s0 : 0 ≤ src ∧ src ≤ 4294967295) (d0 : 0 ≤ dst ∧ dst ≤ 4294967295) (h : portB s = true) (h2 : portB d = true) (h3 : ¬ d = 0) (hok : pt.ok w) (h4 : pt.zs.length ≤ 1472) :
    Calls Try.prog 8 #[.int .u32 src, .int .u32 dst, .agg #[.int .i64 s, .int .i64 d, pt.val]] w fun e w' => ∃ a n c, e = .returned (.tuple #[.slice a n c, .int .i64 0]) ∧ Ans w w' (datL s d (encS src dst s d pt.zs) pt.zs) a n c := by
  have hps : 0 ≤ s ∧ s ≤ 65535 := by simpa [portB] using h
  have hpd : 0 ≤ d ∧ d ≤ 65535 := by simpa [portB] using h2
  have hsb := usum_bd src dst (datL_bd s d 0 hok.1)
  have hes : 0 ≤ encS src dst s d pt.zs ∧ encS src dst s d pt.zs ≤ 65535 := by unfold encS; split <;> omega
  have L1 : Hid (∀ W, Below w.heap.size w W → _) := fun W hb => refLaid_any s d 0 pt W hps hpd (by omega) (Part.ok_below hok hb) h4
  have L2 : Hid (∀ W, Below w.heap.size w W → _) := fun W hb => refLaid_any s d (encS src dst s d pt.zs) pt W hps hpd hes (Part.ok_below hok hb) h4
  have HS : Hid (∀ (V : World) (a : Option Addr) (n c : Nat), Row V 5 (.slice a n c) (u8s (datL s d 0 pt.zs)) → Calls Try.prog 18 #[.int .u32 src, .int .u32 dst, .slice a n c] V fun e w' => e = .returned (.int .u16 (usum src dst (datL s d 0 pt.zs))) ∧ Below V.heap.size V w') := fun V a n c hr => by
    obtain ⟨q, e1, e2, e3⟩ := hr.part (datL_bd s d 0 hok.1)
    have h := refSum12_any src dst q V s0 d0 e3 (by rw [e2, datL_len]; omega)
    rw [← e1, e2] at h
    exact h
  have hES : Hid (encS src dst s d pt.zs = if usum src dst (datL s d 0 pt.zs) = 0 then 65535 else usum src dst (datL s d 0 pt.zs)) := rfl
  have hu : IntKind.i64.wrap (usum src dst (datL s d 0 pt.zs)) = usum src dst (datL s d 0 pt.zs) := by simp only [IntKind.wrap_i64]; omega
  obtain ⟨p1, p2⟩ := hps
  obtain ⟨p5, p6⟩ := hpd
  have p3 : ¬ s < 0 := by omega
  have p4 : ¬ 65535 < s := by omega
  have p7 : ¬ d < 0 := by omega
  have p8 : ¬ 65535 < d := by omega
  have h5 : ¬ (1472 : Int) < (pt.zs.length : Int) := by omega
  have h6 : (d == 0) = false := by simpa using h3
  clear h h2 hsb hok s0 d0 hes
  have HF0 : Hid (∀ w' : World, Below (w.heap.size + 1) (w.alloc (.cells #[.int .i64 s, .int .i64 d, pt.val] 26)) w' → ∀ q, w'.cell? ⟨w.heap.size, q, none⟩ = (#[.int .i64 s, .int .i64 d, pt.val] : Array Value)[q]?) := fun w' hb q => cell_of_heap ((hb.block _ (by omega)).trans (heap_new w _)) q
  have HB0 : Hid (Below w.heap.size w (w.alloc (.cells #[.int .i64 s, .int .i64 d, pt.val] 26))) := bpush (Below.refl _ _) _
  have HZ0 : Hid ((w.alloc (.cells #[.int .i64 s, .int .i64 d, pt.val] 26)).heap.size = w.heap.size + 1) := by unfold Hid; simp
  unfold Part.val at *
  generalize datL s d (encS src dst s d pt.zs) pt.zs = DL at *
  generalize datL s d 0 pt.zs = DB at *
  generalize encS src dst s d pt.zs = ES at *
  generalize usum src dst DB = US at *
  generalize pt.zs.length = l at *
  generalize pt.a = pa at *
  generalize pt.c = pc at *
  go_enter Try.func8, Try.ntmps8
  go_wp2_with fail
  refine (L1.out _ HB0.out).mono ?_
  rintro e w1 ⟨a1, n1, c1, rfl, an⟩
  have HB1 := hid (bstep HB0.out an.2.2)
  have HR1 := hid an.1
  have HX1 : Hid (Below (w.heap.size + 1) (w.alloc (.cells #[.int .i64 s, .int .i64 d, .slice pa l pc] 26)) w1) := by rw [← HZ0.out]; exact an.2.2
  clear an
  go_wp2_with fail
  refine (HS.out _ _ _ _ HR1.out).mono ?_
  rintro e w2 ⟨rfl, hb⟩
  have HB2 := hid (bstep HB1.out hb)
  have hz : w.heap.size + 1 ≤ w1.heap.size := by have := HX1.out.size; rw [HZ0.out] at this; exact this
  have HX2 := hid (HX1.out.trans (hb.mono hz))
  have cc := HF0.out _ HX2.out
  clear hb HX1 HB1 HR1 hz L1
  by_cases hu0 : US = 0
  · have he : ES = 65535 := by rw [hES.out, if_pos hu0]
    subst hu0
    subst he
    clear hES
    go_wp2_with fail
    refine (L2.out _ HB2.out).mono ?_
    rintro e w3 ⟨a3, n3, c3, rfl, an⟩
    have HE : Hid (Ans w w3 DL a3 n3 c3) := ⟨an.1, fun b hb => by have := an.2.1 b hb; have := HB2.out.size; omega, bstep HB2.out an.2.2⟩
    clear an
    go_wp2
    go_ret2
    exact ⟨_, _, _, rfl, HE.out⟩
  · have he : ES = US := by rw [hES.out, if_neg hu0]
    have hu1 : (US == 0) = false := by simpa using hu0
    subst he
    clear hES hu0
    go_wp2_with fail
    refine (L2.out _ HB2.out).mono ?_
    rintro e w3 ⟨a3, n3, c3, rfl, an⟩
    have HE : Hid (Ans w w3 DL a3 n3 c3) := ⟨an.1, fun b hb => by have := an.2.1 b hb; have := HB2.out.size; omega, bstep HB2.out an.2.2⟩
    clear an
    go_wp2
    go_ret2
    exact ⟨_, _, _, rfl, HE.out⟩

theorem refEncode_u (src dst s d : Int) (pt : Part) (w : World) (s0 : 0 ≤ src ∧ src ≤ 4294967295) (d0 : 0 ≤ dst ∧ dst ≤ 4294967295) (hok : pt.ok w) :
    Calls Try.prog 8 #[.int .u32 src, .int .u32 dst, .agg #[.int .i64 s, .int .i64 d, pt.val]] w fun e w' => ∃ a n c, e = .returned (.tuple #[.slice a n c, .int .i64 (encE s d pt.zs.length)]) ∧ Ans w w' (encB src dst s d pt.zs) a n c := by
  unfold encB encE
  by_cases h1 : (portB s && portB d) = false
  · rw [if_pos h1, if_neg (by decide)]
    exact (refEncode_arg src dst s d _ w h1).mono fun e w' h => ⟨_, _, _, h.1, ans_nil h.2⟩
  · rw [if_neg h1]
    have h2 : portB s = true ∧ portB d = true := by simpa using h1
    by_cases h3 : d = 0
    · subst h3
      rw [if_pos rfl, if_neg (by decide)]
      exact (refEncode_zero src dst s _ w h2.1).mono fun e w' h => ⟨_, _, _, h.1, ans_nil h.2⟩
    · rw [if_neg h3]
      by_cases h4 : 1472 < pt.zs.length
      · rw [if_pos h4, if_neg (by decide)]
        exact (refEncode_long src dst s d _ _ _ w h2.1 h2.2 h3 h4).mono fun e w' h => ⟨_, _, _, h.1, ans_nil h.2⟩
      · rw [if_neg h4, if_pos rfl]
        exact refEncode_ok src dst s d pt w s0 d0 h2.1 h2.2 h3 hok (by omega)
end Go.Proofs.Ytdfmnjoodjpibaa
