/-
  The statements' own function live.
-/
import Derived.Test.YtoifblndpcelkaaBoBpV
namespace Go.Proofs.Ytoifblndpcelkaa
open Go.RowKit
set_option linter.all false

def livM : Bp := askM ⟨2, 0, 0, 0, 0, 7⟩ 1234 5 0
def livG : List Opt := [(53, op1 1)]
def livA : Bp := ansM 5 livM 7
def livH : List Opt := [(53, op1 5), (54, ip4 9)]
theorem livM_ok : livM.ok := ⟨by simp [livM, askM], by simp [livM, askM], by simp [livM, askM], by decide, by simp [livM, askM], by simp [livM, askM], by simp [livM, askM], by simp [livM, askM], by simp [livM, askM, Mac.ok], by simp [livM, askM, noText, ByteArray.size], by simp [livM, askM, noText, ByteArray.size]⟩
theorem liv_un : unE livM (ov52 livG) = 0 := by decide
theorem liv_apart : Apart livG := ⟨by simp [livG], by simp [livG]⟩
theorem liv_pack : packE livG 1232 = 0 := by
  unfold packE
  rw [if_pos liv_apart, if_neg (by simp [livG]), if_neg (by
    have : (packB livG).length = 4 := by
      unfold packB layL livG
      simp [layO_len, op1, pieceN]
    omega)]
theorem liv_packA : packA livG 1232 = [53, 1, 1, 255] := by
  unfold packA
  rw [if_pos liv_pack]
  unfold packB layL livG layO
  rw [List.flatMap_cons, List.flatMap_nil, chop_short (by simp [op1])]
  rfl
theorem liv_x : encX livM livG = 0 := by
  unfold encX
  rw [liv_un, if_pos rfl, liv_pack]
theorem liv_z : encZ livM livG = encL livM [53, 1, 1, 255] := by
  unfold encZ
  rw [if_pos liv_x, liv_packA]
theorem liv_len : (encZ livM livG).length = 300 := by
  rw [liv_z, encL_len _ _ (by simp [livM, askM, noText, ByteArray.size]) (by simp [livM, askM, noText, ByteArray.size])]
  rfl
theorem liv_at (k : Nat) (v : Int) (h : (encL livM [53, 1, 1, 255] ++ []).getD k 0 = v) : (encZ livM livG).getD k 0 = v := by
  rw [liv_z]
  rw [List.append_nil] at h
  exact h
theorem liv7 : (encZ livM livG).getD 7 0 = 210 := liv_at _ _ (by rw [encL_form]; rfl)
theorem liv236 : (encZ livM livG).getD 236 0 = 99 := liv_at _ _ (by rw [show 236 = 236 + 0 from rfl, getD_drop, enc236 _ _ _ (by simp [livM, askM, noText, ByteArray.size]) (by simp [livM, askM, noText, ByteArray.size])]; rfl)
theorem liv242 : (encZ livM livG).getD 242 0 = 1 := liv_at _ _ (by rw [show 242 = 236 + 6 from rfl, getD_drop, enc236 _ _ _ (by simp [livM, askM, noText, ByteArray.size]) (by simp [livM, askM, noText, ByteArray.size])]; rfl)
theorem liv243 : (encZ livM livG).getD 243 0 = 255 := liv_at _ _ (by rw [show 243 = 236 + 7 from rfl, getD_drop, enc236 _ _ _ (by simp [livM, askM, noText, ByteArray.size]) (by simp [livM, askM, noText, ByteArray.size])]; rfl)
theorem liv_dec : decR (encZ livM livG) = .ok (livM, livG) := by
  have := decZ_back livM_ok liv_x []
  rw [List.append_nil] at this
  exact this
theorem liv_typ : typG livG = 1 := by decide
theorem liv_typ2 : typG livH = 5 := by decide
theorem liv_bd : ∀ z, z ∈ encZ livM livG → 0 ≤ z ∧ z ≤ 255 := encZ_bd livM_ok.mac (fun o ho => by
  simp only [livG, List.mem_singleton] at ho
  subst ho
  exact op1_bd 1)
/-- a box laid with a message. -/
theorem box_laid (w : World) (X : Array Value) : ((w.alloc (.cells zeroC 28)).setRow w.heap.size X).heap[w.heap.size]? = some (.cells X 28 (0, 0)) ∧ Below w.heap.size w ((w.alloc (.cells zeroC 28)).setRow w.heap.size X) :=
  ⟨setRow_heap _ _ _ _ _ _ (heap_new w _), bbut (bpush (Below.refl _ _) _) (But.setRow _ _ _) (Nat.le_refl _)⟩
theorem byte_at {W : World} {b o c : Nat} {zs : List Int} (h : Part.ok W ⟨some ⟨b, o, none⟩, c, zs⟩) (j : Nat) (hj : j < zs.length) : W.cell? ⟨b, o + j, none⟩ = some (.int .u8 (zs.getD j 0)) := by
  rcases h.2.2 with he | ⟨b', o', ha, hc⟩
  · simp only at he
    rw [he] at hj
    simp at hj
  · simp only [Option.some.injEq, Addr.mk.injEq] at ha
    obtain ⟨rfl, rfl, _⟩ := ha
    exact hc j hj
theorem ans_part {w w' : World} {zs : List Int} {a : Option Addr} {c : Nat} (h : Ans w w' zs a zs.length c) (hz : ∀ z, z ∈ zs → 0 ≤ z ∧ z ≤ 255) (hn : 0 < zs.length) : ∃ b o, a = some ⟨b, o, none⟩ ∧ Part.ok w' ⟨a, c, zs⟩ := by
  obtain ⟨pt, e1, e2, ok⟩ := h.1.part hz
  obtain ⟨pa, pc, pz⟩ := pt
  simp only [Part.val, Value.slice.injEq] at e1 e2
  obtain ⟨rfl, _, rfl⟩ := e1
  subst e2
  rcases ok.2.2 with he | ⟨b, o, ha, _⟩
  · simp only at he
    rw [he] at hn
    simp at hn
  · exact ⟨b, o, ha, ok⟩
/-- a whole box loaded behind a guard. -/
theorem wpList_load_row_g {P : Program} {ops : Array Oper} {rest : List Oper} {o : Oper} {a : Act} {w : World} {Q : Exit → Act → World → Prop} (hw : Region.wanted o (yielded ops a.tmps) = true) (ty : TypeId) (x : Operand) (ho : o.op = .load ty x)
    (g : Nat) (hx : a.eval x = .pointer (some ⟨g, 0, none⟩)) (t : TypeId) (cs : Array Value) (fr : Nat × Nat) (d : TypeDesc) (hg : w.heap[g]? = some (.cells cs t fr))
    (hu : P.underlying ty = some d) (hd : (match d with | .struct _ | .array _ _ => true | _ => false) = true) (hi : (P.info? ty).map (·.size) = some cs.size)
    (h : wpList P ops Q rest (a.put o.dst (.agg cs)) w) : wpList P ops Q (o :: rest) a w :=
  wpList_step fun _ hK => by rw [if_pos hw]; exact wp_load_row ty x ho g hx t cs fr d hg hu hd hi (hK _ _ h)
set_option maxRecDepth 20000 in
set_option maxHeartbeats 4000000 in
theorem live_any (w : World) : Calls Try.prog 9 #[] w fun e w' => e = .returned (.bool true) ∧ Hid (Below w.heap.size w w') := by
  have HASK : Hid (∀ W, Calls Try.prog 26 #[.int .i64 1, .agg #[.int .u8 2, .int .u8 0, .int .u8 0, .int .u8 0, .int .u8 0, .int .u8 7], .int .u32 1234, .int .i64 5, .int .u32 0, .slice none 0 0] W fun e w' => ∃ X, e = .returned (.agg X) ∧ Hid (BpV livM livG X w' ∧ Below W.heap.size W w')) := fun W => by
    have h := bp_ask 1 (by omega) ⟨2, 0, 0, 0, 0, 7⟩ 1234 5 0 (by omega) none 0 [] W (OV.nil _ _) (by simp)
    refine h.mono ?_
    rintro e w' ⟨X, rfl, HI⟩
    exact ⟨X, rfl, HI.out.1, HI.out.2.1⟩
  have HENC : Hid (∀ W X, BpV livM livG X W → Calls Try.prog 14 #[.agg X] W fun e w' => ∃ b o c, e = .returned (.tuple #[.slice (some ⟨b, o, none⟩) 300 c, .int .i64 0]) ∧ Hid (Part.ok w' ⟨some ⟨b, o, none⟩, c, encZ livM livG⟩ ∧ Below W.heap.size W w')) := fun W X hX => by
    have h := bp_encode livM_ok hX (by
      have : (layL livG).length = 3 := by
        unfold layL livG
        simp [layO_len, op1, pieceN]
      omega)
    refine h.mono ?_
    rintro e w' ⟨ax, cx, rfl, HA⟩
    obtain ⟨b, o, ha, ok⟩ := ans_part HA.out liv_bd (by rw [liv_len]; omega)
    subst ha
    exact ⟨b, o, cx, by rw [liv_len, liv_x], ok, HA.out.2.2⟩
  have HDEC : Hid (∀ W b o c, Part.ok W ⟨some ⟨b, o, none⟩, c, encZ livM livG⟩ → Calls Try.prog 10 #[.slice (some ⟨b, o, none⟩) 300 c] W fun e w' => ∃ X, e = .returned (.tuple #[.agg X, .int .i64 0]) ∧ Hid (BpV livM livG X w' ∧ Below W.heap.size W w')) := fun W b o c hok => by
    have h := bp_decode _ W hok (by rw [liv_len]; omega)
    simp only [Part.val, liv_len] at h
    refine h.mono ?_
    rintro e w' ⟨X, rfl, HI⟩
    have h1 := HI.out.1
    rw [liv_dec] at h1
    exact ⟨X, by rw [liv_dec]; rfl, h1, HI.out.2.1⟩
  have HANS : Hid (∀ W X, BpV livM livG X W → Calls Try.prog 27 #[.int .i64 5, .agg X, .int .u32 7, .int .u32 9, .slice none 0 0] W fun e w' => ∃ Y, e = .returned (.agg Y) ∧ Hid (BpV livA livH Y w' ∧ Below W.heap.size W w')) := fun W X hX => by
    have h := bp_answer 5 (by omega) 7 9 (by omega) none 0 [] W hX (OV.nil _ _) (by simp)
    refine h.mono ?_
    rintro e w' ⟨X, rfl, HI⟩
    exact ⟨X, rfl, HI.out.1, HI.out.2.1⟩
  have HSAM : Hid (∀ W X Y, BpV livM livG X W → BpV livM livG Y W → Calls Try.prog 21 #[.agg X, .agg Y] W fun e w' => e = .returned (.bool true) ∧ Hid (Below W.heap.size W w')) := fun W X Y hX hY => bp_same livM_ok hX hY
  have HTYP : Hid (∀ W X, BpV livM livG X W → Calls Try.prog 22 #[.agg X] W fun e w' => e = .returned (.int .i64 1) ∧ Hid (Below W.heap.size W w')) := fun W X hX => by
    have := bp_type hX
    rw [liv_typ] at this
    exact this
  have HTYQ : Hid (∀ W X, BpV livA livH X W → Calls Try.prog 22 #[.agg X] W fun e w' => e = .returned (.int .i64 5) ∧ Hid (Below W.heap.size W w')) := fun W X hX => by
    have := bp_type hX
    rw [liv_typ2] at this
    exact this
  go_enter Try.func9, Try.ntmps9
  go_upto_region 2 with (first
    | (go_at_call 26; refine (HASK.out _).mono ?_; rintro e w1 ⟨X1, rfl, HX1⟩)
    | (refine wpList_alloc_to rfl 28 rfl zeroC (by kernel_rfl) ?_)
    | (refine wpList_store_row rfl 28 _ _ rfl w1.heap.size X1 rfl rfl 28 _ (heap_new w1 _) HX1.out.1.info (by rw [HX1.out.1.size]; rfl) HX1.out.1.one ?_)
    | fail)
  have hl1 := box_laid w1 X1
  have HB1 := hid (bstep HX1.out.2 hl1.2)
  have HV1 := hid (HX1.out.1.below hl1.2)
  have HP1 := hid hl1.1
  clear hl1 HX1
  generalize (w1.alloc (.cells zeroC 28)).setRow w1.heap.size X1 = W1 at *
  generalize w1.heap.size = g1 at *
  go_upto_region 3 with (first
    | (refine wpList_load_row rfl 28 _ rfl g1 rfl 28 X1 (0, 0) _ HP1.out Try.underlying28 rfl HV1.out.info ?_)
    | (go_at_call 14; refine (HENC.out _ _ HV1.out).mono ?_; rintro e w2 ⟨b, o, c, rfl, HX2⟩)
    | fail)
  have HP2 := hid (kept HP1.out HX2.out.2)
  have HV2 := hid (HV1.out.below HX2.out.2)
  have HB2 := hid (bstep HB1.out HX2.out.2)
  clear HP1 HV1 HB1
  go_upto_region 4 with (first
    | (go_at_call 10; refine (HDEC.out _ _ _ _ HX2.out.1).mono ?_; rintro e w3 ⟨X3, rfl, HX3⟩)
    | (refine wpList_alloc_to rfl 28 rfl zeroC (by kernel_rfl) ?_)
    | (refine wpList_store_row rfl 28 _ _ rfl w3.heap.size X3 rfl rfl 28 _ (heap_new w3 _) HX3.out.1.info (by rw [HX3.out.1.size]; rfl) HX3.out.1.one ?_)
    | fail)
  have hl3 := box_laid w3 X3
  have hb3 := bstep HX3.out.2 hl3.2
  have HP3 := hid (kept HP2.out hb3)
  have HV3 := hid (HV2.out.below hb3)
  have HK3 := hid (Part.ok_below HX2.out.1 hb3)
  have HB3 := hid (bstep HB2.out hb3)
  have HW3 := hid (HX3.out.1.below hl3.2)
  have HQ3 := hid hl3.1
  clear hl3 hb3 HX3 HX2 HP2 HV2 HB2
  generalize (w3.alloc (.cells zeroC 28)).setRow w3.heap.size X3 = W3 at *
  generalize w3.heap.size = g4 at *
  go_upto_region 5 with (first
    | (refine wpList_load_row rfl 28 _ rfl g4 rfl 28 X3 (0, 0) _ HQ3.out Try.underlying28 rfl HW3.out.info ?_)
    | (go_at_call 27; refine (HANS.out _ _ HW3.out).mono ?_; rintro e w4 ⟨X6, rfl, HX6⟩)
    | (refine wpList_alloc_to rfl 28 rfl zeroC (by kernel_rfl) ?_)
    | (refine wpList_store_row rfl 28 _ _ rfl w4.heap.size X6 rfl rfl 28 _ (heap_new w4 _) HX6.out.1.info (by rw [HX6.out.1.size]; rfl) HX6.out.1.one ?_)
    | fail)
  have hl4 := box_laid w4 X6
  have hb4 := bstep HX6.out.2 hl4.2
  have HP4 := hid (kept HP3.out hb4)
  have HV4 := hid (HV3.out.below hb4)
  have HK4 := hid (Part.ok_below HK3.out hb4)
  have HB4 := hid (bstep HB3.out hb4)
  have HW4 := hid (HW3.out.below hb4)
  have HQ4 := hid (kept HQ3.out hb4)
  have HA4 := hid (HX6.out.1.below hl4.2)
  have HR4 := hid hl4.1
  clear hl4 hb4 HX6 HP3 HV3 HK3 HB3 HW3 HQ3
  generalize (w4.alloc (.cells zeroC 28)).setRow w4.heap.size X6 = W4 at *
  generalize w4.heap.size = g6 at *
  go_upto_region 6 with (first
    | (refine wpList_load_row rfl 28 _ rfl g1 rfl 28 X1 (0, 0) _ HP4.out Try.underlying28 rfl HV4.out.info ?_)
    | (refine wpList_load_row rfl 28 _ rfl g4 rfl 28 X3 (0, 0) _ HQ4.out Try.underlying28 rfl HW4.out.info ?_)
    | (go_at_call 21; refine (HSAM.out _ _ _ HV4.out HW4.out).mono ?_; rintro e w5 ⟨rfl, HX5⟩)
    | fail)
  have HK5 := hid (Part.ok_below HK4.out HX5.out)
  have HB5 := hid (bstep HB4.out HX5.out)
  have HW5 := hid (HW4.out.below HX5.out)
  have HQ5 := hid (kept HQ4.out HX5.out)
  have HA5 := hid (HA4.out.below HX5.out)
  have HR5 := hid (kept HR4.out HX5.out)
  clear HX5 HP4 HV4 HK4 HB4 HW4 HQ4 HA4 HR4
  go_upto_region 8 with (fail)
  go_wp2_with (first
    | (refine wpList_load_row_g rfl 28 _ rfl g4 rfl 28 X3 (0, 0) _ HQ5.out Try.underlying28 rfl HW5.out.info ?_)
    | (go_at_call 22; refine (HTYP.out _ _ HW5.out).mono ?_; rintro e w6 ⟨rfl, HX6⟩
       have HA6 := hid (HA5.out.below HX6.out)
       have HR6 := hid (kept HR5.out HX6.out)
       have HB6 := hid (bstep HB5.out HX6.out)
       have HK6 := hid (Part.ok_below HK5.out HX6.out)
       clear HX6 HQ5 HW5)
    | (refine wpList_load_row_g rfl 28 _ rfl g6 rfl 28 X6 (0, 0) _ HR6.out Try.underlying28 rfl HA6.out.info ?_)
    | (go_at_call 22; refine (HTYQ.out _ _ HA6.out).mono ?_; rintro e w7 ⟨rfl, HX7⟩
       have c6 : w7.cell? ⟨g6, 6, none⟩ = some (.int .u32 7) := (cell_of_heap (kept HR6.out HX7.out) 6).trans (HA6.out.at 6 (by omega) _ (fun d => rfl))
       have c2 : w7.cell? ⟨g6, 2, none⟩ = some (.int .u32 1234) := (cell_of_heap (kept HR6.out HX7.out) 2).trans (HA6.out.at 2 (by omega) _ (fun d => rfl))
       have k7 : w7.cell? ⟨b, o + 7, none⟩ = some (.int .u8 210) := (byte_at (Part.ok_below HK6.out HX7.out) 7 (by rw [liv_len]; omega)).trans (by rw [liv7])
       have k236 : w7.cell? ⟨b, o + 236, none⟩ = some (.int .u8 99) := (byte_at (Part.ok_below HK6.out HX7.out) 236 (by rw [liv_len]; omega)).trans (by rw [liv236])
       have k242 : w7.cell? ⟨b, o + 242, none⟩ = some (.int .u8 1) := (byte_at (Part.ok_below HK6.out HX7.out) 242 (by rw [liv_len]; omega)).trans (by rw [liv242])
       have k243 : w7.cell? ⟨b, o + 243, none⟩ = some (.int .u8 255) := (byte_at (Part.ok_below HK6.out HX7.out) 243 (by rw [liv_len]; omega)).trans (by rw [liv243])
       have HB7 := hid (bstep HB6.out HX7.out)
       clear HX7 HR6 HA6)
    | fail)
  go_ret
  exact ⟨rfl, HB7.out⟩
end Go.Proofs.Ytoifblndpcelkaa
