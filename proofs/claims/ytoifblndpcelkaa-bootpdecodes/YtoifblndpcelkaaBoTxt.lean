/-
  bootp: texts out of their rooms; what can't be read; overload.
-/
import Derived.Test.YtoifblndpcelkaaBoLay
import Derived.BigQuiet
import Derived.OwnWalk
namespace Go.Proofs.Ytoifblndpcelkaa
open Go.RowKit
set_option linter.all false

/-- the bytes ahead of the first 0. -/
def txt (zs : List Int) : List Int := zs.takeWhile (fun z => z != 0)
theorem txt_bd {zs : List Int} (h : ∀ z, z ∈ zs → 0 ≤ z ∧ z ≤ 255) : ∀ z, z ∈ txt zs → 0 ≤ z ∧ z ≤ 255 := fun z hz => h z ((List.takeWhile_sublist _).subset hz)
theorem txt_le (zs : List Int) : (txt zs).length ≤ zs.length := (List.takeWhile_sublist _).length_le
theorem txt_not : ∀ zs : List Int, (0 : Int) ∉ txt zs
  | [] => by simp [txt]
  | z :: zs => by
    have ih := txt_not zs
    by_cases h0 : z = 0
    · subst h0; simp [txt]
    · have ht : txt (z :: zs) = z :: txt zs := by simp [txt, h0]
      rw [ht]
      simp only [List.mem_cons, not_or]
      exact ⟨fun e => h0 e.symm, ih⟩
theorem index_txt : ∀ zs : List Int, (∀ z, z ∈ zs → 0 ≤ z ∧ z ≤ 255) → (Lib.indexByte (Lib.bytesOf zs) 0 = -1 ∧ txt zs = zs) ∨ ∃ i : Nat, Lib.indexByte (Lib.bytesOf zs) 0 = (i : Int) ∧ i < zs.length ∧ zs.take i = txt zs
  | [], _ => Or.inl ⟨rfl, rfl⟩
  | z :: zs, h => by
    have hz := h z (by simp)
    have ih := index_txt zs (fun x hx => h x (by simp [hx]))
    have e : Lib.bytesOf (z :: zs) = UInt8.ofNat z.toNat :: Lib.bytesOf zs := rfl
    rw [e]
    unfold Lib.indexByte
    by_cases h0 : z = 0
    · subst h0
      right
      exact ⟨0, by simp, by simp, by simp [txt]⟩
    · have hb : (UInt8.ofNat z.toNat == 0) = false := by
        simp only [beq_eq_false_iff_ne, ne_eq]
        intro e
        have := congrArg UInt8.toNat e
        rw [UInt8.toNat_ofNat_of_lt' (by show z.toNat < 256; omega)] at this
        simp at this
        omega
      have ht : txt (z :: zs) = z :: txt zs := by simp [txt, h0]
      rw [hb, ht]
      simp only [Bool.false_eq_true, if_false]
      rcases ih with ⟨h1, h2⟩ | ⟨i, h1, h2, h3⟩
      · rw [h1, h2]
        exact Or.inl ⟨by simp, rfl⟩
      · have hn : (Lib.indexByte (Lib.bytesOf zs) 0 == -1) = false := by rw [h1]; simp
        rw [hn, h1]
        exact Or.inr ⟨i + 1, by simp, by simp; exact h2, by rw [List.take_succ_cons, h3]⟩
def CutI (w : World) (b o k c : Nat) (e : Ending) (w' : World) : Prop := ∃ v B, e = .returned (.tuple #[.slice (some ⟨b, o, none⟩) k c, v, .bool B]) ∧ ∃ q, w' = w.drewN q
set_option maxHeartbeats 1000000 in
/-- bytes.Cut at a byte 0. -/
theorem cut_any (b o c g : Nat) (zs : List Int) (w : World) (hok : Part.ok w ⟨some ⟨b, o, none⟩, c, zs⟩) (hl : zs.length ≤ 140737488353280) (h0 : w.cell? ⟨g, 0, none⟩ = some (.int .u8 0)) :
    Calls Try.prog 65 #[.slice (some ⟨b, o, none⟩) zs.length c, .slice (some ⟨g, 0, none⟩) 1 1] w fun e w' => CutI w b o (txt zs).length c e w' := by
  have hcell : ∀ i, i < zs.length → w.cell? ((⟨b, o, none⟩ : Addr).add i) = some (.int .u8 (zs.getD i 0)) := fun i hi => by
    rw [show (⟨b, o, none⟩ : Addr).add i = ⟨b, o + i, none⟩ from by unfold Addr.add; split <;> simp_all]
    rcases hok.2.2 with h | ⟨b', o', ha, hc⟩
    · simp only at h; rw [h] at hi; simp at hi
    · simp only [Option.some.injEq, Addr.mk.injEq, and_true] at ha
      obtain ⟨rfl, rfl⟩ := ha
      exact hc i hi
  have C := Try.bytes_Index_one_at ⟨b, o, none⟩ zs.length c g 0 1 zs 0 w rfl hcell h0
  have e0 : (Int.toNat 0).toUInt8 = 0 := rfl
  rw [e0] at C
  have hcap : zs.length ≤ c := hok.2.1
  have ix := index_txt zs hok.1
  clear hcell hok h0
  rcases ix with ⟨h1, h2⟩ | ⟨i, h1, h2, h3⟩
  · rw [h1] at C
    rw [h2]
    generalize zs.length = n at *
    go_enter Try.func65, Try.ntmps65
    go_wp2_with (first
      | (go_at_call 98; refine C.mono ?_; rintro e w1 ⟨rfl, hw⟩; subst w1)
      | fail)
    go_ret3
    exact ⟨_, _, rfl, 0, rfl⟩
  · rw [h1] at C
    have hlen : (txt zs).length = i := by rw [← h3]; simp; omega
    rw [hlen]
    generalize zs.length = n at *
    have q1 : (0 : Int) ≤ (i : Int) := by omega
    have q2 : (i : Int) ≤ (c : Int) := by omega
    have q3 : ((i : Int) + 1) ≤ (n : Int) := by omega
    have q4 : IntKind.i64.wrap ((i : Int) + 1) = (i : Int) + 1 := by simp only [IntKind.wrap_i64]; omega
    have q5 : ((i : Int) + 1).toNat = i + 1 := by omega
    have q6 : (0 : Int) ≤ (i : Int) + 1 := by omega
    clear h1 h3 hlen
    go_enter Try.func65, Try.ntmps65
    go_wp2_with (first
      | (go_at_call 98; refine C.mono ?_; rintro e w1 ⟨rfl, hw⟩; subst w1)
      | fail)
    go_quiet (fail)
    all_goals go_wp2
    all_goals
      go_ret3
      exact ⟨_, _, rfl, _, rfl⟩
set_option maxHeartbeats 1000000 in
theorem textOf_any (b o c : Nat) (zs : List Int) (w : World) (hok : Part.ok w ⟨some ⟨b, o, none⟩, c, zs⟩) (hl : zs.length ≤ 140737488353280) :
    Calls Try.prog 35 #[.slice (some ⟨b, o, none⟩) zs.length c] w fun e w' => e = .returned (.string (strOfNums (txt zs))) ∧ Hid (Below w.heap.size w w') := by
  have C := hid (cut_any b o c w.heap.size zs (w.alloc (.cells #[.int .u8 0] 5)) (Part.ok_below hok (bpush (Below.refl _ _) _)) hl (cell_of_heap (heap_new w _) 0))
  have HV : Hid (∀ W, Below w.heap.size w W → (convert 33 9 (.slice (some ⟨b, o, none⟩) (txt zs).length c)).run Try.prog W = .ok (.string (strOfNums (txt zs))) W) := fun W hW => by
    have ht : zs.take (txt zs).length = txt zs := by
      rcases index_txt zs hok.1 with ⟨_, h2⟩ | ⟨i, _, h2, h3⟩
      · rw [h2]; simp
      · have : (txt zs).length = i := by rw [← h3]; simp; omega
        rw [this, h3]
    have := Part.sub_ok (Part.ok_below hok hW) 0 (txt zs).length c (by have := txt_le zs; omega) (by have h1 := txt_le zs; have h2 := hok.2.1; simp only at h2; omega)
    rw [List.drop_zero, ht, Nat.add_zero] at this
    exact conv_part ⟨some ⟨b, o, none⟩, c, txt zs⟩ W this
  clear hok
  generalize zs.length = n at *
  generalize (txt zs).length = k at *
  go_enter Try.func35, Try.ntmps35
  go_wp2_with (first
    | (go_at_call 65; refine C.out.mono ?_; rintro e w1 ⟨v, B, rfl, q, hq⟩
       have HB := hid (show Below w.heap.size w w1 by rw [hq]; exact bstep (bpush (Below.refl _ _) _) ⟨rfl, rfl, rfl, Nat.le_refl _, fun _ _ => rfl⟩)
       clear hq
       have hv := HV.out _ HB.out)
    | fail)
  go_ret
  exact ⟨rfl, HB.out⟩
/-- why bytes are no message, whatever the options are. -/
def unR (zs : List Int) : Int := if zs.length < 240 then 5 else if ¬ ((zs.getD 0 0 = 1 ∨ zs.getD 0 0 = 2) ∧ getTo zs 1 2 = 262) then 160 else if ¬ getTo zs 236 4 = 1669485411 then 161 else 0
set_option maxHeartbeats 2000000 in
theorem unreadable_any (pt : Part) (w : World) (hok : pt.ok w) (hl : pt.zs.length ≤ 140737488353280) :
    Calls Try.prog 30 #[pt.val] w fun e w' => e = .returned (.int .i64 (unR pt.zs)) ∧ w' = w := by
  by_cases h1 : pt.zs.length < 240
  · unfold unR
    rw [if_pos h1]
    obtain ⟨pa, pc, zs⟩ := pt
    simp only [Part.val] at *
    have h1' : (zs.length : Int) < 240 := by omega
    generalize zs.length = n at *
    go_enter Try.func30, Try.ntmps30
    go_wp2
    go_ret
    exact ⟨rfl, rfl⟩
  · have C1 := hid (bnumberAt_any pt 1 2 w hok hl (by omega) (by omega) (by omega))
    have C2 := hid (bnumberAt_any pt 236 4 w hok hl (by omega) (by omega) (by omega))
    have C0 := hid (isOp_any (pt.zs.getD 0 0) w)
    have hb0 := getD_mem_bd hok.1 0
    obtain ⟨b, o, ha, hc⟩ : ∃ b o, pt.a = some ⟨b, o, none⟩ ∧ w.cell? ⟨b, o, none⟩ = some (.int .u8 (pt.zs.getD 0 0)) := by
      rcases hok.2.2 with h | ⟨b, o, ha, hc⟩
      · rw [h] at h1; simp at h1
      · exact ⟨b, o, ha, hc 0 (by omega)⟩
    unfold unR
    rw [if_neg h1]
    obtain ⟨pa, pc, zs⟩ := pt
    simp only [Part.val] at *
    subst ha
    have h1' : ¬ (zs.length : Int) < 240 := by omega
    have i0 : (0 : Int) < (zs.length : Int) := by omega
    have i1 : 0 < zs.length := by omega
    generalize zs.getD 0 0 = z0 at *
    generalize getTo zs 1 2 = N1 at *
    generalize getTo zs 236 4 = N2 at *
    generalize zs.length = n at *
    clear hok
    by_cases h2 : z0 = 1 ∨ z0 = 2
    · have e2 : (decide (z0 = 1) || decide (z0 = 2)) = true := by simpa using h2
      rw [e2] at C0
      by_cases h3 : N1 = 262
      · subst h3
        rw [if_neg (fun h => h ⟨h2, rfl⟩)]
        by_cases h4 : N2 = 1669485411
        · subst h4
          rw [if_neg (by simp)]
          go_enter Try.func30, Try.ntmps30
          go_wp2_with (first
            | (go_at_call 61; refine C0.out.mono ?_; rintro e w1 ⟨rfl, hw⟩; subst w1)
            | (go_at_call_of 62 (Value.int IntKind.i64 1); refine C1.out.mono ?_; rintro e w1 ⟨rfl, hw⟩; subst w1)
            | (go_at_call_of 62 (Value.int IntKind.i64 236); refine C2.out.mono ?_; rintro e w1 ⟨rfl, hw⟩; subst w1)
            | fail)
          go_ret
          exact ⟨rfl, rfl⟩
        · have h4' : (N2 != 1669485411) = true := by simpa using h4
          rw [if_pos h4]
          go_enter Try.func30, Try.ntmps30
          go_wp2_with (first
            | (go_at_call 61; refine C0.out.mono ?_; rintro e w1 ⟨rfl, hw⟩; subst w1)
            | (go_at_call_of 62 (Value.int IntKind.i64 1); refine C1.out.mono ?_; rintro e w1 ⟨rfl, hw⟩; subst w1)
            | (go_at_call_of 62 (Value.int IntKind.i64 236); refine C2.out.mono ?_; rintro e w1 ⟨rfl, hw⟩; subst w1)
            | fail)
          go_ret
          exact ⟨rfl, rfl⟩
      · have h3' : (N1 != 262) = true := by simpa using h3
        rw [if_pos (fun h => h3 h.2)]
        go_enter Try.func30, Try.ntmps30
        go_wp2_with (first
          | (go_at_call 61; refine C0.out.mono ?_; rintro e w1 ⟨rfl, hw⟩; subst w1)
          | (go_at_call_of 62 (Value.int IntKind.i64 1); refine C1.out.mono ?_; rintro e w1 ⟨rfl, hw⟩; subst w1)
          | fail)
        go_ret
        exact ⟨rfl, rfl⟩
    · have e2 : (decide (z0 = 1) || decide (z0 = 2)) = false := by
        simp only [not_or] at h2
        simp [h2]
      rw [e2] at C0
      rw [if_pos (fun h => h2 h.1)]
      go_enter Try.func30, Try.ntmps30
      go_wp2_with (first
        | (go_at_call 61; refine C0.out.mono ?_; rintro e w1 ⟨rfl, hw⟩; subst w1)
        | fail)
      go_ret
      exact ⟨rfl, rfl⟩
/-- which rooms hold options; the error. -/
def ovV (os : List OP) : Int × Int := if ovB os then (if exN (fstP os 52).zs 1 = 0 ∨ 3 < exN (fstP os 52).zs 1 then (0, 162) else (exN (fstP os 52).zs 1, 0)) else (0, 0)
set_option maxHeartbeats 2000000 in
theorem overload_any (a : Option Addr) (c : Nat) (os : List OP) (w : World) (h : OV w a os) :
    Calls Try.prog 32 #[.slice a os.length c] w fun e w' => e = .returned (.tuple #[.int .i64 (ovV os).1, .int .i64 (ovV os).2]) ∧ Hid (Below w.heap.size w w') := by
  have C1 := hid (containsFunc_any a c os w h)
  have C2 := hid (fun wx (hw : Below w.heap.size w wx) => small_any a c os 52 wx (h.below hw))
  unfold ovV
  generalize ovB os = B at *
  generalize exN (fstP os 52).zs 1 = N at *
  generalize exB (fstP os 52).zs 1 = B2 at *
  generalize os.length = n at *
  clear h
  unfold fOver at *
  cases B
  · go_enter Try.func32, Try.ntmps32
    go_wp2_with (first
      | (go_at_call 64; refine C1.out.mono ?_; rintro e w1 ⟨rfl, HB⟩)
      | fail)
    go_ret2
    exact ⟨rfl, HB.out⟩
  · by_cases h0 : N = 0
    · subst h0
      go_enter Try.func32, Try.ntmps32
      go_wp2_with (first
        | (go_at_call 64; refine C1.out.mono ?_; rintro e w1 ⟨rfl, HB⟩)
        | (go_at_call 52; refine (C2.out _ HB.out).mono ?_; rintro e w2 ⟨rfl, HB2⟩)
        | fail)
      go_ret2
      exact ⟨rfl, bstep HB.out HB2.out⟩
    · have h0' : (N == 0) = false := by simpa using h0
      by_cases h3 : 3 < N
      · rw [if_pos (show N = 0 ∨ 3 < N from Or.inr h3)]
        go_enter Try.func32, Try.ntmps32
        go_wp2_with (first
          | (go_at_call 64; refine C1.out.mono ?_; rintro e w1 ⟨rfl, HB⟩)
          | (go_at_call 52; refine (C2.out _ HB.out).mono ?_; rintro e w2 ⟨rfl, HB2⟩)
          | fail)
        go_ret2
        exact ⟨rfl, bstep HB.out HB2.out⟩
      · have h3' : decide (3 < N) = false := by simpa using h3
        rw [if_neg (show ¬ (N = 0 ∨ 3 < N) by omega)]
        go_enter Try.func32, Try.ntmps32
        go_wp2_with (first
          | (go_at_call 64; refine C1.out.mono ?_; rintro e w1 ⟨rfl, HB⟩)
          | (go_at_call 52; refine (C2.out _ HB.out).mono ?_; rintro e w2 ⟨rfl, HB2⟩)
          | fail)
        go_ret2
        exact ⟨rfl, bstep HB.out HB2.out⟩
end Go.Proofs.Ytoifblndpcelkaa
