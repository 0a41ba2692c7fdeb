/-
  The statements' own function awake.
-/
import Derived.Test.YtccmkljbedddiaaIEncW
import Derived.Test.YtccmkljbedddiaaIDecX
import Derived.Test.YtccmkljbedddiaaBApp
namespace Go.Proofs.Ytccmkljbedddiaa
open Go.RowKit
set_option linter.all false

/-- what Encode answers. -/
def encE (h : Ip) (zs : List Int) : Int := if layB h = true then (if zs.length ≤ 1480 then 0 else 2) else 1
def encB (h : Ip) (zs : List Int) : List Int := if encE h zs = 0 then encL h zs else []
theorem encB_bd (h : Ip) (zs : List Int) (hz : ∀ z, z ∈ zs → 0 ≤ z ∧ z ≤ 255) : (∀ z, z ∈ encB h zs → 0 ≤ z ∧ z ≤ 255) ∧ (encB h zs).length ≤ 1500 := by
  unfold encB
  split
  · rename_i he
    refine ⟨encL_bd h zs hz, ?_⟩
    rw [encL_len]
    unfold encE at he
    split at he
    · split at he
      · omega
      · omega
    · omega
  · simp
theorem encode_u (h : Ip) (pt : Part) (w : World) (hok : h.ok) (hp : pt.ok w) : Calls Try.prog 11 #[h.val, pt.val] w fun e w' => ∃ a n c, e = .returned (.tuple #[.slice a n c, .int .i64 (encE h pt.zs)]) ∧ Ans w w' (encB h pt.zs) a n c := by
  unfold encB encE
  cases hb : layB h
  · simp only [Bool.false_eq_true, if_false]
    exact (encode_arg h pt.val w hb).mono fun e w' ⟨he, hb⟩ => ⟨none, 0, 0, he, by simpa using ans_nil hb⟩
  · simp only [if_true]
    by_cases hl : pt.zs.length ≤ 1480
    · simp only [hl, if_true]
      exact (encode_ok h pt w hok hb hp hl).mono fun e w' ⟨g, he, hg, hh, hb⟩ => ⟨_, _, _, he, ans_row (encL_len h pt.zs) (by unfold maxLen; omega) hh hg hb⟩
    · simp only [hl, if_false]
      exact (encode_long h pt.a pt.zs.length pt.c w hb (by omega)).mono fun e w' ⟨he, hb⟩ => ⟨none, 0, 0, he, by simpa using ans_nil hb⟩

def lvH : Ip := ⟨0, 7, 64, 17, true, 167772162, 167772161⟩
theorem lvH_ok : lvH.ok := by simp [Ip.ok, lvH, I64, U32]
def lvL : List Int := [69, 0, 0, 22, 0, 7, 64, 0, 64, 17, 38, 206, 10, 0, 0, 2, 10, 0, 0, 1, 97, 98]
theorem lvL_is : encL lvH [97, 98] = lvL := by decide +kernel
theorem lvL_bd : ∀ z, z ∈ lvL → 0 ≤ z ∧ z ≤ 255 := by decide
theorem lvL_str : strOfNums lvL = ⟨#[69, 0, 0, 22, 0, 7, 64, 0, 64, 17, 38, 206, 10, 0, 0, 2, 10, 0, 0, 1, 97, 98]⟩ := by rfl
theorem ab_str : strOfNums [97, 98] = ⟨#[97, 98]⟩ := by rfl
theorem lv_dec1 : decE (lvL ++ [0, 0]) = 0 ∧ decA (lvL ++ [0, 0]) = lvH ∧ decD (lvL ++ [0, 0]) = [97, 98] := by decide +kernel
theorem lv_dec2 : decE (lvL.take 19) = 5 ∧ decA (lvL.take 19) = zeroIp ∧ decD (lvL.take 19) = [] := by decide +kernel
theorem lv_enc (w : World) (g : Nat) (f : Nat × Nat) (hg : w.heap[g]? = some (.cells #[.int .u8 97, .int .u8 98] 5 f)) : Calls Try.prog 11 #[lvH.val, .slice (some ⟨g, 0, none⟩) 2 2] w fun e w' => ∃ g, e = .returned (.tuple #[.slice (some ⟨g, 0, none⟩) 22 22, .int .i64 0]) ∧ w.heap.size ≤ g ∧ w'.heap[g]? = some (.cells (u8s lvL).toArray 5 (0, 0)) ∧ Below w.heap.size w w' := by
  have h := encode_ok lvH ⟨some ⟨g, 0, none⟩, 2, [97, 98]⟩ w lvH_ok rfl (Part.of_row (zs := [97, 98]) hg (by simp) (by simp)) (by simp)
  simp only [lvL_is] at h
  exact h
theorem lv_dec (w : World) (a : Option Addr) (c : Nat) (h : Row w 5 (.slice a 24 c) (u8s (lvL ++ [0, 0]))) :
    Calls Try.prog 16 #[.slice a 24 c] w fun e w' => ∃ a' n' c', e = .returned (.tuple #[lvH.val, .slice a' n' c', .int .i64 0]) ∧ Ans w w' [97, 98] a' n' c' := by
  obtain ⟨pt, e1, e2, ok⟩ := h.part (by decide)
  rw [e1]
  have := decode_u pt w ok (by rw [e2]; decide)
  rw [e2, lv_dec1.1, lv_dec1.2.1, lv_dec1.2.2] at this
  exact this
theorem lv_short (w : World) (g : Nat) (f : Nat × Nat) (hg : w.heap[g]? = some (.cells (u8s lvL).toArray 5 f)) :
    Calls Try.prog 16 #[.slice (some ⟨g, 0, none⟩) 19 22] w fun e w' => ∃ a' n' c', e = .returned (.tuple #[zeroIp.val, .slice a' n' c', .int .i64 5]) ∧ Ans w w' [] a' n' c' := by
  have ok : Part.ok w ⟨some ⟨g, 0, none⟩, 22, lvL.take 19⟩ := Part.of_heap hg 0 (by decide) (fun j hj => by
    have hj' : j < 19 := hj
    rw [Nat.zero_add, u8s_at _ _ (by simp [lvL]; omega)]
    simp [List.getD_eq_getElem?_getD, List.getElem?_take, hj']) (by decide)
  have := decode_u _ w ok (show (lvL.take 19).length ≤ 281474976710656 by decide)
  simp only [lv_dec2] at this
  exact this
theorem lv_none (w : World) : Calls Try.prog 11 #[zeroIp.val, .slice none 0 0] w fun e w' => e = .returned (.tuple #[.slice none 0 0, .int .i64 1]) ∧ Below w.heap.size w w' := encode_arg zeroIp _ w rfl
theorem lv_app (w : World) (g : Nat) (hg : w.heap[g]? = some (.cells (u8s lvL).toArray 5 (0, 0))) (ty : TypeId) : ∃ a' c' w', (Builtin.append_ #[28, 28] ty #[.slice none 0 0, .slice (some ⟨g, 0, none⟩) 22 22]).run Try.prog w = .ok (.slice a' 22 c') w' ∧ Row w' 5 (.slice a' 22 c') (u8s lvL) ∧ Below w.heap.size w w' ∧ ∀ b, (Value.slice a' 22 c').ownBlock = some b → w.heap.size ≤ b :=
  append_nil_part ⟨some ⟨g, 0, none⟩, 22, lvL⟩ w (Part.of_row (zs := lvL) hg (by decide) lvL_bd) (show lvL.length ≤ 140737488355328 by decide) ty
theorem lv_app2 (w : World) (a : Option Addr) (c : Nat) (h : Row w 5 (.slice a 22 c) (u8s lvL)) (B : Nat) (hB : B ≤ w.heap.size) (hf : ∀ b, (Value.slice a 22 c).ownBlock = some b → B ≤ b) (gt : Nat) (f : Nat × Nat) (ht : w.heap[gt]? = some (.cells #[.int .u8 0, .int .u8 0] 5 f)) (ty : TypeId) :
    ∃ a' c' w', (Builtin.append_ #[28, 28] ty #[.slice a 22 c, .slice (some ⟨gt, 0, none⟩) 2 2]).run Try.prog w = .ok (.slice a' 24 c') w' ∧ Row w' 5 (.slice a' 24 c') (u8s (lvL ++ [0, 0])) ∧ Below B w w' := by
  obtain ⟨a', c', w', h1, h2, h3, _⟩ := append_row_part h B hB hf ⟨some ⟨gt, 0, none⟩, 2, [0, 0]⟩ (Part.of_row (zs := [0, 0]) ht (by simp) (by simp)) (show lvL.length + 2 ≤ 140737488355328 by decide) ty
  exact ⟨a', c', w', h1, h2, h3⟩

set_option maxRecDepth 20000 in
set_option maxHeartbeats 4000000 in
theorem awake_any (w : World) : Calls Try.prog 8 #[] w fun e w' => e = .returned (.bool true) ∧ Below w.heap.size w w' := by
  have C1 := hid @lv_enc
  have C2 := hid @lv_dec
  have C3 := hid @lv_short
  have C4 := hid @lv_none
  have A1 := hid @lv_app
  have A2 := hid @lv_app2
  have q1 := ip_eq lvH lvH lvH_ok lvH_ok
  rw [decide_eq_true rfl] at q1
  have HST := hid lvL_str
  have HAB := hid ab_str
  have HLB := hid lvL_bd
  have HLN : Hid (lvL.length = 22) := rfl
  have hcc := conv_const (w.heap.size + 1) (w.alloc (.cells #[.int .i64 0, .int .i64 7, .int .i64 64, .int .i64 17, .bool true, .int .u32 167772162, .int .u32 167772161] 27)) #[.int .u8 97, .int .u8 98] 2 2 (by simp)
  generalize hEL : lvL = EL at *
  clear hEL
  simp only [Ip.val, lvH, zeroIp] at C1 C2 C3 C4 q1
  go_enter Try.func8, Try.ntmps8
  have hh0 := ((Holds.nil w).push (.cells #[.int .i64 0, .int .i64 7, .int .i64 64, .int .i64 17, .bool true, .int .u32 167772162, .int .u32 167772161] 27)).push (.cells #[.int .u8 97, .int .u8 98] 5 (2, 3))
  simp only [World.size_alloc] at hh0
  have HH0 := hid hh0
  clear hh0
  go_wp2_with fail
  refine (C1.out _ (w.heap.size + 1) (2, 3) (HH0.out.at 0 _ _ rfl)).mono ?_
  rintro e w1 ⟨g, rfl, hg1, hgb, hb1⟩
  have HH1 := hid ((HH0.out.below hb1).cons hgb)
  have HB1 := hid (bstep (bpush (bpush (Below.refl _ w) _) _) hb1)
  have hgl : w.heap.size + 2 ≤ g := by simpa using hg1
  clear hb1 hgb hg1 hcc HH0
  have hcv : (convert 28 9 (.slice (some ⟨g, 0, none⟩) 22 22)).run Try.prog w1 = .ok (.string ⟨#[69, 0, 0, 22, 0, 7, 64, 0, 64, 17, 38, 206, 10, 0, 0, 2, 10, 0, 0, 1, 97, 98]⟩) w1 := by
    have := Row.conv0 (w := w1) (zs := EL) (Row.of_heap (HH1.out.at 0 _ _ rfl) (by rw [u8s_len, HLN.out]; decide)) HLB.out
    rw [HST.out, u8s_len, HLN.out] at this
    exact this
  obtain ⟨a2, c2, w2, hr2, hrow2, hb2, hf2⟩ := A1.out w1 g (HH1.out.at 0 _ _ rfl) 28
  have HR2 := hid hr2
  have HH2 := hid (HH1.out.below hb2)
  have HB2 := hid (bstep HB1.out hb2)
  have hh3 := HH2.out.push (.cells #[.int .u8 0, .int .u8 0] 5)
  obtain ⟨a3, c3, w3, hr3, hrow3, hb3⟩ := A2.out (w2.alloc (.cells #[.int .u8 0, .int .u8 0] 5)) a2 c2 (hrow2.below (bpush (Below.refl _ _) _)) w1.heap.size (by have := hb2.size; simp; omega) hf2 w2.heap.size (0, 0) (heap_new _ _) 28
  have HR3 := hid hr3
  have HRow3 := hid hrow3
  have hb13 : Below w1.heap.size w1 w3 := (hb2.trans ((Below.refl _ w2).alloc hb2.size (.cells #[.int .u8 0, .int .u8 0] 5))).trans hb3
  have HH3 := hid (HH1.out.below hb13)
  have HB3 := hid (bstep HB1.out hb13)
  clear hr2 hrow2 hb2 hf2 hr3 hrow3 hb3 hh3 hb13 HH2 HB2 HH1 HB1
  go_wp2_with (first
    | (at_builtin; refine wpList_append_run _ rfl _ _ 28 28 rfl _ _ rfl rfl HR2.out ?_)
    | (at_builtin; refine wpList_append_run _ rfl _ _ 28 28 rfl _ _ rfl rfl HR3.out ?_) | fail)
  refine (C2.out _ _ _ HRow3.out).mono ?_
  rintro e w4 ⟨a4, n4, c4, rfl, an4⟩
  have HH4 := hid ((HH3.out.below an4.2.2).push (.cells #[.int .i64 0, .int .i64 7, .int .i64 64, .int .i64 17, .bool true, .int .u32 167772162, .int .u32 167772161] 27))
  have HB4 := hid (bpush (bstep HB3.out an4.2.2) (.cells #[.int .i64 0, .int .i64 7, .int .i64 64, .int .i64 17, .bool true, .int .u32 167772162, .int .u32 167772161] 27))
  have HRow4 := hid (an4.1.below (bpush (Below.refl _ _) (.cells #[.int .i64 0, .int .i64 7, .int .i64 64, .int .i64 17, .bool true, .int .u32 167772162, .int .u32 167772161] 27)))
  clear an4 HH3 HB3 HRow3 HR2 HR3 hcv
  go_wp2_with fail
  refine (C3.out _ g (0, 0) (HH4.out.at 1 _ _ rfl)).mono ?_
  rintro e w5 ⟨a5, n5, c5, rfl, an5⟩
  have HH5 := hid ((HH4.out.below an5.2.2).push (.cells #[.int .i64 0, .int .i64 0, .int .i64 0, .int .i64 0, .bool false, .int .u32 0, .int .u32 0] 27))
  have HB5 := hid (bpush (bstep HB4.out an5.2.2) (.cells #[.int .i64 0, .int .i64 0, .int .i64 0, .int .i64 0, .bool false, .int .u32 0, .int .u32 0] 27))
  have HRow5 := hid ((HRow4.out.below an5.2.2).below (bpush (Below.refl _ _) (.cells #[.int .i64 0, .int .i64 0, .int .i64 0, .int .i64 0, .bool false, .int .u32 0, .int .u32 0] 27)))
  clear an5 HH4 HB4 HRow4
  generalize w4.heap.size = gg at *
  go_wp2_with fail
  refine (C4.out _).mono ?_
  rintro e w6 ⟨rfl, hb6⟩
  have HH6 := hid (HH5.out.below hb6)
  have HB6 := hid (bstep HB5.out hb6)
  have hcv : (convert 28 9 (.slice a4 n4 c4)).run Try.prog w6 = .ok (.string ⟨#[97, 98]⟩) w6 := by
    have := Row.conv0 (HRow5.out.below hb6) (by simp)
    rw [HAB.out] at this
    exact this
  clear hb6 HH5 HB5 HRow5
  have cg : ∀ q, w6.cell? ⟨gg, q, none⟩ = (#[.int .i64 0, .int .i64 7, .int .i64 64, .int .i64 17, .bool true, .int .u32 167772162, .int .u32 167772161] : Array Value)[q]? := fun q => cell_of_heap (HH6.out.at 1 _ _ rfl) q
  have ch : ∀ q, w6.cell? ⟨w.heap.size, q, none⟩ = (#[.int .i64 0, .int .i64 7, .int .i64 64, .int .i64 17, .bool true, .int .u32 167772162, .int .u32 167772161] : Array Value)[q]? := fun q => cell_of_heap (HH6.out.at 4 _ _ rfl) q
  go_wp2
  go_ret
  exact ⟨rfl, HB6.out⟩
end Go.Proofs.Ytccmkljbedddiaa
