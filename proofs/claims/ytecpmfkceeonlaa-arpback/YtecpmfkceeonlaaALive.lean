/-
  The statements' own function live.
-/
import Derived.Test.YtecpmfkceeonlaaAEnc
import Derived.Test.YtecpmfkceeonlaaADecX
import Derived.Test.YtecpmfkceeonlaaAClash
import Derived.Test.YtecpmfkceeonlaaBOwnP
namespace Go.Proofs.Ytecpmfkceeonlaa
open Go.RowKit
set_option linter.all false

theorem grown_below' {w w' : World} {r : Option Nat} {B : Nat} (h : w.grownBy w' r) (hr : ∀ g, r = some g → B ≤ g) (hB : B ≤ w.heap.size) : Below B w w' :=
  ⟨h.os, h.tape, h.output, h.size, fun k hk => h.block k (by omega) (fun e => by have := hr k e.symm; omega)⟩
/-- two boxes that are read, and what else must stay. -/
def Two (w : World) (l : List (Nat × Obj)) (g h : Nat) (A B : Array Value) (w' : World) : Prop := (∀ q, w'.cell? ⟨g, q, none⟩ = A[q]?) ∧ (∀ q, w'.cell? ⟨h, q, none⟩ = B[q]?) ∧ Holds w' l ∧ Below w.heap.size w w'
theorem two_of {w w' : World} {l : List (Nat × Obj)} {g h : Nat} {A B : Array Value} {t u : TypeId} {f k : Nat × Nat} (h1 : Holds w' l) (h2 : Below w.heap.size w w') (hA : (g, Obj.cells A t f) ∈ l) (hB : (h, Obj.cells B u k) ∈ l) : Two w l g h A B w' :=
  ⟨fun q => cell_of_heap (h1 _ hA) q, fun q => cell_of_heap (h1 _ hB) q, h1, h2⟩
theorem two_on {w W w' : World} {l : List (Nat × Obj)} {g h : Nat} {A B : Array Value} {t u : TypeId} {f k : Nat × Nat} (h1 : Two w l g h A B W) (hb : Below W.heap.size W w') (hA : (g, Obj.cells A t f) ∈ l) (hB : (h, Obj.cells B u k) ∈ l) : Two w l g h A B w' :=
  two_of (h1.2.2.1.below hb) (bstep h1.2.2.2 hb) hA hB
def aM : Mac := ⟨2, 0, 0, 0, 0, 10⟩
def bM : Mac := ⟨2, 0, 0, 0, 0, 11⟩
theorem aM_ok : aM.ok := by simp [Mac.ok, aM]
theorem bM_ok : bM.ok := by simp [Mac.ok, bM]
def lvP : Arp := ⟨1, ⟨2, 0, 0, 0, 0, 10⟩, 167772170, ⟨0, 0, 0, 0, 0, 0⟩, 167772161⟩
theorem lvP_ok : lvP.ok := by simp [Arp.ok, Mac.ok, lvP]
theorem lv_ask (w : World) : Calls Try.prog 17 #[aM.val, .int .u32 167772170, .int .u32 167772161] w fun e w' => e = .returned lvP.val ∧ Below w.heap.size w w' := ask_any aM 167772170 167772161 w
theorem lv_enc (w : World) : Calls Try.prog 9 #[lvP.val] w fun e w' => ∃ g, e = .returned (.tuple #[.slice (some ⟨g, 0, none⟩) 28 28, .int .i64 0]) ∧ w.heap.size ≤ g ∧ w'.heap[g]? = some (.cells (u8s (encL lvP)).toArray 5 (0, 0)) ∧ Below w.heap.size w w' :=
  encode_ok lvP w lvP_ok rfl
theorem lv_app (w : World) (g gt : Nat) (f : Nat × Nat) (ty : TypeId) (hg : w.heap[g]? = some (.cells (u8s (encL lvP)).toArray 5 (0, 0))) (ht : w.heap[gt]? = some (.cells #[.int .u8 0, .int .u8 0] 5 f)) :
    ∃ a c w', (Builtin.append_ #[28, 28] ty #[.slice (some ⟨g, 0, none⟩) 28 28, .slice (some ⟨gt, 0, none⟩) 2 2]).run Try.prog w = .ok (.slice a 30 c) w' ∧ Row w' 5 (.slice a 30 c) (u8s (encL lvP ++ [0, 0])) ∧ w.grownBy w' (some g) := by
  obtain ⟨v', w', h1, h2, h3, _⟩ := append_part (v := .slice (some ⟨g, 0, none⟩) 28 28) (zs := encL lvP) (Row.of_heap hg (by decide)) ⟨some ⟨gt, 0, none⟩, 2, [0, 0]⟩ (Part.of_row (zs := [0, 0]) ht (by simp) (by simp)) (show 28 + 2 ≤ 140737488355328 by omega) ty
  obtain ⟨a, c, hv, _⟩ := h2.form
  have e : (u8s (encL lvP ++ [0, 0])).length = 30 := rfl
  rw [e] at hv
  subst hv
  exact ⟨a, c, w', h1, h2, h3⟩
theorem lv_dec (w : World) (a : Option Addr) (c : Nat) (h : Row w 5 (.slice a 30 c) (u8s (encL lvP ++ [0, 0]))) :
    Calls Try.prog 14 #[.slice a 30 c] w fun e w' => e = .returned (.tuple #[lvP.val, .int .i64 0]) ∧ Below w.heap.size w w' := by
  obtain ⟨pt, e1, e2, ok⟩ := h.part (by decide)
  rw [e1]
  have := decode_any pt w ok (by rw [e2]; decide)
  rw [e2] at this
  exact this
theorem lv_tell (w : World) : Calls Try.prog 19 #[bM.val, lvP.val] w fun e w' => e = .returned (tellP bM lvP).val ∧ Below w.heap.size w w' := tell_any bM lvP w
def thrP : Arp := ⟨3, ⟨0, 0, 0, 0, 0, 0⟩, 0, ⟨0, 0, 0, 0, 0, 0⟩, 0⟩
theorem lv_enc3 (w : World) : Calls Try.prog 9 #[thrP.val] w fun e w' => e = .returned (.tuple #[.slice none 0 0, .int .i64 80]) ∧ Below w.heap.size w w' := encode_no thrP w rfl
theorem lv_dec0 (w : World) : Calls Try.prog 14 #[.slice none 0 0] w fun e w' => e = .returned (.tuple #[zeroArp.val, .int .i64 5]) ∧ Below w.heap.size w w' := decode_short none 0 0 w (by omega)
theorem lv_pr1 (w : World) : Calls Try.prog 18 #[bM.val, .int .u32 9] w fun e w' => e = .returned (askP bM 0 9).val ∧ Below w.heap.size w w' := probe_any bM 9 w
theorem lv_pr2 (w : World) : Calls Try.prog 18 #[aM.val, .int .u32 9] w fun e w' => e = .returned (askP aM 0 9).val ∧ Below w.heap.size w w' := probe_any aM 9 w
theorem lv_cl1 (w : World) : Calls Try.prog 23 #[aM.val, .int .u32 9, (askP bM 0 9).val] w fun e w' => e = .returned (.bool true) ∧ Below w.heap.size w w' := clash_any aM 9 (askP bM 0 9) w aM_ok ⟨by simp [askP], bM_ok, by simp [askP], zeroMac_ok, by simp [askP]⟩
theorem lv_cl2 (w : World) : Calls Try.prog 23 #[aM.val, .int .u32 9, (askP aM 0 9).val] w fun e w' => e = .returned (.bool false) ∧ Below w.heap.size w w' := clash_any aM 9 (askP aM 0 9) w aM_ok ⟨by simp [askP], aM_ok, by simp [askP], zeroMac_ok, by simp [askP]⟩
set_option maxRecDepth 20000 in
set_option maxHeartbeats 4000000 in
theorem live_any (w : World) : Calls Try.prog 8 #[] w fun e w' => e = .returned (.bool true) ∧ Below w.heap.size w w' := by
  have C1 := hid @lv_ask
  have C2 := hid @lv_enc
  have C3 := hid @lv_dec
  have C4 := hid @lv_tell
  have C5 := hid @lv_enc3
  have C6 := hid @lv_dec0
  have C7 := hid @lv_pr1
  have C8 := hid @lv_cl1
  have C9 := hid @lv_pr2
  have CA := hid @lv_cl2
  have CP := hid @lv_app
  have q1 := arp_eq lvP lvP lvP_ok lvP_ok
  have q2 := mac_eq bM bM bM_ok bM_ok
  rw [decide_eq_true rfl] at q1 q2
  generalize hEL : encL lvP = EL at *
  clear hEL
  simp only [Mac.val, Arp.val, aM, bM, lvP, tellP, thrP, zeroArp, zeroMac, askP] at C1 C2 C3 C4 C5 C6 C7 C8 C9 CA q1 q2
  go_enter Try.func8, Try.ntmps8
  go_wp2_with fail
  refine (C1.out _).mono ?_
  rintro e w1 ⟨rfl, hb1⟩
  have HH1 := hid (((((Holds.nil w).push (.cells #[.int .u8 2, .int .u8 0, .int .u8 0, .int .u8 0, .int .u8 0, .int .u8 10] 24)).push (.cells #[.int .u8 2, .int .u8 0, .int .u8 0, .int .u8 0, .int .u8 0, .int .u8 11] 24)).below hb1).push (.cells lvP.cells 27))
  have HB1 := hid (bpush (bstep (bpush (bpush (Below.refl _ w) _) _) hb1) (.cells lvP.cells 27))
  simp only [World.size_alloc, Arp.cells, lvP] at HH1 HB1
  have l1 : w.heap.size + 2 ≤ w1.heap.size := by have := hb1.size; simp only [World.size_alloc] at this; omega
  clear hb1
  go_wp2_with fail
  refine (C2.out _).mono ?_
  rintro e w2 ⟨g, rfl, hg2, hgb, hb2⟩
  rw [World.size_alloc] at hg2
  have HH2 := hid ((HH1.out.below hb2).cons hgb)
  have HB2 := hid (bstep HB1.out hb2)
  generalize w1.heap.size = gp at *
  clear hb2 hgb HH1 HB1
  obtain ⟨a3, c3, w3, hr3, hrow3, hgr3⟩ := CP.out (w2.alloc (.cells #[.int .u8 0, .int .u8 0] 5)) g w2.heap.size (0, 0) 28 ((HH2.out.push (.cells #[.int .u8 0, .int .u8 0] 5)).at 1 _ _ rfl) (heap_new _ _)
  have HR3 := hid hr3
  have HH3 : Hid (Holds w3 [(gp, .cells #[.int .i64 1, .int .u8 2, .int .u8 0, .int .u8 0, .int .u8 0, .int .u8 0, .int .u8 10, .int .u32 167772170, .int .u8 0, .int .u8 0, .int .u8 0, .int .u8 0, .int .u8 0, .int .u8 0, .int .u32 167772161] 27), (w.heap.size + 1, .cells #[.int .u8 2, .int .u8 0, .int .u8 0, .int .u8 0, .int .u8 0, .int .u8 11] 24), (w.heap.size, .cells #[.int .u8 2, .int .u8 0, .int .u8 0, .int .u8 0, .int .u8 0, .int .u8 10] 24)]) := by
    have h := HH2.out.push (.cells #[.int .u8 0, .int .u8 0] 5)
    have k2 := h.at 2 _ _ rfl
    have k3 := h.at 3 _ _ rfl
    have k4 := h.at 4 _ _ rfl
    exact (((Holds.nil w3).cons ((hgr3.block _ (heap_lt k4) (by simp; omega)).trans k4)).cons ((hgr3.block _ (heap_lt k3) (by simp; omega)).trans k3)).cons ((hgr3.block _ (heap_lt k2) (by simp; omega)).trans k2)
  have HB3 : Hid (Below w.heap.size w w3) := (bpush HB2.out (.cells #[.int .u8 0, .int .u8 0] 5)).trans (grown_below' hgr3 (fun k e => by simp at e; omega) (bpush HB2.out (.cells #[.int .u8 0, .int .u8 0] 5)).size)
  have HW3 := hid hrow3
  clear hr3 hrow3 hgr3
  go_wp2_with (first | (at_builtin; refine wpList_append_run _ rfl (.tmp 25) (.tmp 26) 28 28 rfl _ _ rfl rfl HR3.out ?_) | fail)
  refine (C3.out _ _ _ HW3.out).mono ?_
  rintro e w4 ⟨rfl, hb4⟩
  have HH4 := hid (HH3.out.below hb4)
  have HB4 := hid (bstep HB3.out hb4)
  clear hb4 HH3 HB3 HW3 HR3
  have cb : ∀ q, w4.cell? ⟨w.heap.size + 1, q, none⟩ = (#[.int .u8 2, .int .u8 0, .int .u8 0, .int .u8 0, .int .u8 0, .int .u8 11] : Array Value)[q]? := fun q => cell_of_heap (HH4.out.at 1 _ _ rfl) q
  have nb : w.heap.size + 1 < w4.heap.size := heap_lt (HH4.out.at 1 _ _ rfl)
  have cp : ∀ q, w4.cell? ⟨gp, q, none⟩ = (#[.int .i64 1, .int .u8 2, .int .u8 0, .int .u8 0, .int .u8 0, .int .u8 0, .int .u8 10, .int .u32 167772170, .int .u8 0, .int .u8 0, .int .u8 0, .int .u8 0, .int .u8 0, .int .u8 0, .int .u32 167772161] : Array Value)[q]? := fun q => cell_of_heap (HH4.out.at 0 _ _ rfl) q
  have np : gp < w4.heap.size := heap_lt (HH4.out.at 0 _ _ rfl)
  go_wp2_with fail
  refine (C4.out _).mono ?_
  rintro e w5 ⟨rfl, hb5⟩
  have HH5 := hid ((HH4.out.push (.cells #[.int .i64 1, .int .u8 2, .int .u8 0, .int .u8 0, .int .u8 0, .int .u8 0, .int .u8 10, .int .u32 167772170, .int .u8 0, .int .u8 0, .int .u8 0, .int .u8 0, .int .u8 0, .int .u8 0, .int .u32 167772161] 27)).below hb5)
  have HB5 := hid (bstep (bpush HB4.out (.cells #[.int .i64 1, .int .u8 2, .int .u8 0, .int .u8 0, .int .u8 0, .int .u8 0, .int .u8 10, .int .u32 167772170, .int .u8 0, .int .u8 0, .int .u8 0, .int .u8 0, .int .u8 0, .int .u8 0, .int .u32 167772161] 27)) hb5)
  clear hb5 HH4 HB4 cb cp nb np
  generalize w4.heap.size = gy at *
  go_wp2_with fail
  refine (C5.out _).mono ?_
  rintro e w6 ⟨rfl, hb6⟩
  have HH6 := hid ((HH5.out.push (.cells #[.int .i64 2, .int .u8 2, .int .u8 0, .int .u8 0, .int .u8 0, .int .u8 0, .int .u8 11, .int .u32 167772161, .int .u8 2, .int .u8 0, .int .u8 0, .int .u8 0, .int .u8 0, .int .u8 10, .int .u32 167772170] 27)).below hb6)
  have HB6 := hid (bstep (bpush HB5.out (.cells #[.int .i64 2, .int .u8 2, .int .u8 0, .int .u8 0, .int .u8 0, .int .u8 0, .int .u8 11, .int .u32 167772161, .int .u8 2, .int .u8 0, .int .u8 0, .int .u8 0, .int .u8 0, .int .u8 10, .int .u32 167772170] 27)) hb6)
  clear hb6 HH5 HB5
  generalize w5.heap.size = gq at *
  go_wp2_with fail
  refine (C6.out _).mono ?_
  rintro e w7 ⟨rfl, hb7⟩
  have HH7 := hid (HH6.out.below hb7)
  have HB7 := hid (bstep HB6.out hb7)
  clear hb7 HH6 HB6
  have HMA : Hid ((w.heap.size, Obj.cells #[.int .u8 2, .int .u8 0, .int .u8 0, .int .u8 0, .int .u8 0, .int .u8 10] 24 (0, 0)) ∈ ([(gq, .cells #[.int .i64 2, .int .u8 2, .int .u8 0, .int .u8 0, .int .u8 0, .int .u8 0, .int .u8 11, .int .u32 167772161, .int .u8 2, .int .u8 0, .int .u8 0, .int .u8 0, .int .u8 0, .int .u8 10, .int .u32 167772170] 27), (gy, .cells #[.int .i64 1, .int .u8 2, .int .u8 0, .int .u8 0, .int .u8 0, .int .u8 0, .int .u8 10, .int .u32 167772170, .int .u8 0, .int .u8 0, .int .u8 0, .int .u8 0, .int .u8 0, .int .u8 0, .int .u32 167772161] 27), (gp, .cells #[.int .i64 1, .int .u8 2, .int .u8 0, .int .u8 0, .int .u8 0, .int .u8 0, .int .u8 10, .int .u32 167772170, .int .u8 0, .int .u8 0, .int .u8 0, .int .u8 0, .int .u8 0, .int .u8 0, .int .u32 167772161] 27), (w.heap.size + 1, .cells #[.int .u8 2, .int .u8 0, .int .u8 0, .int .u8 0, .int .u8 0, .int .u8 11] 24), (w.heap.size, .cells #[.int .u8 2, .int .u8 0, .int .u8 0, .int .u8 0, .int .u8 0, .int .u8 10] 24)] : List (Nat × Obj))) := by unfold Hid; simp
  have HMB : Hid ((w.heap.size + 1, Obj.cells #[.int .u8 2, .int .u8 0, .int .u8 0, .int .u8 0, .int .u8 0, .int .u8 11] 24 (0, 0)) ∈ ([(gq, .cells #[.int .i64 2, .int .u8 2, .int .u8 0, .int .u8 0, .int .u8 0, .int .u8 0, .int .u8 11, .int .u32 167772161, .int .u8 2, .int .u8 0, .int .u8 0, .int .u8 0, .int .u8 0, .int .u8 10, .int .u32 167772170] 27), (gy, .cells #[.int .i64 1, .int .u8 2, .int .u8 0, .int .u8 0, .int .u8 0, .int .u8 0, .int .u8 10, .int .u32 167772170, .int .u8 0, .int .u8 0, .int .u8 0, .int .u8 0, .int .u8 0, .int .u8 0, .int .u32 167772161] 27), (gp, .cells #[.int .i64 1, .int .u8 2, .int .u8 0, .int .u8 0, .int .u8 0, .int .u8 0, .int .u8 10, .int .u32 167772170, .int .u8 0, .int .u8 0, .int .u8 0, .int .u8 0, .int .u8 0, .int .u8 0, .int .u32 167772161] 27), (w.heap.size + 1, .cells #[.int .u8 2, .int .u8 0, .int .u8 0, .int .u8 0, .int .u8 0, .int .u8 11] 24), (w.heap.size, .cells #[.int .u8 2, .int .u8 0, .int .u8 0, .int .u8 0, .int .u8 0, .int .u8 10] 24)] : List (Nat × Obj))) := by unfold Hid; simp
  have HL : Hid (∀ w', Holds w' [(gq, .cells #[.int .i64 2, .int .u8 2, .int .u8 0, .int .u8 0, .int .u8 0, .int .u8 0, .int .u8 11, .int .u32 167772161, .int .u8 2, .int .u8 0, .int .u8 0, .int .u8 0, .int .u8 0, .int .u8 10, .int .u32 167772170] 27), (gy, .cells #[.int .i64 1, .int .u8 2, .int .u8 0, .int .u8 0, .int .u8 0, .int .u8 0, .int .u8 10, .int .u32 167772170, .int .u8 0, .int .u8 0, .int .u8 0, .int .u8 0, .int .u8 0, .int .u8 0, .int .u32 167772161] 27), (gp, .cells #[.int .i64 1, .int .u8 2, .int .u8 0, .int .u8 0, .int .u8 0, .int .u8 0, .int .u8 10, .int .u32 167772170, .int .u8 0, .int .u8 0, .int .u8 0, .int .u8 0, .int .u8 0, .int .u8 0, .int .u32 167772161] 27), (w.heap.size + 1, .cells #[.int .u8 2, .int .u8 0, .int .u8 0, .int .u8 0, .int .u8 0, .int .u8 11] 24), (w.heap.size, .cells #[.int .u8 2, .int .u8 0, .int .u8 0, .int .u8 0, .int .u8 0, .int .u8 10] 24)] → w'.heap[gq]? = some (.cells #[.int .i64 2, .int .u8 2, .int .u8 0, .int .u8 0, .int .u8 0, .int .u8 0, .int .u8 11, .int .u32 167772161, .int .u8 2, .int .u8 0, .int .u8 0, .int .u8 0, .int .u8 0, .int .u8 10, .int .u32 167772170] 27) ∧ w'.heap[gy]? = some (.cells #[.int .i64 1, .int .u8 2, .int .u8 0, .int .u8 0, .int .u8 0, .int .u8 0, .int .u8 10, .int .u32 167772170, .int .u8 0, .int .u8 0, .int .u8 0, .int .u8 0, .int .u8 0, .int .u8 0, .int .u32 167772161] 27) ∧ w'.heap[gp]? = some (.cells #[.int .i64 1, .int .u8 2, .int .u8 0, .int .u8 0, .int .u8 0, .int .u8 0, .int .u8 10, .int .u32 167772170, .int .u8 0, .int .u8 0, .int .u8 0, .int .u8 0, .int .u8 0, .int .u8 0, .int .u32 167772161] 27) ∧ w'.heap[w.heap.size + 1]? = some (.cells #[.int .u8 2, .int .u8 0, .int .u8 0, .int .u8 0, .int .u8 0, .int .u8 11] 24)) := fun w' h => ⟨h.at 0 _ _ rfl, h.at 1 _ _ rfl, h.at 2 _ _ rfl, h.at 3 _ _ rfl⟩
  have HH7 : Hid (Holds w7 [(gq, .cells #[.int .i64 2, .int .u8 2, .int .u8 0, .int .u8 0, .int .u8 0, .int .u8 0, .int .u8 11, .int .u32 167772161, .int .u8 2, .int .u8 0, .int .u8 0, .int .u8 0, .int .u8 0, .int .u8 10, .int .u32 167772170] 27), (gy, .cells #[.int .i64 1, .int .u8 2, .int .u8 0, .int .u8 0, .int .u8 0, .int .u8 0, .int .u8 10, .int .u32 167772170, .int .u8 0, .int .u8 0, .int .u8 0, .int .u8 0, .int .u8 0, .int .u8 0, .int .u32 167772161] 27), (gp, .cells #[.int .i64 1, .int .u8 2, .int .u8 0, .int .u8 0, .int .u8 0, .int .u8 0, .int .u8 10, .int .u32 167772170, .int .u8 0, .int .u8 0, .int .u8 0, .int .u8 0, .int .u8 0, .int .u8 0, .int .u32 167772161] 27), (w.heap.size + 1, .cells #[.int .u8 2, .int .u8 0, .int .u8 0, .int .u8 0, .int .u8 0, .int .u8 11] 24), (w.heap.size, .cells #[.int .u8 2, .int .u8 0, .int .u8 0, .int .u8 0, .int .u8 0, .int .u8 10] 24)]) := HH7
  generalize hLL : ([(gq, .cells #[.int .i64 2, .int .u8 2, .int .u8 0, .int .u8 0, .int .u8 0, .int .u8 0, .int .u8 11, .int .u32 167772161, .int .u8 2, .int .u8 0, .int .u8 0, .int .u8 0, .int .u8 0, .int .u8 10, .int .u32 167772170] 27), (gy, .cells #[.int .i64 1, .int .u8 2, .int .u8 0, .int .u8 0, .int .u8 0, .int .u8 0, .int .u8 10, .int .u32 167772170, .int .u8 0, .int .u8 0, .int .u8 0, .int .u8 0, .int .u8 0, .int .u8 0, .int .u32 167772161] 27), (gp, .cells #[.int .i64 1, .int .u8 2, .int .u8 0, .int .u8 0, .int .u8 0, .int .u8 0, .int .u8 10, .int .u32 167772170, .int .u8 0, .int .u8 0, .int .u8 0, .int .u8 0, .int .u8 0, .int .u8 0, .int .u32 167772161] 27), (w.heap.size + 1, .cells #[.int .u8 2, .int .u8 0, .int .u8 0, .int .u8 0, .int .u8 0, .int .u8 11] 24), (w.heap.size, .cells #[.int .u8 2, .int .u8 0, .int .u8 0, .int .u8 0, .int .u8 0, .int .u8 10] 24)] : List (Nat × Obj)) = LL at *
  clear hLL
  have HS7 : Hid (Two w LL w.heap.size (w.heap.size + 1) #[.int .u8 2, .int .u8 0, .int .u8 0, .int .u8 0, .int .u8 0, .int .u8 10] #[.int .u8 2, .int .u8 0, .int .u8 0, .int .u8 0, .int .u8 0, .int .u8 11] w7) := two_of HH7.out HB7.out HMA.out HMB.out
  go_wp2_with fail
  go_region_held3 (fun w' => (∀ q, w'.cell? ⟨w.heap.size, q, none⟩ = (#[.int .u8 2, .int .u8 0, .int .u8 0, .int .u8 0, .int .u8 0, .int .u8 10] : Array Value)[q]?) ∧ (∀ q, w'.cell? ⟨w.heap.size + 1, q, none⟩ = (#[.int .u8 2, .int .u8 0, .int .u8 0, .int .u8 0, .int .u8 0, .int .u8 11] : Array Value)[q]?) ∧ Holds w' LL ∧ Below w.heap.size w w') (first
      | assumption | exact two_on HS7.out (Below.refl _ _).drew HMA.out HMB.out | exact two_on HS7.out ((Below.refl _ _).alloc (Nat.le_refl _) _).drew HMA.out HMB.out | exact two_on (by assumption) (by assumption) HMA.out HMB.out) (first
      | (go_at_call 18; refine (C7.out _).mono ?_; rintro e w' ⟨rfl, hb⟩)
      | (go_at_call 23; refine (C8.out _).mono ?_; rintro e w8 ⟨rfl, hb'⟩) | fail)
  have HT8 : Hid (Two w LL w.heap.size (w.heap.size + 1) #[.int .u8 2, .int .u8 0, .int .u8 0, .int .u8 0, .int .u8 0, .int .u8 10] #[.int .u8 2, .int .u8 0, .int .u8 0, .int .u8 0, .int .u8 0, .int .u8 11] w8) := (by assumption)
  have HH8 := hid HT8.out.2.2.1
  have HB8 := hid HT8.out.2.2.2
  clear HS7 HT8 HH7 HB7 hb hb'
  have HS8 : Hid (Two w LL w.heap.size (w.heap.size + 1) #[.int .u8 2, .int .u8 0, .int .u8 0, .int .u8 0, .int .u8 0, .int .u8 10] #[.int .u8 2, .int .u8 0, .int .u8 0, .int .u8 0, .int .u8 0, .int .u8 11] w8) := two_of HH8.out HB8.out HMA.out HMB.out
  go_wp2_with fail
  go_region_held3 (fun w' => (∀ q, w'.cell? ⟨w.heap.size, q, none⟩ = (#[.int .u8 2, .int .u8 0, .int .u8 0, .int .u8 0, .int .u8 0, .int .u8 10] : Array Value)[q]?) ∧ (∀ q, w'.cell? ⟨w.heap.size + 1, q, none⟩ = (#[.int .u8 2, .int .u8 0, .int .u8 0, .int .u8 0, .int .u8 0, .int .u8 11] : Array Value)[q]?) ∧ Holds w' LL ∧ Below w.heap.size w w') (first
      | assumption | exact two_on HS8.out (Below.refl _ _).drew HMA.out HMB.out | exact two_on HS8.out ((Below.refl _ _).alloc (Nat.le_refl _) _).drew HMA.out HMB.out | exact two_on (by assumption) (by assumption) HMA.out HMB.out) (first
      | (go_at_call 18; refine (C9.out _).mono ?_; rintro e w' ⟨rfl, hb⟩)
      | (go_at_call 23; refine (CA.out _).mono ?_; rintro e w9 ⟨rfl, hb'⟩) | fail)
  have HT9 : Hid (Two w LL w.heap.size (w.heap.size + 1) #[.int .u8 2, .int .u8 0, .int .u8 0, .int .u8 0, .int .u8 0, .int .u8 10] #[.int .u8 2, .int .u8 0, .int .u8 0, .int .u8 0, .int .u8 0, .int .u8 11] w9) := (by assumption)
  have HH9 := hid HT9.out.2.2.1
  have HB9 := hid HT9.out.2.2.2
  clear HS8 HT9 HH8 HB8 hb hb'
  obtain ⟨k1, k2, k3, k4⟩ := HL.out _ HH9.out
  have cq : ∀ q, w9.cell? ⟨gq, q, none⟩ = (#[.int .i64 2, .int .u8 2, .int .u8 0, .int .u8 0, .int .u8 0, .int .u8 0, .int .u8 11, .int .u32 167772161, .int .u8 2, .int .u8 0, .int .u8 0, .int .u8 0, .int .u8 0, .int .u8 10, .int .u32 167772170] : Array Value)[q]? := fun q => cell_of_heap k1 q
  have cy : ∀ q, w9.cell? ⟨gy, q, none⟩ = (#[.int .i64 1, .int .u8 2, .int .u8 0, .int .u8 0, .int .u8 0, .int .u8 0, .int .u8 10, .int .u32 167772170, .int .u8 0, .int .u8 0, .int .u8 0, .int .u8 0, .int .u8 0, .int .u8 0, .int .u32 167772161] : Array Value)[q]? := fun q => cell_of_heap k2 q
  have cp : ∀ q, w9.cell? ⟨gp, q, none⟩ = (#[.int .i64 1, .int .u8 2, .int .u8 0, .int .u8 0, .int .u8 0, .int .u8 0, .int .u8 10, .int .u32 167772170, .int .u8 0, .int .u8 0, .int .u8 0, .int .u8 0, .int .u8 0, .int .u8 0, .int .u32 167772161] : Array Value)[q]? := fun q => cell_of_heap k3 q
  have cb : ∀ q, w9.cell? ⟨w.heap.size + 1, q, none⟩ = (#[.int .u8 2, .int .u8 0, .int .u8 0, .int .u8 0, .int .u8 0, .int .u8 11] : Array Value)[q]? := fun q => cell_of_heap k4 q
  clear k1 k2 k3 k4
  go_wp2
  go_ret
  exact ⟨rfl, HB9.out⟩
end Go.Proofs.Ytecpmfkceeonlaa
