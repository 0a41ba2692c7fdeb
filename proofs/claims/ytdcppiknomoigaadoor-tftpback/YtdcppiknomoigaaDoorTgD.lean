/-
  Tftp: the program's Decode.
-/
import Derived.Test.YtdcppiknomoigaaDoorTgX
import Derived.Test.YtdcppiknomoigaaDoorBStep
import Derived.Deep.RegionHeld3
import Derived.Deep.DeepCutAuto
namespace Go.Proofs.YtdcppiknomoigaaDoor
open Go.RowKit
set_option linter.all false

set_option maxRecDepth 20000 in
set_option maxHeartbeats 4000000 in
theorem decode_short (pt : Part) (w : World) (hok : pt.ok w) (hs : pt.zs.length < 2) :
    Calls Tryd.prog 17 #[pt.val] w fun e w' => ∃ ca cc da dc, e = .returned (.tuple #[.agg (tpC (decQ pt.zs) ca cc da dc), .int .i64 (decE pt.zs)]) ∧ Hid (DcO w w' (decQ pt.zs) ca cc da dc) := by
  have HQ : Hid (decQ pt.zs = Tp.nil ∧ decE pt.zs = 5) := dec_er_of (by unfold decT; rw [if_pos hs])
  have hcap : pt.zs.length ≤ pt.c := hok.2.1
  obtain ⟨ad, c, zs⟩ := pt
  simp only [Part.val] at *
  obtain ⟨W1, hW1⟩ : ∃ W1, W1 = ((w.alloc (.cells #[.int .i64 0, .string ⟨#[]⟩, .string ⟨#[]⟩, .slice none 0 0, .int .i64 0, .slice none 0 0, .int .i64 0, .string ⟨#[]⟩] 26)).alloc (.cells #[.slice none 0 0, .int .i64 0] 67)).setRow (w.heap.size + 1) #[.slice ad zs.length c, .int .i64 0] := ⟨_, rfl⟩
  have HX1 : Hid (((w.alloc (.cells #[.int .i64 0, .string ⟨#[]⟩, .string ⟨#[]⟩, .slice none 0 0, .int .i64 0, .slice none 0 0, .int .i64 0, .string ⟨#[]⟩] 26)).alloc (.cells #[.slice none 0 0, .int .i64 0] 67)).heap[w.heap.size + 1]? = some (.cells #[.slice none 0 0, .int .i64 0] 67 (0, 0))) := by
    have := heap_new (w.alloc (.cells #[.int .i64 0, .string ⟨#[]⟩, .string ⟨#[]⟩, .slice none 0 0, .int .i64 0, .slice none 0 0, .int .i64 0, .string ⟨#[]⟩] 26)) (.cells #[.slice none 0 0, .int .i64 0] 67)
    unfold Hid; simpa using this
  have hrd : W1.heap[w.heap.size + 1]? = some (.cells #[.slice ad zs.length c, .int .i64 0] 67 (0, 0)) := by rw [hW1]; exact setRow_heap _ _ _ _ _ _ HX1.out
  have hbt : But (w.heap.size + 1) ((w.alloc (.cells #[.int .i64 0, .string ⟨#[]⟩, .string ⟨#[]⟩, .slice none 0 0, .int .i64 0, .slice none 0 0, .int .i64 0, .string ⟨#[]⟩] 26)).alloc (.cells #[.slice none 0 0, .int .i64 0] 67)) W1 := by rw [hW1]; exact But.setRow _ _ _
  have hb1 : Below w.heap.size w W1 := bbut (bpush (bpush (Below.refl _ _) _) _) hbt (by omega)
  have hres : W1.heap[w.heap.size]? = some (.cells tpZ 26 (0, 0)) := by
    refine keptBut ?_ hbt (by omega)
    exact (heap_old _ _ (by simp)).trans (heap_new _ _)
  have hA : RdA w (w.heap.size + 1) W1 ad c zs 0 := ⟨hrd, hok, by omega, hb1⟩
  have CN := hid (number_short w (w.heap.size + 1) W1 ad c zs 0 hA hs)
  have HRES1 := hid hres
  have HF2 : Hid (∀ w2, RdA w (w.heap.size + 1) w2 ad c zs (fstE 0 5) → But (w.heap.size + 1) W1 w2 → ∀ (F : Array Value) (W3 : World), W3 = (w2.alloc (.cells #[.int .i64 0, .string ⟨#[]⟩, .string ⟨#[]⟩, .slice none 0 0, .int .i64 0, .slice none 0 0, .int .i64 0, .string ⟨#[]⟩] 26)).setRow w2.heap.size F → RdA w (w.heap.size + 1) W3 ad c zs 5 ∧ W3.heap[w.heap.size]? = some (.cells tpZ 26 (0, 0))) := fun w2 h2 hb2 F W3 e => by
    subst e
    have h3 := h2.below (bpush (Below.refl _ _) (.cells #[.int .i64 0, .string ⟨#[]⟩, .string ⟨#[]⟩, .slice none 0 0, .int .i64 0, .slice none 0 0, .int .i64 0, .string ⟨#[]⟩] 26))
    have hlt := heap_lt h2.1
    have hbt : But w2.heap.size (w2.alloc (.cells #[.int .i64 0, .string ⟨#[]⟩, .string ⟨#[]⟩, .slice none 0 0, .int .i64 0, .slice none 0 0, .int .i64 0, .string ⟨#[]⟩] 26)) ((w2.alloc (.cells #[.int .i64 0, .string ⟨#[]⟩, .string ⟨#[]⟩, .slice none 0 0, .int .i64 0, .slice none 0 0, .int .i64 0, .string ⟨#[]⟩] 26)).setRow w2.heap.size F) := But.setRow _ _ _
    exact ⟨h3.but hbt (by omega) (by omega), keptBut ((heap_old _ _ (by omega)).trans (keptBut HRES1.out hb2 (by omega))) hbt (by omega)⟩
  rw [hW1] at CN HF2
  clear hA hok hrd hbt hb1 hres HRES1 hW1 hs hcap
  generalize zs.length = n at *
  go_enter Tryd.func17, Tryd.ntmps17
  go_upto_region 3 with (first
    | (refine wpList_store_row rfl 67 _ _ rfl (w.heap.size + 1) #[.slice ad n c, .int .i64 0] rfl rfl 67 _ HX1.out (by kernel_rfl) rfl (by first | kernel_rfl | simp [Value.oneCell']) ?_)
    | (go_at_call 39; refine CN.out.mono ?_; go_loud (rintro e w2 ⟨rfl, H2, HB2⟩; have HX2 := hid (heap_new w2 (.cells #[.int .i64 0, .string ⟨#[]⟩, .string ⟨#[]⟩, .slice none 0 0, .int .i64 0, .slice none 0 0, .int .i64 0, .string ⟨#[]⟩] 26))))
    | (refine wpList_store_row rfl 26 _ _ rfl w2.heap.size #[.int .i64 0, .string ⟨#[]⟩, .string ⟨#[]⟩, .slice none 0 0, .int .i64 0, .slice none 0 0, .int .i64 0, .string ⟨#[]⟩] rfl rfl 26 _ HX2.out (by kernel_rfl) rfl (by first | kernel_rfl | simp [Value.oneCell']) ?_)
    | fail)
  obtain ⟨W3, hW3⟩ : ∃ W3, W3 = (w2.alloc (.cells #[.int .i64 0, .string ⟨#[]⟩, .string ⟨#[]⟩, .slice none 0 0, .int .i64 0, .slice none 0 0, .int .i64 0, .string ⟨#[]⟩] 26)).setRow w2.heap.size #[.int .i64 0, .string ⟨#[]⟩, .string ⟨#[]⟩, .slice none 0 0, .int .i64 0, .slice none 0 0, .int .i64 0, .string ⟨#[]⟩] := ⟨_, rfl⟩
  have H3 := hid (HF2.out _ H2.out HB2.out _ _ hW3)
  have hx0 : W3.cell? ⟨w2.heap.size, 0, none⟩ = some (.int .i64 0) := by rw [hW3]; exact cell_of_heap (setRow_heap _ _ _ _ _ _ HX2.out) 0
  rw [← hW3]
  clear hW3 HF2 HX1 HX2 H2 HB2 CN
  generalize w2.heap.size = bp at *
  have CF := hid (failA_any w (w.heap.size + 1) W3 ad c zs 5 170 H3.out.1)
  go_upto_region 19 with (first
    | (go_at_call 45; refine CF.out.mono ?_; go_loud (rintro e W ⟨rfl, HRD, HB4⟩))
    | fail)
  have hce : W.cell? ⟨w.heap.size + 1, 1, none⟩ = some (.int .i64 5) := cell_of_heap HRD.out.1 1
  have HRES : Hid (W.heap[w.heap.size]? = some (.cells #[.int .i64 0, .string ⟨#[]⟩, .string ⟨#[]⟩, .slice none 0 0, .int .i64 0, .slice none 0 0, .int .i64 0, .string ⟨#[]⟩] 26 (0, 0))) := keptBut H3.out.2 HB4.out (by omega)
  have HBEL : Hid (Below w.heap.size w W) := HRD.out.2.2.2
  have hne : ¬ (5 : Int) = 0 := by omega
  clear CF HB4 H3 HRD hx0
  have hbn : ((5 : Int) != 0) = true := by simpa using hne
  go_upto_region 20 with fail
  refine wp_region_noPanic ?_
  refine wp_region_held_drew (S := fun w' => w'.cell? ⟨w.heap.size + 1, 1, none⟩ = some (.int .i64 5)) (by kernel_rfl) hce (fun hHeld => ?_)
  refine wpAnyH_take (i := 0) (oi := { dst := some 44, op := .build 26 #[], type := _, pos := _, after := _, guard := none }) (v := .agg #[.int .i64 0, .string ⟨#[]⟩, .string ⟨#[]⟩, .slice none 0 0, .int .i64 0, .slice none 0 0, .int .i64 0, .string ⟨#[]⟩]) rfl (by kernel_rfl) (by kernel_rfl) (by kernel_rfl) (fun _ _ _ h => h) (Or.inl ⟨by rfl, fun wq hSw => by (try dsimp only at hSw); first | go_simp | kernel_rfl⟩) (by assumption) ?_
  try simp only [Act.put, List.setIfInBounds_toArray, List.set_cons_zero, List.set_cons_succ]
  refine wpAnyH_take (i := 1) (oi := { dst := some 45, op := .fieldAddr 67 (.tmp 4) 1, type := _, pos := _, after := _, guard := none }) (v := .pointer (some ⟨w.heap.size + 1, 1, none⟩)) rfl (by kernel_rfl) (by kernel_rfl) (by kernel_rfl) (fun _ _ _ h => h) (Or.inl ⟨by rfl, fun wq hSw => by (try dsimp only at hSw); first | go_simp | kernel_rfl⟩) (by assumption) ?_
  try simp only [Act.put, List.setIfInBounds_toArray, List.set_cons_zero, List.set_cons_succ]
  refine wpAnyH_take (i := 2) (oi := { dst := some 46, op := .load 29 (.tmp 45), type := _, pos := _, after := _, guard := none }) (v := .int .i64 5) rfl (by kernel_rfl) (by kernel_rfl) (by kernel_rfl) (fun _ _ _ h => h) (Or.inl ⟨by rfl, fun wq hSw => by (try dsimp only at hSw); first | go_simp | kernel_rfl⟩) (by assumption) ?_
  try simp only [Act.put, List.setIfInBounds_toArray, List.set_cons_zero, List.set_cons_succ]
  refine wpAnyH_ready (rs := [3]) (by kernel_rfl) (by simp) ?_
  refine AllReadyH.cons (o := { dst := none, op := .store 26 (.tmp 2) (.tmp 44), type := _, pos := _, after := _, guard := none }) rfl (fun K hK => ?_) AllReadyH.nil
  refine step_store_row rfl 26 _ _ rfl w.heap.size #[.int .i64 0, .string ⟨#[]⟩, .string ⟨#[]⟩, .slice none 0 0, .int .i64 0, .slice none 0 0, .int .i64 0, .string ⟨#[]⟩] rfl rfl 26 _ (show W.drew.heap[w.heap.size]? = _ from HRES.out) (by kernel_rfl) rfl (by first | kernel_rfl | simp [Value.oneCell']) ?_
  intro w9 hg9 hb9
  have HCE9 : w9.cell? ⟨w.heap.size + 1, 1, none⟩ = some (.int .i64 5) := (hb9.out.cell (p := ⟨w.heap.size + 1, 1, none⟩) (by simp) (World.block_lt_of_cell? W _ hce)).trans hce
  refine hK.out _ _ HCE9 (fun hHeld => ?_)
  clear hK
  try simp only [Act.put, List.setIfInBounds_toArray, List.set_cons_zero, List.set_cons_succ]
  refine wpAnyH_take (i := 4) (oi := { dst := some 3, op := .assign (.tmp 46), type := _, pos := _, after := _, guard := none }) (v := .int .i64 5) rfl (by kernel_rfl) (by kernel_rfl) (by kernel_rfl) (fun _ _ _ h => h) (Or.inl ⟨by rfl, fun wq hSw => by (try dsimp only at hSw); first | go_simp | kernel_rfl⟩) (by assumption) ?_
  try simp only [Act.put, List.setIfInBounds_toArray, List.set_cons_zero, List.set_cons_succ]
  refine wpAnyH_done (by kernel_rfl) ?_ _
  refine NoPanic.normal ?_
  go_wp2_with fail
  try simp only [Exit.inBlock, Exit.then]
  refine bodyPost_ret (v := .tuple #[.agg #[.int .i64 0, .string ⟨#[]⟩, .string ⟨#[]⟩, .slice none 0 0, .int .i64 0, .slice none 0 0, .int .i64 0, .string ⟨#[]⟩], .int .i64 5]) ?_ (by rfl) ?_
  · exact results_row2 Tryd.results17 _ _ w.heap.size 26 _ (0, 0) _ _ rfl rfl hg9.out Tryd.underlying26 rfl (by kernel_rfl)
  · refine ⟨none, 0, none, 0, ?_, ?_⟩
    · rw [HQ.out.1, HQ.out.2]; rfl
    · rw [HQ.out.1]; exact dcO_nil (bbut HBEL.out.drew hb9.out (Nat.le_refl _))
set_option maxRecDepth 20000 in
set_option maxHeartbeats 16000000 in
theorem decode_long (pt : Part) (w : World) (hE : Env w) (hok : pt.ok w) (hl : pt.zs.length ≤ 140737488353280) (hs : ¬ pt.zs.length < 2) :
    Calls Tryd.prog 17 #[pt.val] w fun e w' => ∃ ca cc da dc, e = .returned (.tuple #[.agg (tpC (decQ pt.zs) ca cc da dc), .int .i64 (decE pt.zs)]) ∧ Hid (DcO w w' (decQ pt.zs) ca cc da dc) := by
  have HENV := hid hE
  have HDEC : Hid (decT pt.zs = if be2 pt.zs = 1 then decRd (pt.zs.drop 2) else if be2 pt.zs = 6 then (match readG [] (pt.zs.drop 2) with | .error e => .error e | .ok l => .ok { Tp.nil with op := 6, ch := l }) else if be2 pt.zs = 3 ∨ be2 pt.zs = 4 ∨ be2 pt.zs = 5 then decNu (be2 pt.zs) (pt.zs.drop 2) else .error 170) := by
    unfold Hid decT; rw [if_neg hs]; rfl
  have hcap : pt.zs.length ≤ pt.c := hok.2.1
  obtain ⟨ad, c, zs⟩ := pt
  simp only [Part.val] at *
  obtain ⟨W1, hW1⟩ : ∃ W1, W1 = ((w.alloc (.cells #[.int .i64 0, .string ⟨#[]⟩, .string ⟨#[]⟩, .slice none 0 0, .int .i64 0, .slice none 0 0, .int .i64 0, .string ⟨#[]⟩] 26)).alloc (.cells #[.slice none 0 0, .int .i64 0] 67)).setRow (w.heap.size + 1) #[.slice ad zs.length c, .int .i64 0] := ⟨_, rfl⟩
  have HX1 : Hid (((w.alloc (.cells #[.int .i64 0, .string ⟨#[]⟩, .string ⟨#[]⟩, .slice none 0 0, .int .i64 0, .slice none 0 0, .int .i64 0, .string ⟨#[]⟩] 26)).alloc (.cells #[.slice none 0 0, .int .i64 0] 67)).heap[w.heap.size + 1]? = some (.cells #[.slice none 0 0, .int .i64 0] 67 (0, 0))) := by
    have := heap_new (w.alloc (.cells #[.int .i64 0, .string ⟨#[]⟩, .string ⟨#[]⟩, .slice none 0 0, .int .i64 0, .slice none 0 0, .int .i64 0, .string ⟨#[]⟩] 26)) (.cells #[.slice none 0 0, .int .i64 0] 67)
    unfold Hid; simpa using this
  have hrd : W1.heap[w.heap.size + 1]? = some (.cells #[.slice ad zs.length c, .int .i64 0] 67 (0, 0)) := by rw [hW1]; exact setRow_heap _ _ _ _ _ _ HX1.out
  have hbt : But (w.heap.size + 1) ((w.alloc (.cells #[.int .i64 0, .string ⟨#[]⟩, .string ⟨#[]⟩, .slice none 0 0, .int .i64 0, .slice none 0 0, .int .i64 0, .string ⟨#[]⟩] 26)).alloc (.cells #[.slice none 0 0, .int .i64 0] 67)) W1 := by rw [hW1]; exact But.setRow _ _ _
  have hb1 : Below w.heap.size w W1 := bbut (bpush (bpush (Below.refl _ _) _) _) hbt (by omega)
  have hres : W1.heap[w.heap.size]? = some (.cells tpZ 26 (0, 0)) := by
    refine keptBut ?_ hbt (by omega)
    exact (heap_old _ _ (by simp)).trans (heap_new _ _)
  have hA : RdA w (w.heap.size + 1) W1 ad c zs 0 := ⟨hrd, hok, by omega, hb1⟩
  have CN := hid (number_ok w (w.heap.size + 1) W1 ad c zs 0 hA hs hl)
  have HRES1 := hid hres
  have HF2 : Hid (∀ w2, Rd w (w.heap.size + 1) w2 (zs.drop 2) 0 ∧ But (w.heap.size + 1) W1 w2 → ∀ (F : Array Value), DcI w ((w2.alloc (.cells #[.int .i64 0, .string ⟨#[]⟩, .string ⟨#[]⟩, .slice none 0 0, .int .i64 0, .slice none 0 0, .int .i64 0, .string ⟨#[]⟩] 26)).setRow w2.heap.size F) w2.heap.size F (zs.drop 2) 0) := fun w2 h2 F => by
    have h3 := h2.1.below (bpush (Below.refl _ _) (.cells #[.int .i64 0, .string ⟨#[]⟩, .string ⟨#[]⟩, .slice none 0 0, .int .i64 0, .slice none 0 0, .int .i64 0, .string ⟨#[]⟩] 26))
    have hlt := h2.1.lt
    have hbt : But w2.heap.size (w2.alloc (.cells #[.int .i64 0, .string ⟨#[]⟩, .string ⟨#[]⟩, .slice none 0 0, .int .i64 0, .slice none 0 0, .int .i64 0, .string ⟨#[]⟩] 26)) ((w2.alloc (.cells #[.int .i64 0, .string ⟨#[]⟩, .string ⟨#[]⟩, .slice none 0 0, .int .i64 0, .slice none 0 0, .int .i64 0, .string ⟨#[]⟩] 26)).setRow w2.heap.size F) := But.setRow _ _ _
    exact ⟨h3.but hbt (by omega) (by omega), keptBut ((heap_old _ _ (by omega)).trans (keptBut HRES1.out h2.2 (by omega))) hbt (by omega), setRow_heap _ _ _ _ _ _ (heap_new _ _), hlt⟩
  have HBD : Hid (∀ z, z ∈ zs.drop 2 → 0 ≤ z ∧ z ≤ 255) := drop_bd hok.1 2
  have hrl : (zs.drop 2).length ≤ 140737488353280 := by simp; omega
  rw [hW1] at CN HF2
  clear hA hok hrd hbt hb1 hres HRES1 hW1 hcap hE
  obtain ⟨r, hr⟩ : ∃ r, r = zs.drop 2 := ⟨_, rfl⟩
  rw [← hr] at CN HF2 HBD hrl HDEC
  clear hr
  generalize be2 zs = op at *
  generalize zs.length = n at *
  go_enter Tryd.func17, Tryd.ntmps17
  go_upto_region 3 with (first
    | (refine wpList_store_row rfl 67 _ _ rfl (w.heap.size + 1) #[.slice ad n c, .int .i64 0] rfl rfl 67 _ HX1.out (by kernel_rfl) rfl (by first | kernel_rfl | simp [Value.oneCell']) ?_)
    | (go_at_call 39; refine CN.out.mono ?_; go_loud (rintro e w2 ⟨rfl, H2⟩; have HX2 := hid (heap_new w2 (.cells #[.int .i64 0, .string ⟨#[]⟩, .string ⟨#[]⟩, .slice none 0 0, .int .i64 0, .slice none 0 0, .int .i64 0, .string ⟨#[]⟩] 26))))
    | (refine wpList_store_row rfl 26 _ _ rfl w2.heap.size #[.int .i64 op, .string ⟨#[]⟩, .string ⟨#[]⟩, .slice none 0 0, .int .i64 0, .slice none 0 0, .int .i64 0, .string ⟨#[]⟩] rfl rfl 26 _ HX2.out (by kernel_rfl) rfl (by first | kernel_rfl | simp [Value.oneCell']) ?_)
    | fail)
  have HD := hid (HF2.out _ H2.out #[.int .i64 op, .string ⟨#[]⟩, .string ⟨#[]⟩, .slice none 0 0, .int .i64 0, .slice none 0 0, .int .i64 0, .string ⟨#[]⟩])
  clear HF2 HX1 HX2 H2 CN
  generalize (w2.alloc (.cells #[.int .i64 0, .string ⟨#[]⟩, .string ⟨#[]⟩, .slice none 0 0, .int .i64 0, .slice none 0 0, .int .i64 0, .string ⟨#[]⟩] 26)).setRow w2.heap.size #[.int .i64 op, .string ⟨#[]⟩, .string ⟨#[]⟩, .slice none 0 0, .int .i64 0, .slice none 0 0, .int .i64 0, .string ⟨#[]⟩] = W0 at *
  generalize w2.heap.size = bp at *
  have hx0 : W0.cell? ⟨bp, 0, none⟩ = some (.int .i64 op) := HD.out.cell 0
  by_cases o1 : op = 1
  · as_aux_lemma =>
      subst o1
      rw [if_pos rfl] at HDEC
      have CWa := hid (file_any w (w.heap.size + 1) W0 r 0 HD.out.rd hrl)
      go_upto_region 7 with (first
        | (go_at_call 40; refine CWa.out.mono ?_; go_loud (rintro e xWa ⟨rfl, HWa⟩; have HEWa := hid (HD.out.call (HWa.out)); have kWa : xWa.cell? ⟨bp, 1, none⟩ = some (.string ⟨#[]⟩) := HEWa.out.cell 1; have fWa := HEWa.out.frozen 1))
        | fail)
      have HWa' := hid (HEWa.out.put 1 (.string (txtS r)) (F' := #[.int .i64 1, .string (txtS r), .string ⟨#[]⟩, .slice none 0 0, .int .i64 0, .slice none 0 0, .int .i64 0, .string ⟨#[]⟩]) rfl)
      have HBWa : Hid (But bp xWa (xWa.setCell ⟨bp, 1, none⟩ (.string (txtS r)))) := But.setCell _ _ _ _
      clear kWa fWa CWa HEWa
      generalize xWa.setCell ⟨bp, 1, none⟩ (.string (txtS r)) = Wa at *
      have CWb := hid (mode_any w (w.heap.size + 1) Wa (txtR r) (fileF r 0) HWa'.out.rd (Nat.le_trans (txtR_le r) hrl))
      go_upto_region 8 with (first
        | (go_at_call 41; refine CWb.out.mono ?_; go_loud (rintro e xWb ⟨rfl, HWb⟩; have HEWb := hid (HWa'.out.call (HWb.out)); have kWb : xWb.cell? ⟨bp, 2, none⟩ = some (.string ⟨#[]⟩) := HEWb.out.cell 2; have fWb := HEWb.out.frozen 2))
        | fail)
      have HWb' := hid (HEWb.out.put 2 (.string nOct) (F' := #[.int .i64 1, .string (txtS r), .string nOct, .slice none 0 0, .int .i64 0, .slice none 0 0, .int .i64 0, .string ⟨#[]⟩]) rfl)
      have HBWb : Hid (But bp xWb (xWb.setCell ⟨bp, 2, none⟩ (.string nOct))) := But.setCell _ _ _ _
      clear kWb fWb CWb HEWb
      generalize xWb.setCell ⟨bp, 2, none⟩ (.string nOct) = Wb at *
      have CWc := hid (pchoices_any w (w.heap.size + 1) Wb (txtR (txtR r)) (modeF (txtR r) (fileF r 0)) HENV.out HWb'.out.rd (Nat.le_trans (txtR_le _) (Nat.le_trans (txtR_le r) hrl)))
      go_upto_region 19 with (first
        | (go_at_call 42; refine CWc.out.mono ?_; go_loud (rintro e xWc ⟨ca, cn, cp, l, zs9, rfl, HWc⟩; have HEWc := hid (HWb'.out.call ⟨HWc.out.1.rd, HWc.out.1.but⟩); have kWc : xWc.cell? ⟨bp, 3, none⟩ = some (.slice none 0 0) := HEWc.out.cell 3; have fWc := HEWc.out.frozen 3))
        | fail)
      have HWc' := hid (HEWc.out.put 3 (.slice ca cn cp) (F' := #[.int .i64 1, .string (txtS r), .string nOct, .slice ca cn cp, .int .i64 0, .slice none 0 0, .int .i64 0, .string ⟨#[]⟩]) rfl)
      have HBWc : Hid (But bp xWc (xWc.setCell ⟨bp, 3, none⟩ (.slice ca cn cp))) := But.setCell _ _ _ _
      clear kWc fWc CWc HEWc
      generalize xWc.setCell ⟨bp, 3, none⟩ (.slice ca cn cp) = Wc at *
      have HROW : Hid (cn = l.length ∧ RowS Wc 56 2 (.slice ca cn cp) cn (chs l) ∧ ∀ b, (Value.slice ca cn cp).ownBlock = some b → bp ≤ b) :=
        ⟨HWc.out.1.chv.1, HWc.out.1.row.keep fun b hb => HBWc.out.block b (by have := HWc.out.1.new b hb; have := HWb'.out.lt; omega) (HWc.out.1.row.lt hb), fun b hb => by have := HWc.out.1.new b hb; have := HWb'.out.lt; omega⟩
      have HL := hid HWc.out.2
      have HD9 := HWc'
      clear HWc HWc' HWb HWb' HWa HWa' HBWa HBWb HBWc HD hx0
      have HER : Hid (chE (modeF (txtR r) (fileF r 0)) (txtR (txtR r)) = rdE r) := rfl
      rw [HER.out] at HD9
      generalize Wc = W at *
      have hce : W.cell? ⟨w.heap.size + 1, 1, none⟩ = some (.int .i64 (rdE r)) := HD9.out.rd.cell
      have HRES : Hid (W.heap[w.heap.size]? = some (.cells #[.int .i64 0, .string ⟨#[]⟩, .string ⟨#[]⟩, .slice none 0 0, .int .i64 0, .slice none 0 0, .int .i64 0, .string ⟨#[]⟩] 26 (0, 0))) := HD9.out.res
      have HBEL : Hid (Below w.heap.size w W) := HD9.out.rd.bel
      rcases dec_rd r HBD.out with ⟨hne, hdec⟩ | ⟨h0, hm0, l', hl', hdec⟩
      · have HQ := hid (dec_er_of (HDEC.out.trans hdec))
        clear hdec HL HROW HER HDEC HBD
        generalize rdE r = er at *
        have hbn : ((er : Int) != 0) = true := by simpa using hne
        go_upto_region 20 with fail
        refine wp_region_noPanic ?_
        refine wp_region_held_drew (S := fun w' => w'.cell? ⟨w.heap.size + 1, 1, none⟩ = some (.int .i64 er)) (by kernel_rfl) hce (fun hHeld => ?_)
        refine wpAnyH_take (i := 0) (oi := { dst := some 44, op := .build 26 #[], type := _, pos := _, after := _, guard := none }) (v := .agg #[.int .i64 0, .string ⟨#[]⟩, .string ⟨#[]⟩, .slice none 0 0, .int .i64 0, .slice none 0 0, .int .i64 0, .string ⟨#[]⟩]) rfl (by kernel_rfl) (by kernel_rfl) (by kernel_rfl) (fun _ _ _ h => h) (Or.inl ⟨by rfl, fun wq hSw => by (try dsimp only at hSw); first | go_simp | kernel_rfl⟩) (by assumption) ?_
        try simp only [Act.put, List.setIfInBounds_toArray, List.set_cons_zero, List.set_cons_succ]
        refine wpAnyH_take (i := 1) (oi := { dst := some 45, op := .fieldAddr 67 (.tmp 4) 1, type := _, pos := _, after := _, guard := none }) (v := .pointer (some ⟨w.heap.size + 1, 1, none⟩)) rfl (by kernel_rfl) (by kernel_rfl) (by kernel_rfl) (fun _ _ _ h => h) (Or.inl ⟨by rfl, fun wq hSw => by (try dsimp only at hSw); first | go_simp | kernel_rfl⟩) (by assumption) ?_
        try simp only [Act.put, List.setIfInBounds_toArray, List.set_cons_zero, List.set_cons_succ]
        refine wpAnyH_take (i := 2) (oi := { dst := some 46, op := .load 29 (.tmp 45), type := _, pos := _, after := _, guard := none }) (v := .int .i64 er) rfl (by kernel_rfl) (by kernel_rfl) (by kernel_rfl) (fun _ _ _ h => h) (Or.inl ⟨by rfl, fun wq hSw => by (try dsimp only at hSw); first | go_simp | kernel_rfl⟩) (by assumption) ?_
        try simp only [Act.put, List.setIfInBounds_toArray, List.set_cons_zero, List.set_cons_succ]
        refine wpAnyH_ready (rs := [3]) (by kernel_rfl) (by simp) ?_
        refine AllReadyH.cons (o := { dst := none, op := .store 26 (.tmp 2) (.tmp 44), type := _, pos := _, after := _, guard := none }) rfl (fun K hK => ?_) AllReadyH.nil
        refine step_store_row rfl 26 _ _ rfl w.heap.size #[.int .i64 0, .string ⟨#[]⟩, .string ⟨#[]⟩, .slice none 0 0, .int .i64 0, .slice none 0 0, .int .i64 0, .string ⟨#[]⟩] rfl rfl 26 _ (show W.drew.heap[w.heap.size]? = _ from HRES.out) (by kernel_rfl) rfl (by first | kernel_rfl | simp [Value.oneCell']) ?_
        intro w9 hg9 hb9
        have HCE9 : w9.cell? ⟨w.heap.size + 1, 1, none⟩ = some (.int .i64 er) := (hb9.out.cell (p := ⟨w.heap.size + 1, 1, none⟩) (by simp) (World.block_lt_of_cell? W _ hce)).trans hce
        refine hK.out _ _ HCE9 (fun hHeld => ?_)
        clear hK
        try simp only [Act.put, List.setIfInBounds_toArray, List.set_cons_zero, List.set_cons_succ]
        refine wpAnyH_take (i := 4) (oi := { dst := some 3, op := .assign (.tmp 46), type := _, pos := _, after := _, guard := none }) (v := .int .i64 er) rfl (by kernel_rfl) (by kernel_rfl) (by kernel_rfl) (fun _ _ _ h => h) (Or.inl ⟨by rfl, fun wq hSw => by (try dsimp only at hSw); first | go_simp | kernel_rfl⟩) (by assumption) ?_
        try simp only [Act.put, List.setIfInBounds_toArray, List.set_cons_zero, List.set_cons_succ]
        refine wpAnyH_done (by kernel_rfl) ?_ _
        refine NoPanic.normal ?_
        go_wp2_with fail
        try simp only [Exit.inBlock, Exit.then]
        refine bodyPost_ret (v := .tuple #[.agg #[.int .i64 0, .string ⟨#[]⟩, .string ⟨#[]⟩, .slice none 0 0, .int .i64 0, .slice none 0 0, .int .i64 0, .string ⟨#[]⟩], .int .i64 er]) ?_ (by rfl) ?_
        · exact results_row2 Tryd.results17 _ _ w.heap.size 26 _ (0, 0) _ _ rfl rfl hg9.out Tryd.underlying26 rfl (by kernel_rfl)
        · refine ⟨none, 0, none, 0, ?_, ?_⟩
          · rw [HQ.out.1, HQ.out.2]; rfl
          · rw [HQ.out.1]; exact dcO_nil (bbut HBEL.out.drew hb9.out (Nat.le_refl _))
      · have HQ := hid (dec_ok_of (HDEC.out.trans hdec))
        obtain rfl := HL.out hm0 l' hl'
        obtain ⟨rfl, HRW, HRN⟩ := HROW.out
        have HRW := hid HRW
        have HRN := hid HRN
        rw [h0] at hce HD9
        clear hdec HL HROW HER HDEC HBD hm0 hl'
        go_wp2_with (first
          | (refine wpList_load_row rfl 26 _ rfl bp rfl 26 #[.int .i64 1, .string (txtS r), .string nOct, .slice ca l.length cp, .int .i64 0, .slice none 0 0, .int .i64 0, .string ⟨#[]⟩] (0, 0) _ HD9.out.box Tryd.underlying26 rfl (by kernel_rfl) ?_)
          | (refine wpList_store_row rfl 26 _ _ rfl w.heap.size #[.int .i64 1, .string (txtS r), .string nOct, .slice ca l.length cp, .int .i64 0, .slice none 0 0, .int .i64 0, .string ⟨#[]⟩] rfl rfl 26 _ HRES.out (by kernel_rfl) rfl (by first | kernel_rfl | simp [Value.oneCell']) ?_)
          | fail)
        try simp only [Exit.inBlock, Exit.then]
        refine bodyPost_ret (v := .tuple #[.agg #[.int .i64 1, .string (txtS r), .string nOct, .slice ca l.length cp, .int .i64 0, .slice none 0 0, .int .i64 0, .string ⟨#[]⟩], .int .i64 0]) ?_ (by rfl) ?_
        · exact results_row2 Tryd.results17 _ _ w.heap.size 26 _ (0, 0) _ _ rfl rfl (setRow_heap _ _ _ _ _ _ HRES.out) Tryd.underlying26 rfl (by kernel_rfl)
        · refine ⟨ca, cp, none, 0, ?_, ?_⟩
          · rw [HQ.out.1, HQ.out.2]; rfl
          · rw [HQ.out.1]; exact HD9.out.good HRW.out HRN.out (Row.nil _ _) (fun b hb => by simp [Value.ownBlock] at hb)
  by_cases o3 : op = 3
  · as_aux_lemma =>
      subst o3
      rw [if_neg (by omega), if_neg (by omega), if_pos (by omega)] at HDEC
      have CWa := hid (number_any w (w.heap.size + 1) W0 r 0 HD.out.rd hrl)
      go_upto_region 11 with (first
        | (go_at_call 39; refine CWa.out.mono ?_; go_loud (rintro e xWa ⟨rfl, HWa⟩; have HEWa := hid (HD.out.call (HWa.out)); have kWa : xWa.cell? ⟨bp, 4, none⟩ = some (.int .i64 0) := HEWa.out.cell 4; have fWa := HEWa.out.frozen 4))
        | fail)
      have HWa' := hid (HEWa.out.put 4 (.int .i64 (numV r)) (F' := #[.int .i64 3, .string ⟨#[]⟩, .string ⟨#[]⟩, .slice none 0 0, .int .i64 (numV r), .slice none 0 0, .int .i64 0, .string ⟨#[]⟩]) rfl)
      have HBWa : Hid (But bp xWa (xWa.setCell ⟨bp, 4, none⟩ (.int .i64 (numV r)))) := But.setCell _ _ _ _
      clear kWa fWa CWa HEWa
      generalize xWa.setCell ⟨bp, 4, none⟩ (.int .i64 (numV r)) = Wa at *
      have CWb := hid (data_any w (w.heap.size + 1) Wa (numR r) (numF r 0) HWa'.out.rd)
      go_upto_region 19 with (first
        | (go_at_call 43; refine CWb.out.mono ?_; go_loud (rintro e xWb ⟨da, dn, dc, rfl, HWb⟩; have HEWb := hid (HWa'.out.call ⟨HWb.out.1, HWb.out.2.1⟩); have kWb : xWb.cell? ⟨bp, 5, none⟩ = some (.slice none 0 0) := HEWb.out.cell 5; have fWb := HEWb.out.frozen 5))
        | fail)
      have HWb' := hid (HEWb.out.put 5 (.slice da dn dc) (F' := #[.int .i64 3, .string ⟨#[]⟩, .string ⟨#[]⟩, .slice none 0 0, .int .i64 (numV r), .slice da dn dc, .int .i64 0, .string ⟨#[]⟩]) rfl)
      have HBWb : Hid (But bp xWb (xWb.setCell ⟨bp, 5, none⟩ (.slice da dn dc))) := But.setCell _ _ _ _
      clear kWb fWb CWb HEWb
      generalize xWb.setCell ⟨bp, 5, none⟩ (.slice da dn dc) = Wb at *
      have HROW : Hid (dn = (datL (numR r)).length ∧ Row Wb 5 (.slice da dn dc) (u8s (datL (numR r))) ∧ ∀ b, (Value.slice da dn dc).ownBlock = some b → bp ≤ b) := by
        obtain ⟨_, _, h3, h4⟩ := HWb.out
        refine ⟨?_, h3.but HBWb.out fun b hb => by have := h4 b hb; have := HWa'.out.lt; omega, fun b hb => by have := h4 b hb; have := HWa'.out.lt; omega⟩
        obtain ⟨a', c', e, _⟩ := h3.form
        rw [u8s_len] at e
        simp only [Value.slice.injEq] at e
        exact e.2.1
      have HD9 := HWb'
      clear HWb HWb' HWa HWa' HBWa HBWb HD hx0
      generalize Wb = W at *
      have hce : W.cell? ⟨w.heap.size + 1, 1, none⟩ = some (.int .i64 (datF (numR r) (numF r 0))) := HD9.out.rd.cell
      have HRES : Hid (W.heap[w.heap.size]? = some (.cells #[.int .i64 0, .string ⟨#[]⟩, .string ⟨#[]⟩, .slice none 0 0, .int .i64 0, .slice none 0 0, .int .i64 0, .string ⟨#[]⟩] 26 (0, 0))) := HD9.out.res
      have HBEL : Hid (Below w.heap.size w W) := HD9.out.rd.bel
      rcases dec_da r with ⟨hne, hdec⟩ | ⟨h0, hdec⟩
      · have HQ := hid (dec_er_of (HDEC.out.trans hdec))
        clear hdec HROW HDEC HBD
        generalize datF (numR r) (numF r 0) = er at *
        have hbn : ((er : Int) != 0) = true := by simpa using hne
        go_upto_region 20 with fail
        refine wp_region_noPanic ?_
        refine wp_region_held_drew (S := fun w' => w'.cell? ⟨w.heap.size + 1, 1, none⟩ = some (.int .i64 er)) (by kernel_rfl) hce (fun hHeld => ?_)
        refine wpAnyH_take (i := 0) (oi := { dst := some 44, op := .build 26 #[], type := _, pos := _, after := _, guard := none }) (v := .agg #[.int .i64 0, .string ⟨#[]⟩, .string ⟨#[]⟩, .slice none 0 0, .int .i64 0, .slice none 0 0, .int .i64 0, .string ⟨#[]⟩]) rfl (by kernel_rfl) (by kernel_rfl) (by kernel_rfl) (fun _ _ _ h => h) (Or.inl ⟨by rfl, fun wq hSw => by (try dsimp only at hSw); first | go_simp | kernel_rfl⟩) (by assumption) ?_
        try simp only [Act.put, List.setIfInBounds_toArray, List.set_cons_zero, List.set_cons_succ]
        refine wpAnyH_take (i := 1) (oi := { dst := some 45, op := .fieldAddr 67 (.tmp 4) 1, type := _, pos := _, after := _, guard := none }) (v := .pointer (some ⟨w.heap.size + 1, 1, none⟩)) rfl (by kernel_rfl) (by kernel_rfl) (by kernel_rfl) (fun _ _ _ h => h) (Or.inl ⟨by rfl, fun wq hSw => by (try dsimp only at hSw); first | go_simp | kernel_rfl⟩) (by assumption) ?_
        try simp only [Act.put, List.setIfInBounds_toArray, List.set_cons_zero, List.set_cons_succ]
        refine wpAnyH_take (i := 2) (oi := { dst := some 46, op := .load 29 (.tmp 45), type := _, pos := _, after := _, guard := none }) (v := .int .i64 er) rfl (by kernel_rfl) (by kernel_rfl) (by kernel_rfl) (fun _ _ _ h => h) (Or.inl ⟨by rfl, fun wq hSw => by (try dsimp only at hSw); first | go_simp | kernel_rfl⟩) (by assumption) ?_
        try simp only [Act.put, List.setIfInBounds_toArray, List.set_cons_zero, List.set_cons_succ]
        refine wpAnyH_ready (rs := [3]) (by kernel_rfl) (by simp) ?_
        refine AllReadyH.cons (o := { dst := none, op := .store 26 (.tmp 2) (.tmp 44), type := _, pos := _, after := _, guard := none }) rfl (fun K hK => ?_) AllReadyH.nil
        refine step_store_row rfl 26 _ _ rfl w.heap.size #[.int .i64 0, .string ⟨#[]⟩, .string ⟨#[]⟩, .slice none 0 0, .int .i64 0, .slice none 0 0, .int .i64 0, .string ⟨#[]⟩] rfl rfl 26 _ (show W.drew.heap[w.heap.size]? = _ from HRES.out) (by kernel_rfl) rfl (by first | kernel_rfl | simp [Value.oneCell']) ?_
        intro w9 hg9 hb9
        have HCE9 : w9.cell? ⟨w.heap.size + 1, 1, none⟩ = some (.int .i64 er) := (hb9.out.cell (p := ⟨w.heap.size + 1, 1, none⟩) (by simp) (World.block_lt_of_cell? W _ hce)).trans hce
        refine hK.out _ _ HCE9 (fun hHeld => ?_)
        clear hK
        try simp only [Act.put, List.setIfInBounds_toArray, List.set_cons_zero, List.set_cons_succ]
        refine wpAnyH_take (i := 4) (oi := { dst := some 3, op := .assign (.tmp 46), type := _, pos := _, after := _, guard := none }) (v := .int .i64 er) rfl (by kernel_rfl) (by kernel_rfl) (by kernel_rfl) (fun _ _ _ h => h) (Or.inl ⟨by rfl, fun wq hSw => by (try dsimp only at hSw); first | go_simp | kernel_rfl⟩) (by assumption) ?_
        try simp only [Act.put, List.setIfInBounds_toArray, List.set_cons_zero, List.set_cons_succ]
        refine wpAnyH_done (by kernel_rfl) ?_ _
        refine NoPanic.normal ?_
        go_wp2_with fail
        try simp only [Exit.inBlock, Exit.then]
        refine bodyPost_ret (v := .tuple #[.agg #[.int .i64 0, .string ⟨#[]⟩, .string ⟨#[]⟩, .slice none 0 0, .int .i64 0, .slice none 0 0, .int .i64 0, .string ⟨#[]⟩], .int .i64 er]) ?_ (by rfl) ?_
        · exact results_row2 Tryd.results17 _ _ w.heap.size 26 _ (0, 0) _ _ rfl rfl hg9.out Tryd.underlying26 rfl (by kernel_rfl)
        · refine ⟨none, 0, none, 0, ?_, ?_⟩
          · rw [HQ.out.1, HQ.out.2]; rfl
          · rw [HQ.out.1]; exact dcO_nil (bbut HBEL.out.drew hb9.out (Nat.le_refl _))
      · have HQ := hid (dec_ok_of (HDEC.out.trans hdec))
        obtain ⟨rfl, HRW, HRN⟩ := HROW.out
        have HRW := hid HRW
        have HRN := hid HRN
        rw [h0] at hce HD9
        clear hdec HROW HDEC HBD
        go_wp2_with (first
          | (refine wpList_load_row rfl 26 _ rfl bp rfl 26 #[.int .i64 3, .string ⟨#[]⟩, .string ⟨#[]⟩, .slice none 0 0, .int .i64 (numV r), .slice da (datL (numR r)).length dc, .int .i64 0, .string ⟨#[]⟩] (0, 0) _ HD9.out.box Tryd.underlying26 rfl (by kernel_rfl) ?_)
          | (refine wpList_store_row rfl 26 _ _ rfl w.heap.size #[.int .i64 3, .string ⟨#[]⟩, .string ⟨#[]⟩, .slice none 0 0, .int .i64 (numV r), .slice da (datL (numR r)).length dc, .int .i64 0, .string ⟨#[]⟩] rfl rfl 26 _ HRES.out (by kernel_rfl) rfl (by first | kernel_rfl | simp [Value.oneCell']) ?_)
          | fail)
        try simp only [Exit.inBlock, Exit.then]
        refine bodyPost_ret (v := .tuple #[.agg #[.int .i64 3, .string ⟨#[]⟩, .string ⟨#[]⟩, .slice none 0 0, .int .i64 (numV r), .slice da (datL (numR r)).length dc, .int .i64 0, .string ⟨#[]⟩], .int .i64 0]) ?_ (by rfl) ?_
        · exact results_row2 Tryd.results17 _ _ w.heap.size 26 _ (0, 0) _ _ rfl rfl (setRow_heap _ _ _ _ _ _ HRES.out) Tryd.underlying26 rfl (by kernel_rfl)
        · refine ⟨none, 0, da, dc, ?_, ?_⟩
          · rw [HQ.out.1, HQ.out.2]; rfl
          · rw [HQ.out.1]; exact HD9.out.good (RowS.nil _ _ _) (fun b hb => by simp [Value.ownBlock] at hb) HRW.out HRN.out
  by_cases o4 : op = 4
  · as_aux_lemma =>
      subst o4
      rw [if_neg (by omega), if_neg (by omega), if_pos (by omega)] at HDEC
      have CWa := hid (number_any w (w.heap.size + 1) W0 r 0 HD.out.rd hrl)
      go_upto_region 19 with (first
        | (go_at_call 39; refine CWa.out.mono ?_; go_loud (rintro e xWa ⟨rfl, HWa⟩; have HEWa := hid (HD.out.call (HWa.out)); have kWa : xWa.cell? ⟨bp, 4, none⟩ = some (.int .i64 0) := HEWa.out.cell 4; have fWa := HEWa.out.frozen 4))
        | fail)
      have HWa' := hid (HEWa.out.put 4 (.int .i64 (numV r)) (F' := #[.int .i64 4, .string ⟨#[]⟩, .string ⟨#[]⟩, .slice none 0 0, .int .i64 (numV r), .slice none 0 0, .int .i64 0, .string ⟨#[]⟩]) rfl)
      have HBWa : Hid (But bp xWa (xWa.setCell ⟨bp, 4, none⟩ (.int .i64 (numV r)))) := But.setCell _ _ _ _
      clear kWa fWa CWa HEWa
      generalize xWa.setCell ⟨bp, 4, none⟩ (.int .i64 (numV r)) = Wa at *
      have HD9 := HWa'
      clear HWa HWa' HBWa HD hx0
      generalize Wa = W at *
      have hce : W.cell? ⟨w.heap.size + 1, 1, none⟩ = some (.int .i64 (numF r 0)) := HD9.out.rd.cell
      have HRES : Hid (W.heap[w.heap.size]? = some (.cells #[.int .i64 0, .string ⟨#[]⟩, .string ⟨#[]⟩, .slice none 0 0, .int .i64 0, .slice none 0 0, .int .i64 0, .string ⟨#[]⟩] 26 (0, 0))) := HD9.out.res
      have HBEL : Hid (Below w.heap.size w W) := HD9.out.rd.bel
      rcases dec_ac r with ⟨hne, hdec⟩ | ⟨h0, hdec⟩
      · have HQ := hid (dec_er_of (HDEC.out.trans hdec))
        clear hdec HDEC HBD
        generalize numF r 0 = er at *
        have hbn : ((er : Int) != 0) = true := by simpa using hne
        go_upto_region 20 with fail
        refine wp_region_noPanic ?_
        refine wp_region_held_drew (S := fun w' => w'.cell? ⟨w.heap.size + 1, 1, none⟩ = some (.int .i64 er)) (by kernel_rfl) hce (fun hHeld => ?_)
        refine wpAnyH_take (i := 0) (oi := { dst := some 44, op := .build 26 #[], type := _, pos := _, after := _, guard := none }) (v := .agg #[.int .i64 0, .string ⟨#[]⟩, .string ⟨#[]⟩, .slice none 0 0, .int .i64 0, .slice none 0 0, .int .i64 0, .string ⟨#[]⟩]) rfl (by kernel_rfl) (by kernel_rfl) (by kernel_rfl) (fun _ _ _ h => h) (Or.inl ⟨by rfl, fun wq hSw => by (try dsimp only at hSw); first | go_simp | kernel_rfl⟩) (by assumption) ?_
        try simp only [Act.put, List.setIfInBounds_toArray, List.set_cons_zero, List.set_cons_succ]
        refine wpAnyH_take (i := 1) (oi := { dst := some 45, op := .fieldAddr 67 (.tmp 4) 1, type := _, pos := _, after := _, guard := none }) (v := .pointer (some ⟨w.heap.size + 1, 1, none⟩)) rfl (by kernel_rfl) (by kernel_rfl) (by kernel_rfl) (fun _ _ _ h => h) (Or.inl ⟨by rfl, fun wq hSw => by (try dsimp only at hSw); first | go_simp | kernel_rfl⟩) (by assumption) ?_
        try simp only [Act.put, List.setIfInBounds_toArray, List.set_cons_zero, List.set_cons_succ]
        refine wpAnyH_take (i := 2) (oi := { dst := some 46, op := .load 29 (.tmp 45), type := _, pos := _, after := _, guard := none }) (v := .int .i64 er) rfl (by kernel_rfl) (by kernel_rfl) (by kernel_rfl) (fun _ _ _ h => h) (Or.inl ⟨by rfl, fun wq hSw => by (try dsimp only at hSw); first | go_simp | kernel_rfl⟩) (by assumption) ?_
        try simp only [Act.put, List.setIfInBounds_toArray, List.set_cons_zero, List.set_cons_succ]
        refine wpAnyH_ready (rs := [3]) (by kernel_rfl) (by simp) ?_
        refine AllReadyH.cons (o := { dst := none, op := .store 26 (.tmp 2) (.tmp 44), type := _, pos := _, after := _, guard := none }) rfl (fun K hK => ?_) AllReadyH.nil
        refine step_store_row rfl 26 _ _ rfl w.heap.size #[.int .i64 0, .string ⟨#[]⟩, .string ⟨#[]⟩, .slice none 0 0, .int .i64 0, .slice none 0 0, .int .i64 0, .string ⟨#[]⟩] rfl rfl 26 _ (show W.drew.heap[w.heap.size]? = _ from HRES.out) (by kernel_rfl) rfl (by first | kernel_rfl | simp [Value.oneCell']) ?_
        intro w9 hg9 hb9
        have HCE9 : w9.cell? ⟨w.heap.size + 1, 1, none⟩ = some (.int .i64 er) := (hb9.out.cell (p := ⟨w.heap.size + 1, 1, none⟩) (by simp) (World.block_lt_of_cell? W _ hce)).trans hce
        refine hK.out _ _ HCE9 (fun hHeld => ?_)
        clear hK
        try simp only [Act.put, List.setIfInBounds_toArray, List.set_cons_zero, List.set_cons_succ]
        refine wpAnyH_take (i := 4) (oi := { dst := some 3, op := .assign (.tmp 46), type := _, pos := _, after := _, guard := none }) (v := .int .i64 er) rfl (by kernel_rfl) (by kernel_rfl) (by kernel_rfl) (fun _ _ _ h => h) (Or.inl ⟨by rfl, fun wq hSw => by (try dsimp only at hSw); first | go_simp | kernel_rfl⟩) (by assumption) ?_
        try simp only [Act.put, List.setIfInBounds_toArray, List.set_cons_zero, List.set_cons_succ]
        refine wpAnyH_done (by kernel_rfl) ?_ _
        refine NoPanic.normal ?_
        go_wp2_with fail
        try simp only [Exit.inBlock, Exit.then]
        refine bodyPost_ret (v := .tuple #[.agg #[.int .i64 0, .string ⟨#[]⟩, .string ⟨#[]⟩, .slice none 0 0, .int .i64 0, .slice none 0 0, .int .i64 0, .string ⟨#[]⟩], .int .i64 er]) ?_ (by rfl) ?_
        · exact results_row2 Tryd.results17 _ _ w.heap.size 26 _ (0, 0) _ _ rfl rfl hg9.out Tryd.underlying26 rfl (by kernel_rfl)
        · refine ⟨none, 0, none, 0, ?_, ?_⟩
          · rw [HQ.out.1, HQ.out.2]; rfl
          · rw [HQ.out.1]; exact dcO_nil (bbut HBEL.out.drew hb9.out (Nat.le_refl _))
      · have HQ := hid (dec_ok_of (HDEC.out.trans hdec))
        rw [h0] at hce HD9
        clear hdec HDEC HBD
        go_wp2_with (first
          | (refine wpList_load_row rfl 26 _ rfl bp rfl 26 #[.int .i64 4, .string ⟨#[]⟩, .string ⟨#[]⟩, .slice none 0 0, .int .i64 (numV r), .slice none 0 0, .int .i64 0, .string ⟨#[]⟩] (0, 0) _ HD9.out.box Tryd.underlying26 rfl (by kernel_rfl) ?_)
          | (refine wpList_store_row rfl 26 _ _ rfl w.heap.size #[.int .i64 4, .string ⟨#[]⟩, .string ⟨#[]⟩, .slice none 0 0, .int .i64 (numV r), .slice none 0 0, .int .i64 0, .string ⟨#[]⟩] rfl rfl 26 _ HRES.out (by kernel_rfl) rfl (by first | kernel_rfl | simp [Value.oneCell']) ?_)
          | fail)
        try simp only [Exit.inBlock, Exit.then]
        refine bodyPost_ret (v := .tuple #[.agg #[.int .i64 4, .string ⟨#[]⟩, .string ⟨#[]⟩, .slice none 0 0, .int .i64 (numV r), .slice none 0 0, .int .i64 0, .string ⟨#[]⟩], .int .i64 0]) ?_ (by rfl) ?_
        · exact results_row2 Tryd.results17 _ _ w.heap.size 26 _ (0, 0) _ _ rfl rfl (setRow_heap _ _ _ _ _ _ HRES.out) Tryd.underlying26 rfl (by kernel_rfl)
        · refine ⟨none, 0, none, 0, ?_, ?_⟩
          · rw [HQ.out.1, HQ.out.2]; rfl
          · rw [HQ.out.1]; exact HD9.out.good (RowS.nil _ _ _) (fun b hb => by simp [Value.ownBlock] at hb) (Row.nil _ _) (fun b hb => by simp [Value.ownBlock] at hb)
  by_cases o5 : op = 5
  · as_aux_lemma =>
      subst o5
      rw [if_neg (by omega), if_neg (by omega), if_pos (by omega)] at HDEC
      have CWa := hid (number_any w (w.heap.size + 1) W0 r 0 HD.out.rd hrl)
      go_upto_region 16 with (first
        | (go_at_call 39; refine CWa.out.mono ?_; go_loud (rintro e xWa ⟨rfl, HWa⟩; have HEWa := hid (HD.out.call (HWa.out)); have kWa : xWa.cell? ⟨bp, 6, none⟩ = some (.int .i64 0) := HEWa.out.cell 6; have fWa := HEWa.out.frozen 6))
        | fail)
      have HWa' := hid (HEWa.out.put 6 (.int .i64 (numV r)) (F' := #[.int .i64 5, .string ⟨#[]⟩, .string ⟨#[]⟩, .slice none 0 0, .int .i64 0, .slice none 0 0, .int .i64 (numV r), .string ⟨#[]⟩]) rfl)
      have HBWa : Hid (But bp xWa (xWa.setCell ⟨bp, 6, none⟩ (.int .i64 (numV r)))) := But.setCell _ _ _ _
      clear kWa fWa CWa HEWa
      generalize xWa.setCell ⟨bp, 6, none⟩ (.int .i64 (numV r)) = Wa at *
      have CWb := hid (words_any w (w.heap.size + 1) Wa (numR r) (numF r 0) HWa'.out.rd (Nat.le_trans (numR_le r) hrl))
      go_upto_region 19 with (first
        | (go_at_call 44; refine CWb.out.mono ?_; go_loud (rintro e xWb ⟨rfl, HWb⟩; have HEWb := hid (HWa'.out.call (HWb.out)); have kWb : xWb.cell? ⟨bp, 7, none⟩ = some (.string ⟨#[]⟩) := HEWb.out.cell 7; have fWb := HEWb.out.frozen 7))
        | fail)
      have HWb' := hid (HEWb.out.put 7 (.string (txtS (numR r))) (F' := #[.int .i64 5, .string ⟨#[]⟩, .string ⟨#[]⟩, .slice none 0 0, .int .i64 0, .slice none 0 0, .int .i64 (numV r), .string (txtS (numR r))]) rfl)
      have HBWb : Hid (But bp xWb (xWb.setCell ⟨bp, 7, none⟩ (.string (txtS (numR r))))) := But.setCell _ _ _ _
      clear kWb fWb CWb HEWb
      generalize xWb.setCell ⟨bp, 7, none⟩ (.string (txtS (numR r))) = Wb at *
      have HD9 := HWb'
      clear HWb HWb' HWa HWa' HBWa HBWb HD hx0
      generalize Wb = W at *
      have hce : W.cell? ⟨w.heap.size + 1, 1, none⟩ = some (.int .i64 (wordF (numR r) (numF r 0))) := HD9.out.rd.cell
      have HRES : Hid (W.heap[w.heap.size]? = some (.cells #[.int .i64 0, .string ⟨#[]⟩, .string ⟨#[]⟩, .slice none 0 0, .int .i64 0, .slice none 0 0, .int .i64 0, .string ⟨#[]⟩] 26 (0, 0))) := HD9.out.res
      have HBEL : Hid (Below w.heap.size w W) := HD9.out.rd.bel
      rcases dec_er r with ⟨hne, hdec⟩ | ⟨h0, hdec⟩
      · have HQ := hid (dec_er_of (HDEC.out.trans hdec))
        clear hdec HDEC HBD
        generalize wordF (numR r) (numF r 0) = er at *
        have hbn : ((er : Int) != 0) = true := by simpa using hne
        go_upto_region 20 with fail
        refine wp_region_noPanic ?_
        refine wp_region_held_drew (S := fun w' => w'.cell? ⟨w.heap.size + 1, 1, none⟩ = some (.int .i64 er)) (by kernel_rfl) hce (fun hHeld => ?_)
        refine wpAnyH_take (i := 0) (oi := { dst := some 44, op := .build 26 #[], type := _, pos := _, after := _, guard := none }) (v := .agg #[.int .i64 0, .string ⟨#[]⟩, .string ⟨#[]⟩, .slice none 0 0, .int .i64 0, .slice none 0 0, .int .i64 0, .string ⟨#[]⟩]) rfl (by kernel_rfl) (by kernel_rfl) (by kernel_rfl) (fun _ _ _ h => h) (Or.inl ⟨by rfl, fun wq hSw => by (try dsimp only at hSw); first | go_simp | kernel_rfl⟩) (by assumption) ?_
        try simp only [Act.put, List.setIfInBounds_toArray, List.set_cons_zero, List.set_cons_succ]
        refine wpAnyH_take (i := 1) (oi := { dst := some 45, op := .fieldAddr 67 (.tmp 4) 1, type := _, pos := _, after := _, guard := none }) (v := .pointer (some ⟨w.heap.size + 1, 1, none⟩)) rfl (by kernel_rfl) (by kernel_rfl) (by kernel_rfl) (fun _ _ _ h => h) (Or.inl ⟨by rfl, fun wq hSw => by (try dsimp only at hSw); first | go_simp | kernel_rfl⟩) (by assumption) ?_
        try simp only [Act.put, List.setIfInBounds_toArray, List.set_cons_zero, List.set_cons_succ]
        refine wpAnyH_take (i := 2) (oi := { dst := some 46, op := .load 29 (.tmp 45), type := _, pos := _, after := _, guard := none }) (v := .int .i64 er) rfl (by kernel_rfl) (by kernel_rfl) (by kernel_rfl) (fun _ _ _ h => h) (Or.inl ⟨by rfl, fun wq hSw => by (try dsimp only at hSw); first | go_simp | kernel_rfl⟩) (by assumption) ?_
        try simp only [Act.put, List.setIfInBounds_toArray, List.set_cons_zero, List.set_cons_succ]
        refine wpAnyH_ready (rs := [3]) (by kernel_rfl) (by simp) ?_
        refine AllReadyH.cons (o := { dst := none, op := .store 26 (.tmp 2) (.tmp 44), type := _, pos := _, after := _, guard := none }) rfl (fun K hK => ?_) AllReadyH.nil
        refine step_store_row rfl 26 _ _ rfl w.heap.size #[.int .i64 0, .string ⟨#[]⟩, .string ⟨#[]⟩, .slice none 0 0, .int .i64 0, .slice none 0 0, .int .i64 0, .string ⟨#[]⟩] rfl rfl 26 _ (show W.drew.heap[w.heap.size]? = _ from HRES.out) (by kernel_rfl) rfl (by first | kernel_rfl | simp [Value.oneCell']) ?_
        intro w9 hg9 hb9
        have HCE9 : w9.cell? ⟨w.heap.size + 1, 1, none⟩ = some (.int .i64 er) := (hb9.out.cell (p := ⟨w.heap.size + 1, 1, none⟩) (by simp) (World.block_lt_of_cell? W _ hce)).trans hce
        refine hK.out _ _ HCE9 (fun hHeld => ?_)
        clear hK
        try simp only [Act.put, List.setIfInBounds_toArray, List.set_cons_zero, List.set_cons_succ]
        refine wpAnyH_take (i := 4) (oi := { dst := some 3, op := .assign (.tmp 46), type := _, pos := _, after := _, guard := none }) (v := .int .i64 er) rfl (by kernel_rfl) (by kernel_rfl) (by kernel_rfl) (fun _ _ _ h => h) (Or.inl ⟨by rfl, fun wq hSw => by (try dsimp only at hSw); first | go_simp | kernel_rfl⟩) (by assumption) ?_
        try simp only [Act.put, List.setIfInBounds_toArray, List.set_cons_zero, List.set_cons_succ]
        refine wpAnyH_done (by kernel_rfl) ?_ _
        refine NoPanic.normal ?_
        go_wp2_with fail
        try simp only [Exit.inBlock, Exit.then]
        refine bodyPost_ret (v := .tuple #[.agg #[.int .i64 0, .string ⟨#[]⟩, .string ⟨#[]⟩, .slice none 0 0, .int .i64 0, .slice none 0 0, .int .i64 0, .string ⟨#[]⟩], .int .i64 er]) ?_ (by rfl) ?_
        · exact results_row2 Tryd.results17 _ _ w.heap.size 26 _ (0, 0) _ _ rfl rfl hg9.out Tryd.underlying26 rfl (by kernel_rfl)
        · refine ⟨none, 0, none, 0, ?_, ?_⟩
          · rw [HQ.out.1, HQ.out.2]; rfl
          · rw [HQ.out.1]; exact dcO_nil (bbut HBEL.out.drew hb9.out (Nat.le_refl _))
      · have HQ := hid (dec_ok_of (HDEC.out.trans hdec))
        rw [h0] at hce HD9
        clear hdec HDEC HBD
        go_wp2_with (first
          | (refine wpList_load_row rfl 26 _ rfl bp rfl 26 #[.int .i64 5, .string ⟨#[]⟩, .string ⟨#[]⟩, .slice none 0 0, .int .i64 0, .slice none 0 0, .int .i64 (numV r), .string (txtS (numR r))] (0, 0) _ HD9.out.box Tryd.underlying26 rfl (by kernel_rfl) ?_)
          | (refine wpList_store_row rfl 26 _ _ rfl w.heap.size #[.int .i64 5, .string ⟨#[]⟩, .string ⟨#[]⟩, .slice none 0 0, .int .i64 0, .slice none 0 0, .int .i64 (numV r), .string (txtS (numR r))] rfl rfl 26 _ HRES.out (by kernel_rfl) rfl (by first | kernel_rfl | simp [Value.oneCell']) ?_)
          | fail)
        try simp only [Exit.inBlock, Exit.then]
        refine bodyPost_ret (v := .tuple #[.agg #[.int .i64 5, .string ⟨#[]⟩, .string ⟨#[]⟩, .slice none 0 0, .int .i64 0, .slice none 0 0, .int .i64 (numV r), .string (txtS (numR r))], .int .i64 0]) ?_ (by rfl) ?_
        · exact results_row2 Tryd.results17 _ _ w.heap.size 26 _ (0, 0) _ _ rfl rfl (setRow_heap _ _ _ _ _ _ HRES.out) Tryd.underlying26 rfl (by kernel_rfl)
        · refine ⟨none, 0, none, 0, ?_, ?_⟩
          · rw [HQ.out.1, HQ.out.2]; rfl
          · rw [HQ.out.1]; exact HD9.out.good (RowS.nil _ _ _) (fun b hb => by simp [Value.ownBlock] at hb) (Row.nil _ _) (fun b hb => by simp [Value.ownBlock] at hb)
  by_cases o6 : op = 6
  · as_aux_lemma =>
      subst o6
      rw [if_neg (by omega), if_pos rfl] at HDEC
      have CWc := hid (pchoices_any w (w.heap.size + 1) W0 r 0 HENV.out HD.out.rd hrl)
      go_upto_region 19 with (first
        | (go_at_call 42; refine CWc.out.mono ?_; go_loud (rintro e xWc ⟨ca, cn, cp, l, zs9, rfl, HWc⟩; have HEWc := hid (HD.out.call ⟨HWc.out.1.rd, HWc.out.1.but⟩); have kWc : xWc.cell? ⟨bp, 3, none⟩ = some (.slice none 0 0) := HEWc.out.cell 3; have fWc := HEWc.out.frozen 3))
        | fail)
      have HWc' := hid (HEWc.out.put 3 (.slice ca cn cp) (F' := #[.int .i64 6, .string ⟨#[]⟩, .string ⟨#[]⟩, .slice ca cn cp, .int .i64 0, .slice none 0 0, .int .i64 0, .string ⟨#[]⟩]) rfl)
      have HBWc : Hid (But bp xWc (xWc.setCell ⟨bp, 3, none⟩ (.slice ca cn cp))) := But.setCell _ _ _ _
      clear kWc fWc CWc HEWc
      generalize xWc.setCell ⟨bp, 3, none⟩ (.slice ca cn cp) = Wc at *
      have HROW : Hid (cn = l.length ∧ RowS Wc 56 2 (.slice ca cn cp) cn (chs l) ∧ ∀ b, (Value.slice ca cn cp).ownBlock = some b → bp ≤ b) :=
        ⟨HWc.out.1.chv.1, HWc.out.1.row.keep fun b hb => HBWc.out.block b (by have := HWc.out.1.new b hb; have := HD.out.lt; omega) (HWc.out.1.row.lt hb), fun b hb => by have := HWc.out.1.new b hb; have := HD.out.lt; omega⟩
      have HL := hid HWc.out.2
      have HD9 := HWc'
      clear HWc HWc' HBWc HD hx0
      generalize Wc = W at *
      have hce : W.cell? ⟨w.heap.size + 1, 1, none⟩ = some (.int .i64 (chE 0 r)) := HD9.out.rd.cell
      have HRES : Hid (W.heap[w.heap.size]? = some (.cells #[.int .i64 0, .string ⟨#[]⟩, .string ⟨#[]⟩, .slice none 0 0, .int .i64 0, .slice none 0 0, .int .i64 0, .string ⟨#[]⟩] 26 (0, 0))) := HD9.out.res
      have HBEL : Hid (Below w.heap.size w W) := HD9.out.rd.bel
      rcases ch_two 0 r with ⟨h0, _, l', hl'⟩ | ⟨hne, hdec, _⟩
      · have HQ : Hid (decQ zs = { Tp.nil with op := 6, ch := l' } ∧ decE zs = 0) := dec_ok_of (HDEC.out.trans (by rw [hl']))
        obtain rfl := HL.out (by first | rfl | trivial) l' hl'
        obtain ⟨rfl, HRW, HRN⟩ := HROW.out
        have HRW := hid HRW
        have HRN := hid HRN
        rw [h0] at hce HD9
        clear HL HROW HDEC HBD hl'
        go_wp2_with (first
          | (refine wpList_load_row rfl 26 _ rfl bp rfl 26 #[.int .i64 6, .string ⟨#[]⟩, .string ⟨#[]⟩, .slice ca l.length cp, .int .i64 0, .slice none 0 0, .int .i64 0, .string ⟨#[]⟩] (0, 0) _ HD9.out.box Tryd.underlying26 rfl (by kernel_rfl) ?_)
          | (refine wpList_store_row rfl 26 _ _ rfl w.heap.size #[.int .i64 6, .string ⟨#[]⟩, .string ⟨#[]⟩, .slice ca l.length cp, .int .i64 0, .slice none 0 0, .int .i64 0, .string ⟨#[]⟩] rfl rfl 26 _ HRES.out (by kernel_rfl) rfl (by first | kernel_rfl | simp [Value.oneCell']) ?_)
          | fail)
        try simp only [Exit.inBlock, Exit.then]
        refine bodyPost_ret (v := .tuple #[.agg #[.int .i64 6, .string ⟨#[]⟩, .string ⟨#[]⟩, .slice ca l.length cp, .int .i64 0, .slice none 0 0, .int .i64 0, .string ⟨#[]⟩], .int .i64 0]) ?_ (by rfl) ?_
        · exact results_row2 Tryd.results17 _ _ w.heap.size 26 _ (0, 0) _ _ rfl rfl (setRow_heap _ _ _ _ _ _ HRES.out) Tryd.underlying26 rfl (by kernel_rfl)
        · refine ⟨ca, cp, none, 0, ?_, ?_⟩
          · rw [HQ.out.1, HQ.out.2]; rfl
          · rw [HQ.out.1]; exact HD9.out.good HRW.out HRN.out (Row.nil _ _) (fun b hb => by simp [Value.ownBlock] at hb)
      · have HQ : Hid (decQ zs = Tp.nil ∧ decE zs = chE 0 r) := dec_er_of (HDEC.out.trans (by rw [hdec rfl]))
        clear hdec HL HROW HDEC HBD
        generalize chE 0 r = er at *
        have hbn : ((er : Int) != 0) = true := by simpa using hne
        go_upto_region 20 with fail
        refine wp_region_noPanic ?_
        refine wp_region_held_drew (S := fun w' => w'.cell? ⟨w.heap.size + 1, 1, none⟩ = some (.int .i64 er)) (by kernel_rfl) hce (fun hHeld => ?_)
        refine wpAnyH_take (i := 0) (oi := { dst := some 44, op := .build 26 #[], type := _, pos := _, after := _, guard := none }) (v := .agg #[.int .i64 0, .string ⟨#[]⟩, .string ⟨#[]⟩, .slice none 0 0, .int .i64 0, .slice none 0 0, .int .i64 0, .string ⟨#[]⟩]) rfl (by kernel_rfl) (by kernel_rfl) (by kernel_rfl) (fun _ _ _ h => h) (Or.inl ⟨by rfl, fun wq hSw => by (try dsimp only at hSw); first | go_simp | kernel_rfl⟩) (by assumption) ?_
        try simp only [Act.put, List.setIfInBounds_toArray, List.set_cons_zero, List.set_cons_succ]
        refine wpAnyH_take (i := 1) (oi := { dst := some 45, op := .fieldAddr 67 (.tmp 4) 1, type := _, pos := _, after := _, guard := none }) (v := .pointer (some ⟨w.heap.size + 1, 1, none⟩)) rfl (by kernel_rfl) (by kernel_rfl) (by kernel_rfl) (fun _ _ _ h => h) (Or.inl ⟨by rfl, fun wq hSw => by (try dsimp only at hSw); first | go_simp | kernel_rfl⟩) (by assumption) ?_
        try simp only [Act.put, List.setIfInBounds_toArray, List.set_cons_zero, List.set_cons_succ]
        refine wpAnyH_take (i := 2) (oi := { dst := some 46, op := .load 29 (.tmp 45), type := _, pos := _, after := _, guard := none }) (v := .int .i64 er) rfl (by kernel_rfl) (by kernel_rfl) (by kernel_rfl) (fun _ _ _ h => h) (Or.inl ⟨by rfl, fun wq hSw => by (try dsimp only at hSw); first | go_simp | kernel_rfl⟩) (by assumption) ?_
        try simp only [Act.put, List.setIfInBounds_toArray, List.set_cons_zero, List.set_cons_succ]
        refine wpAnyH_ready (rs := [3]) (by kernel_rfl) (by simp) ?_
        refine AllReadyH.cons (o := { dst := none, op := .store 26 (.tmp 2) (.tmp 44), type := _, pos := _, after := _, guard := none }) rfl (fun K hK => ?_) AllReadyH.nil
        refine step_store_row rfl 26 _ _ rfl w.heap.size #[.int .i64 0, .string ⟨#[]⟩, .string ⟨#[]⟩, .slice none 0 0, .int .i64 0, .slice none 0 0, .int .i64 0, .string ⟨#[]⟩] rfl rfl 26 _ (show W.drew.heap[w.heap.size]? = _ from HRES.out) (by kernel_rfl) rfl (by first | kernel_rfl | simp [Value.oneCell']) ?_
        intro w9 hg9 hb9
        have HCE9 : w9.cell? ⟨w.heap.size + 1, 1, none⟩ = some (.int .i64 er) := (hb9.out.cell (p := ⟨w.heap.size + 1, 1, none⟩) (by simp) (World.block_lt_of_cell? W _ hce)).trans hce
        refine hK.out _ _ HCE9 (fun hHeld => ?_)
        clear hK
        try simp only [Act.put, List.setIfInBounds_toArray, List.set_cons_zero, List.set_cons_succ]
        refine wpAnyH_take (i := 4) (oi := { dst := some 3, op := .assign (.tmp 46), type := _, pos := _, after := _, guard := none }) (v := .int .i64 er) rfl (by kernel_rfl) (by kernel_rfl) (by kernel_rfl) (fun _ _ _ h => h) (Or.inl ⟨by rfl, fun wq hSw => by (try dsimp only at hSw); first | go_simp | kernel_rfl⟩) (by assumption) ?_
        try simp only [Act.put, List.setIfInBounds_toArray, List.set_cons_zero, List.set_cons_succ]
        refine wpAnyH_done (by kernel_rfl) ?_ _
        refine NoPanic.normal ?_
        go_wp2_with fail
        try simp only [Exit.inBlock, Exit.then]
        refine bodyPost_ret (v := .tuple #[.agg #[.int .i64 0, .string ⟨#[]⟩, .string ⟨#[]⟩, .slice none 0 0, .int .i64 0, .slice none 0 0, .int .i64 0, .string ⟨#[]⟩], .int .i64 er]) ?_ (by rfl) ?_
        · exact results_row2 Tryd.results17 _ _ w.heap.size 26 _ (0, 0) _ _ rfl rfl hg9.out Tryd.underlying26 rfl (by kernel_rfl)
        · refine ⟨none, 0, none, 0, ?_, ?_⟩
          · rw [HQ.out.1, HQ.out.2]; rfl
          · rw [HQ.out.1]; exact dcO_nil (bbut HBEL.out.drew hb9.out (Nat.le_refl _))
  rw [if_neg o1, if_neg o6, if_neg (by omega)] at HDEC
  have b1 : (op == 1) = false := by simpa using o1
  have b3 : (op == 3) = false := by simpa using o3
  have b4 : (op == 4) = false := by simpa using o4
  have b5 : (op == 5) = false := by simpa using o5
  have b6 : (op == 6) = false := by simpa using o6
  have CF := hid (fail_any w (w.heap.size + 1) W0 r 0 170 HD.out.rd)
  clear o1 o3 o4 o5 o6
  go_upto_region 19 with (first
    | (go_at_call 45; refine CF.out.mono ?_; go_loud (rintro e W ⟨rfl, H4⟩))
    | fail)
  have HD9 := hid (HD.out.call H4.out)
  rw [fst_zero] at HD9
  have hne : ¬ (170 : Int) = 0 := by omega
  have HQ : Hid (decQ zs = Tp.nil ∧ decE zs = 170) := dec_er_of HDEC.out
  clear HD H4 CF HDEC HBD hx0 b1 b3 b4 b5 b6
  have hce : W.cell? ⟨w.heap.size + 1, 1, none⟩ = some (.int .i64 (170)) := HD9.out.rd.cell
  have HRES : Hid (W.heap[w.heap.size]? = some (.cells #[.int .i64 0, .string ⟨#[]⟩, .string ⟨#[]⟩, .slice none 0 0, .int .i64 0, .slice none 0 0, .int .i64 0, .string ⟨#[]⟩] 26 (0, 0))) := HD9.out.res
  have HBEL : Hid (Below w.heap.size w W) := HD9.out.rd.bel
  have hbn : ((170 : Int) != 0) = true := by simpa using hne
  go_upto_region 20 with fail
  refine wp_region_noPanic ?_
  refine wp_region_held_drew (S := fun w' => w'.cell? ⟨w.heap.size + 1, 1, none⟩ = some (.int .i64 170)) (by kernel_rfl) hce (fun hHeld => ?_)
  refine wpAnyH_take (i := 0) (oi := { dst := some 44, op := .build 26 #[], type := _, pos := _, after := _, guard := none }) (v := .agg #[.int .i64 0, .string ⟨#[]⟩, .string ⟨#[]⟩, .slice none 0 0, .int .i64 0, .slice none 0 0, .int .i64 0, .string ⟨#[]⟩]) rfl (by kernel_rfl) (by kernel_rfl) (by kernel_rfl) (fun _ _ _ h => h) (Or.inl ⟨by rfl, fun wq hSw => by (try dsimp only at hSw); first | go_simp | kernel_rfl⟩) (by assumption) ?_
  try simp only [Act.put, List.setIfInBounds_toArray, List.set_cons_zero, List.set_cons_succ]
  refine wpAnyH_take (i := 1) (oi := { dst := some 45, op := .fieldAddr 67 (.tmp 4) 1, type := _, pos := _, after := _, guard := none }) (v := .pointer (some ⟨w.heap.size + 1, 1, none⟩)) rfl (by kernel_rfl) (by kernel_rfl) (by kernel_rfl) (fun _ _ _ h => h) (Or.inl ⟨by rfl, fun wq hSw => by (try dsimp only at hSw); first | go_simp | kernel_rfl⟩) (by assumption) ?_
  try simp only [Act.put, List.setIfInBounds_toArray, List.set_cons_zero, List.set_cons_succ]
  refine wpAnyH_take (i := 2) (oi := { dst := some 46, op := .load 29 (.tmp 45), type := _, pos := _, after := _, guard := none }) (v := .int .i64 170) rfl (by kernel_rfl) (by kernel_rfl) (by kernel_rfl) (fun _ _ _ h => h) (Or.inl ⟨by rfl, fun wq hSw => by (try dsimp only at hSw); first | go_simp | kernel_rfl⟩) (by assumption) ?_
  try simp only [Act.put, List.setIfInBounds_toArray, List.set_cons_zero, List.set_cons_succ]
  refine wpAnyH_ready (rs := [3]) (by kernel_rfl) (by simp) ?_
  refine AllReadyH.cons (o := { dst := none, op := .store 26 (.tmp 2) (.tmp 44), type := _, pos := _, after := _, guard := none }) rfl (fun K hK => ?_) AllReadyH.nil
  refine step_store_row rfl 26 _ _ rfl w.heap.size #[.int .i64 0, .string ⟨#[]⟩, .string ⟨#[]⟩, .slice none 0 0, .int .i64 0, .slice none 0 0, .int .i64 0, .string ⟨#[]⟩] rfl rfl 26 _ (show W.drew.heap[w.heap.size]? = _ from HRES.out) (by kernel_rfl) rfl (by first | kernel_rfl | simp [Value.oneCell']) ?_
  intro w9 hg9 hb9
  have HCE9 : w9.cell? ⟨w.heap.size + 1, 1, none⟩ = some (.int .i64 170) := (hb9.out.cell (p := ⟨w.heap.size + 1, 1, none⟩) (by simp) (World.block_lt_of_cell? W _ hce)).trans hce
  refine hK.out _ _ HCE9 (fun hHeld => ?_)
  clear hK
  try simp only [Act.put, List.setIfInBounds_toArray, List.set_cons_zero, List.set_cons_succ]
  refine wpAnyH_take (i := 4) (oi := { dst := some 3, op := .assign (.tmp 46), type := _, pos := _, after := _, guard := none }) (v := .int .i64 170) rfl (by kernel_rfl) (by kernel_rfl) (by kernel_rfl) (fun _ _ _ h => h) (Or.inl ⟨by rfl, fun wq hSw => by (try dsimp only at hSw); first | go_simp | kernel_rfl⟩) (by assumption) ?_
  try simp only [Act.put, List.setIfInBounds_toArray, List.set_cons_zero, List.set_cons_succ]
  refine wpAnyH_done (by kernel_rfl) ?_ _
  refine NoPanic.normal ?_
  go_wp2_with fail
  try simp only [Exit.inBlock, Exit.then]
  refine bodyPost_ret (v := .tuple #[.agg #[.int .i64 0, .string ⟨#[]⟩, .string ⟨#[]⟩, .slice none 0 0, .int .i64 0, .slice none 0 0, .int .i64 0, .string ⟨#[]⟩], .int .i64 170]) ?_ (by rfl) ?_
  · exact results_row2 Tryd.results17 _ _ w.heap.size 26 _ (0, 0) _ _ rfl rfl hg9.out Tryd.underlying26 rfl (by kernel_rfl)
  · refine ⟨none, 0, none, 0, ?_, ?_⟩
    · rw [HQ.out.1, HQ.out.2]; rfl
    · rw [HQ.out.1]; exact dcO_nil (bbut HBEL.out.drew hb9.out (Nat.le_refl _))
theorem decode_any (pt : Part) (w : World) (hE : Env w) (hok : pt.ok w) (hl : pt.zs.length ≤ 140737488353280) :
    Calls Tryd.prog 17 #[pt.val] w fun e w' => ∃ ca cc da dc, e = .returned (.tuple #[.agg (tpC (decQ pt.zs) ca cc da dc), .int .i64 (decE pt.zs)]) ∧ Hid (DcO w w' (decQ pt.zs) ca cc da dc) := by
  by_cases hs : pt.zs.length < 2
  · exact decode_short pt w hok hs
  · exact decode_long pt w hE hok hl hs
end Go.Proofs.YtdcppiknomoigaaDoor

