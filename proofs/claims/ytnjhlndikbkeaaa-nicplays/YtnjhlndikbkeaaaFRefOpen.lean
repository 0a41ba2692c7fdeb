/-
  The document's Open, and Same.
-/
import Derived.Test.YtnjhlndikbkeaaaFSealsC
namespace Go.Proofs.Ytnjhlndikbkeaaa
open Go.RowKit
set_option linter.all false

set_option maxHeartbeats 1000000 in
theorem refOpen_short (a : Option Addr) (l c : Nat) (w : World) (h : l < 60) :
    Calls Try.prog 15 #[.slice a l c] w fun e w' => e = .returned (.tuple #[frameV zeroMac zeroMac 0 (.slice none 0 0), .int .i64 5]) ∧ Below w.heap.size w w' := by
  have h1 : (l : Int) < 60 := by omega
  go_enter Try.func15, Try.ntmps15
  go_wp2
  exact bodyPost_ret (v := .tuple #[frameV zeroMac zeroMac 0 (.slice none 0 0), .int .i64 5]) (by simp [results, Try.results15, go_sem, frameV, zeroMac]) rfl ⟨rfl, bpush (Below.refl _ _) _⟩
set_option maxHeartbeats 1000000 in
theorem refOpen_long (a : Option Addr) (l c : Nat) (w : World) (h : 1514 < l) (h2 : l ≤ 9223372036854775807) :
    Calls Try.prog 15 #[.slice a l c] w fun e w' => e = .returned (.tuple #[frameV zeroMac zeroMac 0 (.slice none 0 0), .int .i64 2]) ∧ Below w.heap.size w w' := by
  have h1 : (1514 : Int) < (l : Int) := by omega
  have h3 : ¬ (l : Int) < 60 := by omega
  go_enter Try.func15, Try.ntmps15
  go_wp2
  exact bodyPost_ret (v := .tuple #[frameV zeroMac zeroMac 0 (.slice none 0 0), .int .i64 2]) (by simp [results, Try.results15, go_sem, frameV, zeroMac]) rfl ⟨rfl, bpush (Below.refl _ _) _⟩
theorem part_cells {pt : Part} {w : World} (hok : pt.ok w) (h0 : 0 < pt.zs.length) : ∃ b o, pt.a = some ⟨b, o, none⟩ ∧ b < w.heap.size ∧ ∀ w', Below w.heap.size w w' → ∀ j, j < pt.zs.length → w'.cell? ⟨b, o + j, none⟩ = some (.int .u8 (pt.zs.getD j 0)) := by
  rcases hok.2.2 with he | ⟨b, o, ha, hc⟩
  · rw [he] at h0; simp at h0
  · exact ⟨b, o, ha, World.block_lt_of_cell? w _ (hc 0 h0), fun w' hb j hj => by rw [hb.cell (p := ⟨b, o + j, none⟩) (World.block_lt_of_cell? w _ (hc j hj)), hc j hj]⟩
set_option maxRecDepth 20000 in
set_option maxHeartbeats 1000000 in
theorem refOpen_kind (pt : Part) (w : World) (hok : pt.ok w) (hl : 60 ≤ pt.zs.length) (hl2 : pt.zs.length ≤ 1514) (hk : kindAt pt.zs < 1536) :
    Calls Try.prog 15 #[pt.val] w fun e w' => e = .returned (.tuple #[frameV zeroMac zeroMac 0 (.slice none 0 0), .int .i64 30]) ∧ Below w.heap.size w w' := by
  obtain ⟨b, o, ha, hb, hc⟩ := part_cells hok (by omega)
  have c12 := hc _ (bpush (Below.refl _ _) (.cells (frameC zeroMac zeroMac 0 (.slice none 0 0)) 51)) 12 (by omega)
  have c13 := hc _ (bpush (Below.refl _ _) (.cells (frameC zeroMac zeroMac 0 (.slice none 0 0)) 51)) 13 (by omega)
  have b12 := getD_mem_bd hok.1 12
  have b13 := getD_mem_bd hok.1 13
  unfold kindAt at hk
  unfold Part.val
  rw [ha]
  simp only [frameC, zeroMac] at c12 c13
  generalize pt.zs.getD 12 0 = z12 at *
  generalize pt.zs.getD 13 0 = z13 at *
  generalize pt.zs.length = l at *
  have h1 : ¬ (1514 : Int) < (l : Int) := by omega
  have h3 : ¬ (l : Int) < 60 := by omega
  have t3 : (12 : Int) < (l : Int) := by omega
  have t4 : (13 : Int) < (l : Int) := by omega
  clear hok hc ha
  go_enter Try.func15, Try.ntmps15
  go_wp2
  go_quiet (fail)
  have HG : Hid (∀ n, ((w.alloc (.cells #[.int .u8 0, .int .u8 0, .int .u8 0, .int .u8 0, .int .u8 0, .int .u8 0, .int .u8 0, .int .u8 0, .int .u8 0, .int .u8 0, .int .u8 0, .int .u8 0, .int .i64 0, .slice none 0 0] 51)).drewN n).heap[w.heap.size]? = some (.cells #[.int .u8 0, .int .u8 0, .int .u8 0, .int .u8 0, .int .u8 0, .int .u8 0, .int .u8 0, .int .u8 0, .int .u8 0, .int .u8 0, .int .u8 0, .int .u8 0, .int .i64 0, .slice none 0 0] 51)) := fun n => heap_new _ _
  go_wp2_with (first
    | (refine wpList_store_row rfl 51 _ _ rfl w.heap.size #[.int .u8 0, .int .u8 0, .int .u8 0, .int .u8 0, .int .u8 0, .int .u8 0, .int .u8 0, .int .u8 0, .int .u8 0, .int .u8 0, .int .u8 0, .int .u8 0, .int .i64 0, .slice none 0 0] rfl rfl 51 _ (HG.out _) (by kernel_rfl) rfl (by first | kernel_rfl | simp [Value.oneCell']) ?_))
  refine bodyPost_ret (v := .tuple #[frameV zeroMac zeroMac 0 (.slice none 0 0), .int .i64 30]) ?_ (by rfl) ?_
  · exact results_row2 Try.results15 _ _ w.heap.size 51 #[.int .u8 0, .int .u8 0, .int .u8 0, .int .u8 0, .int .u8 0, .int .u8 0, .int .u8 0, .int .u8 0, .int .u8 0, .int .u8 0, .int .u8 0, .int .u8 0, .int .i64 0, .slice none 0 0] (0, 0) _ _ rfl rfl (setRow_heap _ _ _ _ _ _ (HG.out _)) Try.underlying51 rfl (by kernel_rfl)
  · exact ⟨rfl, bbut (bdrewN (bpush (Below.refl _ _) _) _) (But.setRow _ _ _) (Nat.le_refl _)⟩

/-- the document's Open under way. -/
def faTo (zs : List Int) (k : Int) : Nat → Array Value
  | 0 => frameC zeroMac zeroMac k (.slice none 0 0)
  | q + 1 => ((faTo zs k q).setIfInBounds q (.int .u8 (zs.getD q 0))).setIfInBounds (6 + q) (.int .u8 (zs.getD (6 + q) 0))
theorem faTo_size (zs : List Int) (k : Int) : ∀ q, (faTo zs k q).size = 14
  | 0 => rfl
  | q + 1 => by simp [faTo, faTo_size zs k q]
theorem faTo6 (zs : List Int) (k : Int) : faTo zs k 6 = frameC (macAt zs 0) (macAt zs 6) k (.slice none 0 0) := by
  simp [faTo, frameC, zeroMac, macAt]
def OpenJ (w : World) (F : Array Value) (wr : World) : Prop :=
  wr.heap[w.heap.size]? = some (.cells (frameC zeroMac zeroMac 0 (.slice none 0 0)) 51 (0, 0)) ∧ wr.heap[w.heap.size + 1]? = some (.cells F 51 (0, 0)) ∧ Below w.heap.size w wr
theorem OpenJ.but {w wr w' : World} {F F' : Array Value} (h : OpenJ w F wr) (hb : But (w.heap.size + 1) wr w') (hg : w'.heap[w.heap.size + 1]? = some (.cells F' 51 (0, 0))) : OpenJ w F' w' :=
  ⟨keptBut h.1 hb (by omega), hg, bbut h.2.2 hb (by omega)⟩

set_option maxRecDepth 20000 in
set_option maxHeartbeats 4000000 in
theorem refOpen_ok (pt : Part) (w : World) (hok : pt.ok w) (hl : 60 ≤ pt.zs.length) (hl2 : pt.zs.length ≤ 1514) (hk : 1536 ≤ kindAt pt.zs) :
    Calls Try.prog 15 #[pt.val] w fun e w' => ∃ a n c, e = .returned (.tuple #[frameV (macAt pt.zs 0) (macAt pt.zs 6) (kindAt pt.zs) (.slice a n c), .int .i64 0]) ∧ Ans w w' (pt.zs.drop 14) a n c := by
  obtain ⟨b, o, ha, hb, hc⟩ := part_cells hok (by omega)
  have HCC := hid hc
  have c12 := hc _ (bpush (Below.refl _ _) (.cells (frameC zeroMac zeroMac 0 (.slice none 0 0)) 51)) 12 (by omega)
  have c13 := hc _ (bpush (Below.refl _ _) (.cells (frameC zeroMac zeroMac 0 (.slice none 0 0)) 51)) 13 (by omega)
  have HZB := hid (getD_mem_bd hok.1)
  have b12 := getD_mem_bd hok.1 12
  have b13 := getD_mem_bd hok.1 13
  have hcap := hok.2.1
  have HPT : Hid (∀ w', Below w.heap.size w w' → Part.ok w' ⟨some ⟨b, o + 14, none⟩, pt.c - 14, pt.zs.drop 14⟩) := fun w' hb' => by
    obtain ⟨pa, pc, zs⟩ := pt
    simp only at ha hl hcap
    subst ha
    have hh := Part.sub_ok (Part.ok_below hok hb') 14 (zs.length - 14) (pc - 14) (by omega) (by omega)
    have e : (zs.drop 14).take (zs.length - 14) = zs.drop 14 := List.take_of_length_le (by simp)
    rw [e] at hh
    exact hh
  have HDL : Hid ((pt.zs.drop 14).length = pt.zs.length - 14) := by unfold Hid; simp
  have HK : Hid (kindAt pt.zs = pt.zs.getD 12 0 * 256 + pt.zs.getD 13 0) := rfl
  have HF6 := hid (faTo6 pt.zs (kindAt pt.zs))
  have HF0 : Hid (faTo pt.zs (kindAt pt.zs) 0 = frameC zeroMac zeroMac (kindAt pt.zs) (.slice none 0 0)) := rfl
  have HFS := hid (faTo_size pt.zs (kindAt pt.zs))
  have HFN : Hid (∀ q, faTo pt.zs (kindAt pt.zs) (q + 1) = ((faTo pt.zs (kindAt pt.zs) q).setIfInBounds q (.int .u8 (pt.zs.getD q 0))).setIfInBounds (6 + q) (.int .u8 (pt.zs.getD (6 + q) 0))) := fun q => rfl
  rw [HK.out] at hk HF6 HF0 HFS HFN ⊢
  unfold Part.val
  rw [ha]
  generalize hFA : faTo pt.zs (pt.zs.getD 12 0 * 256 + pt.zs.getD 13 0) = FA at *
  simp only [frameC, zeroMac] at c12 c13 HF0
  generalize pt.zs.getD 12 0 = z12 at *
  generalize pt.zs.getD 13 0 = z13 at *
  generalize hll : pt.zs.length = l at *
  have HLL := hid hll
  generalize pt.c = c at *
  generalize macAt pt.zs 0 = M0 at *
  generalize macAt pt.zs 6 = M6 at *
  generalize hDD : pt.zs.drop 14 = DD at *
  have h1 : ¬ (1514 : Int) < (l : Int) := by omega
  have h3 : ¬ (l : Int) < 60 := by omega
  have t3 : (12 : Int) < (l : Int) := by omega
  have t4 : (13 : Int) < (l : Int) := by omega
  have hk3 : ¬ z12 * 256 + z13 < 1536 := by omega
  have t5 : (14 : Int) ≤ (l : Int) := by omega
  have t6 : ¬ c = 14 := by omega
  clear hok hc ha hFA hll HK hDD
  obtain ⟨d0, d1, d2, d3, d4, d5⟩ := M0
  obtain ⟨s0, s1, s2, s3, s4, s5⟩ := M6
  simp only [frameV, frameC] at HF6 ⊢
  go_enter Try.func15, Try.ntmps15
  go_wp2
  go_quiet (fail)
  go_wp2
  go_loopw [6] (fun i wr => ∃ q : Nat, q ≤ 6 ∧ i = .int .i64 q ∧ OpenJ w (FA q) wr) (fun i _ => 6 - (intOf i).toNat)
  case atStart =>
    refine ⟨0, by omega, rfl, ?_⟩
    rw [HF0.out]
    have h := ((Holds.nil w).push (.cells (frameC zeroMac zeroMac 0 (.slice none 0 0)) 51)).push (.cells (frameC zeroMac zeroMac (z12 * 256 + z13) (.slice none 0 0)) 51)
    simp only [World.size_alloc] at h
    exact ⟨h.at 1 _ _ rfl, h.at 0 _ _ rfl, bdrewN (bpush (bpush (Below.refl _ _) _) _) _⟩
  case round =>
    obtain ⟨q, hq, rfl, hj⟩ := hrel
    have HJ := hid hj
    clear hj
    by_cases hq6 : q < 6
    · have e1 := HCC.out wr HJ.out.2.2 q (by omega)
      have e2 := HCC.out wr HJ.out.2.2 (6 + q) (by omega)
      have hnb : ¬ b = w.heap.size + 1 := by omega
      have hnb2 : ¬ w.heap.size + 1 = b := by omega
      have hsz := HFS.out q
      have f1 : ∃ u, wr.cell? ⟨w.heap.size + 1, q, none⟩ = some u := ⟨(FA q)[q]'(by omega), by rw [cell_of_heap HJ.out.2.1, Array.getElem?_eq_getElem (by omega)]⟩
      have f2 : ∃ u, wr.cell? ⟨w.heap.size + 1, 6 + q, none⟩ = some u := ⟨(FA q)[6 + q]'(by omega), by rw [cell_of_heap HJ.out.2.1, Array.getElem?_eq_getElem (by omega)]⟩
      have f3 : ∀ j, wr.frozen? ⟨w.heap.size + 1, j, none⟩ = false := fun j => frozen_of_heap HJ.out.2.1 j
      obtain ⟨u1, f1⟩ := f1
      obtain ⟨u2, f2⟩ := f2
      have HNX := hid (HFN.out q)
      have b1 := HZB.out q
      have b2 := HZB.out (6 + q)
      generalize pt.zs.getD q 0 = x1 at *
      generalize pt.zs.getD (6 + q) 0 = x2 at *
      have t7 : (q : Int) < (l : Int) := by omega
      have t8 : (6 : Int) + q < (l : Int) := by omega
      have t9 : (q : Int) < 6 := by omega
      have t10 : ¬ q = 6 + q := by omega
      clear hsz
      go_wp2
      refine ⟨⟨q + 1, by omega, by go_num, ?_⟩, by simp [intOf]; omega⟩
      rw [HNX.out]
      have k1 := HJ.out.but (But.setCell (w.heap.size + 1) wr q (.int .u8 x1)) (heap_setCell HJ.out.2.1)
      exact k1.but (But.setCell (w.heap.size + 1) _ (6 + q) (.int .u8 x2)) (heap_setCell k1.2.1)
    · have hqe : FA q = FA 6 := by rw [show q = 6 by omega]
      have HJ6 : Hid (OpenJ w (FA 6) wr) := by have := HJ.out; rw [hqe] at this; exact this
      rw [HF6.out] at HJ6
      clear hqe HJ
      have hcd : wr.cell? ⟨w.heap.size + 1, 13, none⟩ = some (.slice none 0 0) := by rw [cell_of_heap HJ6.out.2.1]; rfl
      obtain ⟨v', w', hrun, row', hgr', hcase⟩ := append_part (w := wr.drew) (zs := []) (Row.nil _ _) ⟨some ⟨b, o + 14, none⟩, c - 14, DD⟩ (HPT.out _ HJ6.out.2.2.drew) (by simp [HDL.out]; omega) 43
      simp only [Part.val, HDL.out, List.nil_append] at hrun row'
      obtain ⟨a9, c9, e9, hjk⟩ := row'.form
      rw [u8s_len, HDL.out] at e9
      subst e9
      have hbt : But (w.heap.size + 1) wr w' := ⟨hgr'.os, hgr'.tape, hgr'.output, hgr'.size, fun k hk1 hk2 => hgr'.block k hk2 (by simp [Value.ownBlock])⟩
      have HJ7 := hid (HJ6.out.but hbt ((hgr'.block _ (heap_lt HJ6.out.2.1) (by simp [Value.ownBlock])).trans HJ6.out.2.1))
      have HRW := hid row'
      have HFR : Hid (∀ b, (Value.slice a9 (l - 14) c9).ownBlock = some b → wr.heap.size ≤ b) := fun b' hb' => by
        rcases hcase with h1 | h1
        · rw [h1] at hb'; simp [Value.ownBlock] at hb'
        · exact h1 b' hb'
      have HRUN := hid hrun
      have hc7 : ∃ u, w'.cell? ⟨w.heap.size + 1, 13, none⟩ = some u := ⟨.slice none 0 0, by rw [cell_of_heap HJ7.out.2.1]; rfl⟩
      obtain ⟨u7, hc7⟩ := hc7
      have hf7 : w'.frozen? ⟨w.heap.size + 1, 13, none⟩ = false := frozen_of_heap HJ7.out.2.1 13
      clear hrun row' hgr' hcase hbt hjk
      go_wp2
      go_region_law (refine step_append_run rfl (.tmp 50) (.tmp 52) 43 43 rfl _ _ rfl rfl HRUN.out ?_)
      have HJ8 : Hid (OpenJ w #[.int .u8 d0, .int .u8 d1, .int .u8 d2, .int .u8 d3, .int .u8 d4, .int .u8 d5, .int .u8 s0, .int .u8 s1, .int .u8 s2, .int .u8 s3, .int .u8 s4, .int .u8 s5, .int .i64 (z12 * 256 + z13), .slice a9 (l - 14) c9] (w'.setCell ⟨w.heap.size + 1, 13, none⟩ (.slice a9 (l - 14) c9))) := HJ7.out.but (But.setCell _ _ _ _) (heap_setCell HJ7.out.2.1)
      have hwl := heap_lt HJ6.out.2.1
      have HRW8 := hid (HRW.out.but (But.setCell (w.heap.size + 1) w' 13 (.slice a9 (l - 14) c9)) (fun b' hb' => by have := HFR.out b' hb'; omega))
      generalize w'.setCell ⟨w.heap.size + 1, 13, none⟩ (.slice a9 (l - 14) c9) = W8 at *
      clear hc7 hf7 hcd HRW HJ7 HJ6
      go_wp2_with (first
        | (refine wpList_load_row rfl 51 _ rfl (w.heap.size + 1) rfl 51 #[.int .u8 d0, .int .u8 d1, .int .u8 d2, .int .u8 d3, .int .u8 d4, .int .u8 d5, .int .u8 s0, .int .u8 s1, .int .u8 s2, .int .u8 s3, .int .u8 s4, .int .u8 s5, .int .i64 (z12 * 256 + z13), .slice a9 (l - 14) c9] (0, 0) _ (by exact HJ8.out.2.1) Try.underlying51 rfl (by kernel_rfl) ?_)
        | (refine wpList_store_row rfl 51 _ _ rfl w.heap.size #[.int .u8 d0, .int .u8 d1, .int .u8 d2, .int .u8 d3, .int .u8 d4, .int .u8 d5, .int .u8 s0, .int .u8 s1, .int .u8 s2, .int .u8 s3, .int .u8 s4, .int .u8 s5, .int .i64 (z12 * 256 + z13), .slice a9 (l - 14) c9] rfl rfl 51 _ HJ8.out.1 (by kernel_rfl) rfl (by first | kernel_rfl | simp [Value.oneCell']) ?_))
      refine bodyPost_ret (v := .tuple #[.agg #[.int .u8 d0, .int .u8 d1, .int .u8 d2, .int .u8 d3, .int .u8 d4, .int .u8 d5, .int .u8 s0, .int .u8 s1, .int .u8 s2, .int .u8 s3, .int .u8 s4, .int .u8 s5, .int .i64 (z12 * 256 + z13), .slice a9 (l - 14) c9], .int .i64 0]) ?_ (by rfl) ?_
      · exact results_row2 Try.results15 _ _ w.heap.size 51 #[.int .u8 d0, .int .u8 d1, .int .u8 d2, .int .u8 d3, .int .u8 d4, .int .u8 d5, .int .u8 s0, .int .u8 s1, .int .u8 s2, .int .u8 s3, .int .u8 s4, .int .u8 s5, .int .i64 (z12 * 256 + z13), .slice a9 (l - 14) c9] (0, 0) _ _ rfl rfl (setRow_heap _ _ _ _ _ _ HJ8.out.1) Try.underlying51 rfl (by kernel_rfl)
      · exact ⟨a9, l - 14, c9, rfl, HRW8.out.but (But.setRow _ _ _) (fun b' hb' => by have := HFR.out b' hb'; omega), fun b' hb' => by have := HFR.out b' hb'; omega, bbut HJ8.out.2.2 (But.setRow _ _ _) (Nat.le_refl _)⟩

/-! ### One answer -/
structure Opened where
  d : Mac
  s : Mac
  k : Int
  ys : List Int
  er : Int
def openR (zs : List Int) : Opened :=
  if zs.length < 60 then ⟨zeroMac, zeroMac, 0, [], 5⟩ else if 1514 < zs.length then ⟨zeroMac, zeroMac, 0, [], 2⟩ else if kindAt zs < 1536 then ⟨zeroMac, zeroMac, 0, [], 30⟩ else ⟨macAt zs 0, macAt zs 6, kindAt zs, zs.drop 14, 0⟩
theorem zero_ok : zeroMac.ok := by simp [Mac.ok, zeroMac]
theorem openR_ok (zs : List Int) (hz : ∀ z, z ∈ zs → 0 ≤ z ∧ z ≤ 255) : (openR zs).d.ok ∧ (openR zs).s.ok ∧ (∀ z, z ∈ (openR zs).ys → 0 ≤ z ∧ z ≤ 255) ∧ (openR zs).ys.length ≤ 1500 := by
  unfold openR
  split
  · exact ⟨zero_ok, zero_ok, by simp, by simp⟩
  · split
    · exact ⟨zero_ok, zero_ok, by simp, by simp⟩
    · split
      · exact ⟨zero_ok, zero_ok, by simp, by simp⟩
      · exact ⟨macAt_ok hz 0, macAt_ok hz 6, fun z hm => hz z (List.mem_of_mem_drop hm), by simp; omega⟩
theorem open_u (pt : Part) (w : World) (hok : pt.ok w) (hl : pt.zs.length ≤ 140737488351232) :
    Calls Try.prog 59 #[pt.val] w fun e w' => ∃ a n c, e = .returned (.tuple #[frameV (openR pt.zs).d (openR pt.zs).s (openR pt.zs).k (.slice a n c), .int .i64 (openR pt.zs).er]) ∧ Ans w w' (openR pt.zs).ys a n c := by
  unfold openR
  by_cases h1 : pt.zs.length < 60
  · rw [if_pos h1]
    exact (open_short pt.a pt.zs.length pt.c w h1).mono fun e w' ⟨he, hb⟩ => ⟨none, 0, 0, he, ans_nil hb⟩
  · rw [if_neg h1]
    by_cases h2 : 1514 < pt.zs.length
    · rw [if_pos h2]
      exact (open_long pt.a pt.zs.length pt.c w h2 (by omega)).mono fun e w' ⟨he, hb⟩ => ⟨none, 0, 0, he, ans_nil hb⟩
    · rw [if_neg h2]
      by_cases h3 : kindAt pt.zs < 1536
      · rw [if_pos h3]
        exact (open_kind pt w hok (by omega) (by omega) h3).mono fun e w' ⟨he, hb⟩ => ⟨none, 0, 0, he, ans_nil hb⟩
      · rw [if_neg h3]
        exact (open_ok pt w hok (by omega) (by omega) (by omega)).mono fun e w' ⟨g, he, hg, hh, hb⟩ => ⟨_, _, _, he, ans_row (by simp) (by unfold maxLen; omega) hh hg hb⟩
theorem refOpen_u (pt : Part) (w : World) (hok : pt.ok w) (hl : pt.zs.length ≤ 140737488351232) :
    Calls Try.prog 15 #[pt.val] w fun e w' => ∃ a n c, e = .returned (.tuple #[frameV (openR pt.zs).d (openR pt.zs).s (openR pt.zs).k (.slice a n c), .int .i64 (openR pt.zs).er]) ∧ Ans w w' (openR pt.zs).ys a n c := by
  unfold openR
  by_cases h1 : pt.zs.length < 60
  · rw [if_pos h1]
    exact (refOpen_short pt.a pt.zs.length pt.c w h1).mono fun e w' ⟨he, hb⟩ => ⟨none, 0, 0, he, ans_nil hb⟩
  · rw [if_neg h1]
    by_cases h2 : 1514 < pt.zs.length
    · rw [if_pos h2]
      exact (refOpen_long pt.a pt.zs.length pt.c w h2 (by omega)).mono fun e w' ⟨he, hb⟩ => ⟨none, 0, 0, he, ans_nil hb⟩
    · rw [if_neg h2]
      by_cases h3 : kindAt pt.zs < 1536
      · rw [if_pos h3]
        exact (refOpen_kind pt w hok (by omega) (by omega) h3).mono fun e w' ⟨he, hb⟩ => ⟨none, 0, 0, he, ans_nil hb⟩
      · rw [if_neg h3]
        exact refOpen_ok pt w hok (by omega) (by omega) (by omega)

set_option maxRecDepth 20000 in
set_option maxHeartbeats 1000000 in
theorem same_any (d s : Mac) (k : Int) (ys : List Int) (a : Option Addr) (n c : Nat) (a' : Option Addr) (n' c' : Nat) (w : World) (hd : d.ok) (hs : s.ok) (hz : ∀ z, z ∈ ys → 0 ≤ z ∧ z ≤ 255) (h1 : Row w 5 (.slice a n c) (u8s ys)) (h2 : Row w 5 (.slice a' n' c') (u8s ys)) :
    Calls Try.prog 29 #[frameV d s k (.slice a n c), frameV d s k (.slice a' n' c')] w fun e w' => e = .returned (.bool true) ∧ Below w.heap.size w w' := by
  have q1 := mac_eq d d hd hd
  have q2 := mac_eq s s hs hs
  rw [decide_eq_true rfl] at q1 q2
  have v1 : ∀ o o', (convert 43 9 (.slice a n c)).run Try.prog ((w.alloc o).alloc o') = .ok (.string (strOfNums ys)) ((w.alloc o).alloc o') := fun o o' => (h1.below (bpush (bpush (Below.refl _ _) o) o')).conv0 hz
  have v2 : ∀ o o', (convert 43 9 (.slice a' n' c')).run Try.prog ((w.alloc o).alloc o') = .ok (.string (strOfNums ys)) ((w.alloc o).alloc o') := fun o o' => (h2.below (bpush (bpush (Below.refl _ _) o) o')).conv0 hz
  generalize strOfNums ys = X at *
  have st : (X == X) = true := by
    cases X with | mk d => show (d == d) = true; simp
  obtain ⟨d0, d1, d2, d3, d4, d5⟩ := d
  obtain ⟨s0, s1, s2, s3, s4, s5⟩ := s
  simp only [Mac.val, frameV] at *
  clear hd hs hz h1 h2
  go_enter Try.func29, Try.ntmps29
  go_wp2
  go_ret
  exact ⟨by simp [st], bpush (bpush (Below.refl _ _) _) _⟩
end Go.Proofs.Ytnjhlndikbkeaaa
