/-
  The contract of slipwayref02.Hex.
-/
import Derived.Test.YtanmidiapbghnaaDOwn
import Derived.Deep.RegionHeldLaw
namespace Go.Proofs.Ytanmidiapbghnaa
open Go.RowKit
set_option linter.unusedVariables false
set_option linter.unusedSimpArgs false

theorem hexL_next (d : List Int) (k : Nat) (h : k < d.length) : hexL (d.take (k + 1)) = hexL (d.take k) ++ hx2 (d.getD k 0) := by
  rw [take_next d k h]; simp [hexL]
theorem conv_part (pt : Part) (w : World) (hok : pt.ok w) : (convert 37 9 pt.val).run Try.prog w = .ok (.string (strOfNums pt.zs)) w := by
  obtain ⟨a, c, zs⟩ := pt
  simp only [Part.val]
  rcases hok.2.2 with h | ⟨b, o, ha, hc⟩
  · simp only at h
    subst h
    cases a with
    | none => exact run_convert_bytes_nil w _ _ Try.underlying37 Try.underlying5 _ _ _ Try.underlying9
    | some x =>
      rw [run_convert_bytes_string w _ _ _ _ _ _ Try.underlying37 Try.underlying5 Try.underlying9]
      exact run_bytesToString w x 0 c [] (by simpa using run_loadCells_list (P := Try.prog) w x [] (by simp))
  · simp only at ha hc
    subst ha
    exact run_convert_bytes_arg w _ _ Try.underlying37 Try.underlying5 b o zs.length c zs rfl hc _ Try.underlying9
/-- what the loop of the document's Hex keeps. -/
structure Hx (w : World) (d : List Int) (k : Nat) (v : Value) (wr : World) : Prop where
  box : wr.heap[w.heap.size]? = some (.cells (u8s d).toArray 26 (0, 0))
  own : OwnB wr (w.heap.size + 1) v (hexL (d.take k))
  below : Below w.heap.size w wr

set_option maxRecDepth 20000 in
set_option maxHeartbeats 1000000 in
theorem refHex_any (d : List Int) (w : World) (hd : d.length = 32) (hb : ∀ z, z ∈ d → 0 ≤ z ∧ z ≤ 255) :
    Calls Try.prog 25 #[.agg (u8s d).toArray] w fun e w' => e = .returned (.string (strOfNums (hexL d))) ∧ Below w.heap.size w w' := by
  have HD : Hid (d.length = 32) := hd
  have HBD : Hid (∀ z, z ∈ d → 0 ≤ z ∧ z ≤ 255) := hb
  have HST : Hid (Hx w d 0 (.slice none 0 0) (w.alloc (.cells (u8s d).toArray 26))) := ⟨heap_alloc_last w _, Or.inl ⟨rfl, rfl⟩, (Below.refl _ _).alloc (Nat.le_refl _) _⟩
  clear hd hb
  go_enter Try.func25, Try.ntmps25
  go_wp2_with fail
  go_loopw [3, 4] (fun b i wr => ∃ k : Nat, k ≤ 32 ∧ i = .int .i64 k ∧ Hx w d k b wr) (fun _ i _ => 32 - (intOf i).toNat)
  case atStart => exact ⟨0, by omega, rfl, HST.out⟩
  case round =>
    obtain ⟨k, hk, rfl, hx⟩ := hrel
    have HX : Hid (Hx w d k _ wr) := hx
    by_cases hlt : k < 32
    · have hlt2 : (k : Int) < 32 := by omega
      have ck : wr.cell? ⟨w.heap.size, k, none⟩ = some (.int .u8 (d.getD k 0)) := by rw [cell_of_heap hx.box, u8s_at _ _ (by rw [HD.out]; exact hlt)]
      have bz := getD_bd (by omega) HBD.out k
      have hnx := hexL_next d k (by rw [HD.out]; exact hlt)
      have hgl : w.heap.size + 1 ≤ wr.heap.size := (Array.getElem?_eq_some_iff.1 hx.box).1
      generalize d.getD k 0 = z at *
      have a15 := and_15 z bz.1 bz.2
      have hb2 : Below wr.heap.size wr (wr.alloc (.cells #[.int .u8 (hexd (z / 16)), .int .u8 (hexd (z % 16))] 5)).drew := ((Below.refl _ _).alloc (Nat.le_refl _) _).drew
      obtain ⟨v', w', hrun, hown, hbl⟩ := append_own (w := (wr.alloc (.cells #[.int .u8 (hexd (z / 16)), .int .u8 (hexd (z % 16))] 5)).drew) (hx.own.below hb2) ⟨some ⟨wr.heap.size, 0, none⟩, 2, hx2 z⟩
        (part_of_heap wr.heap.size (hx2 z) _ 5 (0, 0) (heap_alloc_last wr _) (by
          have e1 := hexd_bd (z / 16) (by omega) (by omega)
          have e2 := hexd_bd (z % 16) (by omega) (by omega)
          intro y hy
          simp only [hx2, List.mem_cons, List.not_mem_nil, or_false] at hy
          rcases hy with rfl | rfl
          · exact e1
          · exact e2)) (by rw [hexL_len]; simp [hx2]; omega) (by simp; omega) 37
      have HNX : Hid (Hx w d (k + 1) v' w') := ⟨(hbl.block _ (by omega)).trans ((heap_alloc_old wr _ (by omega)).trans hx.box), by rw [hnx]; exact hown, (hx.below.trans (hb2.mono (by omega))).trans (hbl.mono (by omega))⟩
      have HRUN : Hid _ := hrun
      have c2 : w'.cell? ⟨w.heap.size, k, none⟩ = some (.int .u8 z) := by
        rw [hbl.cell (p := ⟨w.heap.size, k, none⟩) (by simp), hb2.cell (p := ⟨w.heap.size, k, none⟩) (by simp; omega)]; exact ck
      clear hx hnx hb2 hrun hown hbl
      go_wp2_with fail
      go_region_held_law (fun x => x.cell? ⟨w.heap.size, k, none⟩ = some (.int .u8 z)) (first | assumption | go_keep) (first
        | (refine step_append_run rfl _ _ _ _ rfl _ _ rfl rfl HRUN.out ?_)
        | (go_at_call 33; refine (digit_any _ _ (by omega) (by omega)).mono ?_; rintro en w'' ⟨rfl, rfl⟩))
      all_goals go_wp2
      all_goals go_roundw
      all_goals first | (simp [intOf]; omega) | exact ⟨k + 1, by omega, by go_num, HNX.out⟩
    · obtain rfl : k = 32 := by omega
      have e32 : d.take 32 = d := List.take_of_length_le (by rw [HD.out]; omega)
      have ho := hx.own
      rw [e32] at ho
      obtain ⟨pt, hpv, hpz, hpo⟩ := ho.part (hexL_bd d HBD.out)
      have hcv := conv_part pt wr hpo
      rw [← hpv, hpz] at hcv
      have hge : ¬ ((32 : Nat) : Int) < 32 := by omega
      clear hx ho hpv hpz hpo hlt e32
      go_wp2
      go_ret
      exact ⟨rfl, HX.out.below⟩
end Go.Proofs.Ytanmidiapbghnaa
