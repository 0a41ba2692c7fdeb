/-
  The contract of option.areApart.
-/
import Derived.Test.YtmdkanbfpmdimaaOMem
import Derived.Test.YtmdkanbfpmdimaaBBig
namespace Go.Proofs.Ytmdkanbfpmdimaa
open Go.RowKit
set_option linter.all false

def Z255 : Array Value := Array.replicate 255 (.bool false)
/-- which codes came. -/
structure Came (L : List Opt) (X : Array Value) : Prop where
  size : X.size = 255
  at_ : ∀ j : Nat, j < 255 → X[j]? = some (.bool (decide ((j : Int) ∈ L.map Prod.fst)))
theorem Came.nil : Came [] Z255 := ⟨by simp [Z255], fun j hj => by simp [Z255, hj]⟩
theorem Came.snoc {L : List Opt} {X : Array Value} (h : Came L X) (c : Nat) (zs : List Int) (hc : c < 255) : Came (L ++ [((c : Int), zs)]) (X.setIfInBounds c (.bool true)) := by
  refine ⟨by simpa using h.size, fun j hj => ?_⟩
  rw [Array.getElem?_setIfInBounds]
  by_cases hjc : c = j
  · subst hjc
    rw [if_pos rfl, if_pos (by rw [h.size]; exact hc)]
    simp
  · rw [if_neg hjc, h.at_ j hj]
    congr 2
    simp only [List.map_append, List.map_cons, List.map_nil, List.mem_append, List.mem_singleton]
    rw [decide_eq_decide]
    constructor
    · exact Or.inl
    · rintro (h1 | h1)
      · exact h1
      · omega
theorem apart_cut {os : List OP} (k : Nat) (h : Apart (absO os)) : Apart (absO (os.take k)) := by
  have e : absO os = absO (os.take k) ++ absO (os.drop k) := by unfold absO; rw [← List.map_append, List.take_append_drop]
  rw [e] at h
  exact apart_left h
set_option maxHeartbeats 2000000 in
set_option maxRecDepth 20000 in
theorem areApart_any (a : Option Addr) (c : Nat) (os : List OP) (w : World) (h : OV w a os) :
    Calls Try.prog 28 #[.slice a os.length c] w fun e w' => e = .returned (.bool (decide (Apart (absO os)))) ∧ Hid (Below w.heap.size w w') := by
  obtain ⟨n, hn⟩ : ∃ n, n = os.length := ⟨_, rfl⟩
  have HN := hid hn
  have hf := h.few
  rw [← hn] at hf ⊢
  have HV := hid h
  clear h hn
  obtain ⟨w1, hw1⟩ : ∃ w1, w1 = (w.alloc (.cells Z255 78)) := ⟨_, rfl⟩
  have HG1 : Hid (w1.heap[w.heap.size]? = some (.cells Z255 78 (0, 0))) := by rw [hw1]; exact heap_new w _
  have HB1 : Hid (Below w.heap.size w w1) := by rw [hw1]; exact bpush (Below.refl _ _) _
  obtain ⟨gb, hgb⟩ : ∃ gb, gb = w.heap.size := ⟨_, rfl⟩
  have HGB : Hid (w.heap.size ≤ gb) := hid (by omega)
  rw [← hgb] at HG1
  go_enter Try.func28, Try.ntmps28
  go_wp2_with (first
    | (refine wpList_build_to rfl 78 _ rfl Z255 (by kernel_rfl) ?_)
    | (refine wpList_alloc_to rfl 78 rfl Z255 (by kernel_rfl) ?_; rw [← hw1, ← hgb]; clear hw1 hgb)
    | (refine wpList_store_row rfl 78 _ _ rfl gb Z255 rfl rfl 78 _ HG1.out (by kernel_rfl) rfl (by kernel_rfl) ?_))
  go_loopw [9] (fun i wr => ∃ k : Nat, k ≤ n ∧ i = .int .i64 k ∧ Hid (Below w.heap.size w wr) ∧ ∃ X, Hid (wr.heap[gb]? = some (.cells X 78 (0, 0))) ∧ Hid (Came (absO (os.take k)) X) ∧ Hid (Apart (absO (os.take k)))) (fun i _ => n - (intOf i).toNat)
  case atStart => exact ⟨0, Nat.zero_le _, rfl, bbut HB1.out (But.setRow _ _ _) HGB.out, _, setRow_heap _ _ _ _ _ _ HG1.out, Came.nil, apart_nil⟩
  case round =>
    obtain ⟨k, hk, rfl, HB, X, HX, HC, HA⟩ := hrel
    clear HB1 HG1
    by_cases hlt : k < n
    · have hlt' : (k : Int) < n := by omega
      obtain ⟨⟨cd, ad, cp, zs⟩, ho⟩ : ∃ o, os[k]? = some o := ⟨os[k]'(by rw [← HN.out]; exact hlt), List.getElem?_eq_getElem _⟩
      obtain ⟨b, off, ea, c0, c1⟩ := (HV.out.below HB.out).cell k _ ho
      simp only [Part.val] at c0 c1
      subst ea
      have HO := hid ho
      have HT : Hid (absO (os.take (k + 1)) = absO (os.take k) ++ [(cd, zs)]) := absO_take ho
      have HGL := hid (heap_lt HX.out)
      clear ho
      by_cases hin : 1 ≤ cd ∧ cd ≤ 254
      · obtain ⟨h1, h2⟩ := hin
        obtain ⟨q, rfl⟩ : ∃ q : Nat, cd = (q : Int) := ⟨cd.toNat, by omega⟩
        have hq : q < 255 := by omega
        have cq : wr.cell? ⟨gb, q, none⟩ = some (.bool (decide ((q : Int) ∈ (absO (os.take k)).map Prod.fst))) := by rw [cell_of_heap HX.out]; exact HC.out.at_ q hq
        have fq : wr.frozen? ⟨gb, q, none⟩ = false := frozen_of_heap HX.out q
        have gl : gb < wr.heap.size := HGL.out
        by_cases hm : (q : Int) ∈ (absO (os.take k)).map Prod.fst
        · have HR : Hid (decide (Apart (absO os)) = false) := hid (by
            simp only [decide_eq_false_iff_not]
            intro hA
            have := apart_cut (k + 1) hA
            rw [HT.out] at this
            exact (apart_snoc.1 this).2.2 hm)
          have hmd : decide ((q : Int) ∈ (absO (os.take k)).map Prod.fst) = true := by simpa using hm
          rw [hmd] at cq
          clear hm hmd
          go_wp2
          go_ret
          exact ⟨by rw [HR.out]; rfl, by repeat (first | exact HB.out | refine bpush ?_ _)⟩
        · have hmd : decide ((q : Int) ∈ (absO (os.take k)).map Prod.fst) = false := by simpa using hm
          have HM := hid hm
          rw [hmd] at cq
          clear hm hmd
          go_wp2
          go_roundw
          case rel =>
            refine ⟨k + 1, by omega, by go_num, ?_, X.setIfInBounds q (.bool true), ?_, ?_, ?_⟩
            · exact bpush (bbut HB.out (But.setCell gb _ _ _) HGB.out) _
            · exact (heap_old _ _ (by simp [World.setCell]; exact HGL.out)).trans (heap_setCell HX.out)
            · rw [HT.out]; exact HC.out.snoc q zs hq
            · rw [HT.out]; exact apart_snoc.2 ⟨HA.out, ⟨h1, h2⟩, HM.out⟩
          case measure => simp [intOf]; omega
      · have HR : Hid (decide (Apart (absO os)) = false) := hid (by
          simp only [decide_eq_false_iff_not]
          intro hA
          have := apart_cut (k + 1) hA
          rw [HT.out] at this
          exact hin (apart_snoc.1 this).2.1)
        by_cases h1 : cd ≤ 0
        · clear hin
          go_wp2
          go_ret
          exact ⟨by rw [HR.out]; rfl, by repeat (first | exact HB.out | refine bpush ?_ _)⟩
        · have h2 : 255 ≤ cd := by omega
          clear hin
          go_wp2
          go_ret
          exact ⟨by rw [HR.out]; rfl, by repeat (first | exact HB.out | refine bpush ?_ _)⟩
    · have hge : ¬ (k : Int) < n := by omega
      have hkn : k = n := by omega
      go_wp2
      go_ret
      refine ⟨?_, HB.out⟩
      have e : os.take k = os := by rw [hkn, HN.out]; simp
      have := HA.out
      rw [e] at this
      simp [this]
end Go.Proofs.Ytmdkanbfpmdimaa
