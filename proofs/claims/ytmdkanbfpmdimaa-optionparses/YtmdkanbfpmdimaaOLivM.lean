/-
  What the statements' own function awake asks, as contracts.
-/
import Derived.Test.YtmdkanbfpmdimaaOPack
import Derived.Test.YtmdkanbfpmdimaaOPar
import Derived.Test.YtmdkanbfpmdimaaOFst
import Derived.Test.YtmdkanbfpmdimaaOMk
namespace Go.Proofs.Ytmdkanbfpmdimaa
open Go.RowKit
set_option linter.all false

def awL : List Opt := [(53, [1]), (50, [10, 0, 0, 5])]
def awB : List Int := [53, 1, 1, 50, 4, 10, 0, 0, 5, 255]
theorem awB_is : packB awL = awB := by
  simp [packB, awL, layL, layO, chop_short, layP, awB]
theorem aw_apart : Apart awL := by decide
theorem aw_e10 : packE awL 10 = 0 := by
  unfold packE
  rw [if_pos aw_apart, awB_is]
  simp [awL, awB]
theorem aw_a10 : packA awL 10 = awB := by
  unfold packA
  rw [if_pos aw_e10, awB_is]
theorem aw_e9 : packE awL 9 = 2 := by
  unfold packE
  rw [if_pos aw_apart, awB_is]
  simp [awL, awB]
theorem aw_a9 : packA awL 9 = [] := packA_no (by rw [aw_e9]; decide)
def awM : List Opt := [(53, [1]), (7, [97, 98])]
theorem aw_read1 : readG [] [53, 1, 1, 7, 1, 97, 255] = .ok [(53, [1]), (7, [97])] := by
  rw [readG_lay (by decide) (by decide) (by simp) (by simp)]
  simp only [Int.toNat_one, List.take_succ_cons, List.take_zero, List.drop_succ_cons, List.drop_zero]
  rw [show layG [] 53 [1] = [(53, [1])] from rfl]
  rw [readG_lay (by decide) (by decide) (by simp) (by simp)]
  simp only [Int.toNat_one, List.take_succ_cons, List.take_zero, List.drop_succ_cons, List.drop_zero]
  rw [show layG [(53, [1])] 7 [97] = [(53, [1]), (7, [97])] from rfl]
  exact readG_end _ _
theorem aw_read2 : readG [(53, [1]), (7, [97])] [7, 1, 98] = .ok awM := by
  rw [readG_lay (by decide) (by decide) (by simp) (by simp)]
  simp only [Int.toNat_one, List.take_succ_cons, List.take_zero, List.drop_succ_cons, List.drop_zero]
  rw [show layG [(53, [1]), (7, [97])] 7 [98] = awM from rfl]
  exact readG_nil _
theorem aw_parse : parseG [] [[53, 1, 1, 7, 1, 97, 255], [7, 1, 98]] = .ok awM := by
  simp only [parseG, aw_read1, aw_read2]
/-- the list in memory. -/
def awO (g0 g1 : Nat) : List OP := [(53, ⟨some ⟨g0, 0, none⟩, 1, [1]⟩), (50, ⟨some ⟨g1, 0, none⟩, 4, [10, 0, 0, 5]⟩)]
structure AwI (W : World) (g0 g1 g2 : Nat) : Prop where
  h0 : W.heap[g0]? = some (.cells #[.int .u8 1] 5 (0, 0))
  h1 : W.heap[g1]? = some (.cells #[.int .u8 10, .int .u8 0, .int .u8 0, .int .u8 5] 5 (0, 0))
  h2 : W.heap[g2]? = some (.cells #[.int .i64 53, .slice (some ⟨g0, 0, none⟩) 1 1, .int .i64 50, .slice (some ⟨g1, 0, none⟩) 4 4] 45 (0, 0))
theorem AwI.below {W W' : World} {g0 g1 g2 : Nat} (h : AwI W g0 g1 g2) (hb : Below W.heap.size W W') : AwI W' g0 g1 g2 := ⟨kept h.h0 hb, kept h.h1 hb, kept h.h2 hb⟩
theorem AwI.view {W : World} {g0 g1 g2 : Nat} (h : AwI W g0 g1 g2) : OV W (some ⟨g2, 0, none⟩) (awO g0 g1) := by
  refine ⟨fun i o ho => ⟨g2, 0, rfl, ?_⟩, fun o ho => ?_, by simp [awO], fun o ho => ?_⟩
  · match i with
    | 0 => simp [awO] at ho; subst ho; exact ⟨by rw [cell_of_heap h.h2]; rfl, by rw [cell_of_heap h.h2]; rfl⟩
    | 1 => simp [awO] at ho; subst ho; exact ⟨by rw [cell_of_heap h.h2]; rfl, by rw [cell_of_heap h.h2]; rfl⟩
    | i + 2 => simp [awO] at ho
  · simp only [awO, List.mem_cons, List.not_mem_nil, or_false] at ho
    rcases ho with rfl | rfl
    · exact ⟨Part.of_row (zs := [1]) h.h0 (by simp) (by simp), by simp⟩
    · exact ⟨Part.of_row (zs := [10, 0, 0, 5]) h.h1 (by simp) (by simp), by simp⟩
  · simp only [awO, List.mem_cons, List.not_mem_nil, or_false] at ho
    rcases ho with rfl | rfl <;> simp
theorem awO_abs (g0 g1 : Nat) : absO (awO g0 g1) = awL := rfl
theorem aw_pack10 (W : World) (g0 g1 g2 : Nat) (h : AwI W g0 g1 g2) : Calls Try.prog 15 #[.slice (some ⟨g2, 0, none⟩) 2 2, .int .i64 10] W fun e w' => ∃ a c, e = .returned (.tuple #[.slice a 10 c, .int .i64 0]) ∧ Hid (Ans W w' awB a 10 c) := by
  have := pack_any (some ⟨g2, 0, none⟩) 2 (awO g0 g1) 10 W h.view (by omega) (by rw [awO_abs]; have := awB_is; unfold packB at this; have := congrArg List.length this; simp [awB] at this; omega)
  rw [awO_abs, aw_e10, aw_a10] at this
  exact this
theorem aw_pack9 (W : World) (g0 g1 g2 : Nat) (h : AwI W g0 g1 g2) : Calls Try.prog 15 #[.slice (some ⟨g2, 0, none⟩) 2 2, .int .i64 9] W fun e w' => ∃ a c, e = .returned (.tuple #[.slice a 0 c, .int .i64 2]) ∧ Hid (Ans W w' [] a 0 c) := by
  have := pack_any (some ⟨g2, 0, none⟩) 2 (awO g0 g1) 9 W h.view (by omega) (by rw [awO_abs]; have := awB_is; unfold packB at this; have := congrArg List.length this; simp [awB] at this; omega)
  rw [awO_abs, aw_e9, aw_a9] at this
  exact this
theorem aw_parses (W : World) (g0 g1 g2 : Nat) (h0 : W.heap[g0]? = some (.cells #[.int .u8 53, .int .u8 1, .int .u8 1, .int .u8 7, .int .u8 1, .int .u8 97, .int .u8 255] 5 (0, 0))) (h1 : W.heap[g1]? = some (.cells #[.int .u8 7, .int .u8 1, .int .u8 98] 5 (0, 0)))
    (h2 : W.heap[g2]? = some (.cells #[.slice (some ⟨g0, 0, none⟩) 7 7, .slice (some ⟨g1, 0, none⟩) 3 3] 41 (0, 0))) :
    Calls Try.prog 9 #[.slice (some ⟨g2, 0, none⟩) 2 2] W fun e w' => ∃ a c, e = .returned (.tuple #[.slice a 2 c, .int .i64 0]) ∧ Hid (ParseI W w' (.ok awM) (.slice a 2 c)) := by
  have hv : PV W (some ⟨g2, 0, none⟩) [⟨some ⟨g0, 0, none⟩, 7, [53, 1, 1, 7, 1, 97, 255]⟩, ⟨some ⟨g1, 0, none⟩, 3, [7, 1, 98]⟩] := by
    refine ⟨fun i o ho => ⟨g2, 0, rfl, ?_⟩, fun o ho => ?_⟩
    · match i with
      | 0 => simp at ho; subst ho; rw [cell_of_heap h2]; rfl
      | 1 => simp at ho; subst ho; rw [cell_of_heap h2]; rfl
      | i + 2 => simp at ho
    · simp only [List.mem_cons, List.not_mem_nil, or_false] at ho
      rcases ho with rfl | rfl
      · exact Part.of_row (zs := [53, 1, 1, 7, 1, 97, 255]) h0 (by simp) (by simp)
      · exact Part.of_row (zs := [7, 1, 98]) h1 (by simp) (by simp)
  have := parse_any (some ⟨g2, 0, none⟩) 2 _ W hv (by simp) (by simp [partsZ, sumB])
  simp only [partsZ, List.map_cons, List.map_nil, aw_parse, exR] at this
  refine this.mono ?_
  rintro e w' ⟨ax, n, cx, rfl, H⟩
  obtain ⟨E, ho, hc, hb⟩ := H.out
  obtain ⟨a', c', e, _⟩ := ho.form
  simp only [Value.slice.injEq] at e
  have hl : n = 2 := by
    rw [e.2.1]
    have := congrArg List.length hc
    simpa [codes, okL, awM] using this
  subst hl
  exact ⟨ax, cx, rfl, E, ho, hc, hb⟩
theorem aw_find (W : World) (a : Option Addr) (c : Nat) (w0 : World) (h : ∃ E, OwnO w0.heap.size W (.slice a 2 c) E ∧ codes E = awM) : Calls Try.prog 16 #[.slice a 2 c, .int .i64 7] W fun e w' => ∃ ax cx, e = .returned (.tuple #[.slice ax 2 cx, .bool true]) ∧ Hid (Ans W w' [97, 98] ax 2 cx) := by
  obtain ⟨E, ho, hc⟩ := h
  have hm : ∀ p ∈ E, p.1 ∈ awM := fun p hp => by rw [← hc]; exact List.mem_map.2 ⟨p, hp, rfl⟩
  have hv := ho.view (fun p hp => by have := hm p hp; simp [awM] at this; rcases this with h | h <;> rw [h] <;> simp) (by have := congrArg List.length hc; simp [codes, awM] at this; omega) (fun p hp => by have := hm p hp; simp [awM] at this; rcases this with h | h <;> rw [h] <;> simp)
  have := ofind_any a c (E.map ptOf) 7 W hv.1
  rw [List.length_map, ← hv.2] at this
  have hz : findO awM 7 = some [97, 98] := rfl
  rw [← hc, show codes E = absO (E.map ptOf) from (ptOf_abs E).symm, find_abs] at hz
  cases hf : fst? (E.map ptOf) 7 with
  | none => rw [hf] at hz; simp at hz
  | some o =>
    rw [hf] at hz
    simp only [Option.map_some, Option.some.injEq] at hz
    unfold fstP fstB at this
    rw [hf] at this
    simp only [hz, List.length_cons, List.length_nil, Nat.zero_add, Nat.reduceAdd, Option.isSome_some] at this
    exact this
theorem aw_number (W : World) (g0 g1 g2 : Nat) (h : AwI W g0 g1 g2) : Calls Try.prog 17 #[.slice (some ⟨g2, 0, none⟩) 2 2, .int .i64 50] W fun e w' => e = .returned (.tuple #[.int .u32 167772165, .bool true]) ∧ Hid (Below W.heap.size W w') :=
  number_any (some ⟨g2, 0, none⟩) 2 (awO g0 g1) 50 W h.view
theorem aw_small (W : World) (g0 g1 g2 : Nat) (h : AwI W g0 g1 g2) : Calls Try.prog 18 #[.slice (some ⟨g2, 0, none⟩) 2 2, .int .i64 53] W fun e w' => e = .returned (.tuple #[.int .i64 1, .bool true]) ∧ Hid (Below W.heap.size W w') :=
  small_any (some ⟨g2, 0, none⟩) 2 (awO g0 g1) 53 W h.view
theorem aw_numbered (W : World) : Calls Try.prog 19 #[.int .i64 51, .int .u32 3600] W fun e w' => ∃ g, e = .returned (.agg #[.int .i64 51, .slice (some ⟨g, 0, none⟩) 4 4]) ∧ Hid (MadeO W w' g [0, 0, 14, 16]) :=
  numbered_any 51 3600 W (by omega) (by omega)
theorem aw_byte (W : World) : Calls Try.prog 20 #[.int .i64 53, .int .i64 261] W fun e w' => ∃ g, e = .returned (.agg #[.int .i64 53, .slice (some ⟨g, 0, none⟩) 1 1]) ∧ Hid (MadeO W w' g [5]) :=
  byte_any 53 261 W (by omega) (by omega)
end Go.Proofs.Ytmdkanbfpmdimaa
