/-
  Next and Left, of the program and of the document; New and Add.
-/
import Derived.Test.YtgcpoanjjgbfjaaPDMem
namespace Go.Proofs.Ytgcpoanjjgbfjaa
open Go.RowKit
set_option linter.all false

/-- the first of some draws; 0 of none. -/
def hd0 (zs : List Int) : Int := zs.headD 0
theorem hd0_words {a : List Int} (h : Words a) : 0 ≤ hd0 a ∧ hd0 a ≤ 4294967295 := h.head
theorem mf (fn : Fn) (first cap : Array Value) (w : World) : (Instr.makeFunc fn first cap).run Try.prog w = .ok (.func fn first cap) w := rfl
/-- what Next leaves. -/
structure NextI (t : TypeId) (w : World) (p : Nat) (a : Option Addr) (zs : List Int) (w' : World) (a' : Option Addr) (c' : Nat) : Prop where
  dice : DiceW t w' p a' c' zs.tail
  blk : blk a' = blk a
  only : But p w w'
theorem NextI.empty {t : TypeId} {w : World} {p : Nat} {a : Option Addr} {c : Nat} (x : DiceW t w p a c []) : NextI t w p a [] w a c := ⟨x, rfl, But.refl _ _⟩
theorem NextI.some {t : TypeId} (ht : t ≠ 30) {w : World} {p : Nat} {a : Option Addr} {c : Nat} {zs : List Int} (x : DiceW t w p a c zs) {a' : Option Addr} {c' : Nat} (hb : Go.Proofs.Ytgcpoanjjgbfjaa.blk a' = Go.Proofs.Ytgcpoanjjgbfjaa.blk a) (hr : RowU w a' c' zs.tail) :
    NextI t w p a zs (w.setCell ⟨p, 0, none⟩ (.slice a' (zs.length - 1) c')) a' c' := by
  refine ⟨⟨?_, hr.keep fun b hb' => ?_, x.words.tail⟩, hb, But.setCell _ _ _ _⟩
  · have := heap_setCell (j := 0) (v := .slice a' (zs.length - 1) c') x.box
    simpa using this
  · refine Below.heap_setCell _ _ _ _ ?_
    rintro rfl
    exact x.apart ht (by rw [← hb]; exact hb')

set_option maxHeartbeats 1000000 in
theorem next_any (p : Nat) (a : Option Addr) (c : Nat) (zs : List Int) (w : World) (x : DiceW 56 w p a c zs) (hl : zs.length ≤ maxLen) :
    Calls Try.prog 40 #[.pointer (some ⟨p, 0, none⟩)] w fun e w' => e = .returned (.int .u32 (hd0 zs)) ∧ ∃ a' c', NextI 56 w p a zs w' a' c' := by
  have hb := cellHeap x.box 0 rfl
  have hf := frozen_of_heap x.box 0
  have HX := hid x
  have hl2 : (zs.length : Int) ≤ 9223372036854775807 := by unfold maxLen at hl; omega
  clear hl
  by_cases h0 : zs.length = 0
  · have hz : zs = [] := List.eq_nil_of_length_eq_zero h0
    subst hz
    clear x h0
    simp only [List.length_nil] at hb
    go_enter Try.func40, Try.ntmps40
    go_wp2
    go_ret
    exact ⟨rfl, a, c, NextI.empty HX.out⟩
  · have h1 : 0 < zs.length := by omega
    obtain ⟨g, off, cur, rfl, hg, hlc, hs, hc⟩ : ∃ (g off : Nat) (cur : Array Value), a = some ⟨g, off, none⟩ ∧ w.heap[g]? = some (.cells cur 30 (0, 0)) ∧ zs.length ≤ c ∧ off + c ≤ cur.size ∧ ∀ j, j < zs.length → cur[off + j]? = some (.int .u32 (zs.getD j 0)) := by
      rcases x.row with ⟨_, _, h⟩ | h
      · rw [h] at h1; simp at h1
      · exact h
    have hv : w.cell? ⟨g, off, none⟩ = some (.int .u32 (hd0 zs)) := by
      rw [cell_of_heap hg]
      have := hc 0 h1
      rw [Nat.add_zero] at this
      rw [this]
      cases zs with
      | nil => simp at h1
      | cons y r => simp [hd0]
    have HT := hid (x.row.tail h1)
    have HO := hid x.row.over
    have HL : Hid (zs.length ≤ c) := hlc
    have h2 : (0 : Int) < zs.length := by omega
    have h3 : ¬ (zs.length : Int) = 0 := by omega
    have h4 : (1 : Int) ≤ zs.length := by omega
    have h5 : (zs.length : Int) ≤ c := by omega
    have h6 : 1 ≤ zs.length := by omega
    have h7 : 1 ≤ c := by omega
    have h9 : (1 : Int) ≤ c := by omega
    have H8 : Hid (zs.tail.length = zs.length - 1) := List.length_tail
    clear x hg hs hc
    by_cases h10 : c = 1
    · have H11 : Hid (zs.length = 1) := by unfold Hid; omega
      subst h10
      clear h0
      go_enter Try.func40, Try.ntmps40
      go_wp2
      go_ret
      refine ⟨rfl, some ⟨g, off, none⟩, 0, ?_⟩
      have ht0 : zs.tail = [] := List.eq_nil_of_length_eq_zero (by rw [H8.out, H11.out])
      have := NextI.some (by decide) HX.out (a' := some ⟨g, off, none⟩) (c' := 0) rfl (by rw [ht0]; exact HO.out)
      simpa [H11.out] using this
    · have h12 : ¬ (c : Int) = 1 := by omega
      clear h0
      go_enter Try.func40, Try.ntmps40
      go_wp2
      go_ret
      refine ⟨rfl, some ⟨g, off + 1, none⟩, c - 1, ?_⟩
      have := NextI.some (by decide) HX.out (a' := some ⟨g, off + 1, none⟩) (c' := c - 1) rfl HT.out
      simpa using this

end Go.Proofs.Ytgcpoanjjgbfjaa
