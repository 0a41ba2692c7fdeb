/-
  Tftp: the program's reader: number, file, mode, words, data.
-/
import Derived.Test.YtdcppiknomoigaaDoorTgR
namespace Go.Proofs.YtdcppiknomoigaaDoor
open Go.RowKit
set_option linter.all false

def numV (zs : List Int) : Int := if zs.length < 2 then 0 else be2 zs
def numR (zs : List Int) : List Int := if zs.length < 2 then zs else zs.drop 2
def numF (zs : List Int) (er : Int) : Int := if zs.length < 2 then fstE er 5 else er
theorem numR_le (zs : List Int) : (numR zs).length ≤ zs.length := by
  unfold numR; split
  · exact Nat.le_refl _
  · simp
theorem number_any (w : World) (g : Nat) (W : World) (zs : List Int) (er : Int) (h : Rd w g W zs er) (hbig : zs.length ≤ 140737488353280) :
    Calls Tryd.prog 39 #[.pointer (some ⟨g, 0, none⟩)] W fun e w' => e = .returned (.int .i64 (numV zs)) ∧ Hid (Rd w g w' (numR zs) (numF zs er) ∧ But g W w') := by
  obtain ⟨b, o, c, hA⟩ := h
  unfold numV numR numF
  by_cases hs : zs.length < 2
  · simp only [if_pos hs]
    refine (number_short w g W _ c zs er hA hs).mono ?_
    rintro e w' ⟨rfl, h1, h2⟩
    exact ⟨rfl, ⟨b, o, c, h1⟩, h2⟩
  · simp only [if_neg hs]
    refine (number_ok w g W _ c zs er hA hs hbig).mono ?_
    rintro e w' ⟨rfl, h1⟩
    exact ⟨rfl, h1⟩
def fileF (zs : List Int) (er : Int) : Int := if fileB (txtS zs) = true then txtF zs er else fstE (txtF zs er) 171
set_option maxHeartbeats 2000000 in
theorem file_any (w : World) (g : Nat) (W : World) (zs : List Int) (er : Int) (h : Rd w g W zs er) (hl : zs.length ≤ 140737488353280) :
    Calls Tryd.prog 40 #[.pointer (some ⟨g, 0, none⟩)] W fun e w' => e = .returned (.string (txtS zs)) ∧ Hid (Rd w g w' (txtR zs) (fileF zs er) ∧ But g W w') := by
  have C := hid (text_any w g W zs er h hl)
  have CI := hid (fun W' => isFile_any (txtS zs) W')
  have CF := hid (fun W' (h' : Rd w g W' (txtR zs) (txtF zs er)) => fail_any w g W' (txtR zs) (txtF zs er) 171 h')
  clear h
  unfold fileF
  generalize txtS zs = S at *
  generalize txtR zs = R at *
  generalize txtF zs er = F at *
  generalize fileB S = b at *
  cases b
  · simp only [Bool.false_eq_true, if_false]
    go_enter Tryd.func40, Tryd.ntmps40
    go_wp2_with (first
      | (go_at_call 67; refine C.out.mono ?_; rintro e w1 ⟨rfl, H1⟩; have CF1 := hid (CF.out _ H1.out.1))
      | (go_at_call 56; refine (CI.out _).mono ?_; rintro e w2 ⟨rfl, hw⟩; subst w2)
      | (go_at_call 45; refine CF1.out.mono ?_; rintro e w3 ⟨rfl, H3⟩)
      | fail)
    go_ret
    exact ⟨rfl, H3.out.1, H1.out.2.trans H3.out.2⟩
  · simp only [if_true]
    go_enter Tryd.func40, Tryd.ntmps40
    go_wp2_with (first
      | (go_at_call 67; refine C.out.mono ?_; rintro e w1 ⟨rfl, H1⟩)
      | (go_at_call 56; refine (CI.out _).mono ?_; rintro e w2 ⟨rfl, hw⟩; subst w2)
      | fail)
    go_ret
    exact ⟨rfl, H1⟩
def modeF (zs : List Int) (er : Int) : Int := if smallS (nums (txtS zs)) = nOct then txtF zs er else fstE (txtF zs er) 171
theorem txtS_nums {w : World} {g : Nat} {W : World} {zs : List Int} {er : Int} (h : Rd w g W zs er) : ∀ t r, cutG zs = some (t, r) → nums (txtS zs) = t := fun t r e => by
  have h1 := (cutG_bd h.bd e).1
  unfold txtS
  rw [e]
  exact nums_str h1
set_option maxHeartbeats 2000000 in
theorem mode_any (w : World) (g : Nat) (W : World) (zs : List Int) (er : Int) (h : Rd w g W zs er) (hl : zs.length ≤ 140737488353280) :
    Calls Tryd.prog 41 #[.pointer (some ⟨g, 0, none⟩)] W fun e w' => e = .returned (.string nOct) ∧ Hid (Rd w g w' (txtR zs) (modeF zs er) ∧ But g W w') := by
  have C := hid (text_any w g W zs er h hl)
  have hsz := txtS_sz zs
  have CS := hid (fun W' => small_any (txtS zs) W' (by omega))
  have CF := hid (fun W' (h' : Rd w g W' (txtR zs) (txtF zs er)) => fail_any w g W' (txtR zs) (txtF zs er) 171 h')
  have hlt := hid h.lt
  clear h hsz
  unfold modeF
  generalize smallS (nums (txtS zs)) = M at *
  generalize txtS zs = S at *
  generalize txtR zs = R at *
  generalize txtF zs er = F at *
  have e1 := sOct M
  by_cases hm : M = nOct
  · rw [if_pos hm]
    rw [decide_eq_true hm] at e1
    clear hm
    go_enter Tryd.func41, Tryd.ntmps41
    go_wp2_with (first
      | (go_at_call 67; refine C.out.mono ?_; rintro e w1 ⟨rfl, H1⟩)
      | (go_at_call 68; refine (CS.out _).mono ?_; rintro e w2 ⟨rfl, HB⟩)
      | fail)
    go_ret
    exact ⟨rfl, H1.out.1.below HB.out, H1.out.2.trans (But.of_below HB.out)⟩
  · rw [if_neg hm]
    rw [decide_eq_false hm] at e1
    clear hm
    go_enter Tryd.func41, Tryd.ntmps41
    go_wp2_with (first
      | (go_at_call 67; refine C.out.mono ?_; rintro e w1 ⟨rfl, H1⟩)
      | (go_at_call 68; refine (CS.out _).mono ?_; rintro e w2 ⟨rfl, HB⟩; have CF1 := hid (CF.out _ (H1.out.1.below HB.out)))
      | (go_at_call 45; refine CF1.out.mono ?_; rintro e w3 ⟨rfl, H3⟩)
      | fail)
    go_ret
    exact ⟨rfl, H3.out.1, (H1.out.2.trans (But.of_below HB.out)).trans H3.out.2⟩
def wordF (zs : List Int) (er : Int) : Int := if 255 < (txtS zs).size then fstE (txtF zs er) 2 else txtF zs er
set_option maxHeartbeats 2000000 in
theorem words_any (w : World) (g : Nat) (W : World) (zs : List Int) (er : Int) (h : Rd w g W zs er) (hl : zs.length ≤ 140737488353280) :
    Calls Tryd.prog 44 #[.pointer (some ⟨g, 0, none⟩)] W fun e w' => e = .returned (.string (txtS zs)) ∧ Hid (Rd w g w' (txtR zs) (wordF zs er) ∧ But g W w') := by
  have C := hid (text_any w g W zs er h hl)
  have CF := hid (fun W' (h' : Rd w g W' (txtR zs) (txtF zs er)) => fail_any w g W' (txtR zs) (txtF zs er) 2 h')
  clear h
  unfold wordF
  generalize txtS zs = S at *
  generalize txtR zs = R at *
  generalize txtF zs er = F at *
  by_cases hs : 255 < S.size
  · rw [if_pos hs]
    have hs' : (255 : Int) < (S.size : Int) := by omega
    go_enter Tryd.func44, Tryd.ntmps44
    go_wp2_with (first
      | (go_at_call 67; refine C.out.mono ?_; rintro e w1 ⟨rfl, H1⟩; have CF1 := hid (CF.out _ H1.out.1))
      | (go_at_call 45; refine CF1.out.mono ?_; rintro e w3 ⟨rfl, H3⟩)
      | fail)
    go_ret
    exact ⟨rfl, H3.out.1, H1.out.2.trans H3.out.2⟩
  · rw [if_neg hs]
    have hs' : ¬ (255 : Int) < (S.size : Int) := by omega
    go_enter Tryd.func44, Tryd.ntmps44
    go_wp2_with (first
      | (go_at_call 67; refine C.out.mono ?_; rintro e w1 ⟨rfl, H1⟩)
      | fail)
    go_ret
    exact ⟨rfl, H1⟩
def datF (zs : List Int) (er : Int) : Int := if 65464 < zs.length then fstE er 2 else er
def datL (zs : List Int) : List Int := if 65464 < zs.length then [] else zs
set_option maxHeartbeats 2000000 in
theorem data_any (w : World) (g : Nat) (W : World) (zs : List Int) (er : Int) (h : Rd w g W zs er) :
    Calls Tryd.prog 43 #[.pointer (some ⟨g, 0, none⟩)] W fun e w' => ∃ a n c, e = .returned (.slice a n c) ∧ Hid (Rd w g w' zs (datF zs er) ∧ But g W w' ∧ Row w' 5 (.slice a n c) (u8s (datL zs)) ∧ (∀ b, (Value.slice a n c).ownBlock = some b → W.heap.size ≤ b)) := by
  have CF := hid (fail_any w g W zs er 2 h)
  obtain ⟨b, o, c, hA⟩ := h
  have hc0 : W.cell? ⟨g, 0, none⟩ = some (.slice (some ⟨b, o, none⟩) zs.length c) := cell_of_heap hA.1 0
  unfold datF datL
  by_cases hs : 65464 < zs.length
  · rw [if_pos hs, if_pos hs]
    have hs' : (65464 : Int) < (zs.length : Int) := by omega
    clear hA
    generalize zs.length = n at *
    go_enter Tryd.func43, Tryd.ntmps43
    go_wp2_with (first
      | (go_at_call 45; refine CF.out.mono ?_; rintro e w3 ⟨rfl, H3⟩)
      | fail)
    go_ret
    exact ⟨none, 0, 0, rfl, H3.out.1, H3.out.2, Row.nil _ _, by simp [Value.ownBlock]⟩
  · rw [if_neg hs, if_neg hs]
    have hs' : ¬ (65464 : Int) < (zs.length : Int) := by omega
    have CC := hid (bclone_any ⟨some ⟨b, o, none⟩, c, zs⟩ W hA.now (by simp only; omega))
    simp only [Part.val] at CC
    have HF : Hid (∀ w' a c', Ans W w' zs a zs.length c' → Rd w g w' zs er ∧ But g W w' ∧ Row w' 5 (.slice a zs.length c') (u8s zs) ∧ (∀ b, (Value.slice a zs.length c').ownBlock = some b → W.heap.size ≤ b)) := fun w' a c' ha =>
      ⟨⟨b, o, c, hA.below ha.2.2⟩, But.of_below ha.2.2, ha.1, ha.2.1⟩
    clear hA CF
    generalize zs.length = n at *
    go_enter Tryd.func43, Tryd.ntmps43
    go_wp2_with (first
      | (go_at_call 71; refine CC.out.mono ?_; rintro e w3 ⟨a3, c3, rfl, H3⟩)
      | fail)
    go_ret
    exact ⟨a3, n, c3, rfl, HF.out _ _ _ H3.out⟩
end Go.Proofs.YtdcppiknomoigaaDoor
