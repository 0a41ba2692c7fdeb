/-
  Any step of a pair; the last look at both cards.
-/
import Derived.Test.YtclmmncadlbaiaaCStepT
import Derived.Test.YtclmmncadlbaiaaCStepL
import Derived.Test.YtclmmncadlbaiaaCStepG
import Derived.Test.YtclmmncadlbaiaaCStepD
import Derived.Test.YtclmmncadlbaiaaCStepC
namespace Go.Proofs.Ytclmmncadlbaiaa
open Go.RowKit
set_option linter.all false

theorem step_any (B : Nat) (P : Pn) (gk : Nat) (D : Nat → Prop) (S : CS) (L V : Value) (ls : List (Value × List Int)) (n : Nat) (k i : Int) (a : Option Addr) (l c : Nat) (zs : List Int) (w : World) (h0 : PBI w B P D gk S S L V ls) (hs : S.small n) (hn : n < 4611686018427387904) (hf : ls.length < 4398046511104) (hz : Low B w a c zs) (hl : l = zs.length) (hm : l ≤ 140737488351232) :
    Calls Try.prog 12 #[.pointer (some ⟨P.gp, 0, none⟩), .agg #[.int .i64 k, .int .i64 i, .slice a l c]] w (StepE B P gk w D L V ls n) := by
  by_cases k1 : k = 1
  · subst k1; exact step_arrive B P gk D S L V ls n i a l c zs w h0 hs hn hz hl hm
  by_cases k2 : k = 2
  · subst k2; exact step_depart B P gk D S L V ls n i a l c zs w h0 hs hn hf hz hl hm
  by_cases k3 : k = 3
  · subst k3; exact step_rx B P gk D S L V ls n i a l c zs w h0 hs hn hf hz hl hm
  by_cases k4 : k = 4
  · subst k4; exact step_tx B P gk D S L V ls n i a l c zs w h0 hs hn hf hz hl hm
  by_cases k5 : k = 5
  · subst k5; exact step_give B P gk D S L V ls n i a l c zs w h0 hs hn hf hz hl hm
  by_cases k6 : k = 6
  · subst k6; exact step_lay B P gk D S L V ls n i a l c zs w h0 hs hn hf hz hl hm
  by_cases k7 : k = 7
  · subst k7; exact step_counts B P gk D S L V ls n i a l c zs w h0 hs hn hf hz hl hm
  exact step_other B P gk D S L V ls n k i a l c w h0 hs k1 k2 k3 k4 k5 k6 k7
theorem step_nil (B : Nat) (P : Pn) (gk : Nat) (D : Nat → Prop) (S : CS) (L V : Value) (ls : List (Value × List Int)) (n : Nat) (k i : Int) (w : World) (h0 : PBI w B P D gk S S L V ls) (hs : S.small n) (hn : n < 4611686018427387904) (hf : ls.length < 4398046511104) :
    Calls Try.prog 12 #[.pointer (some ⟨P.gp, 0, none⟩), .agg #[.int .i64 k, .int .i64 i, .slice none 0 0]] w (StepE B P gk w D L V ls n) :=
  step_any B P gk D S L V ls n k i none 0 0 [] w h0 hs hn hf (fun _ _ => Part.nil_ok _) rfl (by omega)
section
variable {B : Nat} {P : Pn} {gk : Nat} {w0 w1 w2 : World} {D0 D1 D2 : Nat → Prop} {L0 V0 L1 V1 L2 V2 : Value} {ls0 ls1 ls2 : List (Value × List Int)} {SC SR SC' SR' : CS}
theorem Run.trans (r : Run B P gk w0 D0 L0 V0 ls0 w1 D1 SC SR L1 V1 ls1) (s : Run B P gk w1 D1 L1 V1 ls1 w2 D2 SC' SR' L2 V2 ls2) : Run B P gk w0 D0 L0 V0 ls0 w2 D2 SC' SR' L2 V2 ls2 := by
  have hs := r.fr.size
  refine ⟨s.now, ⟨s.fr.os.trans r.fr.os, s.fr.tape.trans r.fr.tape, s.fr.output.trans r.fr.output, Nat.le_trans r.fr.size s.fr.size, fun k hn hl => (s.fr.block k (fun hk => ?_) (by omega)).trans (r.fr.block k hn hl)⟩, fun k hk => ?_, fun k hk => ?_, fun p hp => ?_⟩
  · rcases hk with hk | hk
    · rcases r.grow k hk with h | h
      · exact hn (Or.inl h)
      · omega
    · rcases r.gb k hk with h | h
      · exact hn (Or.inr h)
      · omega
  · rcases s.grow k hk with h | h
    · exact r.grow k h
    · exact Or.inr (by omega)
  · rcases s.gb k hk with h | h
    · exact r.gb k h
    · exact Or.inr (by omega)
  · rcases s.gl p hp with h | h
    · exact r.gl p h
    · exact Or.inr fun b hb => by have := h b hb; omega
end
/-- a pair under way: after m steps. -/
def Went (B : Nat) (P : Pn) (gk : Nat) (w : World) (D : Nat → Prop) (L V : Value) (ls : List (Value × List Int)) (n m : Nat) (w' : World) : Prop :=
  ∃ (D' : Nat → Prop) (S' : CS) (L' V' : Value) (ls' : List (Value × List Int)), Run B P gk w D L V ls w' D' S' S' L' V' ls' ∧ S'.small (n + m) ∧ ls'.length ≤ ls.length + m
theorem Went.mono {B : Nat} {P : Pn} {gk : Nat} {w : World} {D : Nat → Prop} {L V : Value} {ls : List (Value × List Int)} {n m m' : Nat} {w' : World} (h : Went B P gk w D L V ls n m w') (hm : m ≤ m') : Went B P gk w D L V ls n m' w' := by
  obtain ⟨D', S', L', V', ls', h1, h2, h3⟩ := h
  exact ⟨D', S', L', V', ls', h1, h2.mono (by omega), by omega⟩
/-- one step more. -/
theorem Went.step {B : Nat} {P : Pn} {gk : Nat} {w : World} {D : Nat → Prop} {L V : Value} {ls : List (Value × List Int)} {n m : Nat} {w1 : World} (h : Went B P gk w D L V ls n m w1) (k i : Int) (hn : n + m < 4398046511104) (hf : ls.length + m < 4398046511104) :
    Calls Try.prog 12 #[.pointer (some ⟨P.gp, 0, none⟩), .agg #[.int .i64 k, .int .i64 i, .slice none 0 0]] w1 fun e w' => e = .returned (.bool true) ∧ Went B P gk w D L V ls n (m + 1) w' := by
  obtain ⟨D', S', L', V', ls', h1, h2, h3⟩ := h
  refine (step_nil B P gk D' S' L' V' ls' (n + m) k i w1 h1.now h2 (by omega) (by omega)).mono ?_
  rintro e w' ⟨rfl, D2, S2, L2, V2, ls2, r, hs, hl⟩
  exact ⟨rfl, D2, S2, L2, V2, ls2, h1.trans r, hs, by omega⟩
theorem Went.box {B : Nat} {P : Pn} {gk : Nat} {w : World} {D : Nat → Prop} {L V : Value} {ls : List (Value × List Int)} {n m : Nat} {w1 : World} (h : Went B P gk w D L V ls n m w1) : P.gp < w1.heap.size := by
  obtain ⟨D', S', L', V', ls', h1, _⟩ := h
  exact heap_lt h1.now.pair.box
set_option maxRecDepth 20000 in
set_option maxHeartbeats 2000000 in
theorem last_any (B : Nat) (P : Pn) (gk : Nat) (D : Nat → Prop) (S : CS) (L V : Value) (ls : List (Value × List Int)) (n : Nat) (w : World) (h0 : PBI w B P D gk S S L V ls) (hs : S.small n) (hn : n + 200 < 4398046511104) (hf : ls.length + 200 < 4398046511104) :
    Calls Try.prog 13 #[.pointer (some ⟨P.gp, 0, none⟩)] w fun e w' => e = .returned (.bool true) ∧ Went B P gk w D L V ls n 129 w' := by
  have hp1 : w.cell? ⟨P.gp, 1, none⟩ = some (.pointer (some ⟨P.x, 0, none⟩)) := cellHeap h0.pair.box 1 rfl
  have HR := hid h0.pair.ref
  have hr2 := h0.pair.ref.r2
  have ht2 := h0.pair.ref.t2
  have HW0 : Hid (∀ w', Below w.heap.size w w' → Went B P gk w D L V ls n 0 w') := fun w' hb => ⟨D, S, L, V, ls, (Run.start h0).below hb, hs, by omega⟩
  obtain ⟨rn, hrn⟩ : ∃ rn, rn = S.R.length := ⟨_, rfl⟩
  obtain ⟨tn, htn⟩ : ∃ tn, tn = S.T.length := ⟨_, rfl⟩
  have HRN := hid hrn
  have HTN := hid htn
  rw [← hrn] at hr2
  rw [← htn] at ht2
  clear h0 hs hrn htn
  have HRI : Hid (Calls Try.prog 35 #[.pointer (some ⟨P.x, 0, none⟩)] w fun e w' => e = .returned (.tuple #[.int .i64 rn, .int .i64 tn]) ∧ Below w.heap.size w w') := by
    unfold Hid
    have := refRings_any D P.x P.rg P.cr P.rh P.ct S w HR.out
    rw [← HRN.out, ← HTN.out] at this
    exact this
  go_enter Try.func13, Try.ntmps13
  go_wp2_with (first | (go_at_call 35; refine HRI.out.mono ?_; rintro e w1 ⟨rfl, hb1⟩; have HW1 := hid (HW0.out _ hb1); clear hb1))
  go_loopw [5] (fun i wr => ∃ k : Nat, k ≤ rn ∧ i = .int .i64 k ∧ Hid (Went B P gk w D L V ls n k wr)) (fun i _ => rn - (intOf i).toNat)
  case atStart => exact ⟨0, by omega, rfl, HW1⟩
  case round =>
    obtain ⟨k, hk, rfl, HI⟩ := hrel
    by_cases hlt : k < rn
    · have hlt2 : (k : Int) < rn := by omega
      go_wp2_with (first | (go_at_call 12; refine (HI.out.step 3 k (by omega) (by omega)).mono ?_; rintro e w2 ⟨rfl, h2⟩; have H2 := hid h2; clear h2))
      go_roundw
      case rel => exact ⟨k + 1, by omega, by go_num, H2⟩
      case measure => simp [intOf]; omega
    · have hge : ¬ (k : Int) < rn := by omega
      have HI2 : Hid (Went B P gk w D L V ls n 64 wr) := HI.out.mono (by omega)
      clear HI
      go_wp2
      go_loopw [7] (fun i wx => ∃ j : Nat, j ≤ tn ∧ i = .int .i64 j ∧ Hid (Went B P gk w D L V ls n (64 + j) wx)) (fun i _ => tn - (intOf i).toNat)
      case atStart => exact ⟨0, by omega, rfl, HI2⟩
      case round =>
        obtain ⟨j, hj, rfl, HJ⟩ := hrel
        by_cases hlt : j < tn
        · have hlt2 : (j : Int) < tn := by omega
          go_wp2_with (first | (go_at_call 12; refine (HJ.out.step 4 j (by omega) (by omega)).mono ?_; rintro e w2 ⟨rfl, h2⟩; have H2 := hid h2; clear h2))
          go_roundw
          case rel => exact ⟨j + 1, by omega, by go_num, H2⟩
          case measure => simp [intOf]; omega
        · have hge : ¬ (j : Int) < tn := by omega
          have HJ2 : Hid (Went B P gk w D L V ls n 128 wr) := HJ.out.mono (by omega)
          clear HJ
          go_wp2_with (first | (go_at_call 12; refine (HJ2.out.step 7 0 (by omega) (by omega)).mono ?_; rintro e w2 ⟨rfl, h2⟩; have H2 := hid h2; clear h2))
          go_ret
          exact ⟨rfl, H2.out⟩
end Go.Proofs.Ytclmmncadlbaiaa
