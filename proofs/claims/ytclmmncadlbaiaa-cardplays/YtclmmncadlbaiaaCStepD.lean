/-
  A step of a pair: Depart.
-/
import Derived.Test.YtclmmncadlbaiaaCStepA
namespace Go.Proofs.Ytclmmncadlbaiaa
open Go.RowKit
set_option linter.all false

set_option maxRecDepth 20000 in
set_option maxHeartbeats 4000000 in
theorem step_depart (B : Nat) (P : Pn) (gk : Nat) (D : Nat → Prop) (S : CS) (L V : Value) (ls : List (Value × List Int)) (n : Nat) (i : Int) (a : Option Addr) (l c : Nat) (zs : List Int) (w : World) (h0 : PBI w B P D gk S S L V ls) (hs : S.small n) (hn : n < 4611686018427387904) (hf : ls.length < 4398046511104) (hz : Low B w a c zs) (hl : l = zs.length) (hm : l ≤ 140737488351232) :
    Calls Try.prog 12 #[.pointer (some ⟨P.gp, 0, none⟩), opV 2 i a l c] w (StepE B P gk w D L V ls n) := by
  obtain ⟨z, ys, S', hs', hC, hR⟩ := depart_two S n hs hn h0.pair.card.t1
  have H0 := hid h0
  have HC := hid hC
  have HRF := hid hR
  have HS := hid hs'
  have hgl : P.gp < w.heap.size := heap_lt h0.pair.box
  have hp0 : w.cell? ⟨P.gp, 0, none⟩ = some (.pointer (some ⟨P.c, 0, none⟩)) := cellHeap h0.pair.box 0 rfl
  clear h0 hz hC hR hs' hl hs hm
  unfold opV
  have HW : Hid (∀ ob : Obj, Run B P gk w D L V ls (w.alloc ob) D S S L V ls) := fun ob => (Run.start H0.out).below (balloc w ob)
  go_enter Try.func12, Try.ntmps12
  go_wp2_with (first
    | (go_at_call 19; refine (HC.out P.c P.g P.h _ (HW.out _).now.pair.card).mono ?_; rintro e w3 ⟨a1, l1, c1, rfl, hc3, hl1, hrow, hown, h15, hzz, ho3⟩; have R3 := hid ((HW.out _).card hc3 ho3); have hq1 : w3.cell? ⟨P.gp, 1, none⟩ = some (.pointer (some ⟨P.x, 0, none⟩)) := cellHeap R3.out.now.pair.box 1 rfl; have HROW := hid hrow; have HOWN : Hid (∀ b, (Value.slice a1 l1 c1).ownBlock = some b → w.heap.size + 1 ≤ b) := (fun b hb => by have := hown b hb; simpa using this); have HL1 := hid hl1; have H15 := hid h15; have HZZ := hid hzz; clear hc3 ho3 hrow hown h15 hzz hl1)
    | (go_at_call 26; refine (HRF.out D P.x P.rg P.cr P.rh P.ct _ R3.out.now.pair.ref).mono ?_; rintro e w4 ⟨a2, l2, c2, rfl, hl2, hok2, hr4⟩; obtain ⟨D4, r4, g4⟩ := R3.out.ref hr4; have R4 := hid r4; have hk4 : w4.cell? ⟨P.gp, 2, none⟩ = some (.pointer (some ⟨gk, 0, none⟩)) := cellHeap r4.now.pair.box 2 rfl; have HNK : Hid (∀ b, (Value.slice a1 l1 c1).ownBlock = some b → ¬ PairK P D4 b ∧ b < w3.heap.size) := (fun b hb => ⟨fun hk => by rcases g4 b hk with h | h; exact absurd (H0.out.pair.lt b h) (by have := HOWN.out b hb; omega); exact absurd (HROW.out.lt hb) (by omega), HROW.out.lt hb⟩); have HROW4 : Hid (Row w4 5 (.slice a1 l1 c1) (u8s ys)) := (by obtain ⟨_, _, _, ho⟩ := hr4; exact HROW.out.keep fun b hb => ho.block b (fun e => absurd (H0.out.pair.ref.lt b e) (by have := HOWN.out b hb; omega)) (HROW.out.lt hb)); have k1 : (convert 43 9 (.slice a1 l1 c1)).run Try.prog w4 = .ok (.string (strOfNums ys)) w4 := conv_sl (part_row HROW4.out HZZ.out) HL1.out; have k2 : (convert 43 9 (.slice a2 l2 c2)).run Try.prog w4 = .ok (.string (strOfNums ys)) w4 := conv_sl hok2 hl2; generalize strOfNums ys = SX at k1 k2; clear hr4 r4 g4 hok2 hl2 hq1)
    | (go_at_call 27; refine (take_any gk L V (.slice a1 l1 c1) ls ys B w4 R4.out.now.book R4.out.now.top HROW4.out HZZ.out (by have := H15.out; omega) hf (by intro b hb; exact ⟨by have := HOWN.out b hb; have := H0.out.top; omega, fun hi => absurd (H0.out.book.lt b hi) (by have := HOWN.out b hb; omega), fun p hp e => absurd (H0.out.book.ltl p hp b e) (by have := HOWN.out b hb; omega)⟩)).mono ?_; rintro e w5 ⟨rfl, L', V', hb, hk, hf', hB⟩; have R5 := hid (R4.out.take hb hk hf' hB (fun b hb => ⟨by have := HOWN.out b hb; omega, (HNK.out b hb).1⟩)); clear hb hk hf' hB))
  go_ret
  exact ⟨rfl, D4, S', L', V', _, R5.out, HS.out, by simp⟩
end Go.Proofs.Ytclmmncadlbaiaa
