/-
  The document's card: Rx, Tx, Give, Lay.
-/
import Derived.Test.YtnjhlndikbkeaaaCRefW
namespace Go.Proofs.Ytnjhlndikbkeaaa
open Go.RowKit
set_option linter.all false

theorem desc_b {w : World} {D : Nat → Prop} {g : Nat} {ps : List Pl} {j : Nat} {p : Pl} (h : DescAt w D g ps) (hp : ps[j]? = some p) : w.cell? ⟨g, j * 2, none⟩ = some (.bool p.b) := by
  obtain ⟨C, h1, h2, h3⟩ := h
  exact cellHeap h1 _ (h3 _ _ hp).b
theorem desc_d {w : World} {D : Nat → Prop} {g : Nat} {ps : List Pl} {j : Nat} {p : Pl} (h : DescAt w D g ps) (hp : ps[j]? = some p) : ∃ pt : Part, w.cell? ⟨g, j * 2 + 1, none⟩ = some (.slice pt.a p.zs.length pt.c) ∧ pt.zs = p.zs ∧ pt.ok w ∧ (pt.zs = [] ∨ ∃ q r, pt.a = some ⟨q, r, none⟩ ∧ D q) ∧ p.ok := by
  obtain ⟨C, h1, h2, h3⟩ := h
  obtain ⟨pt, e1, e2, e3, e4⟩ := (h3 _ _ hp).d
  refine ⟨pt, ?_, e2, e3, e4, (h3 _ _ hp).ok⟩
  have := cellHeap h1 _ e1
  rw [this, ← e2]; rfl
/-- what the document's Rx and Tx tell. -/
def RShow (ps : List Pl) (i : Int) (w w' : World) (b : Bool) (a : Option Addr) (l c : Nat) (n : Int) : Prop :=
  (∃ (j : Nat) (p : Pl), i = j ∧ ps[j]? = some p ∧ b = p.b ∧ n = 0 ∧ l = p.zs.length ∧ p.ok ∧ (∀ k, (Value.slice a l c).ownBlock = some k → w.heap.size ≤ k) ∧ Part.ok w' ⟨a, c, p.zs⟩ ∧ Below w.heap.size w w') ∨ (hasB ps.length i = false ∧ b = false ∧ a = none ∧ l = 0 ∧ c = 0 ∧ n = 40 ∧ Below w.heap.size w w')
theorem RShow.below {ps : List Pl} {i : Int} {w w' : World} {b : Bool} {a : Option Addr} {l c : Nat} {n : Int} (h : RShow ps i w w' b a l c n) : Below w.heap.size w w' := by
  rcases h with ⟨j, p, _, _, _, _, _, _, _, _, hb⟩ | ⟨_, _, _, _, _, _, hb⟩
  · exact hb
  · exact hb
def refShownE (ps : List Pl) (i : Int) (w : World) (e : Ending) (w' : World) : Prop := ∃ (b : Bool) (a : Option Addr) (l c : Nat) (n : Int), e = .returned (.tuple #[.agg #[.bool b, .slice a l c], .int .i64 n]) ∧ RShow ps i w w' b a l c n
theorem CopI.part {w w' : World} {a : Option Addr} {l c : Nat} {zs : List Int} (h : CopI w w' (.slice a l c) zs l) (hl : l = zs.length) (hz : ∀ z, z ∈ zs → 0 ≤ z ∧ z ≤ 255) : Part.ok w' ⟨a, c, zs⟩ := by
  have hr := h.row
  rw [hl, List.take_length] at hr
  obtain ⟨pt, e1, e2, e3⟩ := hr.part hz
  obtain ⟨pa, pc, pz⟩ := pt
  simp only [Part.val, Value.slice.injEq] at e1 e2
  subst e2
  obtain ⟨rfl, _, rfl⟩ := e1
  exact e3
set_option maxRecDepth 20000 in
set_option maxHeartbeats 1000000 in
theorem refRx_any (D : Nat → Prop) (x g cr h ct : Nat) (S : CS) (i : Int) (w : World) (y : RefB w D x g cr h ct S) :
    Calls Try.prog 34 #[.pointer (some ⟨x, 0, none⟩), .int .i64 i] w (refShownE S.R i w) := by
  have h0 := (rboxC y.box).c0
  have hxl := heap_lt y.box
  by_cases h1 : i < 0
  · have hh : hasB S.R.length i = false := by simp [hasB]; omega
    have HH := hid hh
    clear y hh
    go_enter Try.func34, Try.ntmps34
    go_wp2
    exact bodyPost_ret (v := .tuple #[.agg #[.bool false, .slice none 0 0], .int .i64 40]) (by simp [results, Try.results34, go_sem]) rfl ⟨_, _, _, _, _, rfl, Or.inr ⟨HH.out, rfl, rfl, rfl, rfl, rfl, balloc w _⟩⟩
  · by_cases h2 : (S.R.length : Int) ≤ i
    · have hh : hasB S.R.length i = false := by simp [hasB]; omega
      have HH := hid hh
      clear y hh
      go_enter Try.func34, Try.ntmps34
      go_wp2
      exact bodyPost_ret (v := .tuple #[.agg #[.bool false, .slice none 0 0], .int .i64 40]) (by simp [results, Try.results34, go_sem]) rfl ⟨_, _, _, _, _, rfl, Or.inr ⟨HH.out, rfl, rfl, rfl, rfl, rfl, balloc w _⟩⟩
    · obtain ⟨j, rfl⟩ : ∃ j : Nat, i = j := ⟨i.toNat, by omega⟩
      have hj : j < S.R.length := by omega
      obtain ⟨p, hp⟩ : ∃ p, S.R[j]? = some p := ⟨_, List.getElem?_eq_getElem hj⟩
      have hb := desc_b y.rx hp
      obtain ⟨pt, hd, hz, hok, hq, hpo⟩ := desc_d y.rx hp
      have HP := hid hp
      have HOK := hid hok
      have HPO := hid hpo
      have HZ := hid hz
      have HY := hid y
      have hgl := y.rx.lt
      have h3 : (j : Int) < S.R.length := by omega
      clear y hp hq hok hz hpo
      obtain ⟨l, hl⟩ : ∃ l, l = p.zs.length := ⟨_, rfl⟩
      have HL := hid hl
      rw [← hl] at hd
      clear hl
      obtain ⟨b, zs⟩ := p
      simp only at *
      have HCOP : Hid (Calls Try.prog 53 #[.slice pt.a l pt.c] (w.alloc (.cells #[.bool false, .slice none 0 0] 80)) fun e w' => ∃ a c, e = .returned (.slice a l c) ∧ Hid (CopI (w.alloc (.cells #[.bool false, .slice none 0 0] 80)) w' (.slice a l c) zs l)) := by
        unfold Hid
        have := copied_any pt (w.alloc (.cells #[.bool false, .slice none 0 0] 80)) (Part.ok_below HOK.out (balloc w _)) (by rw [HZ.out]; have := HPO.out.1; simp only at this; omega)
        simp only [Part.val, HZ.out, ← HL.out] at this
        exact this
      go_enter Try.func34, Try.ntmps34
      go_wp2_with (first | (go_at_call 53; refine HCOP.out.mono ?_; rintro e w' ⟨a, c, rfl, HI⟩; have hb2 : w'.cell? ⟨g, j * 2, none⟩ = some (.bool b) := cell_below HI.out.bel (cell_below (balloc w _) hb); have h02 : w'.cell? ⟨x, 0, none⟩ = some (.slice (some ⟨g, 0, none⟩) S.R.length cr) := cell_below HI.out.bel (cell_below (balloc w _) h0); have HR : Hid (w'.heap[w.heap.size]? = some (.cells #[.bool false, .slice none 0 0] 80 (0, 0))) := (HI.out.bel.block _ (by simp)).trans (heap_new w _); have h20 : w'.cell? ⟨w.heap.size, 0, none⟩ = some (.bool false) := cell_of_heap HR.out 0; have h21 : w'.cell? ⟨w.heap.size, 1, none⟩ = some (.slice none 0 0) := cell_of_heap HR.out 1; have h22 : ∀ q, w'.frozen? ⟨w.heap.size, q, none⟩ = false := (fun q => frozen_of_heap HR.out q); have hlt : w.heap.size < w'.heap.size := (by have := HI.out.bel.size; simp at this; omega)))
      have hpk : Part.ok ((w'.setCell ⟨w.heap.size, 0, none⟩ (.bool b)).setCell ⟨w.heap.size, 1, none⟩ (.slice a l c)) ⟨a, c, zs⟩ := by
        refine Part.ok_block (HI.out.part HL.out HPO.out.2) ?_
        by_cases hz0 : zs = []
        · exact Or.inl hz0
        · obtain ⟨a', c', e1, _⟩ := HI.out.row.form
          rcases (HI.out.part HL.out HPO.out.2).2.2 with hn | ⟨q, r, hq, _⟩
          · exact Or.inl hn
          · simp only at hq
            refine Or.inr ⟨q, r, hq, ?_⟩
            have : w.heap.size + 1 ≤ q := by have := HI.out.own q (by rw [hq]; rfl); simpa using this
            rw [Below.heap_setCell _ _ _ _ (by simp; omega), Below.heap_setCell _ _ _ _ (by simp; omega)]
      exact bodyPost_ret (results_row2 (P := Try.prog) rfl _ _ w.heap.size 80 #[.bool b, .slice a l c] (0, 0) _ (.int .i64 0) rfl rfl (heap_setCell (heap_setCell HR.out)) Try.underlying80 rfl (by kernel_rfl)) rfl ⟨_, _, _, _, _, rfl, Or.inl ⟨j, _, rfl, HP.out, rfl, rfl, HL.out, HPO.out, (fun k hk => by have := HI.out.own k hk; simp at this; omega), hpk, bset (bset (bstep (balloc w _) HI.out.bel) (Nat.le_refl _) _ _) (Nat.le_refl _) _ _⟩⟩
set_option maxRecDepth 20000 in
set_option maxHeartbeats 1000000 in
theorem refTx_any (D : Nat → Prop) (x g cr h ct : Nat) (S : CS) (i : Int) (w : World) (y : RefB w D x g cr h ct S) :
    Calls Try.prog 36 #[.pointer (some ⟨x, 0, none⟩), .int .i64 i] w (refShownE S.T i w) := by
  have h0 := (rboxC y.box).c1
  have hxl := heap_lt y.box
  by_cases h1 : i < 0
  · have hh : hasB S.T.length i = false := by simp [hasB]; omega
    have HH := hid hh
    clear y hh
    go_enter Try.func36, Try.ntmps36
    go_wp2
    exact bodyPost_ret (v := .tuple #[.agg #[.bool false, .slice none 0 0], .int .i64 40]) (by simp [results, Try.results36, go_sem]) rfl ⟨_, _, _, _, _, rfl, Or.inr ⟨HH.out, rfl, rfl, rfl, rfl, rfl, balloc w _⟩⟩
  · by_cases h2 : (S.T.length : Int) ≤ i
    · have hh : hasB S.T.length i = false := by simp [hasB]; omega
      have HH := hid hh
      clear y hh
      go_enter Try.func36, Try.ntmps36
      go_wp2
      exact bodyPost_ret (v := .tuple #[.agg #[.bool false, .slice none 0 0], .int .i64 40]) (by simp [results, Try.results36, go_sem]) rfl ⟨_, _, _, _, _, rfl, Or.inr ⟨HH.out, rfl, rfl, rfl, rfl, rfl, balloc w _⟩⟩
    · obtain ⟨j, rfl⟩ : ∃ j : Nat, i = j := ⟨i.toNat, by omega⟩
      have hj : j < S.T.length := by omega
      obtain ⟨p, hp⟩ : ∃ p, S.T[j]? = some p := ⟨_, List.getElem?_eq_getElem hj⟩
      have hb := desc_b y.tx hp
      obtain ⟨pt, hd, hz, hok, hq, hpo⟩ := desc_d y.tx hp
      have HP := hid hp
      have HOK := hid hok
      have HPO := hid hpo
      have HZ := hid hz
      have HY := hid y
      have hgl := y.tx.lt
      have h3 : (j : Int) < S.T.length := by omega
      clear y hp hq hok hz hpo
      obtain ⟨l, hl⟩ : ∃ l, l = p.zs.length := ⟨_, rfl⟩
      have HL := hid hl
      rw [← hl] at hd
      clear hl
      obtain ⟨b, zs⟩ := p
      simp only at *
      have HCOP : Hid (Calls Try.prog 53 #[.slice pt.a l pt.c] (w.alloc (.cells #[.bool false, .slice none 0 0] 80)) fun e w' => ∃ a c, e = .returned (.slice a l c) ∧ Hid (CopI (w.alloc (.cells #[.bool false, .slice none 0 0] 80)) w' (.slice a l c) zs l)) := by
        unfold Hid
        have := copied_any pt (w.alloc (.cells #[.bool false, .slice none 0 0] 80)) (Part.ok_below HOK.out (balloc w _)) (by rw [HZ.out]; have := HPO.out.1; simp only at this; omega)
        simp only [Part.val, HZ.out, ← HL.out] at this
        exact this
      go_enter Try.func36, Try.ntmps36
      go_wp2_with (first | (go_at_call 53; refine HCOP.out.mono ?_; rintro e w' ⟨a, c, rfl, HI⟩; have hb2 : w'.cell? ⟨h, j * 2, none⟩ = some (.bool b) := cell_below HI.out.bel (cell_below (balloc w _) hb); have h02 : w'.cell? ⟨x, 1, none⟩ = some (.slice (some ⟨h, 0, none⟩) S.T.length ct) := cell_below HI.out.bel (cell_below (balloc w _) h0); have HR : Hid (w'.heap[w.heap.size]? = some (.cells #[.bool false, .slice none 0 0] 80 (0, 0))) := (HI.out.bel.block _ (by simp)).trans (heap_new w _); have h20 : w'.cell? ⟨w.heap.size, 0, none⟩ = some (.bool false) := cell_of_heap HR.out 0; have h21 : w'.cell? ⟨w.heap.size, 1, none⟩ = some (.slice none 0 0) := cell_of_heap HR.out 1; have h22 : ∀ q, w'.frozen? ⟨w.heap.size, q, none⟩ = false := (fun q => frozen_of_heap HR.out q); have hlt : w.heap.size < w'.heap.size := (by have := HI.out.bel.size; simp at this; omega)))
      have hpk : Part.ok ((w'.setCell ⟨w.heap.size, 0, none⟩ (.bool b)).setCell ⟨w.heap.size, 1, none⟩ (.slice a l c)) ⟨a, c, zs⟩ := by
        refine Part.ok_block (HI.out.part HL.out HPO.out.2) ?_
        by_cases hz0 : zs = []
        · exact Or.inl hz0
        · obtain ⟨a', c', e1, _⟩ := HI.out.row.form
          rcases (HI.out.part HL.out HPO.out.2).2.2 with hn | ⟨q, r, hq, _⟩
          · exact Or.inl hn
          · simp only at hq
            refine Or.inr ⟨q, r, hq, ?_⟩
            have : w.heap.size + 1 ≤ q := by have := HI.out.own q (by rw [hq]; rfl); simpa using this
            rw [Below.heap_setCell _ _ _ _ (by simp; omega), Below.heap_setCell _ _ _ _ (by simp; omega)]
      exact bodyPost_ret (results_row2 (P := Try.prog) rfl _ _ w.heap.size 80 #[.bool b, .slice a l c] (0, 0) _ (.int .i64 0) rfl rfl (heap_setCell (heap_setCell HR.out)) Try.underlying80 rfl (by kernel_rfl)) rfl ⟨_, _, _, _, _, rfl, Or.inl ⟨j, _, rfl, HP.out, rfl, rfl, HL.out, HPO.out, (fun k hk => by have := HI.out.own k hk; simp at this; omega), hpk, bset (bset (bstep (balloc w _) HI.out.bel) (Nat.le_refl _) _ _) (Nat.le_refl _) _ _⟩⟩
end Go.Proofs.Ytnjhlndikbkeaaa
