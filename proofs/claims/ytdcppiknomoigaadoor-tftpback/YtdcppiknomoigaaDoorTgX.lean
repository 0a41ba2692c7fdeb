/-
  Tftp: which fault the program's Decode meets first, without memory; its boxes.
-/
import Derived.Test.YtdcppiknomoigaaDoorTgU
namespace Go.Proofs.YtdcppiknomoigaaDoor
open Go.RowKit
set_option linter.all false

theorem readG_err (acc : List Ch) (zs : List Int) (e : Int) (h : readG acc zs = .error e) : e = 5 ∨ e = 172 := by
  fun_induction readG acc zs <;> simp_all
def decQ (zs : List Int) : Tp := match decT zs with | .ok q => q | .error _ => Tp.nil
def decE (zs : List Int) : Int := match decT zs with | .ok _ => 0 | .error e => e
theorem dec_ok_of {zs : List Int} {q : Tp} (h : decT zs = .ok q) : decQ zs = q ∧ decE zs = 0 := by unfold decQ decE; rw [h]; exact ⟨rfl, rfl⟩
theorem dec_er_of {zs : List Int} {e : Int} (h : decT zs = .error e) : decQ zs = Tp.nil ∧ decE zs = e := by unfold decQ decE; rw [h]; exact ⟨rfl, rfl⟩
theorem fst_zero (x : Int) : fstE 0 x = x := if_pos rfl
/-- choices behind what came. -/
theorem ch_two (er : Int) (zs : List Int) : (chE er zs = 0 ∧ er = 0 ∧ ∃ l, readG [] zs = .ok l) ∨ (chE er zs ≠ 0 ∧ (er = 0 → readG [] zs = .error (chE er zs)) ∧ (er ≠ 0 → chE er zs = er)) := by
  by_cases h : er = 0
  · subst h
    cases hr : readG [] zs with
    | error e =>
      right
      rw [chE_er hr]
      refine ⟨?_, fun _ => rfl, fun h => absurd rfl h⟩
      have := readG_err _ _ _ hr
      omega
    | ok l => left; rw [chE_ok hr]; exact ⟨rfl, rfl, l, rfl⟩
  · right
    rw [chE_ne h]
    exact ⟨h, fun e => absurd e h, fun _ => rfl⟩
def rdE (r : List Int) : Int := chE (modeF (txtR r) (fileF r 0)) (txtR (txtR r))
theorem fileF_ne {er : Int} (h : er ≠ 0) (zs : List Int) : fileF zs er = er := by
  unfold fileF; rw [txtF_ne h, fst_ne h]; split <;> rfl
theorem modeF_ne {er : Int} (h : er ≠ 0) (zs : List Int) : modeF zs er = er := by
  unfold modeF; rw [txtF_ne h, fst_ne h]; split <;> rfl
theorem file_is {r f r1 : List Int} (hb : ∀ z, z ∈ r → 0 ≤ z ∧ z ≤ 255) (h : cutG r = some (f, r1)) : txtS r = strOfNums f ∧ txtR r = r1 ∧ fileB (txtS r) = decide (¬ (f.length < 1 ∨ 64 < f.length)) := by
  have e1 : txtS r = strOfNums f := by unfold txtS; rw [h]
  refine ⟨e1, by unfold txtR; rw [h], ?_⟩
  rw [e1]
  unfold fileB
  rw [zero_str (cutG_bd hb h).1 (cutG_inv h).2, strOfNums_size]
  by_cases h1 : f.length < 1
  · rw [decide_eq_false (by omega), decide_eq_false (p := ¬ (f.length < 1 ∨ 64 < f.length)) (fun h => h (Or.inl h1))]; rfl
  · by_cases h2 : 64 < f.length
    · rw [decide_eq_false (p := f.length ≤ 64) (by omega), decide_eq_false (p := ¬ (f.length < 1 ∨ 64 < f.length)) (fun h => h (Or.inr h2))]; simp
    · rw [decide_eq_true (p := 0 < f.length) (by omega), decide_eq_true (p := f.length ≤ 64) (by omega), decide_eq_true (p := ¬ (f.length < 1 ∨ 64 < f.length)) (by omega)]; rfl
theorem mode_is {r m r2 : List Int} (hb : ∀ z, z ∈ r → 0 ≤ z ∧ z ≤ 255) (h : cutG r = some (m, r2)) : nums (txtS r) = m ∧ txtR r = r2 := by
  refine ⟨?_, by unfold txtR; rw [h]⟩
  unfold txtS; rw [h]
  exact nums_str (cutG_bd hb h).1
theorem dec_rd (r : List Int) (hb : ∀ z, z ∈ r → 0 ≤ z ∧ z ≤ 255) :
    (rdE r ≠ 0 ∧ decRd r = .error (rdE r)) ∨ (rdE r = 0 ∧ modeF (txtR r) (fileF r 0) = 0 ∧ ∃ l, readG [] (txtR (txtR r)) = .ok l ∧ decRd r = .ok { Tp.nil with op := 1, fl := txtS r, md := nOct, ch := l }) := by
  unfold rdE decRd
  cases h1 : cutG r with
  | none =>
    left
    have e1 : fileF r 0 = 5 := by
      unfold fileF txtF txtS; rw [h1]; simp only [fst_zero]
      rw [if_neg (by decide)]; rfl
    rw [e1, modeF_ne (by omega), chE_ne (by omega)]
    exact ⟨by omega, rfl⟩
  | some x =>
    obtain ⟨f, r1⟩ := x
    obtain ⟨e1, e2, e3⟩ := file_is hb h1
    have ef : fileF r 0 = if (f.length < 1 ∨ 64 < f.length) then 171 else 0 := by
      unfold fileF txtF; rw [e3, h1]; simp only [decide_eq_true_eq, fst_zero]
      by_cases hx : (f.length < 1 ∨ 64 < f.length)
      · rw [if_neg (fun h => h hx), if_pos hx]
      · rw [if_pos hx, if_neg hx]
    simp only
    by_cases hx : (f.length < 1 ∨ 64 < f.length)
    · left
      rw [ef, if_pos hx, if_pos hx, modeF_ne (by omega), chE_ne (by omega)]
      exact ⟨by omega, rfl⟩
    · rw [ef, if_neg hx, if_neg hx, e2]
      cases h2 : cutG r1 with
      | none =>
        left
        have e4 : modeF r1 0 = 5 := by
          unfold modeF txtF txtS; rw [h2]; simp only [fst_zero]
          rw [if_neg (by decide)]; rfl
        rw [e4, chE_ne (by omega)]
        exact ⟨by omega, rfl⟩
      | some y =>
        obtain ⟨m, r2⟩ := y
        obtain ⟨m1, m2⟩ := mode_is (cutG_bd hb h1).2 h2
        have em : modeF r1 0 = if smallS m = nOct then 0 else 171 := by
          unfold modeF txtF; rw [m1, h2]; simp only [fst_zero]
        simp only
        rw [em, m2]
        by_cases hm : smallS m = nOct
        · rw [if_pos hm, if_neg (by simpa using hm)]
          rcases ch_two 0 r2 with ⟨c1, _, l, c2⟩ | ⟨c1, c2, _⟩
          · right
            rw [c1, c2]
            exact ⟨rfl, rfl, l, rfl, by rw [e1]⟩
          · left
            refine ⟨c1, ?_⟩
            rw [c2 rfl]
        · left
          rw [if_neg hm, if_pos (by simpa using hm), chE_ne (by omega)]
          exact ⟨by omega, rfl⟩
theorem numF_ok {r : List Int} (h : ¬ r.length < 2) (er : Int) : numF r er = er ∧ numR r = r.drop 2 ∧ numV r = be2 r := by
  unfold numF numR numV; exact ⟨if_neg h, if_neg h, if_neg h⟩
theorem numF_no {r : List Int} (h : r.length < 2) : numF r 0 = 5 ∧ numR r = r := by
  unfold numF numR; exact ⟨by rw [if_pos h, fst_zero], if_pos h⟩
theorem datF_ne {er : Int} (h : er ≠ 0) (zs : List Int) : datF zs er = er := by unfold datF; rw [fst_ne h]; split <;> rfl
theorem wordF_ne {er : Int} (h : er ≠ 0) (zs : List Int) : wordF zs er = er := by unfold wordF; rw [txtF_ne h, fst_ne h]; split <;> rfl
theorem dec_da (r : List Int) : (datF (numR r) (numF r 0) ≠ 0 ∧ decNu 3 r = .error (datF (numR r) (numF r 0))) ∨ (datF (numR r) (numF r 0) = 0 ∧ decNu 3 r = .ok { Tp.nil with op := 3, bk := numV r, da := datL (numR r) }) := by
  unfold decNu
  by_cases h : r.length < 2
  · left
    rw [(numF_no h).1, datF_ne (by omega), if_pos h]
    exact ⟨by omega, rfl⟩
  · obtain ⟨e1, e2, e3⟩ := numF_ok h 0
    rw [e1, e2, e3, if_neg h]
    unfold datF datL
    by_cases hl : 65464 < (r.drop 2).length
    · left
      rw [if_pos hl, if_pos hl, fst_zero, if_neg (by omega), if_pos rfl]
      exact ⟨by omega, rfl⟩
    · right
      rw [if_neg hl, if_neg hl, if_neg hl, if_neg (by omega), if_pos rfl]
      exact ⟨rfl, rfl⟩
theorem dec_ac (r : List Int) : (numF r 0 ≠ 0 ∧ decNu 4 r = .error (numF r 0)) ∨ (numF r 0 = 0 ∧ decNu 4 r = .ok { Tp.nil with op := 4, bk := numV r }) := by
  unfold decNu
  by_cases h : r.length < 2
  · left
    rw [(numF_no h).1, if_pos h]
    exact ⟨by omega, rfl⟩
  · obtain ⟨e1, e2, e3⟩ := numF_ok h 0
    right
    rw [e1, e3, if_neg h, if_pos rfl]
    exact ⟨rfl, rfl⟩
theorem dec_er (r : List Int) : (wordF (numR r) (numF r 0) ≠ 0 ∧ decNu 5 r = .error (wordF (numR r) (numF r 0))) ∨ (wordF (numR r) (numF r 0) = 0 ∧ decNu 5 r = .ok { Tp.nil with op := 5, cd := numV r, tx := txtS (numR r) }) := by
  unfold decNu
  by_cases h : r.length < 2
  · left
    rw [(numF_no h).1, wordF_ne (by omega), if_pos h]
    exact ⟨by omega, rfl⟩
  · obtain ⟨e1, e2, e3⟩ := numF_ok h 0
    rw [e1, e2, e3, if_neg h, if_neg (by omega), if_neg (by omega)]
    cases hc : cutG (r.drop 2) with
    | none =>
      left
      have e4 : wordF (r.drop 2) 0 = 5 := by
        unfold wordF txtF txtS; rw [hc]; simp only [fst_zero]
        split <;> rfl
      rw [e4]
      exact ⟨by omega, rfl⟩
    | some x =>
      obtain ⟨s, t⟩ := x
      have e4 : txtS (r.drop 2) = strOfNums s := by unfold txtS; rw [hc]
      have e5 : wordF (r.drop 2) 0 = if 255 < s.length then 2 else 0 := by
        unfold wordF txtF; rw [e4, hc, strOfNums_size]; simp only [fst_zero]
      simp only
      rw [e5]
      by_cases hs : 255 < s.length
      · left
        rw [if_pos hs, if_pos hs]
        exact ⟨by omega, rfl⟩
      · right
        rw [if_neg hs, if_neg hs, e4]
        exact ⟨rfl, rfl⟩
/-! ### boxes -/
def tpZ : Array Value := #[.int .i64 0, .string ⟨#[]⟩, .string ⟨#[]⟩, .slice none 0 0, .int .i64 0, .slice none 0 0, .int .i64 0, .string ⟨#[]⟩]
/-- the program's Decode under way. -/
structure DcI (w W : World) (bp : Nat) (F : Array Value) (zs : List Int) (er : Int) : Prop where
  rd : Rd w (w.heap.size + 1) W zs er
  res : W.heap[w.heap.size]? = some (.cells tpZ 26 (0, 0))
  box : W.heap[bp]? = some (.cells F 26 (0, 0))
  gt : w.heap.size + 1 < bp
theorem DcI.call {w W W' : World} {bp : Nat} {F : Array Value} {zs zs' : List Int} {er er' : Int} (h : DcI w W bp F zs er) (k : Rd w (w.heap.size + 1) W' zs' er' ∧ But (w.heap.size + 1) W W') : DcI w W' bp F zs' er' :=
  ⟨k.1, keptBut h.res k.2 (by omega), keptBut h.box k.2 (by have := h.gt; omega), h.gt⟩
theorem DcI.put {w W : World} {bp : Nat} {F F' : Array Value} {zs : List Int} {er : Int} (h : DcI w W bp F zs er) (j : Nat) (v : Value) (hF : F.setIfInBounds j v = F') : DcI w (W.setCell ⟨bp, j, none⟩ v) bp F' zs er := by
  have hb : But bp W (W.setCell ⟨bp, j, none⟩ v) := But.setCell _ _ _ _
  have hg := h.gt
  refine ⟨h.rd.but hb (by omega) (by omega), keptBut h.res hb (by omega), ?_, hg⟩
  rw [← hF]
  exact heap_setCell h.box
theorem DcI.cell {w W : World} {bp : Nat} {F : Array Value} {zs : List Int} {er : Int} (h : DcI w W bp F zs er) (j : Nat) : W.cell? ⟨bp, j, none⟩ = F[j]? := cell_of_heap h.box j
theorem DcI.frozen {w W : World} {bp : Nat} {F : Array Value} {zs : List Int} {er : Int} (h : DcI w W bp F zs er) (j : Nat) : W.frozen? ⟨bp, j, none⟩ = false := frozen_of_heap h.box j
theorem DcI.lt {w W : World} {bp : Nat} {F : Array Value} {zs : List Int} {er : Int} (h : DcI w W bp F zs er) : bp < W.heap.size := heap_lt h.box
/-- a packet that came out: its lists are the call's own. -/
structure DcO (w W : World) (q : Tp) (ca : Option Addr) (cc : Nat) (da : Option Addr) (dc : Nat) : Prop where
  rch : RowS W 56 2 (.slice ca q.ch.length cc) q.ch.length (chs q.ch)
  rchn : ∀ b, (Value.slice ca q.ch.length cc).ownBlock = some b → w.heap.size ≤ b
  rda : Row W 5 (.slice da q.da.length dc) (u8s q.da)
  rdan : ∀ b, (Value.slice da q.da.length dc).ownBlock = some b → w.heap.size ≤ b
  below : Below w.heap.size w W
theorem dcO_nil {w W : World} (h : Below w.heap.size w W) : DcO w W Tp.nil none 0 none 0 :=
  ⟨RowS.nil _ _ _, fun b hb => by simp [Tp.nil, Value.ownBlock] at hb, Row.nil _ _, fun b hb => by simp [Tp.nil, Value.ownBlock] at hb, h⟩
theorem DcI.bad {w W W' : World} {bp : Nat} {F : Array Value} {zs : List Int} {er : Int} (h : DcI w W bp F zs er) (hb : But w.heap.size W.drew W') : DcO w W' Tp.nil none 0 none 0 :=
  dcO_nil (bbut h.rd.bel.drew hb (Nat.le_refl _))
theorem DcI.good {w W : World} {bp : Nat} {F : Array Value} {zs : List Int} {er : Int} {q : Tp} {ca da : Option Addr} {cc dc : Nat} (h : DcI w W bp F zs er)
    (hc : RowS W 56 2 (.slice ca q.ch.length cc) q.ch.length (chs q.ch)) (hcn : ∀ b, (Value.slice ca q.ch.length cc).ownBlock = some b → bp ≤ b)
    (hd : Row W 5 (.slice da q.da.length dc) (u8s q.da)) (hdn : ∀ b, (Value.slice da q.da.length dc).ownBlock = some b → bp ≤ b) : DcO w (W.setRow w.heap.size F) q ca cc da dc := by
  have hg := h.gt
  have hb : But w.heap.size W (W.setRow w.heap.size F) := But.setRow _ _ _
  exact ⟨hc.keep fun b hb' => hb.block b (by have := hcn b hb'; omega) (hc.lt hb'), fun b hb' => by have := hcn b hb'; omega,
    hd.but hb fun b hb' => by have := hdn b hb'; omega, fun b hb' => by have := hdn b hb'; omega, bbut h.rd.bel hb (Nat.le_refl _)⟩
end Go.Proofs.YtdcppiknomoigaaDoor
