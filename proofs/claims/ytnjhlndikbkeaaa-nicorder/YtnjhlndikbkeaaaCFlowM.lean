/-
  A ring worked in order: which places hold which frames.
-/
import Derived.Test.YtnjhlndikbkeaaaCNew2
namespace Go.Proofs.Ytnjhlndikbkeaaa
open Go.RowKit
set_option linter.all false

theorem mod_ne {a b n : Nat} (h : a < b) (h2 : b < a + n) : a % n ≠ b % n := by
  intro e
  have h3 : (b - a) % n = 0 := Nat.sub_mod_eq_zero_of_mod_eq e.symm
  have h4 : (b - a) % n = b - a := Nat.mod_eq_of_lt (by omega)
  omega
/-- the frames fs went into a ring of n places in order, lo of them were taken out again; u: whose a place is that holds one. -/
structure Win (n : Nat) (fs : List (List Int)) (lo : Nat) (u : Bool) (ps : List Pl) : Prop where
  pos : 0 < n
  len : ps.length = n
  lo1 : lo ≤ fs.length
  hi : fs.length ≤ lo + n
  used : ∀ k, lo ≤ k → k < fs.length → ps[k % n]? = some ⟨u, fs.getD k []⟩
  free : ∀ k, fs.length ≤ k → k < lo + n → ∃ p, ps[k % n]? = some p ∧ p.b = !u
theorem Win.push {n : Nat} {fs : List (List Int)} {lo : Nat} {u : Bool} {ps : List Pl} (h : Win n fs lo u ps) (hr : fs.length < lo + n) (zs : List Int) : Win n (fs ++ [zs]) lo u (ps.set (fs.length % n) ⟨u, zs⟩) := by
  have hm : fs.length % n < ps.length := by rw [h.len]; exact Nat.mod_lt _ h.pos
  refine ⟨h.pos, by simpa using h.len, by simp; have := h.lo1; omega, by simp; omega, fun k h1 h2 => ?_, fun k h1 h2 => ?_⟩
  · by_cases hk : k = fs.length
    · subst hk
      rw [List.getElem?_set_self hm]
      simp [List.getD_eq_getElem?_getD]
    · have hk2 : k < fs.length := by simp at h2; omega
      rw [List.getElem?_set_ne (fun e => mod_ne hk2 (by omega) e.symm), h.used k h1 hk2]
      simp [List.getD_eq_getElem?_getD, List.getElem?_append_left hk2]
  · simp at h1
    rw [List.getElem?_set_ne (fun e => mod_ne (by omega : fs.length < k) (by have := h.lo1; omega) e)]
    exact h.free k (by omega) h2
theorem Win.pop {n : Nat} {fs : List (List Int)} {lo : Nat} {u : Bool} {ps : List Pl} (h : Win n fs lo u ps) (hr : lo < fs.length) : Win n fs (lo + 1) u (ps.set (lo % n) ⟨!u, []⟩) := by
  have hm : lo % n < ps.length := by rw [h.len]; exact Nat.mod_lt _ h.pos
  refine ⟨h.pos, by simpa using h.len, by omega, by have := h.hi; omega, fun k h1 h2 => ?_, fun k h1 h2 => ?_⟩
  · rw [List.getElem?_set_ne (fun e => mod_ne (by omega : lo < k) (by have := h.hi; omega) e)]
    exact h.used k (by omega) h2
  · by_cases hk : k = lo + n
    · subst hk
      rw [Nat.add_mod_right, List.getElem?_set_self hm]
      exact ⟨_, rfl, rfl⟩
    · rw [List.getElem?_set_ne (fun e => mod_ne (by omega : lo < k) (by omega) e)]
      exact h.free k h1 (by omega)
/-- the next place to go in: free, if there is room; else used. -/
theorem Win.inFree {n : Nat} {fs : List (List Int)} {lo : Nat} {u : Bool} {ps : List Pl} (h : Win n fs lo u ps) (hr : fs.length < lo + n) : ∃ p, ps[fs.length % n]? = some p ∧ p.b = !u := h.free _ (Nat.le_refl _) hr
theorem Win.inFull {n : Nat} {fs : List (List Int)} {lo : Nat} {u : Bool} {ps : List Pl} (h : Win n fs lo u ps) (hr : ¬ fs.length < lo + n) : ∃ p, ps[fs.length % n]? = some p ∧ p.b = u := by
  have e : fs.length = lo + n := by have := h.hi; omega
  refine ⟨_, by rw [e, Nat.add_mod_right]; exact h.used lo (Nat.le_refl _) (by have := h.pos; omega), rfl⟩
/-- the next place to come out. -/
theorem Win.outUsed {n : Nat} {fs : List (List Int)} {lo : Nat} {u : Bool} {ps : List Pl} (h : Win n fs lo u ps) (hr : lo < fs.length) : ps[lo % n]? = some ⟨u, fs.getD lo []⟩ := h.used _ (Nat.le_refl _) hr
theorem Win.outFree {n : Nat} {fs : List (List Int)} {lo : Nat} {u : Bool} {ps : List Pl} (h : Win n fs lo u ps) (hr : ¬ lo < fs.length) : ∃ p, ps[lo % n]? = some p ∧ p.b = !u := by
  have e : fs.length = lo := by have := h.lo1; omega
  exact h.free lo (by omega) (by have := h.pos; omega)
theorem succ_mod (a n : Nat) (h : 0 < n) : (a % n + 1) % n = (a + 1) % n := by simp [Nat.add_mod]
theorem Win.new (n : Nat) (u : Bool) (h : 0 < n) : Win n [] 0 u (List.replicate n ⟨!u, []⟩) :=
  ⟨h, by simp, by simp, by simp, fun k _ hk => by simp at hk, fun k _ _ => ⟨_, by rw [List.getElem?_replicate, if_pos (Nat.mod_lt _ h)], rfl⟩⟩

/-- the card's part of a flow under way. -/
structure FlowC (wr : World) (n m c g h : Nat) (S : CS) (came laid : List (List Int)) (got gone i : Nat) : Prop where
  card : CardW wr c g h S
  rx : Win n came got false S.R
  tx : Win m laid gone true S.T
  nr : S.nr = came.length % n
  nt : S.nt = gone % m
  ci : S.ci = came.length
  co : S.co = gone
  cd : S.cd ≤ i
  cl : came.length ≤ i
  ll : laid.length ≤ i
theorem FlowC.below {wr w' : World} {n m c g h : Nat} {S : CS} {came laid : List (List Int)} {got gone i : Nat} (x : FlowC wr n m c g h S came laid got gone i) (hb : Below wr.heap.size wr w') : FlowC w' n m c g h S came laid got gone i :=
  ⟨x.card.below hb, x.rx, x.tx, x.nr, x.nt, x.ci, x.co, x.cd, x.cl, x.ll⟩
theorem FlowC.keep {wr w' : World} {n m c g h : Nat} {S : CS} {came laid : List (List Int)} {got gone i : Nat} (x : FlowC wr n m c g h S came laid got gone i) (hb : ∀ k, CardK c g h k → w'.heap[k]? = wr.heap[k]?) : FlowC w' n m c g h S came laid got gone i :=
  ⟨x.card.keep hb, x.rx, x.tx, x.nr, x.nt, x.ci, x.co, x.cd, x.cl, x.ll⟩
theorem FlowC.next {wr : World} {n m c g h : Nat} {S : CS} {came laid : List (List Int)} {got gone i : Nat} (x : FlowC wr n m c g h S came laid got gone i) : FlowC wr n m c g h S came laid got gone (i + 1) :=
  ⟨x.card, x.rx, x.tx, x.nr, x.nt, x.ci, x.co, by have := x.cd; omega, by have := x.cl; omega, by have := x.ll; omega⟩
theorem FlowC.came' {wr w' : World} {n m c g h : Nat} {S : CS} {came laid : List (List Int)} {got gone i : Nat} (x : FlowC wr n m c g h S came laid got gone i) (hr : came.length < got + n) (zs : List Int) (hc : CardW w' c g h (S.came zs)) : FlowC w' n m c g h (S.came zs) (came ++ [zs]) laid got gone (i + 1) :=
  ⟨hc, by have := x.rx.push hr zs; rw [← x.nr] at this; exact this, x.tx, by simp only [CS.came, x.rx.len, x.nr, succ_mod _ _ x.rx.pos]; simp, x.nt, by simp [CS.came, x.ci], x.co, by have := x.cd; simp only [CS.came]; omega, by have := x.cl; simp; omega, by have := x.ll; omega⟩
theorem FlowC.drop {wr w' : World} {n m c g h : Nat} {S : CS} {came laid : List (List Int)} {got gone i : Nat} (x : FlowC wr n m c g h S came laid got gone i) (hc : CardW w' c g h S.drop) : FlowC w' n m c g h S.drop came laid got gone (i + 1) :=
  ⟨hc, x.rx, x.tx, x.nr, x.nt, x.ci, x.co, by have := x.cd; simp only [CS.drop]; omega, by have := x.cl; omega, by have := x.ll; omega⟩
theorem FlowC.given {wr w' : World} {n m c g h : Nat} {S : CS} {came laid : List (List Int)} {got gone i : Nat} (x : FlowC wr n m c g h S came laid got gone i) (hr : got < came.length) (hc : CardW w' c g h (S.given (got % n))) : FlowC w' n m c g h (S.given (got % n)) came laid (got + 1) gone (i + 1) :=
  ⟨hc, x.rx.pop hr, x.tx, x.nr, x.nt, x.ci, x.co, by have := x.cd; simp only [CS.given]; omega, by have := x.cl; omega, by have := x.ll; omega⟩
theorem FlowC.laid' {wr w' : World} {n m c g h : Nat} {S : CS} {came laid : List (List Int)} {got gone i : Nat} (x : FlowC wr n m c g h S came laid got gone i) (hr : laid.length < gone + m) (zs : List Int) (hc : CardW w' c g h (S.laid (laid.length % m) zs)) : FlowC w' n m c g h (S.laid (laid.length % m) zs) came (laid ++ [zs]) got gone (i + 1) :=
  ⟨hc, x.rx, x.tx.push hr zs, x.nr, x.nt, x.ci, x.co, by have := x.cd; simp only [CS.laid]; omega, by have := x.cl; omega, by have := x.ll; simp; omega⟩
theorem FlowC.gone' {wr w' : World} {n m c g h : Nat} {S : CS} {came laid : List (List Int)} {got gone i : Nat} (x : FlowC wr n m c g h S came laid got gone i) (hr : gone < laid.length) (hc : CardW w' c g h S.gone) : FlowC w' n m c g h S.gone came laid got (gone + 1) (i + 1) :=
  ⟨hc, x.rx, by have := x.tx.pop hr; rw [← x.nt] at this; exact this, x.nr, by simp only [CS.gone, x.tx.len, x.nt, succ_mod _ _ x.tx.pos], x.ci, by simp [CS.gone, x.co], by have := x.cd; simp only [CS.gone]; omega, by have := x.cl; omega, by have := x.ll; omega⟩
end Go.Proofs.Ytnjhlndikbkeaaa
