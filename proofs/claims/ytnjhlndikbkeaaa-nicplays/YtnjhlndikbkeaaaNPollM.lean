/-
  What a Poll does, as a function; the frames that it hands out, in memory.
-/
import Derived.Test.YtnjhlndikbkeaaaNTake
import Derived.Test.YtnjhlndikbkeaaaCRefR
namespace Go.Proofs.Ytnjhlndikbkeaaa
open Go.RowKit
set_option linter.all false

theorem infoFrame : (Try.prog.info? 51).map (fun i => (i.zero, i.size, i.bytes)) = some (some (.agg (frameC zeroMac zeroMac 0 (.slice none 0 0))), 14, 48) := by kernel_rfl
def NS.on (N : NS) (n : Nat) : NS := { N with rt := (N.rt + 1) % n }
def NS.saw (N : NS) (b : Bool) : NS := if b then N.took else N.threw
/-- a Poll of k descriptors at most: the bytes of what is taken; card and driver behind it. -/
def pollF (own : Mac) : Nat → CS → NS → List (List Int) × CS × NS
  | 0, S, N => ([], S, N)
  | k + 1, S, N => match S.R[N.rt]? with
    | none => ([], S, N)
    | some p => if p.b then ([], S, N) else
      ((if goodB own p.zs then [p.zs] else []) ++ (pollF own k (S.given N.rt) ((N.saw (goodB own p.zs)).on S.R.length)).1, (pollF own k (S.given N.rt) ((N.saw (goodB own p.zs)).on S.R.length)).2)
/-- places that are the driver's. -/
def free (ps : List Pl) : Nat := ps.countP fun p => !p.b
theorem free_le (ps : List Pl) : free ps ≤ ps.length := List.countP_le_length
theorem free_given {ps : List Pl} {j : Nat} {p : Pl} (h : ps[j]? = some p) (hb : p.b = false) : free (ps.set j ⟨true, []⟩) + 1 = free ps := by
  have hj : j < ps.length := (List.getElem?_eq_some_iff.1 h).1
  have hp : ps[j] = p := by have := (List.getElem?_eq_some_iff.1 h).2; exact this
  have h0 : 0 < ps.countP (fun p => !p.b) := List.countP_pos_iff.2 ⟨p, by rw [← hp]; exact List.getElem_mem hj, by simp [hb]⟩
  unfold free
  rw [List.countP_set hj]
  simp only [hp, hb]
  simp
  omega
theorem free_came {ps : List Pl} {j : Nat} {zs : List Int} : free (ps.set j ⟨false, zs⟩) ≤ free ps + 1 := by
  by_cases hj : j < ps.length
  · unfold free
    rw [List.countP_set hj]
    simp
  · rw [List.set_eq_of_length_le (by omega)]; omega
theorem free_new (n : Nat) : free (List.replicate n ⟨true, []⟩) = 0 := by simp [free, List.countP_replicate]

/-- the cells of a frame that was taken; its Data. -/
def frL (p : List Int × Value) : List Value := (frameC (openR p.1).d (openR p.1).s (openR p.1).k p.2).toList
theorem frL_len (p : List Int × Value) : (frL p).length = 14 := rfl
structure Frs (B : Nat) (w : World) (v : Value) (fs : List (List Int × Value)) : Prop where
  row : w.ownsRow B 51 14 v fs.length (fs.flatMap frL)
  dat : ∀ p, p ∈ fs → Row w 5 p.2 (u8s (openR p.1).ys) ∧ ∀ b, p.2.ownBlock = some b → B ≤ b
  two : ∀ (i j : Nat) p p', i ≠ j → fs[i]? = some p → fs[j]? = some p' → ∀ b, p.2.ownBlock = some b → p'.2.ownBlock ≠ some b
theorem Frs.nil (B : Nat) (w : World) : Frs B w (.slice none 0 0) [] := ⟨World.ownsRow_nil w B _ 14, by simp, by simp⟩
theorem Frs.lo {B : Nat} {w : World} {v : Value} {fs : List (List Int × Value)} (h : Frs B w v fs) {b : Nat} (hb : v.ownBlock = some b) : B ≤ b ∧ b < w.heap.size ∧ ∃ cur, w.heap[b]? = some (.cells cur 51 (0, 0)) := by
  rcases h.row.2 with ⟨rfl, _⟩ | ⟨g, cap, cur, rfl, h1, h2, _⟩
  · simp [Value.ownBlock] at hb
  · simp [Value.ownBlock] at hb; subst hb; exact ⟨h1, heap_lt h2, cur, h2⟩
theorem ownsRow_to {w w' : World} {base : Nat} {e : TypeId} {size n : Nat} {v : Value} {xs : List Value} (h : w.ownsRow base e size v n xs) (hk : ∀ b, v.ownBlock = some b → w'.heap[b]? = w.heap[b]?) : w'.ownsRow base e size v n xs := by
  refine ⟨h.1, ?_⟩
  rcases h.2 with h | ⟨g, cap, cur, rfl, h1, h2, r⟩
  · exact Or.inl h
  · exact Or.inr ⟨g, cap, cur, rfl, h1, (hk g rfl).trans h2, r⟩
theorem Frs.keep {B : Nat} {w w' : World} {v : Value} {fs : List (List Int × Value)} (h : Frs B w v fs) (hk : ∀ k, B ≤ k → k < w.heap.size → w'.heap[k]? = w.heap[k]?) : Frs B w' v fs :=
  ⟨ownsRow_to h.row fun b hb => hk b (h.lo hb).1 (h.lo hb).2.1, fun p hp => ⟨(h.dat p hp).1.keep fun b hb => hk b ((h.dat p hp).2 b hb) ((h.dat p hp).1.lt hb), (h.dat p hp).2⟩, h.two⟩
theorem Frs.only {B : Nat} {w w' : World} {v : Value} {fs : List (List Int × Value)} {K : Nat → Prop} (h : Frs B w v fs) (ho : Only K w w') (hK : ∀ k, K k → k < B) : Frs B w' v fs := h.keep fun k h1 h2 => ho.block k (fun e => by have := hK k e; omega) h2
theorem Row.cells {w : World} {e : TypeId} {v : Value} {vs : List Value} (h : Row w e v vs) {b : Nat} (hb : v.ownBlock = some b) : ∃ cur f, w.heap[b]? = some (.cells cur e f) := by
  rcases h with ⟨rfl, _⟩ | ⟨g, cap, cur, lo, hi, rfl, hg, _⟩
  · simp [Value.ownBlock] at hb
  · simp [Value.ownBlock] at hb; subst hb; exact ⟨cur, _, hg⟩
theorem Frs.form {B : Nat} {w : World} {v : Value} {fs : List (List Int × Value)} (h : Frs B w v fs) : ∃ a c, v = .slice a fs.length c := by
  rcases h.row.2 with ⟨rfl, h0⟩ | ⟨g, cap, cur, rfl, _⟩
  · exact ⟨none, 0, by rw [h0]⟩
  · exact ⟨_, cap, rfl⟩
/-- a frame is put behind. -/
theorem Frs.push {B : Nat} {w : World} {v : Value} {fs : List (List Int × Value)} (h : Frs B w v fs) (zs : List Int) (d : Value) (hd : Row w 5 d (u8s (openR zs).ys)) (hB : ∀ b, d.ownBlock = some b → B ≤ b) (hn : ∀ p, p ∈ fs → ∀ b, d.ownBlock = some b → p.2.ownBlock ≠ some b) (hl : fs.length < 4398046511) (hb : B ≤ w.heap.size) :
    ∃ g cp w', (Builtin.append_ #[58, 58] 58 #[v, .slice (some ⟨w.heap.size, 0, none⟩) 1 1]).run Try.prog (w.alloc (.cells (frameC (openR zs).d (openR zs).s (openR zs).k d) 51)) = .ok (.slice (some ⟨g, 0, none⟩) (fs.length + 1) cp) w' ∧
      Frs B w' (.slice (some ⟨g, 0, none⟩) (fs.length + 1) cp) (fs ++ [(zs, d)]) ∧ Below B w w' ∧ ∀ k, k < w.heap.size → v.ownBlock ≠ some k → w'.heap[k]? = w.heap[k]? := by
  have hinfo := infoFrame
  have hone : ∀ u, u ∈ frL (zs, d) → u.oneCell' = true := fun u hu => by
    have hd1 := hd.one
    simp only [frL, frameC, List.mem_cons, List.not_mem_nil, or_false] at hu
    rcases hu with rfl | rfl | rfl | rfl | rfl | rfl | rfl | rfl | rfl | rfl | rfl | rfl | rfl | rfl
    all_goals first | rfl | exact hd1
  cases hq : Try.prog.info? 51 with
  | none => rw [hq] at hinfo; simp at hinfo
  | some i =>
    rw [hq] at hinfo
    simp only [Option.map_some, Option.some.injEq, Prod.mk.injEq] at hinfo
    obtain ⟨h1, h2, h3⟩ := hinfo
    obtain ⟨v', w', hrun, hown, hgr, _⟩ := run_append_own (P := Try.prog) (w.alloc (.cells (frameC (openR zs).d (openR zs).s (openR zs).k d) 51)) B 58 58 51 i _ 14 48 Try.underlying58 hq h1 h2 h3 rfl (by decide) v fs.length (fs.flatMap frL) (h.row.alloc _) ⟨w.heap.size, 0, none⟩ 1 1 (frL (zs, d)) rfl
      (fun j u hj => by
        rw [show (⟨w.heap.size, 0, none⟩ : Addr).add j = ⟨w.heap.size, j, none⟩ from by unfold Addr.add; split <;> simp_all, cell_of_heap (heap_new w _)]
        rw [← Array.getElem?_toList]; exact hj)
      hone (by unfold maxLen; omega) (by omega) (by simp; omega)
    obtain ⟨g, cap, rfl, hg1, hg2⟩ := World.ownsRow.form hown (by omega)
    have hold : ∀ k, k < w.heap.size → v.ownBlock ≠ some k → w'.heap[k]? = w.heap[k]? := fun k hk hn => (hgr.block k (by simp; omega) (fun e => hn e.symm)).trans (heap_old _ _ hk)
    have hdk : ∀ (x : Value) (ys : List Int), Row w 5 x (u8s ys) → Row w' 5 x (u8s ys) := fun x ys hx => hx.keep fun b hb => hold b (hx.lt hb) (fun e => by
      obtain ⟨c1, f1, e1⟩ := hx.cells hb
      obtain ⟨_, _, c2, e2⟩ := h.lo e
      rw [e1] at e2
      simp at e2)
    refine ⟨g, cap, w', hrun, ⟨by simpa using hown, fun p hp => ?_, fun i j p p' hij hi hj b hb' e => ?_⟩, ?_, hold⟩
    · rcases List.mem_append.1 hp with hp | hp
      · exact ⟨hdk _ _ (h.dat p hp).1, (h.dat p hp).2⟩
      · simp at hp; subst hp; exact ⟨hdk _ _ hd, hB⟩
    · rcases Nat.lt_or_ge i fs.length with h4 | h4
      · rw [List.getElem?_append_left h4] at hi
        rcases Nat.lt_or_ge j fs.length with h5 | h5
        · rw [List.getElem?_append_left h5] at hj
          exact h.two i j p p' hij hi hj b hb' e
        · rw [List.getElem?_append_right h5] at hj
          have : j - fs.length = 0 := by have := (List.getElem?_eq_some_iff.1 hj).1; simp at this; omega
          rw [this] at hj
          simp at hj; subst hj
          exact hn p (List.mem_of_getElem? hi) b e hb'
      · rw [List.getElem?_append_right h4] at hi
        have h6 : i - fs.length = 0 := by have := (List.getElem?_eq_some_iff.1 hi).1; simp at this; omega
        rw [h6] at hi
        simp at hi; subst hi
        rcases Nat.lt_or_ge j fs.length with h5 | h5
        · rw [List.getElem?_append_left h5] at hj
          exact hn p' (List.mem_of_getElem? hj) b hb' e
        · rw [List.getElem?_append_right h5] at hj
          have : j - fs.length = 0 := by have := (List.getElem?_eq_some_iff.1 hj).1; simp at this; omega
          omega
    · have b1 : Below B w (w.alloc (.cells (frameC (openR zs).d (openR zs).s (openR zs).k d) 51)) := (Below.refl _ _).alloc hb _
      exact b1.trans ⟨hgr.os, hgr.tape, hgr.output, hgr.size, fun k hk => hgr.block k (by simp; omega) (fun e => by have := (h.lo e.symm).1; omega)⟩
end Go.Proofs.Ytnjhlndikbkeaaa
