/-
  What goes off: sorted, once, all that is due. How far an Advance still has to go.
-/
import Derived.Test.YthgcjocjkeieaaaWInv
namespace Go.Proofs.Ythgcjocjkeieaaa
set_option linter.all false

/-- the order of timers. -/
def tlt (x y : Tm) : Prop := x.t < y.t ∨ (x.t = y.t ∧ x.id < y.id)
theorem tlt_irrefl (x : Tm) : ¬ tlt x x := by unfold tlt; omega
theorem tlt_trans {x y z : Tm} (h : tlt x y) (k : tlt y z) : tlt x z := by unfold tlt at *; omega
/-- T without F. -/
def without (T F : List Tm) : List Tm := T.filter fun x => decide (∀ f ∈ F, f.id ≠ x.id)
theorem mem_without {T F : List Tm} {x : Tm} : x ∈ without T F ↔ x ∈ T ∧ ∀ f ∈ F, f.id ≠ x.id := by simp [without]
theorem without_nil (T : List Tm) : without T [] = T := by simp [without]
theorem without_app (T F : List Tm) (y : Tm) : without T (F ++ [y]) = del (without T F) y.id := by
  unfold without del
  rw [List.filter_filter]
  apply List.filter_congr
  intro x _
  rw [Bool.eq_iff_iff]
  simp only [decide_eq_true_eq, Bool.and_eq_true, List.mem_append, List.mem_singleton]
  constructor
  · intro h
    exact ⟨fun e => h y (Or.inr rfl) e.symm, fun f hf => h f (Or.inl hf)⟩
  · rintro ⟨h1, h2⟩ f hf
    rcases hf with hf | rfl
    · exact h2 f hf
    · exact fun e => h1 e.symm
/-- how an Advance stands: F went off, T is left of T0; all of F is ahead of all of T. -/
structure Going (T0 : List Tm) (e : Int) (F T : List Tm) : Prop where
  left : T = without T0 F
  from_ : ∀ f ∈ F, f ∈ T0
  due : ∀ f ∈ F, f.t ≤ e
  sort : F.Pairwise tlt
  ahead_ : ∀ f ∈ F, ∀ y ∈ T, tlt f y
theorem Going.start (T0 : List Tm) (e : Int) : Going T0 e [] T0 := ⟨(without_nil T0).symm, by simp, by simp, List.Pairwise.nil, by simp⟩
theorem Going.next {T0 : List Tm} {e : Int} {F T : List Tm} (h : Going T0 e F T) {y : Tm} (hy : y ∈ T) (hd : y.t ≤ e) (hb : ∀ z ∈ T, z.id ≠ y.id → tlt y z) : Going T0 e (F ++ [y]) (del T y.id) := by
  have hy0 : y ∈ T0 := by have := hy; rw [h.left] at this; exact (mem_without.1 this).1
  refine ⟨by rw [without_app, ← h.left], fun f hf => ?_, fun f hf => ?_, ?_, fun f hf z hz => ?_⟩
  · rcases List.mem_append.1 hf with hf | hf
    · exact h.from_ f hf
    · simp at hf; subst hf; exact hy0
  · rcases List.mem_append.1 hf with hf | hf
    · exact h.due f hf
    · simp at hf; subst hf; exact hd
  · rw [List.pairwise_append]
    exact ⟨h.sort, by simp, fun f hf z hz => by simp at hz; subst hz; exact h.ahead_ f hf z hy⟩
  · obtain ⟨hz1, hz2⟩ := mem_del.1 hz
    rcases List.mem_append.1 hf with hf | hf
    · exact h.ahead_ f hf z hz1
    · simp at hf; subst hf; exact hb z hz1 hz2
/-- what an Advance to e tells of T0, and what it leaves. -/
structure Fired (T0 : List Tm) (e : Int) (F T : List Tm) : Prop where
  mem : ∀ x, x ∈ F ↔ x ∈ T0 ∧ x.t ≤ e
  sort : F.Pairwise tlt
  left : T = T0.filter fun x => decide (e < x.t)
theorem Going.done {T0 : List Tm} {e : Int} {F T : List Tm} (h : Going T0 e F T) (hr : Rising T0) (hn : ∀ y ∈ T, e < y.t) : Fired T0 e F T := by
  refine ⟨fun x => ⟨fun hx => ⟨h.from_ x hx, h.due x hx⟩, fun ⟨h1, h2⟩ => ?_⟩, h.sort, ?_⟩
  · by_cases hx : ∃ f ∈ F, f.id = x.id
    · obtain ⟨f, hf, he⟩ := hx
      have := hr.one (h.from_ f hf) h1 he
      subst this
      exact hf
    · have : x ∈ T := by rw [h.left]; exact mem_without.2 ⟨h1, fun f hf e => hx ⟨f, hf, e⟩⟩
      have := hn x this
      omega
  · rw [h.left]
    unfold without
    apply List.filter_congr
    intro x hx
    rw [decide_eq_decide]
    constructor
    · intro h1
      exact hn x (by rw [h.left]; exact mem_without.2 ⟨hx, h1⟩)
    · intro h1 f hf he
      have := hr.one (h.from_ f hf) hx he
      subst this
      have := h.due f hf
      omega
/-- sorted lists of the same timers are one list. -/
theorem sorted_eq : ∀ (F G : List Tm), F.Pairwise tlt → G.Pairwise tlt → (∀ x, x ∈ F ↔ x ∈ G) → F = G
  | [], [], _, _, _ => rfl
  | [], y :: r, _, _, h => absurd ((h y).2 (by simp)) (by simp)
  | x :: r, [], _, _, h => absurd ((h x).1 (by simp)) (by simp)
  | x :: r, y :: q, hf, hg, h => by
    obtain ⟨f1, f2⟩ := List.pairwise_cons.1 hf
    obtain ⟨g1, g2⟩ := List.pairwise_cons.1 hg
    have hxy : x = y := by
      rcases List.mem_cons.1 ((h x).1 (by simp)) with h1 | h1
      · exact h1
      · rcases List.mem_cons.1 ((h y).2 (by simp)) with h2 | h2
        · exact h2.symm
        · exact absurd (tlt_trans (g1 x h1) (f1 y h2)) (tlt_irrefl y)
    subst hxy
    rw [sorted_eq r q f2 g2 fun z => ⟨fun hz => by
      rcases List.mem_cons.1 ((h z).1 (by simp [hz])) with h1 | h1
      · subst h1; exact absurd (f1 z hz) (tlt_irrefl z)
      · exact h1, fun hz => by
      rcases List.mem_cons.1 ((h z).2 (by simp [hz])) with h1 | h1
      · subst h1; exact absurd (g1 z hz) (tlt_irrefl z)
      · exact h1⟩]
theorem Fired.eq {T0 : List Tm} {e : Int} {F G T S : List Tm} (h : Fired T0 e F T) (k : Fired T0 e G S) : F = G ∧ T = S := ⟨sorted_eq F G h.sort k.sort fun x => by rw [h.mem, k.mem], by rw [h.left, k.left]⟩

/-! ### How far an Advance still has to go -/
def mu (n : Int) (T : List Tm) : Nat := (T.map fun x => lev n x.t + 1).sum
theorem mu_le {n s : Int} : ∀ (T : List Tm), (∀ x ∈ T, lev s x.t ≤ lev n x.t) → mu s T ≤ mu n T
  | [], _ => Nat.le_refl _
  | x :: r, h => by
    have h1 := mu_le r (fun y hy => h y (by simp [hy]))
    have h2 := h x (by simp)
    unfold mu at *
    simp only [List.map_cons, List.sum_cons]
    omega
theorem mu_lt {n s : Int} {y : Tm} : ∀ (T : List Tm), (∀ x ∈ T, lev s x.t ≤ lev n x.t) → y ∈ T → lev s y.t < lev n y.t → mu s T < mu n T
  | [], _, hy, _ => by simp at hy
  | x :: r, h, hy, hl => by
    have h1 := mu_le r (fun z hz => h z (by simp [hz]))
    have h2 := h x (by simp)
    rcases List.mem_cons.1 hy with rfl | hy
    · unfold mu at *
      simp only [List.map_cons, List.sum_cons]
      omega
    · have h3 := mu_lt r (fun z hz => h z (by simp [hz])) hy hl
      unfold mu at *
      simp only [List.map_cons, List.sum_cons]
      omega
theorem mu_filter (n : Int) (p : Tm → Bool) : ∀ T : List Tm, mu n (T.filter p) ≤ mu n T
  | [] => Nat.le_refl _
  | x :: r => by
    have h1 := mu_filter n p r
    by_cases h : p x
    · rw [List.filter_cons_of_pos h]
      unfold mu at *
      simp only [List.map_cons, List.sum_cons]
      omega
    · rw [List.filter_cons_of_neg h]
      unfold mu at *
      simp only [List.map_cons, List.sum_cons]
      omega
theorem mu_filter_lt (n : Int) (p : Tm → Bool) {y : Tm} (hp : p y = false) : ∀ T : List Tm, y ∈ T → mu n (T.filter p) < mu n T
  | [], hy => by simp at hy
  | x :: r, hy => by
    have h1 := mu_filter n p r
    rcases List.mem_cons.1 hy with rfl | hy
    · rw [List.filter_cons_of_neg (by simp [hp])]
      unfold mu at *
      simp only [List.map_cons, List.sum_cons]
      omega
    · have h3 := mu_filter_lt n p hp r hy
      by_cases h : p x
      · rw [List.filter_cons_of_pos h]
        unfold mu at *
        simp only [List.map_cons, List.sum_cons]
        omega
      · rw [List.filter_cons_of_neg h]
        unfold mu at *
        simp only [List.map_cons, List.sum_cons]
        omega
theorem mu_del_lt (n : Int) {T : List Tm} {y : Tm} (hy : y ∈ T) : mu n (del T y.id) < mu n T := mu_filter_lt n _ (by simp) T hy
theorem mu_del_le (n : Int) (T : List Tm) (a : Int) : mu n (del T a) ≤ mu n T := mu_filter n _ T
/-- going to the first slot brings no timer to a higher level, and its own ones to lower ones. -/
theorem Front.lev_le {n last : Int} {T : List Tm} {R : Nat → List Int} {i : Nat} {x : Tm} (h : Inv n last T R []) (f : Front n T R i x) {y : Tm} (hy : y ∈ T) : lev (stt x.t (lev n x.t)) y.t ≤ lev n y.t := by
  have hx := h.time x f.mem
  have hyt := h.time y hy
  have hns := le_stt hx.1
  rcases Int.lt_or_le (stt x.t (lev n x.t)) (stt y.t (lev n y.t)) with hl | hl
  · rw [lev_keep hns hl]; exact Nat.le_refl _
  · have hle := f.stt_le h hy
    have e : stt x.t (lev n x.t) = stt y.t (lev n y.t) := by omega
    rw [e]
    by_cases h0 : lev n y.t = 0
    · rw [lowest_at h0, h0, lev0 rfl]; exact Nat.le_refl _
    · exact Nat.le_of_lt (lower n h0)
theorem Front.mu_near {n last : Int} {T : List Tm} {R : Nat → List Int} {i : Nat} {x : Tm} (h : Inv n last T R []) (f : Front n T R i x) : mu (stt x.t (lev n x.t)) T ≤ mu n T := mu_le T fun y hy => f.lev_le h hy
theorem Front.mu_lower {n last : Int} {T : List Tm} {R : Nat → List Int} {i : Nat} {x : Tm} (h : Inv n last T R []) (f : Front n T R i x) (h0 : lev n x.t ≠ 0) : mu (stt x.t (lev n x.t)) T < mu n T := mu_lt T (fun y hy => f.lev_le h hy) f.mem (lower n h0)
/-- on the lowest level: who is of the first slot, and who is not. -/
theorem Front.lowest {n last : Int} {T : List Tm} {R : Nat → List Int} {i : Nat} {x : Tm} (h : Inv n last T R []) (f : Front n T R i x) (h0 : lev n x.t = 0) : i < 256 ∧ (∀ y ∈ T, y.id ∈ R i ∨ stt x.t (lev n x.t) < y.t) ∧ ∀ a ∈ R i, keyT T a = stt x.t (lev n x.t) := by
  have hx := h.time x f.mem
  have hi : i < 256 := by rw [← f.at_, plc_near (by omega), h0]; have := slt_lt x.t 0; omega
  refine ⟨hi, fun y hy => ?_, fun a ha => ?_⟩
  · have hyt := h.time y hy
    rcases h.lies y hy with h1 | h1
    · simp at h1
    · by_cases e : plc n y.t = i
      · rw [e] at h1; exact Or.inl h1
      · have hle := f.le h hy
        have := later hx.1 hyt.1 (by omega) (by rw [f.at_]; omega)
        have := unit_pos (lev n x.t)
        have := Go.Proofs.Ythgcjocjkeieaaa.stt_le y.t (lev n y.t)
        exact Or.inr (by omega)
  · obtain ⟨y, hy, rfl, hp⟩ := h.has i (by omega) a ha
    have hs := same hx.1 (h.time y hy).1 (by omega) (by rw [f.at_, hp])
    rw [h.rise.key hy, hs.2]
    have : lev n y.t = 0 := by omega
    rw [lowest_at this]
end Go.Proofs.Ythgcjocjkeieaaa
