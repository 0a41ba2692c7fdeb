/-
  A wheel as lists: its timers, its slots, what is still to be filed; and what each act does to them.
-/
import Derived.Test.YthgcjocjkeieaaaWHeapM
import Derived.Test.YthgcjocjkeieaaaWLev
namespace Go.Proofs.Ythgcjocjkeieaaa
set_option linter.all false

structure Tm where
  t : Int
  id : Int
  tag : Int
def keyT (T : List Tm) (i : Int) : Int := ((T.find? fun x => x.id == i).map Tm.t).getD 0
def tagT (T : List Tm) (i : Int) : Int := ((T.find? fun x => x.id == i).map Tm.tag).getD 0
def Rising (T : List Tm) : Prop := T.Pairwise fun x y => x.id < y.id
def del (T : List Tm) (a : Int) : List Tm := T.filter fun x => decide (x.id ≠ a)
theorem Rising.find {T : List Tm} (h : Rising T) {x : Tm} (hx : x ∈ T) : T.find? (fun y => y.id == x.id) = some x := by
  unfold Rising at h
  induction T with
  | nil => simp at hx
  | cons y r ih =>
    obtain ⟨h1, h2⟩ := List.pairwise_cons.1 h
    rcases List.mem_cons.1 hx with rfl | hx
    · simp
    · have : y.id < x.id := h1 x hx
      rw [List.find?_cons_of_neg (by simp; omega)]
      exact ih h2 hx
theorem Rising.key {T : List Tm} (h : Rising T) {x : Tm} (hx : x ∈ T) : keyT T x.id = x.t := by simp [keyT, h.find hx]
theorem Rising.tag {T : List Tm} (h : Rising T) {x : Tm} (hx : x ∈ T) : tagT T x.id = x.tag := by simp [tagT, h.find hx]
theorem Rising.one {T : List Tm} (h : Rising T) {x y : Tm} (hx : x ∈ T) (hy : y ∈ T) (e : x.id = y.id) : x = y := by
  have h1 := h.find hx
  have h2 := h.find hy
  rw [e, h2] at h1
  exact (Option.some.inj h1).symm
theorem Rising.del {T : List Tm} (h : Rising T) (a : Int) : Rising (del T a) := List.Pairwise.filter _ h
theorem mem_del {T : List Tm} {a : Int} {x : Tm} : x ∈ del T a ↔ x ∈ T ∧ x.id ≠ a := by simp [del]
theorem key_del {T : List Tm} {a b : Int} (h : b ≠ a) : keyT (del T a) b = keyT T b := by
  unfold keyT del
  induction T with
  | nil => rfl
  | cons y r ih =>
    by_cases e : y.id = a
    · rw [List.filter_cons_of_neg (by simp [e]), List.find?_cons_of_neg (by simp; omega)]
      exact ih
    · rw [List.filter_cons_of_pos (by simp [e])]
      by_cases e2 : y.id = b
      · rw [List.find?_cons_of_pos (by simp [e2]), List.find?_cons_of_pos (by simp [e2])]
      · rw [List.find?_cons_of_neg (by simp [e2]), List.find?_cons_of_neg (by simp [e2])]
        exact ih
theorem key_app {T : List Tm} {x : Tm} {b : Int} (h : b ≠ x.id) : keyT (T ++ [x]) b = keyT T b := by
  unfold keyT
  rw [List.find?_append]
  have : [x].find? (fun y => y.id == b) = none := by simp; omega
  rw [this, Option.or_none]
theorem key_none {T : List Tm} {a : Int} (h : ∀ x ∈ T, x.id ≠ a) : T.find? (fun y => y.id == a) = none := by
  rw [List.find?_eq_none]
  intro x hx
  simpa using h x hx
def upd (R : Nat → List Int) (i : Nat) (L : List Int) : Nat → List Int := fun j => if j = i then L else R j
theorem upd_same (R : Nat → List Int) (i : Nat) (L : List Int) : upd R i L i = L := by simp [upd]
theorem upd_other {R : Nat → List Int} {i j : Nat} (L : List Int) (h : j ≠ i) : upd R i L j = R j := by simp [upd, h]

/-- all stands where it belongs, but for P, which is still to be filed, in this order. -/
structure Inv (n last : Int) (T : List Tm) (R : Nat → List Int) (P : List Int) : Prop where
  low : 0 ≤ n
  high : n ≤ 1125899906842624
  time : ∀ x ∈ T, n ≤ x.t ∧ x.t ≤ 1125899906842624
  ids : ∀ x ∈ T, 1 ≤ x.id ∧ x.id ≤ last
  rise : Rising T
  has : ∀ i, i ≤ 256 → ∀ a ∈ R i, ∃ x ∈ T, x.id = a ∧ plc n x.t = i
  pend : ∀ a ∈ P, ∃ x ∈ T, x.id = a
  lies : ∀ x ∈ T, x.id ∈ P ∨ x.id ∈ R (plc n x.t)
  once : ∀ i, i ≤ 256 → (R i).Nodup
  ponce : P.Nodup
  pnew : ∀ a ∈ P, ∀ i, i ≤ 256 → a ∉ R i
  ord : ∀ i, i < 256 → (R i).Pairwise fun a b => keyT T a = keyT T b → a < b
  pord : P.Pairwise fun a b => keyT T a = keyT T b → a < b
  pafter : ∀ i, i < 256 → ∀ a ∈ R i, ∀ b ∈ P, keyT T a = keyT T b → a < b
  heap : Heap (keyT T) (R 256)
theorem Inv.plc_key {n last : Int} {T : List Tm} {R : Nat → List Int} {P : List Int} (h : Inv n last T R P) {i : Nat} (hi : i ≤ 256) {a : Int} (ha : a ∈ R i) : plc n (keyT T a) = i := by
  obtain ⟨x, hx, rfl, hp⟩ := h.has i hi a ha
  rw [h.rise.key hx, hp]
theorem Inv.start : Inv 0 0 [] (fun _ => []) [] where
  low := by omega
  high := by omega
  time := by simp
  ids := by simp
  rise := List.Pairwise.nil
  has := by simp
  pend := by simp
  lies := by simp
  once := by simp
  ponce := List.nodup_nil
  pnew := by simp
  ord := by simp
  pord := List.Pairwise.nil
  pafter := by simp
  heap := Heap.nil _
/-- a number is laid into its row. -/
theorem Inv.laid {n last : Int} {T : List Tm} {R : Nat → List Int} {a : Int} {P : List Int} (h : Inv n last T R (a :: P)) {L : List Int} (hm : ∀ b, b ∈ L ↔ b ∈ R (plc n (keyT T a)) ∨ b = a) (hn : L.Nodup)
    (ho : plc n (keyT T a) < 256 → L.Pairwise fun a b => keyT T a = keyT T b → a < b) (hh : plc n (keyT T a) = 256 → Heap (keyT T) L) (hp : plc n (keyT T a) < 256 → ∀ b ∈ L, ∀ c ∈ P, keyT T b = keyT T c → b < c) : Inv n last T (upd R (plc n (keyT T a)) L) P := by
  obtain ⟨x, hx, hxa⟩ := h.pend a (by simp)
  have hk : keyT T a = x.t := by rw [← hxa, h.rise.key hx]
  have hpo := List.nodup_cons.1 h.ponce
  have hle := plc_le n (keyT T a)
  refine ⟨h.low, h.high, h.time, h.ids, h.rise, ?_, fun b hb => h.pend b (by simp [hb]), ?_, ?_, hpo.2, ?_, ?_, (List.pairwise_cons.1 h.pord).2, ?_, ?_⟩
  · intro i hi b hb
    by_cases e : i = plc n (keyT T a)
    · subst e
      rw [upd_same] at hb
      rcases (hm b).1 hb with hb | rfl
      · exact h.has _ hi b hb
      · exact ⟨x, hx, hxa, by rw [hk]⟩
    · rw [upd_other _ e] at hb
      exact h.has i hi b hb
  · intro y hy
    by_cases e : plc n y.t = plc n (keyT T a)
    · rw [e, upd_same]
      rcases h.lies y hy with h1 | h1
      · rcases List.mem_cons.1 h1 with h1 | h1
        · exact Or.inr ((hm _).2 (Or.inr h1))
        · exact Or.inl h1
      · rw [e] at h1
        exact Or.inr ((hm _).2 (Or.inl h1))
    · rw [upd_other _ e]
      rcases h.lies y hy with h1 | h1
      · rcases List.mem_cons.1 h1 with h1 | h1
        · exfalso
          have : y = x := h.rise.one hy hx (by rw [h1, hxa])
          subst this
          exact e (by rw [hk])
        · exact Or.inl h1
      · exact Or.inr h1
  · intro i hi
    by_cases e : i = plc n (keyT T a)
    · subst e; rw [upd_same]; exact hn
    · rw [upd_other _ e]; exact h.once i hi
  · intro b hb i hi
    by_cases e : i = plc n (keyT T a)
    · subst e
      rw [upd_same]
      intro hbl
      rcases (hm b).1 hbl with h1 | rfl
      · exact h.pnew b (by simp [hb]) _ hi h1
      · exact hpo.1 hb
    · rw [upd_other _ e]
      exact h.pnew b (by simp [hb]) i hi
  · intro i hi
    by_cases e : i = plc n (keyT T a)
    · subst e; rw [upd_same]; exact ho hi
    · rw [upd_other _ e]; exact h.ord i hi
  · intro i hi b hb c hc
    by_cases e : i = plc n (keyT T a)
    · subst e; rw [upd_same] at hb; exact hp hi b hb c hc
    · rw [upd_other _ e] at hb; exact h.pafter i hi b hb c (by simp [hc])
  · by_cases e : 256 = plc n (keyT T a)
    · rw [e, upd_same]; exact hh e.symm
    · rw [upd_other _ e]; exact h.heap
/-- onto a slot. -/
theorem Inv.file {n last : Int} {T : List Tm} {R : Nat → List Int} {a : Int} {P : List Int} (h : Inv n last T R (a :: P)) (hf : plc n (keyT T a) ≠ 256) : Inv n last T (upd R (plc n (keyT T a)) (R (plc n (keyT T a)) ++ [a])) P := by
  have hle := plc_le n (keyT T a)
  have hnew := h.pnew a (by simp) _ hle
  have hpc := List.pairwise_cons.1 h.pord
  refine h.laid (fun b => by simp) ?_ (fun hl => ?_) (fun e => absurd e hf) (fun hl b hb c hc => ?_)
  · rw [List.nodup_append]
    refine ⟨h.once _ hle, by simp, fun b hb c hc => ?_⟩
    simp at hc
    subst hc
    rintro rfl
    exact hnew hb
  · rw [List.pairwise_append]
    refine ⟨h.ord _ hl, by simp, fun b hb c hc => ?_⟩
    simp at hc
    subst hc
    exact h.pafter _ hl b hb c (by simp)
  · rw [List.mem_append] at hb
    rcases hb with hb | hb
    · exact h.pafter _ hl b hb c (by simp [hc])
    · simp at hb
      subst hb
      exact hpc.1 c hc
/-- into the heap. -/
theorem Inv.push {n last : Int} {T : List Tm} {R : Nat → List Int} {a : Int} {P : List Int} (h : Inv n last T R (a :: P)) (hf : plc n (keyT T a) = 256) {L : List Int} (hL : L.Perm (R 256 ++ [a])) (hh : Heap (keyT T) L) : Inv n last T (upd R 256 L) P := by
  have hnew := h.pnew a (by simp) 256 (by omega)
  have hl := h.laid (L := L) (fun b => by rw [hL.mem_iff, hf]; simp) ?_ (fun hl => by omega) (fun _ => hh) (fun hl => by omega)
  · rw [hf] at hl; exact hl
  · rw [hL.nodup_iff, List.nodup_append]
    refine ⟨h.once 256 (by omega), by simp, fun b hb c hc => ?_⟩
    simp at hc
    subst hc
    rintro rfl
    exact hnew hb
/-- what is still to be filed goes off instead. -/
theorem Inv.off {n last : Int} {T : List Tm} {R : Nat → List Int} {a : Int} {P : List Int} (h : Inv n last T R (a :: P)) : Inv n last (del T a) R P := by
  have hpo := List.nodup_cons.1 h.ponce
  have hne : ∀ i, i ≤ 256 → ∀ b ∈ R i, b ≠ a := fun i hi b hb e => h.pnew a (by simp) i hi (e ▸ hb)
  have hnp : ∀ b ∈ P, b ≠ a := fun b hb e => hpo.1 (e ▸ hb)
  refine ⟨h.low, h.high, fun x hx => h.time x (mem_del.1 hx).1, fun x hx => h.ids x (mem_del.1 hx).1, h.rise.del a, ?_, ?_, ?_, h.once, hpo.2, fun b hb => h.pnew b (by simp [hb]), ?_, ?_, ?_, ?_⟩
  · intro i hi b hb
    obtain ⟨x, hx, rfl, hp⟩ := h.has i hi b hb
    exact ⟨x, mem_del.2 ⟨hx, hne i hi _ hb⟩, rfl, hp⟩
  · intro b hb
    obtain ⟨x, hx, rfl⟩ := h.pend b (by simp [hb])
    exact ⟨x, mem_del.2 ⟨hx, hnp _ hb⟩, rfl⟩
  · intro x hx
    obtain ⟨hx, hxa⟩ := mem_del.1 hx
    rcases h.lies x hx with h1 | h1
    · rcases List.mem_cons.1 h1 with h1 | h1
      · exact absurd h1 hxa
      · exact Or.inl h1
    · exact Or.inr h1
  · intro i hi
    exact (h.ord i hi).imp_of_mem (fun {b c} hb hc hbc => by rw [key_del (hne i (by omega) b hb), key_del (hne i (by omega) c hc)]; exact hbc)
  · exact (List.pairwise_cons.1 h.pord).2.imp_of_mem (fun {b c} hb hc hbc => by rw [key_del (hnp b hb), key_del (hnp c hc)]; exact hbc)
  · intro i hi b hb c hc
    rw [key_del (hne i (by omega) b hb), key_del (hnp c hc)]
    exact h.pafter i hi b hb c (by simp [hc])
  · intro j h0 hl
    have := h.heap j h0 hl
    unfold upTo at this ⊢
    rw [key_del (hne 256 (by omega) _ (nth_mem hl)), key_del (hne 256 (by omega) _ (nth_mem (by omega)))]
    exact this
/-- a timer is taken away. -/
theorem Inv.gone {n last : Int} {T : List Tm} {R : Nat → List Int} (h : Inv n last T R []) {a : Int} {x : Tm} (hx : x ∈ T) (hxa : x.id = a) {L : List Int} (hm : ∀ b, b ∈ L ↔ b ∈ R (plc n x.t) ∧ b ≠ a) (hn : L.Nodup)
    (ho : plc n x.t < 256 → L.Sublist (R (plc n x.t))) (hh : plc n x.t = 256 → Heap (keyT T) L) : Inv n last (del T a) (upd R (plc n x.t) L) [] := by
  have hin : ∀ i, i ≤ 256 → ∀ b ∈ upd R (plc n x.t) L i, b ∈ R i ∧ b ≠ a := fun i hi b hb => by
    by_cases e : i = plc n x.t
    · subst e; rw [upd_same] at hb; exact (hm b).1 hb
    · rw [upd_other _ e] at hb
      refine ⟨hb, fun e2 => e ?_⟩
      obtain ⟨y, hy, hya, hp⟩ := h.has i hi b hb
      have : y = x := h.rise.one hy hx (by rw [hya, e2, hxa])
      subst this
      exact hp.symm
  refine ⟨h.low, h.high, fun x hx => h.time x (mem_del.1 hx).1, fun x hx => h.ids x (mem_del.1 hx).1, h.rise.del a, ?_, by simp, ?_, ?_, List.nodup_nil, by simp, ?_, List.Pairwise.nil, by simp, ?_⟩
  · intro i hi b hb
    obtain ⟨h1, h2⟩ := hin i hi b hb
    obtain ⟨y, hy, rfl, hp⟩ := h.has i hi b h1
    exact ⟨y, mem_del.2 ⟨hy, h2⟩, rfl, hp⟩
  · intro y hy
    obtain ⟨hy, hya⟩ := mem_del.1 hy
    rcases h.lies y hy with h1 | h1
    · simp at h1
    · refine Or.inr ?_
      by_cases e : plc n y.t = plc n x.t
      · rw [e, upd_same]
        rw [e] at h1
        exact (hm _).2 ⟨h1, hya⟩
      · rw [upd_other _ e]; exact h1
  · intro i hi
    by_cases e : i = plc n x.t
    · subst e; rw [upd_same]; exact hn
    · rw [upd_other _ e]; exact h.once i hi
  · intro i hi
    have hs : (upd R (plc n x.t) L i).Pairwise fun a b => keyT T a = keyT T b → a < b := by
      by_cases e : i = plc n x.t
      · subst e; rw [upd_same]; exact (h.ord _ hi).sublist (ho hi)
      · rw [upd_other _ e]; exact h.ord i hi
    exact hs.imp_of_mem (fun {b c} hb hc hbc => by rw [key_del (hin i (by omega) b hb).2, key_del (hin i (by omega) c hc).2]; exact hbc)
  · have hs : Heap (keyT T) (upd R (plc n x.t) L 256) := by
      by_cases e : 256 = plc n x.t
      · rw [e, upd_same]; exact hh e.symm
      · rw [upd_other _ e]; exact h.heap
    intro j h0 hl
    have := hs j h0 hl
    unfold upTo at this ⊢
    rw [key_del (hin 256 (by omega) _ (nth_mem hl)).2, key_del (hin 256 (by omega) _ (nth_mem (by omega))).2]
    exact this
/-- a new timer. -/
theorem Inv.armed {n last : Int} {T : List Tm} {R : Nat → List Int} (h : Inv n last T R []) (t tag : Int) (h1 : n ≤ t) (h2 : t ≤ 1125899906842624) (h3 : 0 ≤ last) : Inv n (last + 1) (T ++ [⟨t, last + 1, tag⟩]) R [last + 1] := by
  have hne : ∀ i, i ≤ 256 → ∀ b ∈ R i, b < last + 1 := fun i hi b hb => by
    obtain ⟨x, hx, rfl, _⟩ := h.has i hi b hb
    have := h.ids x hx
    omega
  have hkey : ∀ i, i ≤ 256 → ∀ b ∈ R i, keyT (T ++ [⟨t, last + 1, tag⟩]) b = keyT T b := fun i hi b hb => key_app (by have := hne i hi b hb; simp; omega)
  refine ⟨h.low, h.high, ?_, ?_, ?_, ?_, ?_, ?_, h.once, by simp, ?_, ?_, by simp, ?_, ?_⟩
  · intro x hx
    rcases List.mem_append.1 hx with hx | hx
    · exact h.time x hx
    · simp at hx; subst hx; exact ⟨h1, h2⟩
  · intro x hx
    rcases List.mem_append.1 hx with hx | hx
    · have := h.ids x hx; omega
    · simp at hx; subst hx; simp; omega
  · unfold Rising
    rw [List.pairwise_append]
    refine ⟨h.rise, by simp, fun x hx y hy => ?_⟩
    simp at hy
    subst hy
    have := h.ids x hx
    simp; omega
  · intro i hi b hb
    obtain ⟨x, hx, rfl, hp⟩ := h.has i hi b hb
    exact ⟨x, by simp [hx], rfl, hp⟩
  · intro b hb
    simp at hb
    subst hb
    exact ⟨⟨t, last + 1, tag⟩, by simp, rfl⟩
  · intro x hx
    rcases List.mem_append.1 hx with hx | hx
    · rcases h.lies x hx with h1 | h1
      · simp at h1
      · exact Or.inr h1
    · simp at hx; subst hx; simp
  · intro b hb i hi hbi
    simp at hb
    subst hb
    have := hne i hi _ hbi
    omega
  · intro i hi
    exact (h.ord i hi).imp_of_mem (fun {b c} hb hc hbc => by rw [hkey i (by omega) b hb, hkey i (by omega) c hc]; exact hbc)
  · intro i hi b hb c hc _
    simp at hc
    subst hc
    exact hne i (by omega) b hb
  · intro j h0 hl
    have := h.heap j h0 hl
    unfold upTo at this ⊢
    rw [hkey 256 (by omega) _ (nth_mem hl), hkey 256 (by omega) _ (nth_mem (by omega))]
    exact this

/-! ### What stands in front -/
/-- the first row that is not empty is i, and x is of it; beyond, x is the heap's first. -/
structure Front (n : Int) (T : List Tm) (R : Nat → List Int) (i : Nat) (x : Tm) : Prop where
  before : ∀ j, j < i → R j = []
  mem : x ∈ T
  at_ : plc n x.t = i
  top : i = 256 → x.id = nth (R 256) 0
theorem Front.le {n last : Int} {T : List Tm} {R : Nat → List Int} {i : Nat} {x : Tm} (h : Inv n last T R []) (f : Front n T R i x) {y : Tm} (hy : y ∈ T) : i ≤ plc n y.t := by
  rcases h.lies y hy with h1 | h1
  · simp at h1
  · rcases Nat.lt_or_ge (plc n y.t) i with hl | hl
    · rw [f.before _ hl] at h1; simp at h1
    · exact hl
/-- its slot begins no later than any timer's. -/
theorem Front.stt_le {n last : Int} {T : List Tm} {R : Nat → List Int} {i : Nat} {x : Tm} (h : Inv n last T R []) (f : Front n T R i x) {y : Tm} (hy : y ∈ T) : stt x.t (lev n x.t) ≤ stt y.t (lev n y.t) := by
  have hx := h.time x f.mem
  have hyt := h.time y hy
  have hi := f.le h hy
  by_cases h4 : lev n x.t = 4
  · have hxp := plc_far.2 h4
    have hyp : plc n y.t = 256 := by have := plc_le n y.t; have := f.at_; omega
    have hy4 := plc_far.1 hyp
    have hxi := f.top (by rw [← f.at_, hxp])
    have hym : y.id ∈ R 256 := by
      rcases h.lies y hy with h1 | h1
      · simp at h1
      · rw [hyp] at h1; exact h1
    have := h.heap.min hym
    rw [← hxi] at this
    unfold upTo at this
    rw [h.rise.key f.mem, h.rise.key hy] at this
    rw [h4, hy4]
    simp only [stt, unit]
    omega
  · rcases Nat.lt_or_eq_of_le hi with hl | he
    · have := later hx.1 hyt.1 h4 (by rw [f.at_]; exact hl)
      have := unit_pos (lev n x.t)
      omega
    · have := same hx.1 hyt.1 h4 (by rw [f.at_]; exact he)
      omega
/-- the time goes on, but not to the first slot. -/
theorem Inv.wait {n last : Int} {T : List Tm} {R : Nat → List Int} (h : Inv n last T R []) {m : Int} (h0 : n ≤ m) (h1 : m ≤ 1125899906842624) (hf : ∀ y ∈ T, m < stt y.t (lev n y.t)) : Inv m last T R [] := by
  refine ⟨by have := h.low; omega, h1, fun y hy => ⟨?_, (h.time y hy).2⟩, h.ids, h.rise, ?_, by simp, ?_, h.once, List.nodup_nil, by simp, h.ord, List.Pairwise.nil, by simp, h.heap⟩
  · have a := hf y hy
    have b := Go.Proofs.Ythgcjocjkeieaaa.stt_le y.t (lev n y.t)
    omega
  · intro i hi a ha
    obtain ⟨x, hx, hxa, hp⟩ := h.has i hi a ha
    exact ⟨x, hx, hxa, by rw [plc_keep h0 (hf x hx)]; exact hp⟩
  · intro y hy
    rcases h.lies y hy with h2 | h2
    · simp at h2
    · rw [plc_keep h0 (hf y hy)]; exact Or.inr h2
/-- the time goes to the first slot, and that is emptied. -/
theorem Inv.take {n last : Int} {T : List Tm} {R : Nat → List Int} (h : Inv n last T R []) {i : Nat} {x : Tm} (f : Front n T R i x) (hi : i < 256) : Inv (stt x.t (lev n x.t)) last T (upd R i []) (R i) := by
  have hx := h.time x f.mem
  have h4 : lev n x.t ≠ 4 := fun e => by have := plc_far.2 e; have := f.at_; omega
  have hns := le_stt hx.1
  have hsx := Go.Proofs.Ythgcjocjkeieaaa.stt_le x.t (lev n x.t)
  have hlt : ∀ y ∈ T, plc n y.t ≠ i → stt x.t (lev n x.t) < stt y.t (lev n y.t) := fun y hy hne => by
    have := later hx.1 (h.time y hy).1 h4 (by rw [f.at_]; have := f.le h hy; omega)
    have := unit_pos (lev n x.t)
    omega
  refine ⟨by have := h.low; omega, by omega, fun y hy => ⟨?_, (h.time y hy).2⟩, h.ids, h.rise, ?_, ?_, ?_, ?_, h.once i (by omega), ?_, ?_, h.ord i hi, ?_, ?_⟩
  · have a := f.stt_le h hy
    have b := Go.Proofs.Ythgcjocjkeieaaa.stt_le y.t (lev n y.t)
    omega
  · intro j hj a ha
    by_cases e : j = i
    · subst e; rw [upd_same] at ha; simp at ha
    · rw [upd_other _ e] at ha
      obtain ⟨y, hy, hya, hp⟩ := h.has j hj a ha
      exact ⟨y, hy, hya, by rw [plc_keep hns (hlt y hy (by omega))]; exact hp⟩
  · intro a ha
    obtain ⟨y, hy, hya, _⟩ := h.has i (by omega) a ha
    exact ⟨y, hy, hya⟩
  · intro y hy
    rcases h.lies y hy with h2 | h2
    · simp at h2
    · by_cases e : plc n y.t = i
      · rw [e] at h2; exact Or.inl h2
      · rw [plc_keep hns (hlt y hy e), upd_other _ e]; exact Or.inr h2
  · intro j hj
    by_cases e : j = i
    · subst e; rw [upd_same]; exact List.nodup_nil
    · rw [upd_other _ e]; exact h.once j hj
  · intro a ha j hj hb
    by_cases e : j = i
    · subst e; rw [upd_same] at hb; simp at hb
    · rw [upd_other _ e] at hb
      have h1 := h.plc_key (by omega) ha
      have h2 := h.plc_key hj hb
      omega
  · intro j hj
    by_cases e : j = i
    · subst e; rw [upd_same]; exact List.Pairwise.nil
    · rw [upd_other _ e]; exact h.ord j hj
  · intro j hj a ha b hb hk
    by_cases e : j = i
    · subst e; rw [upd_same] at ha; simp at ha
    · rw [upd_other _ e] at ha
      have h1 := h.plc_key (by omega) ha
      have h2 := h.plc_key (by omega) hb
      rw [hk] at h1
      omega
  · rw [upd_other _ (by omega)]; exact h.heap
/-- the time goes to the first stretch beyond, and what the levels reach by now is taken out. -/
theorem Inv.takeFar {n last : Int} {T : List Tm} {R : Nat → List Int} (h : Inv n last T R []) {x : Tm} (f : Front n T R 256 x) {P H : List Int} (hp : (P ++ H).Perm (R 256)) (hs : P.Pairwise (ahead (keyT T))) (hH : Heap (keyT T) H)
    (h1 : ∀ a ∈ P, lev (stt x.t (lev n x.t)) (keyT T a) ≠ 4) (h2 : ∀ a ∈ H, lev (stt x.t (lev n x.t)) (keyT T a) = 4) : Inv (stt x.t (lev n x.t)) last T (upd R 256 H) P := by
  have hx := h.time x f.mem
  have hns := le_stt hx.1
  have hsx := Go.Proofs.Ythgcjocjkeieaaa.stt_le x.t (lev n x.t)
  have hnd : (P ++ H).Nodup := hp.nodup_iff.2 (h.once 256 (by omega))
  obtain ⟨hnP, hnH, hPH⟩ := List.nodup_append.1 hnd
  have hin : ∀ a, a ∈ R 256 ↔ a ∈ P ∨ a ∈ H := fun a => by rw [← hp.mem_iff, List.mem_append]
  have hemp : ∀ j, j < 256 → R j = [] := f.before
  refine ⟨by have := h.low; omega, by omega, fun y hy => ⟨?_, (h.time y hy).2⟩, h.ids, h.rise, ?_, ?_, ?_, ?_, hnP, ?_, ?_, ?_, ?_, ?_⟩
  · have a := f.stt_le h hy
    have b := Go.Proofs.Ythgcjocjkeieaaa.stt_le y.t (lev n y.t)
    omega
  · intro j hj a ha
    by_cases e : j = 256
    · subst e
      rw [upd_same] at ha
      obtain ⟨y, hy, hya, _⟩ := h.has 256 hj a ((hin a).2 (Or.inr ha))
      refine ⟨y, hy, hya, ?_⟩
      rw [plc_far, ← h.rise.key hy, hya]
      exact h2 a ha
    · rw [upd_other _ e, hemp j (by omega)] at ha; simp at ha
  · intro a ha
    obtain ⟨y, hy, hya, _⟩ := h.has 256 (by omega) a ((hin a).2 (Or.inl ha))
    exact ⟨y, hy, hya⟩
  · intro y hy
    rcases h.lies y hy with h3 | h3
    · simp at h3
    · by_cases e : plc n y.t = 256
      · rw [e] at h3
        rcases (hin _).1 h3 with h4 | h4
        · exact Or.inl h4
        · refine Or.inr ?_
          have := h2 _ h4
          rw [h.rise.key hy] at this
          rw [plc_far.2 this, upd_same]
          exact h4
      · rw [hemp _ (by have := plc_le n y.t; omega)] at h3; simp at h3
  · intro j hj
    by_cases e : j = 256
    · subst e; rw [upd_same]; exact hnH
    · rw [upd_other _ e]; exact h.once j hj
  · intro a ha j hj hb
    by_cases e : j = 256
    · subst e; rw [upd_same] at hb; exact hPH a ha a hb rfl
    · rw [upd_other _ e, hemp j (by omega)] at hb; simp at hb
  · intro j hj
    rw [upd_other _ (by omega)]; exact h.ord j hj
  · exact hs.imp (fun {a b} hab hk => by unfold ahead at hab; omega)
  · intro j hj a ha
    rw [upd_other _ (by omega), hemp j hj] at ha; simp at ha
  · rw [upd_same]; exact hH
end Go.Proofs.Ythgcjocjkeieaaa
