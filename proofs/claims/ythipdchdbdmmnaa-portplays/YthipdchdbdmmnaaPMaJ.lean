import Derived.Test.YthipdchdbdmmnaaPMany
import Derived.Test.YthipdchdbdmmnaaBLent
import Derived.Test.YthipdchdbdmmnaaPKT
import Derived.Test.YthipdchdbdmmnaaBOwned
import Derived.Test.YthipdchdbdmmnaaPOpenO
import Derived.Deep.RegionHeld3
/-
  Port: owners in a list; what a pair and the kept things are as owners; the calls at them.
-/
namespace Go.Proofs.Ythipdchdbdmmnaa
open Go.RowKit
set_option linter.all false

def Us (l : List Ows) : Nat → Ows := fun j => l.getD j nobody
theorem us_at {l : List Ows} {i : Nat} {I : Ows} (h : l[i]? = some I) : Us l i = I := by unfold Us; rw [List.getD_eq_getElem?_getD, h]; rfl
theorem upd_us {l : List Ows} {i : Nat} (h : i < l.length) (J : Ows) : updI (Us l) i J = Us (l.set i J) := by
  funext j
  unfold updI Us
  by_cases e : j = i
  · subst e; rw [if_pos rfl, List.getD_eq_getElem?_getD, List.getElem?_set_self h]; rfl
  · rw [if_neg e, List.getD_eq_getElem?_getD, List.getD_eq_getElem?_getD, List.getElem?_set_ne (Ne.symm e)]
theorem lt_of_at {l : List Ows} {i : Nat} {I : Ows} (h : l[i]? = some I) : i < l.length := (List.getElem?_eq_some_iff.1 h).1
/-- owners in a list. -/
def MA (w0 w : World) (l : List Ows) : Prop := Many w0 w (Us l)
section
variable {w0 w w' : World} {l : List Ows} {I J : Ows} {i j : Nat}
theorem MA.below (h : MA w0 w l) : Below w0.heap.size w0 w := Many.below h
theorem MA.pass (h : MA w0 w l) (hb : Below w.heap.size w w') : MA w0 w' l := Many.pass h hb
/-- owner i, and how it may turn. -/
theorem MA.at (h : MA w0 w l) (i : Nat) (hi : l[i]? = some I) : ∃ K, I.I K w ∧ (∀ k, K k → k < w.heap.size) ∧ (∀ k, K k → w0.heap.size ≤ k) ∧ ∀ (w' : World) (J : Ows) (K' : Nat → Prop), J.I K' w' → Turned K w K' w' → (∀ k, K' k → k < w'.heap.size) → MA w0 w' (l.set i J) := by
  obtain ⟨O, h1, h2⟩ := h
  refine ⟨O i, by have := h2 i; rwa [us_at hi] at this, h1.lt i, h1.lo i, fun w' J K' hJ ht hl => ?_⟩
  obtain ⟨f1, f2⟩ := h1.turn i ht hl
  show Many w0 w' _
  rw [← upd_us (lt_of_at hi)]
  refine ⟨_, f1, fun j => ?_⟩
  by_cases e : j = i
  · subst e
    rw [updI_same, updO_same]
    exact hJ
  · rw [updI_other _ e, updO_other _ e]
    exact (Us l j).keep _ w w' (h2 j) (f2 j e)
/-- owners i and j, and how they may turn together. -/
theorem MA.at2 (h : MA w0 w l) (i j : Nat) (hij : i ≠ j) (hi : l[i]? = some I) (hj : l[j]? = some J) : ∃ K H, I.I K w ∧ J.I H w ∧ (∀ k, K k → k < w.heap.size) ∧ (∀ k, H k → k < w.heap.size) ∧ (∀ k, K k → ¬ H k) ∧ ∀ (w' : World) (I' J' : Ows) (K' H' : Nat → Prop), I'.I K' w' → J'.I H' w' → Only (fun k => K k ∨ H k) w w' → (∀ k, K' k → (K k ∨ H k) ∨ w.heap.size ≤ k) → (∀ k, H' k → (K k ∨ H k) ∨ w.heap.size ≤ k) → (∀ k, K' k → k < w'.heap.size) → (∀ k, H' k → k < w'.heap.size) → (∀ k, K' k → ¬ H' k) → MA w0 w' ((l.set i I').set j J') := by
  obtain ⟨O, h1, h2⟩ := h
  refine ⟨O i, O j, by have := h2 i; rwa [us_at hi] at this, by have := h2 j; rwa [us_at hj] at this, h1.lt i, h1.lt j, fun k hk => h1.apart i j k hij hk, fun w' I' J' K' H' hI hJ ho hk hh lk lh ha => ?_⟩
  have f0 := (h1.drop j).own i (K := fun k => O i k ∨ O j k) (fun k hk => by
    rcases hk with e | e
    · exact Or.inl (by rw [updO_other _ hij]; exact e)
    · refine Or.inr ⟨h1.lt j k e, h1.lo j k e, fun q hq => ?_⟩
      by_cases e2 : q = j
      · subst e2; rw [updO_same] at hq; exact hq
      · rw [updO_other _ e2] at hq; exact h1.apart q j k e2 hq e)
  obtain ⟨f1, g1⟩ := f0.turn i (K := fun k => K' k ∨ H' k) (w' := w') ⟨by rw [updO_same]; exact ho, fun k hk' => by rw [updO_same]; exact hk'.elim (hk k) (hh k)⟩ (fun k hk' => hk'.elim (lk k) (lh k))
  have f2 := f1.own i (K := K') (fun k hk' => Or.inl (by rw [updO_same]; exact Or.inl hk'))
  have f3 := f2.own j (K := H') (fun k hk' => Or.inr ⟨lh k hk', by have := f1.lo i k (by rw [updO_same]; exact Or.inr hk'); exact this, fun q hq => by
    by_cases e : q = i
    · subst e
      rw [updO_same] at hq
      exact ha k hq hk'
    · rw [updO_other _ e] at hq
      have h4 := f1.apart q i k e hq
      rw [updO_same] at h4
      exact h4 (Or.inr hk')⟩)
  show Many w0 w' _
  have hil := lt_of_at hi
  rw [← upd_us (by rw [List.length_set]; exact lt_of_at hj), ← upd_us hil]
  refine ⟨_, f3, fun q => ?_⟩
  by_cases e : q = j
  · subst e
    rw [updI_same, updO_same]
    exact hJ
  · rw [updI_other _ e, updO_other _ e]
    by_cases e2 : q = i
    · subst e2
      rw [updI_same, updO_same]
      exact hI
    · rw [updI_other _ e2, updO_other _ e2, updO_other _ e2, updO_other _ e2, updO_other _ e]
      refine (Us l q).keep _ w w' (h2 q) fun k hk' => g1 q e2 k ?_
      rw [updO_other _ e2, updO_other _ e]
      exact hk'
/-- what is new goes to owner i. -/
theorem MA.own (h : MA w0 w l) (i : Nat) (hi : l[i]? = some I) (J : Ows) (hb : Below w.heap.size w w') (K : Nat → Prop) (hK : ∀ k, K k → w.heap.size ≤ k ∧ k < w'.heap.size) (hJ : J.I K w') : MA w0 w' (l.set i J) := by
  have h1 := Many.own h i J hb K hK hJ
  rwa [upd_us (lt_of_at hi)] at h1
/-- owner i gives all up. -/
theorem MA.drop (h : MA w0 w l) (i : Nat) (hi : l[i]? = some I) : MA w0 w (l.set i nobody) := by
  obtain ⟨K, _, h2, _, h4⟩ := h.at i hi
  exact h4 w nobody (fun _ => False) trivial ⟨Only.refl _ _, fun k hk => hk.elim⟩ fun k hk => hk.elim
end

/-! ### The owners -/
def OwP (c : Nat) (M D : Int) (S : List Pa) : Ows := ⟨fun K w => ∃ m L, PoW w c m M D L ∧ abs L = S ∧ ∀ k, PF c m L k → K k, fun K w w' h hk => by
  obtain ⟨m, L, h1, h2, h3⟩ := h
  exact ⟨m, L, h1.keep fun k hk' => hk k (h3 k hk'), h2, h3⟩⟩
def OwX (c : Nat) (M D : Int) (S : List Pa) : Ows := ⟨fun K w => ∃ v L, RPoW w c v M D L ∧ abs L = S ∧ ∀ k, RF c v L k → K k, fun K w w' h hk => by
  obtain ⟨m, L, h1, h2, h3⟩ := h
  exact ⟨m, L, h1.keep fun k hk' => hk k (h3 k hk'), h2, h3⟩⟩
def OwD (t : TypeId) (p : Nat) (zs : List Int) : Ows := ⟨fun K w => ∃ a cp, DiceW t w p a cp zs ∧ ∀ k, DiceK p a k → K k, fun K w w' h hk => by
  obtain ⟨a, cp, h1, h2⟩ := h
  exact ⟨a, cp, h1.keep fun k hk' => hk k (h2 k hk'), h2⟩⟩
def OwC (b : Nat) (o : Obj) : Ows := ⟨fun K w => w.heap[b]? = some o ∧ K b, fun K w w' h hk => ⟨(hk b h.2).trans h.1, h.2⟩⟩
/-- bytes in hand. -/
def OwU (v : Value) (zs : List Int) : Ows := ⟨fun K w => Row w 5 v (u8s zs) ∧ ∀ k, v.ownBlock = some k → K k, fun K w w' h hk => ⟨h.1.keep fun b hb => hk b (h.2 b hb), h.2⟩⟩
/-- a list in hand. -/
def OwL (v : Value) (S : List Pa) : Ows := ⟨fun K w => RowS w 72 3 v S.length (pst S) ∧ ∀ k, v.ownBlock = some k → K k, fun K w w' h hk => ⟨h.1.keep fun b hb => hk b (h.2 b hb), h.2⟩⟩
section
variable {w0 w w' : World} {l : List Ows} {c x p y : Nat} {M D : Int} {S S' : List Pa} {zs : List Int}
theorem PF.into {c m : Nat} {L L' : List Ab} {K : Nat → Prop} (h3 : ∀ k, PF c m L k → K k) (hf : ∀ k, PK m L' k → PK m L k ∨ w.heap.size ≤ k) (hd : ∀ k, k ∈ L'.flatMap (fun x => dblk x.ds) → k ∈ L.flatMap (fun x => dblk x.ds) ∨ w.heap.size ≤ k) : ∀ k, PF c m L' k → K k ∨ w.heap.size ≤ k := by
  rintro k (rfl | hk | hk)
  · exact Or.inl (h3 k (Or.inl rfl))
  · exact (hf k hk).imp (fun e => h3 k (Or.inr (Or.inl e))) id
  · exact (hd k hk).imp (fun e => h3 k (Or.inr (Or.inr e))) id
/-- a call at the table. -/
theorem MA.tab (h : MA w0 w l) (i : Nat) (hi : l[i]? = some (OwP c M D S)) : ∃ m L, PoW w c m M D L ∧ abs L = S ∧ ∀ w' S', Pz w w' c m M D L S' → MA w0 w' (l.set i (OwP c M D S')) := by
  obtain ⟨K, ⟨m, L, h1, h2, h3⟩, _, _, h4⟩ := h.at i hi
  refine ⟨m, L, h1, h2, fun w' S' hz => ?_⟩
  obtain ⟨L', a1, a2, a3⟩ := hz
  exact h4 w' _ (PF c m L') ⟨m, L', a1, a2, fun k hk => hk⟩ ⟨a3.only.mono fun k hk => h3 k (Or.inr (Or.inl hk)), PF.into h3 a3.foot a3.data⟩ a1.lt
/-- .. and at the document's. -/
theorem MA.ref (h : MA w0 w l) (i : Nat) (hi : l[i]? = some (OwX x M D S)) : ∃ v L, RPoW w x v M D L ∧ abs L = S ∧ ∀ w' S', RPz w w' x v M D L S' → MA w0 w' (l.set i (OwX x M D S')) := by
  obtain ⟨K, ⟨v, L, h1, h2, h3⟩, _, _, h4⟩ := h.at i hi
  refine ⟨v, L, h1, h2, fun w' S' hz => ?_⟩
  obtain ⟨v', L', a1, a2, a3⟩ := hz
  exact h4 w' _ (RF x v' L') ⟨v', L', a1, a2, fun k hk => hk⟩ ⟨a3.only.mono h3, fun k hk => (a3.foot k hk).imp (h3 k) id⟩ a1.lt
theorem MA.open0 (h : MA w0 w l) (i : Nat) (hi : l[i]? = some (OwP c M D S)) (n : Int) (hn : ipOk n) :
    Calls Try.prog 17 #[.pointer (some ⟨c, 0, none⟩), .int .i64 n] w fun e w' => e = .returned (.int .i64 (openE M S n)) ∧ Hid (MA w0 w' (l.set i (OwP c M D (openF M S n)))) := by
  obtain ⟨m, L, h1, rfl, h3⟩ := h.tab i hi
  exact (popen_any c m M D L n w h1 hn).mono fun e w' ⟨a, b⟩ => ⟨a, h3 w' _ b.out⟩
theorem MA.open1 (h : MA w0 w l) (i : Nat) (hi : l[i]? = some (OwX x M D S)) (n : Int) :
    Calls Try.prog 29 #[.pointer (some ⟨x, 0, none⟩), .int .i64 n] w fun e w' => e = .returned (.int .i64 (openE M S n)) ∧ Hid (MA w0 w' (l.set i (OwX x M D (openF M S n)))) := by
  obtain ⟨v, L, h1, rfl, h3⟩ := h.ref i hi
  exact (ropen_any x v M D L n w h1).mono fun e w' ⟨a, b⟩ => ⟨a, h3 w' _ b.out⟩
theorem MA.close0 (h : MA w0 w l) (i : Nat) (hi : l[i]? = some (OwP c M D S)) (n : Int) (hn : ipOk n) :
    Calls Try.prog 20 #[.pointer (some ⟨c, 0, none⟩), .int .i64 n] w fun e w' => e = .returned (.bool (alook S n).isSome) ∧ Hid (MA w0 w' (l.set i (OwP c M D (adel S n)))) := by
  obtain ⟨m, L, h1, rfl, h3⟩ := h.tab i hi
  exact (pclose_any c m M D L n w h1 hn).mono fun e w' ⟨a, b⟩ => ⟨a, h3 w' _ b.out⟩
theorem MA.close1 (h : MA w0 w l) (i : Nat) (hi : l[i]? = some (OwX x M D S)) (n : Int) :
    Calls Try.prog 33 #[.pointer (some ⟨x, 0, none⟩), .int .i64 n] w fun e w' => e = .returned (.bool (alook S n).isSome) ∧ Hid (MA w0 w' (l.set i (OwX x M D (adel S n)))) := by
  obtain ⟨v, L, h1, rfl, h3⟩ := h.ref i hi
  exact (rclose_any x v M D L n w h1).mono fun e w' ⟨a, b⟩ => ⟨a, h3 w' _ b.out⟩
theorem MA.put0 (h : MA w0 w l) (i : Nat) (hi : l[i]? = some (OwP c M D S)) (d : Dg) (va : Option Addr) (vc : Nat) (hok : d.ok) (hp : Part.ok w ⟨va, vc, d.zs⟩) (hz : d.zs.length ≤ 140737488355328) (hdr : ∀ y ∈ S, y.dr < 4611686018427387904) :
    Calls Try.prog 19 #[.pointer (some ⟨c, 0, none⟩), .agg (d.cells (.slice va d.zs.length vc)).toArray] w fun e w' => e = .returned (.int .i64 (putE D S d)) ∧ Hid (MA w0 w' (l.set i (OwP c M D (putF D S d)))) := by
  obtain ⟨m, L, h1, rfl, h3⟩ := h.tab i hi
  exact (pput_any c m M D L d va vc w h1 hok hp hz hdr).mono fun e w' ⟨a, b⟩ => ⟨a, h3 w' _ b.out⟩
theorem MA.put1 (h : MA w0 w l) (i : Nat) (hi : l[i]? = some (OwX x M D S)) (d : Dg) (va : Option Addr) (vc : Nat) (hok : d.ok) (hp : Part.ok w ⟨va, vc, d.zs⟩) (hz : d.zs.length ≤ 140737488355328) (hdr : ∀ y ∈ S, y.dr < 4611686018427387904) :
    Calls Try.prog 35 #[.pointer (some ⟨x, 0, none⟩), .agg (d.cells (.slice va d.zs.length vc)).toArray] w fun e w' => e = .returned (.int .i64 (putE D S d)) ∧ Hid (MA w0 w' (l.set i (OwX x M D (putF D S d)))) := by
  obtain ⟨v, L, h1, rfl, h3⟩ := h.ref i hi
  exact (rput_any x v M D L d va vc w h1 hok hp hz hdr).mono fun e w' ⟨a, b⟩ => ⟨a, h3 w' _ b.out⟩
theorem MA.take0_none (h : MA w0 w l) (i : Nat) (hi : l[i]? = some (OwP c M D S)) (n : Int) (hn : ipOk n) (hd : takeD S n = none) :
    Calls Try.prog 21 #[.pointer (some ⟨c, 0, none⟩), .int .i64 n] w fun e w' => e = .returned (.tuple #[dz, .bool false]) ∧ Hid (MA w0 w' (l.set i (OwP c M D S))) := by
  obtain ⟨m, L, h1, rfl, h3⟩ := h.tab i hi
  cases hl : look L n with
  | none => exact (ptake_closed c m M D L n w h1 hn hl).mono fun e w' ⟨a, b⟩ => ⟨a, h3 w' _ b.out⟩
  | some y =>
    have hy : y.ds = [] := by
      unfold takeD at hd
      rw [abs_some hl] at hd
      simpa [Ab.abs] using hd
    exact (ptake_void c m M D L n y w h1 hn hl hy).mono fun e w' ⟨a, b⟩ => ⟨a, h3 w' _ b.out⟩
theorem MA.take1_none (h : MA w0 w l) (i : Nat) (hi : l[i]? = some (OwX x M D S)) (n : Int) (hd : takeD S n = none) :
    Calls Try.prog 37 #[.pointer (some ⟨x, 0, none⟩), .int .i64 n] w fun e w' => e = .returned (.tuple #[dz, .bool false]) ∧ Hid (MA w0 w' (l.set i (OwX x M D S))) := by
  obtain ⟨v, L, h1, rfl, h3⟩ := h.ref i hi
  cases hl : look L n with
  | none => exact (rtake_closed x v M D L n w h1 hl).mono fun e w' ⟨a, b⟩ => ⟨a, h3 w' _ b.out⟩
  | some y =>
    have hy : y.ds = [] := by
      unfold takeD at hd
      rw [abs_some hl] at hd
      simpa [Ab.abs] using hd
    exact (rtake_void x v M D L n y w h1 hl hy).mono fun e w' ⟨a, b⟩ => ⟨a, h3 w' _ b.out⟩
theorem take_split {L : List Ab} {n : Int} {d : Dg} (hd : takeD (abs L) n = some d) : ∃ y v r, look L n = some y ∧ y.ds = (d, v) :: r ∧ takeF (abs L) n = aput (abs L) { y.abs with ds := r.map Prod.fst } := by
  cases hl : look L n with
  | none => unfold takeD at hd; rw [abs_none hl] at hd; simp at hd
  | some y =>
    have hd2 := hd
    unfold takeD at hd2
    rw [abs_some hl] at hd2
    simp only [Option.bind_some, Ab.abs] at hd2
    cases hy : y.ds with
    | nil => rw [hy] at hd2; simp at hd2
    | cons dv r =>
      obtain ⟨d', v⟩ := dv
      rw [hy] at hd2
      simp at hd2
      subst hd2
      refine ⟨y, v, r, rfl, hy, ?_⟩
      unfold takeF
      rw [abs_some hl]
      simp [Ab.abs, hy]
/-- a datagram is taken: its bytes are in hand j. -/
theorem MA.take0_some (h : MA w0 w l) (i j : Nat) (hij : i ≠ j) (hi : l[i]? = some (OwP c M D S)) (hj : l[j]? = some nobody) (n : Int) (hn : ipOk n) (d : Dg) (hd : takeD S n = some d) :
    Calls Try.prog 21 #[.pointer (some ⟨c, 0, none⟩), .int .i64 n] w fun e w' => ∃ va vc, e = .returned (.tuple #[.agg (d.cells (.slice va d.zs.length vc)).toArray, .bool true]) ∧ Hid (MA w0 w' ((l.set i (OwP c M D (takeF S n))).set j (OwU (.slice va d.zs.length vc) d.zs))) ∧ Hid d.ok := by
  obtain ⟨K, H, ⟨m, L, h1, rfl, h3⟩, -, hk, hh, ha, h4⟩ := h.at2 i j hij hi hj
  obtain ⟨y, v, r, hl, hy, hf⟩ := take_split hd
  rw [hf]
  refine (ptake_one c m M D L n y d v r w h1 hn hl hy).mono fun e w' ⟨a1, a2⟩ => ?_
  have T := a2.out
  obtain ⟨L', t1, t2, t3, t4⟩ := T.tab
  obtain ⟨va, vc, hv, _⟩ := T.row.form
  rw [u8s_len] at hv
  subst hv
  refine ⟨va, vc, a1, h4 w' _ _ (PF c m L') (fun k => (Value.slice va d.zs.length vc).ownBlock = some k) ⟨m, L', t1, t2, fun k hk => hk⟩ ⟨T.row, fun k hk => hk⟩ (t3.only.mono fun k hk => Or.inl (h3 k (Or.inr (Or.inl hk)))) (fun k hk => (PF.into h3 t3.foot t3.data k hk).imp Or.inl id) (fun k hk => Or.inl (Or.inl (h3 k (Or.inr (Or.inr (t4 k hk).1))))) t1.lt (fun k hk => T.row.lt hk) (fun k hk hv => ?_), T.ok⟩
  obtain ⟨cur, f, ho⟩ := T.row.obj hv
  rcases hk with rfl | hk | hk
  · rw [t1.box] at ho
    simp only [Option.some.injEq, Obj.cells.injEq] at ho
    exact absurd ho.2.1 (by decide)
  · exact PK.ne t1 ho (by decide) (by decide) hk
  · exact (t4 k hv).2 hk
theorem MA.take1_some (h : MA w0 w l) (i : Nat) (hi : l[i]? = some (OwX x M D S)) (n : Int) (d : Dg) (hd : takeD S n = some d) :
    Calls Try.prog 37 #[.pointer (some ⟨x, 0, none⟩), .int .i64 n] w fun e w' => ∃ va vc, e = .returned (.tuple #[.agg (d.cells (.slice va d.zs.length vc)).toArray, .bool true]) ∧ Hid (MA w0 w' (l.set i (OwX x M D (takeF S n)))) ∧ Hid (Row w' 5 (.slice va d.zs.length vc) (u8s d.zs)) := by
  obtain ⟨v, L, h1, rfl, h3⟩ := h.ref i hi
  obtain ⟨y, vd, r, hl, hy, hf⟩ := take_split hd
  rw [hf]
  refine (rtake_one x v M D L n y d vd r w h1 hl hy).mono fun e w' ⟨a1, a2⟩ => ?_
  obtain ⟨va, vc, hv, _⟩ := a2.out.row.form
  rw [u8s_len] at hv
  subst hv
  exact ⟨va, vc, a1, h3 w' _ a2.out.tab, a2.out.row⟩
end
end Go.Proofs.Ythipdchdbdmmnaa

/-
  Port: picks, dice, lists and the book, as owners.
-/
namespace Go.Proofs.Ythipdchdbdmmnaa
open Go.RowKit
set_option linter.all false

def OwK (kb gk n : Nat) : Ows := ⟨fun K w => ∃ ls ws lv wv, BK w kb (.pointer (some ⟨gk, 0, none⟩)) ls ws lv wv ∧ CT w ls ws ∧ ls.length = n ∧ (∀ k, BKK kb lv wv k → K k) ∧ ∀ j, j < n → ∀ k, blkOf (ls.getD j nilS) k ∨ blkOf (ws.getD j nilS) k → K k, fun K w w' h hk => by
  obtain ⟨ls, ws, lv, wv, h1, h2, h3, h4, h5⟩ := h
  exact ⟨ls, ws, lv, wv, h1.keep fun k hk' => hk k (h4 k hk'), ⟨fun j hj => by
    obtain ⟨q, q1, q2, q3⟩ := h2.eachP j hj
    exact ⟨q, q1.keep fun g hg => hk g (h5 j (by omega) g (Or.inl hg)), q2.keep fun g hg => hk g (h5 j (by omega) g (Or.inr hg)), q3⟩, h2.apart⟩, h3, h4, h5⟩⟩
def BookAll (gk : Nat) (L V : Value) (ls : List (Value × List Int)) (k : Nat) : Prop := InBook gk L V k ∨ ∃ p ∈ ls, p.1.ownBlock = some k
def OwB (gk n : Nat) : Ows := ⟨fun K w => ∃ L V ls, BookI w 0 gk L V ls ∧ ls.length = n ∧ ∀ k, BookAll gk L V ls k → K k, fun K w w' h hk => by
  obtain ⟨L, V, ls, h1, h2, h3⟩ := h
  exact ⟨L, V, ls, h1.keep (fun k hk' => hk k (h3 k (Or.inl hk'))) (fun p hp b hb => hk b (h3 b (Or.inr ⟨p, hp, hb⟩))), h2, h3⟩⟩
section
variable {w0 w w' : World} {l : List Ows} {c x p y : Nat} {M D : Int} {S S' : List Pa} {zs : List Int}
theorem MA.pick0 (h : MA w0 w l) (i j : Nat) (hij : i ≠ j) (hi : l[i]? = some (OwP c M D S)) (hj : l[j]? = some (OwD 92 p zs)) (hl : zs.length ≤ maxLen) :
    Calls Try.prog 18 #[.pointer (some ⟨c, 0, none⟩), .pointer (some ⟨p, 0, none⟩)] w fun e w' => e = .returned (.tuple #[.int .i64 (pickV M S zs), .int .i64 (pickE M S)]) ∧ Hid (MA w0 w' ((l.set i (OwP c M D (pickF M S zs))).set j (OwD 92 p (pickZ M S zs)))) := by
  obtain ⟨K, H, ⟨m, L, h1, rfl, h3⟩, ⟨a, cp, d1, d2⟩, hk, hh, ha, h4⟩ := h.at2 i j hij hi hj
  unfold pickV pickE pickF pickZ
  by_cases hf : ((abs L).length : Int) = M
  · simp only [if_pos hf]
    refine (ppick_no c m M D L p w h1 hf).mono fun e w' ⟨a1, k, a2⟩ => ⟨a1, ?_⟩
    have hb := below_drewN w k
    rw [← a2] at hb
    exact h4 w' _ _ K H ⟨m, L, h1.below hb, rfl, h3⟩ ⟨a, cp, d1.below hb, d2⟩ (Only.of_below hb) (fun k hk => Or.inl (Or.inl hk)) (fun k hk => Or.inl (Or.inr hk)) (fun k hk' => by have := hk k hk'; have := hb.size; omega) (fun k hk' => by have := hh k hk'; have := hb.size; omega) ha
  · simp only [if_neg hf]
    refine (ppick_yes c m M D L p a cp zs w h1 d1 hl hf).mono fun e w' ⟨a1, a2⟩ => ⟨a1, ?_⟩
    obtain ⟨L', t1, t2, t3, t4⟩ := a2.out.tab
    obtain ⟨a', c', e1, e2⟩ := a2.out.dice
    have hK : ∀ k, DiceK p a' k → DiceK p a k := fun k hk => hk.imp id fun e => by rw [← e2]; exact e
    refine h4 w' _ _ (PF c m L') (DiceK p a') ⟨m, L', t1, t2, fun k hk => hk⟩ ⟨a', c', e1, fun k hk => hk⟩ (a2.out.only.mono fun k hk => ?_) (fun k hk => (PF.into h3 t3 t4 k hk).imp Or.inl id) (fun k hk => Or.inl (Or.inr (d2 k (hK k hk)))) t1.lt e1.lt (fun k hk hd => ?_)
    · rcases hk with hk | rfl
      · exact Or.inl (h3 k (Or.inr (Or.inl hk)))
      · exact Or.inr (d2 k (Or.inl rfl))
    · have hd' := d2 k (hK k hd)
      rcases PF.into h3 t3 t4 k hk with e | e
      · exact ha k e hd'
      · have := hh k hd'; omega
theorem MA.pick1 (h : MA w0 w l) (i j : Nat) (hij : i ≠ j) (hi : l[i]? = some (OwX x M D S)) (hj : l[j]? = some (OwD 94 p zs)) (hl : zs.length ≤ maxLen) :
    Calls Try.prog 30 #[.pointer (some ⟨x, 0, none⟩), .pointer (some ⟨p, 0, none⟩)] w fun e w' => e = .returned (.tuple #[.int .i64 (pickV M S zs), .int .i64 (pickE M S)]) ∧ Hid (MA w0 w' ((l.set i (OwX x M D (pickF M S zs))).set j (OwD 94 p (pickZ M S zs)))) := by
  obtain ⟨K, H, ⟨v, L, h1, rfl, h3⟩, ⟨a, cp, d1, d2⟩, hk, hh, ha, h4⟩ := h.at2 i j hij hi hj
  unfold pickV pickE pickF pickZ
  by_cases hf : ((abs L).length : Int) = M
  · simp only [if_pos hf]
    refine (rpick_no x v M D L p w h1 hf).mono fun e w' ⟨a1, a2⟩ => ⟨a1, ?_⟩
    have hb := below_drewN w 1
    rw [show w.drewN 1 = w' from a2.symm] at hb
    exact h4 w' _ _ K H ⟨v, L, h1.below hb, rfl, h3⟩ ⟨a, cp, d1.below hb, d2⟩ (Only.of_below hb) (fun k hk => Or.inl (Or.inl hk)) (fun k hk => Or.inl (Or.inr hk)) (fun k hk' => by have := hk k hk'; have := hb.size; omega) (fun k hk' => by have := hh k hk'; have := hb.size; omega) ha
  · simp only [if_neg hf]
    refine (rpick_yes x v M D L p a cp zs w h1 d1 hl hf).mono fun e w' ⟨a1, a2⟩ => ⟨a1, ?_⟩
    obtain ⟨v', L', t1, t2, t3⟩ := a2.out.tab
    obtain ⟨a', c', e1, e2⟩ := a2.out.dice
    have hK : ∀ k, DiceK p a' k → DiceK p a k := fun k hk => hk.imp id fun e => by rw [← e2]; exact e
    have hR : ∀ k, RF x v' L' k → K k ∨ w.heap.size ≤ k := fun k hk => (t3 k hk).imp (h3 k) id
    refine h4 w' _ _ (RF x v' L') (DiceK p a') ⟨v', L', t1, t2, fun k hk => hk⟩ ⟨a', c', e1, fun k hk => hk⟩ (a2.out.only.mono fun k hk => ?_) (fun k hk => (hR k hk).imp Or.inl id) (fun k hk => Or.inl (Or.inr (d2 k (hK k hk)))) t1.lt e1.lt (fun k hk hd => ?_)
    · rcases hk with hk | rfl
      · exact Or.inl (h3 k hk)
      · exact Or.inr (d2 k (Or.inl rfl))
    · have hd' := d2 k (hK k hd)
      rcases hR k hk with e | e
      · exact ha k e hd'
      · have := hh k hd'; omega
theorem MA.left0 (h : MA w0 w l) (j : Nat) (hj : l[j]? = some (OwD 92 p zs)) :
    Calls Try.prog 31 #[.pointer (some ⟨p, 0, none⟩)] w fun e w' => e = .returned (.int .i64 zs.length) ∧ w' = w := by
  obtain ⟨K, ⟨a, cp, d1, d2⟩, _⟩ := h.at j hj
  exact left_any p a cp zs w d1
theorem MA.left1 (h : MA w0 w l) (j : Nat) (hj : l[j]? = some (OwD 94 p zs)) :
    Calls Try.prog 32 #[.pointer (some ⟨p, 0, none⟩)] w fun e w' => e = .returned (.int .i64 zs.length) ∧ w' = w := by
  obtain ⟨K, ⟨a, cp, d1, d2⟩, _⟩ := h.at j hj
  exact refLeft_any p a cp zs w d1
theorem MA.box {b : Nat} {A : Array Value} {t : TypeId} {f : Nat × Nat} (h : MA w0 w l) (j : Nat) (hj : l[j]? = some (OwC b (.cells A t f))) (o : Nat) : w.cell? ⟨b, o, none⟩ = A[o]? := by
  obtain ⟨K, h1, _⟩ := h.at j hj
  exact cell_of_heap h1.1 o
theorem MA.hold {v : Value} (h : MA w0 w l) (j : Nat) (hj : l[j]? = some (OwU v zs)) : Row w 5 v (u8s zs) := by
  obtain ⟨K, h1, _⟩ := h.at j hj
  exact h1.1
theorem MA.list {v : Value} (h : MA w0 w l) (j : Nat) (hj : l[j]? = some (OwL v S)) : RowS w 72 3 v S.length (pst S) := by
  obtain ⟨K, h1, _⟩ := h.at j hj
  exact h1.1
/-- a box is laid. -/
theorem MA.push (h : MA w0 w l) (j : Nat) {I : Ows} (hj : l[j]? = some I) (o : Obj) : MA w0 (w.alloc o) (l.set j (OwC w.heap.size o)) :=
  h.own j hj _ (bpush (Below.refl _ _) o) (fun k => k = w.heap.size) (fun k hk => by subst hk; exact ⟨Nat.le_refl _, heap_lt (heap_new w o)⟩) ⟨heap_new w o, rfl⟩
/-- a list is looked at: it is in hand j. -/
theorem MA.look0 (h : MA w0 w l) (i j : Nat) (hi : l[i]? = some (OwP c M D S)) {I : Ows} (hj : l[j]? = some I) :
    Calls Try.prog 9 #[.pointer (some ⟨c, 0, none⟩)] w fun e w' => ∃ la lc, e = .returned (.slice la S.length lc) ∧ Hid (MA w0 w' (l.set j (OwL (.slice la S.length lc) S))) := by
  obtain ⟨m, L, h1, rfl, h3⟩ := h.tab i hi
  refine (plook_any c m M D L w h1).mono fun e w' ⟨la, lc, a1, a2⟩ => ⟨la, lc, a1, ?_⟩
  have T := a2.out
  exact h.own j hj _ T.below (fun k => (Value.slice la (abs L).length lc).ownBlock = some k) (fun k hk => ⟨T.new k hk, T.row.lt hk⟩) ⟨T.row, fun k hk => hk⟩
theorem MA.look1 (h : MA w0 w l) (i j : Nat) (hi : l[i]? = some (OwX x M D S)) {I : Ows} (hj : l[j]? = some I) :
    Calls Try.prog 40 #[.pointer (some ⟨x, 0, none⟩)] w fun e w' => ∃ la lc, e = .returned (.slice la S.length lc) ∧ Hid (MA w0 w' (l.set j (OwL (.slice la S.length lc) S))) := by
  obtain ⟨v, L, h1, rfl, h3⟩ := h.ref i hi
  refine (rlook_any x v M D L w h1).mono fun e w' ⟨la, lc, a1, a2⟩ => ⟨la, lc, a1, ?_⟩
  have T := a2.out
  exact h.own j hj _ T.below (fun k => (Value.slice la (abs L).length lc).ownBlock = some k) (fun k hk => ⟨T.new k hk, T.row.lt hk⟩) ⟨T.row, fun k hk => hk⟩
/-- what a table is as a list. -/
theorem PoW.aok {m : Nat} {L : List Ab} (h : PoW w c m M D L) : AOk M D (abs L) := by
  refine ⟨?_, by rw [abs_len]; exact h.len, fun x hx => ?_, fun x hx => ?_, fun x hx => ?_⟩
  · exact List.pairwise_map.2 h.map.rise
  all_goals
    obtain ⟨y, hy, rfl⟩ := List.mem_map.1 hx
    first
    | (show ((y.ds.map Prod.fst).length : Int) ≤ D; rw [List.length_map]; exact h.deep y hy)
    | exact h.nums y hy
    | exact (h.ents y hy).dr
theorem MA.aok (h : MA w0 w l) (i : Nat) (hi : l[i]? = some (OwP c M D S)) : AOk M D S ∧ M ≤ 16 ∧ D ≤ 32 := by
  obtain ⟨m, L, h1, rfl, h3⟩ := h.tab i hi
  exact ⟨h1.aok, h1.most.2, h1.depth.2⟩
/-- the book takes what is in hand j. -/
theorem MA.taken {gk nb : Nat} {v : Value} (h : MA w0 w l) (i j : Nat) (hij : i ≠ j) (hi : l[i]? = some (OwB gk nb)) (hj : l[j]? = some (OwU v zs)) (hz : ∀ z, z ∈ zs → 0 ≤ z ∧ z ≤ 255) (hl : zs.length ≤ 140737488351232) (hf : nb < 4398046511104) :
    Calls Try.prog 39 #[.pointer (some ⟨gk, 0, none⟩), v] w fun e w' => e = .returned (.tuple #[]) ∧ Hid (MA w0 w' ((l.set i (OwB gk (nb + 1))).set j nobody)) := by
  obtain ⟨K, H, ⟨L, V, ls, h1, h2, h3⟩, ⟨h5, h6⟩, hk, hh, ha, h4⟩ := h.at2 i j hij hi hj
  refine (take_any gk L V v ls zs 0 w h1 (Nat.zero_le _) h5 hz hl (by omega) fun b hb => ⟨Nat.zero_le _, fun e => ha b (h3 b (Or.inl e)) (h6 b hb), fun p hp e => ha b (h3 b (Or.inr ⟨p, hp, e⟩)) (h6 b hb)⟩).mono ?_
  rintro e w' ⟨a1, L', V', b1, b2, b3, b4⟩
  have hs := b4.size
  have hin : ∀ k, BookAll gk L' V' (ls ++ [(v, zs)]) k → (K k ∨ H k) ∨ w.heap.size ≤ k := by
    rintro k (hk | ⟨p, hp, hk⟩)
    · exact (b3 k hk).imp (fun e => Or.inl (h3 k (Or.inl e))) id
    · rcases List.mem_append.1 hp with hp | hp
      · exact Or.inl (Or.inl (h3 k (Or.inr ⟨p, hp, hk⟩)))
      · simp only [List.mem_cons, List.mem_nil_iff, or_false] at hp
        subst hp
        exact Or.inl (Or.inr (h6 k hk))
  refine ⟨a1, h4 w' _ nobody (BookAll gk L' V' (ls ++ [(v, zs)])) (fun _ => False) ⟨L', V', _, b1, by simp [h2], fun k hk => hk⟩ trivial ⟨b4.os, b4.tape, b4.output, hs, fun k hk hl => b2 k hl fun e => hk (Or.inl (h3 k (Or.inl e)))⟩ hin (fun k hk => hk.elim) (fun k hk => ?_) (fun k hk => hk.elim) (fun k _ hk => hk)⟩
  rcases hk with hk | ⟨p, hp, hk⟩
  · exact b1.lt k hk
  · exact (b1.rows p hp).1.lt hk
/-- .. and where nothing is in hand. -/
theorem MA.taken_nil {gk nb : Nat} (h : MA w0 w l) (i : Nat) (hi : l[i]? = some (OwB gk nb)) (hf : nb < 4398046511104) :
    Calls Try.prog 39 #[.pointer (some ⟨gk, 0, none⟩), .slice none 0 0] w fun e w' => e = .returned (.tuple #[]) ∧ Hid (MA w0 w' (l.set i (OwB gk (nb + 1)))) := by
  obtain ⟨K, ⟨L, V, ls, h1, h2, h3⟩, hk, hlo, h4⟩ := h.at i hi
  refine (take_any gk L V (.slice none 0 0) ls [] 0 w h1 (Nat.zero_le _) (Row.nil _ _) (by simp) (by simp) (by omega) fun b hb => by simp [Value.ownBlock] at hb).mono ?_
  rintro e w' ⟨a1, L', V', b1, b2, b3, b4⟩
  have hs := b4.size
  refine ⟨a1, h4 w' _ (BookAll gk L' V' (ls ++ [(.slice none 0 0, [])])) ⟨L', V', _, b1, by simp [h2], fun k hk => hk⟩ ⟨⟨b4.os, b4.tape, b4.output, hs, fun k hk hl => b2 k hl fun e => hk (h3 k (Or.inl e))⟩, ?_⟩ ?_⟩
  · rintro k (hk | ⟨p, hp, hk⟩)
    · exact (b3 k hk).imp (fun e => h3 k (Or.inl e)) id
    · rcases List.mem_append.1 hp with hp | hp
      · exact Or.inl (h3 k (Or.inr ⟨p, hp, hk⟩))
      · simp only [List.mem_cons, List.mem_nil_iff, or_false] at hp
        subst hp
        simp [Value.ownBlock] at hk
  · rintro k (hk | ⟨p, hp, hk⟩)
    · exact b1.lt k hk
    · exact (b1.rows p hp).1.lt hk
/-- stands: what is kept is given up. -/
theorem MA.stands {kb gk n nb : Nat} (h : MA w0 w l) (i j : Nat) (hij : i ≠ j) (hi : l[i]? = some (OwK kb gk n)) (hj : l[j]? = some (OwB gk nb)) (hn : (n + 1) * 24 ≤ 140737488355328) :
    Calls Try.prog 15 #[.pointer (some ⟨kb, 0, none⟩)] w fun e w' => e = .returned (.bool true) ∧ Hid (MA w0 w' ((l.set i nobody).set j nobody)) := by
  obtain ⟨K, H, ⟨ls, ws, lv, wv, h1, h2, h3, h5, h6⟩, ⟨L, V, bs, b1, b2, b3⟩, hk, hh, ha, h4⟩ := h.at2 i j hij hi hj
  have hon : ∀ wr, StI w kb (.pointer (some ⟨gk, 0, none⟩)) lv ls wr → Only K w wr := fun wr h => h.only.mono fun k ⟨j, hj, hk⟩ => h6 j (by omega) k (Or.inl hk)
  refine (stands_any kb _ (fun wr w' => Only (BookAll gk L V bs) wr w') ls ws lv wv (by rw [h3]; exact hn) w h1 h2 fun wr hs => ?_).mono ?_
  · have ho := hon wr hs
    have hb : BookI wr 0 gk L V bs := b1.keep (fun k hk => ho.block k (fun e => ha k e (b3 k (Or.inl hk))) (hh k (b3 k (Or.inl hk)))) (fun p hp b hb => ho.block b (fun e => ha b e (b3 b (Or.inr ⟨p, hp, hb⟩))) (hh b (b3 b (Or.inr ⟨p, hp, hb⟩))))
    refine (owned_any gk L V bs 0 wr hb (Nat.zero_le _)).mono ?_
    rintro e w' ⟨a1, a2, a3⟩
    exact ⟨a1, a2.os, a2.tape, a2.output, a2.size, fun k hk hl => a3 k hl (fun e => hk (Or.inl e)) fun p hp e => hk (Or.inr ⟨p, hp, e⟩)⟩
  · rintro e w' ⟨a1, a2⟩
    obtain ⟨wr, a3, a4⟩ := a2.out
    have ho := hon wr a3
    refine ⟨a1, h4 w' nobody nobody (fun _ => False) (fun _ => False) trivial trivial ((ho.mono fun k hk => Or.inl hk).trans (a4.mono fun k hk => Or.inr (b3 k hk))) ?_ ?_ ?_ ?_ ?_⟩ <;> intro k hk <;> first | exact hk.elim | (intro; exact hk.elim)
end
end Go.Proofs.Ythipdchdbdmmnaa

/-
  Port: a pair, and a call of a script at both: Open, Close, Pick, what is none.
-/
namespace Go.Proofs.Ythipdchdbdmmnaa
open Go.RowKit
set_option linter.all false

/-- small enough: what was dropped, and what waits. -/
def Sm (N : Nat) (S : List Pa) : Prop := ∀ y ∈ S, y.dr ≤ N ∧ ∀ d ∈ y.ds, d.zs.length ≤ 2147483647
theorem mem_aput' {S : List Pa} {x y : Pa} (h : y ∈ aput S x) : y = x ∨ y ∈ S := by
  unfold aput at h
  rcases List.mem_append.1 h with h | h
  · exact Or.inr (List.mem_filter.1 h).1
  · rcases List.mem_cons.1 h with h | h
    · exact Or.inl h
    · exact Or.inr (List.mem_filter.1 h).1
theorem alook_in {S : List Pa} {i : Int} {x : Pa} (h : alook S i = some x) : x ∈ S := List.mem_of_find?_eq_some h
theorem Sm.next {N : Nat} {S : List Pa} (h : Sm N S) : Sm (N + 1) S := fun y hy => ⟨by have := (h y hy).1; omega, (h y hy).2⟩
theorem Sm.aput {N : Nat} {S : List Pa} (h : Sm N S) {x : Pa} (hx : x.dr ≤ N ∧ ∀ d ∈ x.ds, d.zs.length ≤ 2147483647) : Sm N (Go.Proofs.Ythipdchdbdmmnaa.aput S x) := fun y hy => by
  rcases mem_aput' hy with rfl | h1
  · exact hx
  · exact h y h1
theorem Sm.open {N : Nat} {M : Int} {S : List Pa} (h : Sm N S) (n : Int) : Sm N (openF M S n) := by
  unfold openF
  split
  · exact h.aput ⟨by simp only; omega, by simp⟩
  · exact h
theorem Sm.close {N : Nat} {S : List Pa} (h : Sm N S) (n : Int) : Sm N (adel S n) := fun y hy => h y (List.mem_filter.1 hy).1
theorem Sm.pick {N : Nat} {M : Int} {S : List Pa} (h : Sm N S) (zs : List Int) : Sm N (pickF M S zs) := by
  unfold pickF
  split
  · exact h
  · exact h.aput ⟨by simp only; omega, by simp⟩
theorem Sm.put {N : Nat} {D : Int} {S : List Pa} (h : Sm N S) (d : Dg) (hd : d.zs.length ≤ 2147483647) : Sm (N + 1) (putF D S d) := by
  unfold putF
  split
  · exact h.next
  · next x hx =>
    have := h x (alook_in hx)
    split
    · exact h.next.aput ⟨by simp only; omega, this.2⟩
    · refine h.next.aput ⟨by simp only; omega, fun e he => ?_⟩
      rcases List.mem_append.1 he with he | he
      · exact this.2 e he
      · simp only [List.mem_cons, List.mem_nil_iff, or_false] at he
        subst he
        exact hd
theorem Sm.take {N : Nat} {S : List Pa} (h : Sm N S) (n : Int) : Sm N (takeF S n) := by
  unfold takeF
  split
  · exact h
  · next x hx =>
    split
    · exact h
    · next a r hr =>
      have := h x (alook_in hx)
      exact h.aput ⟨this.1, fun d hd => this.2 d (by rw [hr]; exact List.mem_cons_of_mem _ hd)⟩
theorem Sm.taken {N : Nat} {S : List Pa} (h : Sm N S) {n : Int} {d : Dg} (hd : takeD S n = some d) : d.zs.length ≤ 2147483647 := by
  unfold takeD at hd
  cases hl : alook S n with
  | none => rw [hl] at hd; simp at hd
  | some x =>
    rw [hl] at hd
    simp only [Option.bind_some] at hd
    exact (h x (alook_in hl)).2 d (List.mem_of_mem_head? hd)
theorem pickZ_len {M : Int} {S : List Pa} {zs : List Int} (h : zs.length ≤ maxLen) : (pickZ M S zs).length ≤ maxLen := by
  unfold pickZ
  split
  · exact h
  · rw [List.length_tail]; omega

/-- a pair's box. -/
abbrev bxV (c x d y : Nat) : Obj := .cells #[.pointer (some ⟨c, 0, none⟩), .pointer (some ⟨x, 0, none⟩), .pointer (some ⟨d, 0, none⟩), .pointer (some ⟨y, 0, none⟩)] 39 (0, 0)
abbrev opV (o : OpP) : Obj := .cells #[.int .i64 o.k, .int .i64 o.n, .int .u32 o.si, .int .u32 o.di, .int .i64 o.s, .int .i64 o.d, o.pt.val] 55 (0, 0)
abbrev opA (o : OpP) : Value := .agg #[.int .i64 o.k, .int .i64 o.n, .int .u32 o.si, .int .u32 o.di, .int .i64 o.s, .int .i64 o.d, o.pt.val]
/-- the owners: a table, the document's; the other pair's; the dice; what is kept; hands; the pairs' boxes; a call's boxes. -/
abbrev ST (P' X' b b' P X D Y K B H G o e f : Ows) : List Ows := [P, X, P', X', D, Y, K, B, H, G, b, b', o, e, f]
/-- a pair behind N calls; the other one's owners are any. -/
structure PlX (P' X' b' : Ows) (w0 w : World) (c x d y kb gk b : Nat) (M D : Int) (N : Nat) : Prop where
  ex : ∃ S zs n nb, MA w0 w (ST P' X' (OwC b (bxV c x d y)) b' (OwP c M D S) (OwX x M D S) (OwD 92 d zs) (OwD 94 y zs) (OwK kb gk n) (OwB gk nb) nobody nobody nobody nobody nobody) ∧ Sm N S ∧ n ≤ N ∧ nb ≤ N ∧ zs.length ≤ maxLen
/-- what a call of a script leaves. -/
def StepQ (P' X' b' : Ows) (w0 : World) (c x d y kb gk b : Nat) (M D : Int) (N : Nat) (e : Ending) (w' : World) : Prop := e = .returned (.bool true) ∧ Hid (PlX P' X' b' w0 w' c x d y kb gk b M D (N + 1))
section
variable {P' X' b' : Ows} {w0 w : World} {c x d y kb gk b : Nat} {M D : Int} {N : Nat}
set_option maxRecDepth 20000 in
set_option maxHeartbeats 2000000 in
theorem step_open (h : PlX P' X' b' w0 w c x d y kb gk b M D N) (o : OpP) (hk : o.k = 1) (hn : ipOk o.n) :
    Calls Try.prog 14 #[.pointer (some ⟨b, 0, none⟩), .pointer (some ⟨kb, 0, none⟩), opA o] w (StepQ P' X' b' w0 c x d y kb gk b M D N) := by
  obtain ⟨S, zs, n, nb, h, hS, hn1, hn2, hz⟩ := h.ex
  have h2 : MA w0 (w.alloc (opV o)) (ST P' X' (OwC b (bxV c x d y)) b' (OwP c M D S) (OwX x M D S) (OwD 92 d zs) (OwD 94 y zs) (OwK kb gk n) (OwB gk nb) nobody nobody (OwC w.heap.size (opV o)) nobody nobody) := h.push 12 rfl (opV o)
  have h1 := h2.pass (bdrewN _ 1)
  have bx : ∀ (W : World) (P X : Ows), MA w0 W (ST P' X' (OwC b (bxV c x d y)) b' P X (OwD 92 d zs) (OwD 94 y zs) (OwK kb gk n) (OwB gk nb) nobody nobody (OwC w.heap.size (opV o)) nobody nobody) → (∀ q, W.cell? ⟨w.heap.size, q, none⟩ = (#[.int .i64 o.k, .int .i64 o.n, .int .u32 o.si, .int .u32 o.di, .int .i64 o.s, .int .i64 o.d, o.pt.val] : Array Value)[q]?) ∧ (∀ q, W.cell? ⟨b, q, none⟩ = (#[.pointer (some ⟨c, 0, none⟩), .pointer (some ⟨x, 0, none⟩), .pointer (some ⟨d, 0, none⟩), .pointer (some ⟨y, 0, none⟩)] : Array Value)[q]?) := fun W P X h => ⟨h.box 12 rfl, h.box 10 rfl⟩
  have HS0 := hid (bx _ _ _ h1)
  have HA := hid (h1.open0 0 rfl o.n hn)
  have HB := hid (fun w1 (y' : MA w0 w1 (ST P' X' (OwC b (bxV c x d y)) b' (OwP c M D (openF M S o.n)) (OwX x M D S) (OwD 92 d zs) (OwD 94 y zs) (OwK kb gk n) (OwB gk nb) nobody nobody (OwC w.heap.size (opV o)) nobody nobody)) => And.intro (bx _ _ _ y') (y'.open1 1 rfl o.n))
  have HE : Hid (∀ w2, MA w0 w2 (ST P' X' (OwC b (bxV c x d y)) b' (OwP c M D (openF M S o.n)) (OwX x M D (openF M S o.n)) (OwD 92 d zs) (OwD 94 y zs) (OwK kb gk n) (OwB gk nb) nobody nobody (OwC w.heap.size (opV o)) nobody nobody) → ((∀ q, w2.cell? ⟨w.heap.size, q, none⟩ = (#[.int .i64 o.k, .int .i64 o.n, .int .u32 o.si, .int .u32 o.di, .int .i64 o.s, .int .i64 o.d, o.pt.val] : Array Value)[q]?) ∧ (∀ q, w2.cell? ⟨b, q, none⟩ = (#[.pointer (some ⟨c, 0, none⟩), .pointer (some ⟨x, 0, none⟩), .pointer (some ⟨d, 0, none⟩), .pointer (some ⟨y, 0, none⟩)] : Array Value)[q]?)) ∧ StepQ P' X' b' w0 c x d y kb gk b M D N (.returned (.bool true)) w2) :=
    fun w2 y' => ⟨bx _ _ _ y', rfl, ⟨_, zs, n, nb, y'.drop 12 rfl, (hS.open o.n).next, by omega, by omega, hz⟩⟩
  clear h h1 h2 bx hS hn hn1 hn2 hz
  obtain ⟨k, m, si, di, s, dd, pt⟩ := o
  simp only at hk HS0 HA HB HE ⊢
  subst hk
  generalize openE M S m = F at *
  generalize openF M S m = S2 at *
  generalize pt.val = pv at *
  go_enter Try.func14, Try.ntmps14
  go_wp2
  go_region_held3 (fun s' => (∀ q, s'.cell? ⟨w.heap.size, q, none⟩ = (#[.int .i64 1, .int .i64 m, .int .u32 si, .int .u32 di, .int .i64 s, .int .i64 dd, pv] : Array Value)[q]?) ∧ (∀ q, s'.cell? ⟨b, q, none⟩ = (#[.pointer (some ⟨c, 0, none⟩), .pointer (some ⟨x, 0, none⟩), .pointer (some ⟨d, 0, none⟩), .pointer (some ⟨y, 0, none⟩)] : Array Value)[q]?)) (first | exact HS0.out | exact HS1.out | exact HS2.out | go_keep) (first
    | (go_at_call 17; refine HA.out.mono ?_; rintro e w1 ⟨rfl, HQ⟩; have HB1 := hid (HB.out w1 HQ.out).2; have HS1 := hid (HB.out w1 HQ.out).1; clear HQ)
    | (go_at_call 29; refine HB1.out.mono ?_; rintro e w2 ⟨rfl, HQ⟩; have HS2 := hid (HE.out w2 HQ.out).1; have HF := hid (HE.out w2 HQ.out).2; clear HQ))
  go_wp2
  go_ret
  simp only [beq_self_eq_true]
  exact HF.out
end
end Go.Proofs.Ythipdchdbdmmnaa

/-
  Port: a call of a script at both: Close, Pick, no kind. Written by mkpmd.py.
-/
namespace Go.Proofs.Ythipdchdbdmmnaa
open Go.RowKit
set_option linter.all false

section
variable {P' X' b' : Ows} {w0 w : World} {c x d y kb gk b : Nat} {M D : Int} {N : Nat}
set_option maxRecDepth 20000 in
set_option maxHeartbeats 2000000 in
theorem step_close (h : PlX P' X' b' w0 w c x d y kb gk b M D N) (o : OpP) (hk : o.k = 3) (hn : ipOk o.n) :
    Calls Try.prog 14 #[.pointer (some ⟨b, 0, none⟩), .pointer (some ⟨kb, 0, none⟩), opA o] w (StepQ P' X' b' w0 c x d y kb gk b M D N) := by
  obtain ⟨S, zs, n, nb, h, hS, hn1, hn2, hz⟩ := h.ex
  have h2 : MA w0 (w.alloc (opV o)) (ST P' X' (OwC b (bxV c x d y)) b' (OwP c M D S) (OwX x M D S) (OwD 92 d zs) (OwD 94 y zs) (OwK kb gk n) (OwB gk nb) nobody nobody (OwC w.heap.size (opV o)) nobody nobody) := h.push 12 rfl (opV o)
  have h1 := h2.pass (bdrewN _ 1)
  have bx : ∀ (W : World) (P X D Y K B H G e f : Ows), MA w0 W (ST P' X' (OwC b (bxV c x d y)) b' P X D Y K B H G (OwC w.heap.size (opV o)) e f) → ((∀ q, W.cell? ⟨w.heap.size, q, none⟩ = (#[.int .i64 o.k, .int .i64 o.n, .int .u32 o.si, .int .u32 o.di, .int .i64 o.s, .int .i64 o.d, o.pt.val] : Array Value)[q]?) ∧ (∀ q, W.cell? ⟨b, q, none⟩ = (#[.pointer (some ⟨c, 0, none⟩), .pointer (some ⟨x, 0, none⟩), .pointer (some ⟨d, 0, none⟩), .pointer (some ⟨y, 0, none⟩)] : Array Value)[q]?)) := fun W P X D Y K B H G e f h => ⟨h.box 12 rfl, h.box 10 rfl⟩
  have HS0 := hid (bx _ _ _ _ _ _ _ _ _ _ _ h1)
  have HA := hid (h1.close0 0 rfl o.n hn)
  have HB := hid (fun w1 (y' : MA w0 w1 (ST P' X' (OwC b (bxV c x d y)) b' (OwP c M D (adel S o.n)) (OwX x M D S) (OwD 92 d zs) (OwD 94 y zs) (OwK kb gk n) (OwB gk nb) nobody nobody (OwC w.heap.size (opV o)) nobody nobody)) => And.intro (bx _ _ _ _ _ _ _ _ _ _ _ y') (y'.close1 1 rfl o.n))
  have HE : Hid (∀ w2, MA w0 w2 (ST P' X' (OwC b (bxV c x d y)) b' (OwP c M D (adel S o.n)) (OwX x M D (adel S o.n)) (OwD 92 d zs) (OwD 94 y zs) (OwK kb gk n) (OwB gk nb) nobody nobody (OwC w.heap.size (opV o)) nobody nobody) → ((∀ q, w2.cell? ⟨w.heap.size, q, none⟩ = (#[.int .i64 o.k, .int .i64 o.n, .int .u32 o.si, .int .u32 o.di, .int .i64 o.s, .int .i64 o.d, o.pt.val] : Array Value)[q]?) ∧ (∀ q, w2.cell? ⟨b, q, none⟩ = (#[.pointer (some ⟨c, 0, none⟩), .pointer (some ⟨x, 0, none⟩), .pointer (some ⟨d, 0, none⟩), .pointer (some ⟨y, 0, none⟩)] : Array Value)[q]?)) ∧ StepQ P' X' b' w0 c x d y kb gk b M D N (.returned (.bool true)) w2) :=
    fun w2 y' => ⟨bx _ _ _ _ _ _ _ _ _ _ _ y', rfl, ⟨_, zs, n, nb, y'.drop 12 rfl, (hS.close o.n).next, by omega, by omega, hz⟩⟩
  clear h h1 h2 bx hS hn hn1 hn2 hz
  obtain ⟨k, m, si, di, s, dd, pt⟩ := o
  simp only at hk HS0 HA HB HE ⊢
  subst hk
  generalize (alook S m).isSome = F at *
  generalize adel S m = S2 at *
  generalize pt.val = pv at *
  go_enter Try.func14, Try.ntmps14
  go_wp2
  go_region_held3 (fun s' => ((∀ q, s'.cell? ⟨w.heap.size, q, none⟩ = (#[.int .i64 3, .int .i64 m, .int .u32 si, .int .u32 di, .int .i64 s, .int .i64 dd, pv] : Array Value)[q]?) ∧ (∀ q, s'.cell? ⟨b, q, none⟩ = (#[.pointer (some ⟨c, 0, none⟩), .pointer (some ⟨x, 0, none⟩), .pointer (some ⟨d, 0, none⟩), .pointer (some ⟨y, 0, none⟩)] : Array Value)[q]?))) (first | exact HS0.out | exact HS1.out | exact HS2.out | go_keep) (first
    | (go_at_call 20; refine HA.out.mono ?_; rintro e w1 ⟨rfl, HQ⟩; have HB1 := hid (HB.out w1 HQ.out).2; have HS1 := hid (HB.out w1 HQ.out).1; clear HQ)
    | (go_at_call 33; refine HB1.out.mono ?_; rintro e w2 ⟨rfl, HQ⟩; have HS2 := hid (HE.out w2 HQ.out).1; have HF := hid (HE.out w2 HQ.out).2; clear HQ))
  go_wp2
  go_ret
  simp only [beq_self_eq_true]
  exact HF.out
set_option maxRecDepth 20000 in
set_option maxHeartbeats 2000000 in
theorem step_pick (h : PlX P' X' b' w0 w c x d y kb gk b M D N) (o : OpP) (hk : o.k = 2) :
    Calls Try.prog 14 #[.pointer (some ⟨b, 0, none⟩), .pointer (some ⟨kb, 0, none⟩), opA o] w (StepQ P' X' b' w0 c x d y kb gk b M D N) := by
  obtain ⟨S, zs, n, nb, h, hS, hn1, hn2, hz⟩ := h.ex
  have h2 : MA w0 (w.alloc (opV o)) (ST P' X' (OwC b (bxV c x d y)) b' (OwP c M D S) (OwX x M D S) (OwD 92 d zs) (OwD 94 y zs) (OwK kb gk n) (OwB gk nb) nobody nobody (OwC w.heap.size (opV o)) nobody nobody) := h.push 12 rfl (opV o)
  have bx : ∀ (W : World) (P X D Y K B H G e f : Ows), MA w0 W (ST P' X' (OwC b (bxV c x d y)) b' P X D Y K B H G (OwC w.heap.size (opV o)) e f) → ((∀ q, W.cell? ⟨w.heap.size, q, none⟩ = (#[.int .i64 o.k, .int .i64 o.n, .int .u32 o.si, .int .u32 o.di, .int .i64 o.s, .int .i64 o.d, o.pt.val] : Array Value)[q]?) ∧ (∀ q, W.cell? ⟨b, q, none⟩ = (#[.pointer (some ⟨c, 0, none⟩), .pointer (some ⟨x, 0, none⟩), .pointer (some ⟨d, 0, none⟩), .pointer (some ⟨y, 0, none⟩)] : Array Value)[q]?)) := fun W P X D Y K B H G e f h => ⟨h.box 12 rfl, h.box 10 rfl⟩
  have HS0 := hid (bx _ _ _ _ _ _ _ _ _ _ _ (h2.pass (bdrewN _ 1)))
  have HA := hid ((h2.pass (bdrewN _ 1)).pick0 0 4 (by omega) rfl rfl hz)
  have HB := hid (fun w1 (y' : MA w0 w1 (ST P' X' (OwC b (bxV c x d y)) b' (OwP c M D (pickF M S zs)) (OwX x M D S) (OwD 92 d (pickZ M S zs)) (OwD 94 y zs) (OwK kb gk n) (OwB gk nb) nobody nobody (OwC w.heap.size (opV o)) nobody nobody)) => And.intro (bx _ _ _ _ _ _ _ _ _ _ _ y') (And.intro (bx _ _ _ _ _ _ _ _ _ _ _ (y'.pass (bdrewN _ 1))) ((y'.pass (bdrewN _ 1)).pick1 1 5 (by omega) rfl rfl hz)))
  have HC := hid (fun w1 (y' : MA w0 w1 (ST P' X' (OwC b (bxV c x d y)) b' (OwP c M D (pickF M S zs)) (OwX x M D (pickF M S zs)) (OwD 92 d (pickZ M S zs)) (OwD 94 y (pickZ M S zs)) (OwK kb gk n) (OwB gk nb) nobody nobody (OwC w.heap.size (opV o)) nobody nobody)) => And.intro (bx _ _ _ _ _ _ _ _ _ _ _ y') (And.intro (bx _ _ _ _ _ _ _ _ _ _ _ (y'.pass (bdrewN _ 1))) (And.intro ((y'.pass (bdrewN _ 1)).left0 4 rfl) ((y'.pass (bdrewN _ 1)).left1 5 rfl))))
  have HE : Hid (∀ w2, MA w0 w2 (ST P' X' (OwC b (bxV c x d y)) b' (OwP c M D (pickF M S zs)) (OwX x M D (pickF M S zs)) (OwD 92 d (pickZ M S zs)) (OwD 94 y (pickZ M S zs)) (OwK kb gk n) (OwB gk nb) nobody nobody (OwC w.heap.size (opV o)) nobody nobody) → StepQ P' X' b' w0 c x d y kb gk b M D N (.returned (.bool true)) (w2.drewN 1)) :=
    fun w2 y' => ⟨rfl, ⟨_, _, n, nb, (y'.pass (bdrewN _ 1)).drop 12 rfl, (hS.pick zs).next, by omega, by omega, pickZ_len hz⟩⟩
  clear h h2 bx hS hn1 hn2 hz
  obtain ⟨k, m, si, di, s, dd, pt⟩ := o
  simp only at hk HS0 HA HB HC HE ⊢
  subst hk
  generalize pickV M S zs = F at *
  generalize pickE M S = F2 at *
  generalize pickF M S zs = S2 at *
  generalize pickZ M S zs = Z2 at *
  generalize pt.val = pv at *
  go_enter Try.func14, Try.ntmps14
  go_wp2
  go_region_held3 (fun s' => ((∀ q, s'.cell? ⟨w.heap.size, q, none⟩ = (#[.int .i64 2, .int .i64 m, .int .u32 si, .int .u32 di, .int .i64 s, .int .i64 dd, pv] : Array Value)[q]?) ∧ (∀ q, s'.cell? ⟨b, q, none⟩ = (#[.pointer (some ⟨c, 0, none⟩), .pointer (some ⟨x, 0, none⟩), .pointer (some ⟨d, 0, none⟩), .pointer (some ⟨y, 0, none⟩)] : Array Value)[q]?))) (first | exact HS0.out | exact HS1.out | go_keep) (first
    | (go_at_call 18; refine HA.out.mono ?_; rintro e w1 ⟨rfl, HQ⟩; have HS1 := hid (HB.out w1 HQ.out).1; have HS2 := hid (HB.out w1 HQ.out).2.1; have HB1 := hid (HB.out w1 HQ.out).2.2; clear HQ HA))
  go_wp2
  go_region_held3 (fun s' => ((∀ q, s'.cell? ⟨w.heap.size, q, none⟩ = (#[.int .i64 2, .int .i64 m, .int .u32 si, .int .u32 di, .int .i64 s, .int .i64 dd, pv] : Array Value)[q]?) ∧ (∀ q, s'.cell? ⟨b, q, none⟩ = (#[.pointer (some ⟨c, 0, none⟩), .pointer (some ⟨x, 0, none⟩), .pointer (some ⟨d, 0, none⟩), .pointer (some ⟨y, 0, none⟩)] : Array Value)[q]?))) (first | exact HS2.out | exact HS3.out | go_keep) (first
    | (go_at_call 30; refine HB1.out.mono ?_; rintro e w2 ⟨rfl, HQ⟩; have HS3 := hid (HC.out w2 HQ.out).1; have HS4 := hid (HC.out w2 HQ.out).2.1; have HL0 := hid (HC.out w2 HQ.out).2.2.1; have HL1 := hid (HC.out w2 HQ.out).2.2.2; have HF := hid (HE.out w2 HQ.out); clear HQ HB1))
  go_wp2
  go_region_held3 (fun s' => ((∀ q, s'.cell? ⟨w.heap.size, q, none⟩ = (#[.int .i64 2, .int .i64 m, .int .u32 si, .int .u32 di, .int .i64 s, .int .i64 dd, pv] : Array Value)[q]?) ∧ (∀ q, s'.cell? ⟨b, q, none⟩ = (#[.pointer (some ⟨c, 0, none⟩), .pointer (some ⟨x, 0, none⟩), .pointer (some ⟨d, 0, none⟩), .pointer (some ⟨y, 0, none⟩)] : Array Value)[q]?))) (first | exact HS4.out | go_keep) (first
    | (go_at_call 31; refine HL0.out.mono ?_; rintro e w3 ⟨rfl, hw⟩; subst w3)
    | (go_at_call 32; refine HL1.out.mono ?_; rintro e w3 ⟨rfl, hw⟩; subst w3))
  go_wp2
  go_ret
  simp only [beq_self_eq_true]
  exact HF.out
set_option maxRecDepth 20000 in
set_option maxHeartbeats 2000000 in
theorem step_else (h : PlX P' X' b' w0 w c x d y kb gk b M D N) (o : OpP) (h1 : ¬ o.k = 1) (h3 : ¬ o.k = 2) (h4 : ¬ o.k = 3) (h5 : ¬ o.k = 4) (h6 : ¬ o.k = 5) (h7 : ¬ o.k = 6) :
    Calls Try.prog 14 #[.pointer (some ⟨b, 0, none⟩), .pointer (some ⟨kb, 0, none⟩), opA o] w (StepQ P' X' b' w0 c x d y kb gk b M D N) := by
  obtain ⟨S, zs, n, nb, h, hS, hn1, hn2, hz⟩ := h.ex
  have h2 : MA w0 (w.alloc (opV o)) (ST P' X' (OwC b (bxV c x d y)) b' (OwP c M D S) (OwX x M D S) (OwD 92 d zs) (OwD 94 y zs) (OwK kb gk n) (OwB gk nb) nobody nobody (OwC w.heap.size (opV o)) nobody nobody) := h.push 12 rfl (opV o)
  have HE : Hid (StepQ P' X' b' w0 c x d y kb gk b M D N (.returned (.bool true)) (w.alloc (opV o))) :=
    ⟨rfl, ⟨S, zs, n, nb, h2.drop 12 rfl, hS.next, by omega, by omega, hz⟩⟩
  clear h h2 hS hn1 hn2 hz
  obtain ⟨k, m, si, di, s, dd, pt⟩ := o
  simp only at HE h1 h3 h4 h5 h6 h7 ⊢
  have q1 : (k == 1) = false := by simpa using h1
  have q2 : (k == 2) = false := by simpa using h3
  have q3 : (k == 3) = false := by simpa using h4
  have q4 : (k == 4) = false := by simpa using h5
  have q5 : (k == 5) = false := by simpa using h6
  have q6 : (k == 6) = false := by simpa using h7
  clear h1 h3 h4 h5 h6 h7
  generalize pt.val = pv at *
  go_enter Try.func14, Try.ntmps14
  go_wp2_with fail
  go_ret
  exact HE.out
end
end Go.Proofs.Ythipdchdbdmmnaa

/-
  Port: a call of a script at both: Put. Written by mkpme.py.
-/
namespace Go.Proofs.Ythipdchdbdmmnaa
open Go.RowKit
set_option linter.all false

theorem wpList_store_rowH {ops : Array Oper} {rest : List Oper} {o : Oper} {a : Act} {w : World} {Q : Exit → Act → World → Prop} (hgd : o.guard = none) (ty : TypeId) (x y : Operand) (ho : o.op = .store ty x y)
    (g : Nat) (cells : Array Value) (hx : a.eval x = .pointer (some ⟨g, 0, none⟩)) (hy : a.eval y = .agg cells)
    (t : TypeId) (old : Array Value) (hg : w.heap[g]? = some (.cells old t (0, 0))) (hi : (Try.prog.info? ty).map (·.size) = some cells.size)
    (hold : old.size = cells.size) (h1 : cells.all (·.oneCell') = true)
    (h : ∀ w', Hid (w'.heap[g]? = some (.cells cells t (0, 0))) → Hid (But g w w') → wpList Try.prog ops Q rest (a.put o.dst undef) w') : wpList Try.prog ops Q (o :: rest) a w :=
  wpList_store_row hgd ty x y ho g cells hx hy t old hg hi hold h1 (h _ (setRow_heap w g _ _ t _ hg) (But.setRow g w _))
section
variable {w0 w w' : World} {l : List Ows}
theorem MA.heap {b : Nat} {o : Obj} (h : MA w0 w l) (j : Nat) (hj : l[j]? = some (OwC b o)) : w.heap[b]? = some o := by
  obtain ⟨K, h1, _⟩ := h.at j hj
  exact h1.1
/-- a box is written. -/
theorem MA.rebox {b : Nat} {o o' : Obj} (h : MA w0 w l) (j : Nat) (hj : l[j]? = some (OwC b o)) (hb : But b w w') (hg : w'.heap[b]? = some o') : MA w0 w' (l.set j (OwC b o')) := by
  obtain ⟨K, h1, h2, _, h4⟩ := h.at j hj
  exact h4 w' _ K ⟨hg, h1.2⟩ ⟨Only.of_but hb h1.2, fun k hk => Or.inl hk⟩ fun k hk => by have := h2 k hk; have := hb.size; omega
/-- .. or given up. -/
theorem MA.unbox {b : Nat} {o : Obj} (h : MA w0 w l) (j : Nat) (hj : l[j]? = some (OwC b o)) (hb : But b w w') : MA w0 w' (l.set j nobody) := by
  obtain ⟨K, h1, h2, _, h4⟩ := h.at j hj
  exact h4 w' nobody (fun _ => False) trivial ⟨Only.of_but hb h1.2, fun k hk => hk.elim⟩ fun k hk => hk.elim
theorem lent_ok {zs : List Int} {g : Nat} (hz : ∀ z, z ∈ zs → 0 ≤ z ∧ z ≤ 255) (h : w.heap[g]? = some (.cells (L2 zs) 5 (0, 0))) : Part.ok w ⟨some ⟨g, 0, none⟩, zs.length + 2, zs⟩ :=
  ⟨hz, by simp only; omega, Or.inr ⟨g, 0, rfl, fun j hj => by rw [Nat.zero_add, cell_of_heap h]; exact L2_lo zs j hj⟩⟩
end
section
variable {P' X' b' : Ows} {w0 w : World} {c x d y kb gk b : Nat} {M D : Int} {N : Nat}
set_option maxRecDepth 20000 in
set_option maxHeartbeats 4000000 in
theorem step_put (h : PlX P' X' b' w0 w c x d y kb gk b M D N) (o : OpP) (hk : o.k = 4) (ho : o.ok w0) (hl : o.pt.zs.length ≤ 2147483647) (hN : N ≤ 4294967296) :
    Calls Try.prog 14 #[.pointer (some ⟨b, 0, none⟩), .pointer (some ⟨kb, 0, none⟩), opA o] w (StepQ P' X' b' w0 c x d y kb gk b M D N) := by
  obtain ⟨S, zs, n, nb, h, hS, hn1, hn2, hz⟩ := h.ex
  obtain ⟨k, m, si, di, s, dd, ⟨va, vc, qs⟩⟩ := o
  obtain ⟨-, hm, hsi, hdi, hs, hdd, hpt⟩ := ho
  simp only at hk hm hsi hdi hs hdd hpt hl
  subst hk
  show Calls Try.prog 14 #[.pointer (some ⟨b, 0, none⟩), .pointer (some ⟨kb, 0, none⟩), .agg #[.int .i64 4, .int .i64 m, .int .u32 si, .int .u32 di, .int .i64 s, .int .i64 dd, .slice va qs.length vc]] w _
  have hd : Dg.ok (Dg.mk si di s dd qs) := ⟨hsi, hdi, hs, hdd, hpt.1⟩
  have hdr : ∀ y ∈ S, y.dr < 4611686018427387904 := fun y hy => by have := (hS y hy).1; omega
  have hq : ∀ W, Below w0.heap.size w0 W → Part.ok W ⟨va, vc, qs⟩ := fun W hb => Part.ok_below (p := ⟨va, vc, qs⟩) hpt hb
  have hsz : (w.alloc (.cells #[.int .i64 4, .int .i64 m, .int .u32 si, .int .u32 di, .int .i64 s, .int .i64 dd, .slice va qs.length vc] 55)).heap.size = (w.heap.size + 1) := by simp
  have h2 : MA w0 (w.alloc (.cells #[.int .i64 4, .int .i64 m, .int .u32 si, .int .u32 di, .int .i64 s, .int .i64 dd, .slice va qs.length vc] 55)) (ST P' X' (OwC b (bxV c x d y)) b' (OwP c M D S) (OwX x M D S) (OwD 92 d zs) (OwD 94 y zs) (OwK kb gk n) (OwB gk nb) nobody nobody (OwC w.heap.size (.cells #[.int .i64 4, .int .i64 m, .int .u32 si, .int .u32 di, .int .i64 s, .int .i64 dd, .slice va qs.length vc] 55 (0, 0))) nobody nobody) := h.push 12 rfl _
  have h3 : MA w0 ((w.alloc (.cells #[.int .i64 4, .int .i64 m, .int .u32 si, .int .u32 di, .int .i64 s, .int .i64 dd, .slice va qs.length vc] 55)).alloc (.cells #[.int .u32 0, .int .u32 0, .int .i64 0, .int .i64 0, .slice none 0 0] 53)) (ST P' X' (OwC b (bxV c x d y)) b' (OwP c M D S) (OwX x M D S) (OwD 92 d zs) (OwD 94 y zs) (OwK kb gk n) (OwB gk nb) nobody nobody (OwC w.heap.size (.cells #[.int .i64 4, .int .i64 m, .int .u32 si, .int .u32 di, .int .i64 s, .int .i64 dd, .slice va qs.length vc] 55 (0, 0))) (OwC (w.alloc (.cells #[.int .i64 4, .int .i64 m, .int .u32 si, .int .u32 di, .int .i64 s, .int .i64 dd, .slice va qs.length vc] 55)).heap.size (.cells #[.int .u32 0, .int .u32 0, .int .i64 0, .int .i64 0, .slice none 0 0] 53 (0, 0))) nobody) := h2.push 13 rfl _
  rw [hsz] at h3
  have HN := hid (h3.heap 13 rfl)
  have bx : ∀ (W : World) (P X D Y K B H G f : Ows) (v : Value), MA w0 W (ST P' X' (OwC b (bxV c x d y)) b' P X D Y K B H G (OwC w.heap.size (.cells #[.int .i64 4, .int .i64 m, .int .u32 si, .int .u32 di, .int .i64 s, .int .i64 dd, .slice va qs.length vc] 55 (0, 0))) (OwC (w.heap.size + 1) (.cells #[.int .u32 si, .int .u32 di, .int .i64 s, .int .i64 dd, v] 53 (0, 0))) f) → ((∀ q, W.cell? ⟨w.heap.size, q, none⟩ = (#[.int .i64 4, .int .i64 m, .int .u32 si, .int .u32 di, .int .i64 s, .int .i64 dd, .slice va qs.length vc] : Array Value)[q]?) ∧ (∀ q, W.cell? ⟨b, q, none⟩ = (#[.pointer (some ⟨c, 0, none⟩), .pointer (some ⟨x, 0, none⟩), .pointer (some ⟨d, 0, none⟩), .pointer (some ⟨y, 0, none⟩)] : Array Value)[q]?) ∧ (∀ q, W.cell? ⟨(w.heap.size + 1), q, none⟩ = (#[.int .u32 si, .int .u32 di, .int .i64 s, .int .i64 dd, v] : Array Value)[q]?)) := fun W P X D Y K B H G f v h => ⟨h.box 12 rfl, h.box 10 rfl, h.box 13 rfl⟩
  -- behind the copy of the datagram
  have HW2 := hid (fun (W2 : World) (g2 : W2.heap[(w.heap.size + 1)]? = some (.cells #[.int .u32 si, .int .u32 di, .int .i64 s, .int .i64 dd, .slice va qs.length vc] 53 (0, 0))) (b2 : But (w.heap.size + 1) ((w.alloc (.cells #[.int .i64 4, .int .i64 m, .int .u32 si, .int .u32 di, .int .i64 s, .int .i64 dd, .slice va qs.length vc] 55)).alloc (.cells #[.int .u32 0, .int .u32 0, .int .i64 0, .int .i64 0, .slice none 0 0] 53)) W2) => by
    have h4 : MA w0 W2 (ST P' X' (OwC b (bxV c x d y)) b' (OwP c M D S) (OwX x M D S) (OwD 92 d zs) (OwD 94 y zs) (OwK kb gk n) (OwB gk nb) nobody nobody (OwC w.heap.size (.cells #[.int .i64 4, .int .i64 m, .int .u32 si, .int .u32 di, .int .i64 s, .int .i64 dd, .slice va qs.length vc] 55 (0, 0))) (OwC (w.heap.size + 1) (.cells #[.int .u32 si, .int .u32 di, .int .i64 s, .int .i64 dd, .slice va qs.length vc] 53 (0, 0))) nobody) := h3.rebox 13 rfl b2 g2
    exact And.intro (bx _ _ _ _ _ _ _ _ _ _ _ h4) (And.intro (frozen_of_heap g2) (And.intro (hid h4) (lent_any ⟨va, vc, qs⟩ W2 (hq _ h4.below) (by simp only; omega)))))
  -- .. and of its bytes
  have HW4 := hid (fun (W2 : World) (G : Nat) (e : G = W2.heap.size) (h4 : MA w0 W2 (ST P' X' (OwC b (bxV c x d y)) b' (OwP c M D S) (OwX x M D S) (OwD 92 d zs) (OwD 94 y zs) (OwK kb gk n) (OwB gk nb) nobody nobody (OwC w.heap.size (.cells #[.int .i64 4, .int .i64 m, .int .u32 si, .int .u32 di, .int .i64 s, .int .i64 dd, .slice va qs.length vc] 55 (0, 0))) (OwC (w.heap.size + 1) (.cells #[.int .u32 si, .int .u32 di, .int .i64 s, .int .i64 dd, .slice va qs.length vc] 53 (0, 0))) nobody)) => by
    have h5 : MA w0 (W2.alloc (.cells (L2 qs) 5)) (ST P' X' (OwC b (bxV c x d y)) b' (OwP c M D S) (OwX x M D S) (OwD 92 d zs) (OwD 94 y zs) (OwK kb gk n) (OwB gk nb) nobody nobody (OwC w.heap.size (.cells #[.int .i64 4, .int .i64 m, .int .u32 si, .int .u32 di, .int .i64 s, .int .i64 dd, .slice va qs.length vc] 55 (0, 0))) (OwC (w.heap.size + 1) (.cells #[.int .u32 si, .int .u32 di, .int .i64 s, .int .i64 dd, .slice va qs.length vc] 53 (0, 0))) (OwC W2.heap.size (.cells (L2 qs) 5 (0, 0)))) := h4.push 14 rfl _
    rw [← e] at h5
    have h6 : MA w0 ((W2.alloc (.cells (L2 qs) 5)).setCell ⟨(w.heap.size + 1), 4, none⟩ (.slice (some ⟨G, 0, none⟩) qs.length (qs.length + 2))) (ST P' X' (OwC b (bxV c x d y)) b' (OwP c M D S) (OwX x M D S) (OwD 92 d zs) (OwD 94 y zs) (OwK kb gk n) (OwB gk nb) nobody nobody (OwC w.heap.size (.cells #[.int .i64 4, .int .i64 m, .int .u32 si, .int .u32 di, .int .i64 s, .int .i64 dd, .slice va qs.length vc] 55 (0, 0))) (OwC (w.heap.size + 1) (.cells #[.int .u32 si, .int .u32 di, .int .i64 s, .int .i64 dd, (.slice (some ⟨G, 0, none⟩) qs.length (qs.length + 2))] 53 (0, 0))) (OwC G (.cells (L2 qs) 5 (0, 0)))) := h5.rebox 13 rfl (But.setCell _ _ _ _) (by
      have := heap_setCell (j := 4) (v := (.slice (some ⟨G, 0, none⟩) qs.length (qs.length + 2))) (h5.heap 13 rfl)
      simpa using this)
    have h7 := h6.pass (bdrewN _ 1)
    exact And.intro (show (W2.alloc (.cells (L2 qs) 5)).cell? ⟨(w.heap.size + 1), 4, none⟩ = some (.slice va qs.length vc) from h5.box 13 rfl 4) (And.intro (frozen_of_heap (h5.heap 13 rfl) 4) (And.intro (bx _ _ _ _ _ _ _ _ _ _ _ h7) (h7.put0 0 rfl (Dg.mk si di s dd qs) (some ⟨G, 0, none⟩) (qs.length + 2) hd (lent_ok hpt.1 (h7.heap 14 rfl)) (by simp only; omega) hdr))))
  have HB := hid (fun (G : Nat) w1 (y' : MA w0 w1 (ST P' X' (OwC b (bxV c x d y)) b' (OwP c M D (putF D S (Dg.mk si di s dd qs))) (OwX x M D S) (OwD 92 d zs) (OwD 94 y zs) (OwK kb gk n) (OwB gk nb) nobody nobody (OwC w.heap.size (.cells #[.int .i64 4, .int .i64 m, .int .u32 si, .int .u32 di, .int .i64 s, .int .i64 dd, .slice va qs.length vc] 55 (0, 0))) (OwC (w.heap.size + 1) (.cells #[.int .u32 si, .int .u32 di, .int .i64 s, .int .i64 dd, (.slice (some ⟨G, 0, none⟩) qs.length (qs.length + 2))] 53 (0, 0))) (OwC G (.cells (L2 qs) 5 (0, 0))))) => And.intro (bx _ _ _ _ _ _ _ _ _ _ _ y') (And.intro (bx _ _ _ _ _ _ _ _ _ _ _ (y'.pass (bdrewN _ 1))) ((y'.pass (bdrewN _ 1)).put1 1 rfl (Dg.mk si di s dd qs) va vc hd (hq _ (y'.pass (bdrewN _ 1)).below) (by simp only; omega) hdr)))
  have HC := hid (fun (G : Nat) w1 (y' : MA w0 w1 (ST P' X' (OwC b (bxV c x d y)) b' (OwP c M D (putF D S (Dg.mk si di s dd qs))) (OwX x M D (putF D S (Dg.mk si di s dd qs))) (OwD 92 d zs) (OwD 94 y zs) (OwK kb gk n) (OwB gk nb) nobody nobody (OwC w.heap.size (.cells #[.int .i64 4, .int .i64 m, .int .u32 si, .int .u32 di, .int .i64 s, .int .i64 dd, .slice va qs.length vc] 55 (0, 0))) (OwC (w.heap.size + 1) (.cells #[.int .u32 si, .int .u32 di, .int .i64 s, .int .i64 dd, (.slice (some ⟨G, 0, none⟩) qs.length (qs.length + 2))] 53 (0, 0))) (OwC G (.cells (L2 qs) 5 (0, 0))))) => And.intro (bx _ _ _ _ _ _ _ _ _ _ _ y') (asLent_any G ⟨va, vc, qs⟩ w1 (hq _ y'.below) (by simp only; omega) (y'.heap 14 rfl)))
  have HE : Hid (∀ G w2 w3, MA w0 w2 (ST P' X' (OwC b (bxV c x d y)) b' (OwP c M D (putF D S (Dg.mk si di s dd qs))) (OwX x M D (putF D S (Dg.mk si di s dd qs))) (OwD 92 d zs) (OwD 94 y zs) (OwK kb gk n) (OwB gk nb) nobody nobody (OwC w.heap.size (.cells #[.int .i64 4, .int .i64 m, .int .u32 si, .int .u32 di, .int .i64 s, .int .i64 dd, .slice va qs.length vc] 55 (0, 0))) (OwC (w.heap.size + 1) (.cells #[.int .u32 si, .int .u32 di, .int .i64 s, .int .i64 dd, (.slice (some ⟨G, 0, none⟩) qs.length (qs.length + 2))] 53 (0, 0))) (OwC G (.cells (L2 qs) 5 (0, 0)))) → But G w2 w3 → StepQ P' X' b' w0 c x d y kb gk b M D N (.returned (.bool true)) w3) :=
    fun G w2 w3 y' hb => ⟨rfl, ⟨_, zs, n, nb, ((y'.unbox 14 rfl hb).drop 13 rfl).drop 12 rfl, hS.put (Dg.mk si di s dd qs) hl, by omega, by omega, hz⟩⟩
  clear h h2 h3 bx hS hn1 hn2 hz hq hdr hd hpt hsz
  unfold Part.val at HW2 HC
  simp only [Dg.cells] at HW4 HB
  generalize putE D S (Dg.mk si di s dd qs) = F at *
  generalize putF D S (Dg.mk si di s dd qs) = S2 at *
  have hlen : (qs.length : Int) ≤ 2147483647 := by omega
  go_enter Try.func14, Try.ntmps14
  go_wp2_with (first
    | (refine wpList_store_rowH rfl 53 _ _ rfl (w.heap.size + 1) #[.int .u32 si, .int .u32 di, .int .i64 s, .int .i64 dd, .slice va qs.length vc] rfl rfl 53 _ HN.out (by kernel_rfl) rfl (by first | kernel_rfl | simp [Value.oneCell']) ?_; intro W2 g2 b2; have HX := hid (HW2.out W2 g2.out b2.out).1; have HXF := (HW2.out W2 g2.out b2.out).2.1; have HM := (HW2.out W2 g2.out b2.out).2.2.1; have HLE := hid (HW2.out W2 g2.out b2.out).2.2.2; have hx1 := HX.out.1; have hx3 := HX.out.2.2; clear g2 b2)
    | (go_at_call 34; refine HLE.out.mono ?_; go_loud (rintro e w3 ⟨rfl, rfl⟩); have HV := HW4.out W2 W2.heap.size rfl HM.out; have hv1 := HV.1; have hv2 := HV.2.1; have HS0 := hid HV.2.2.1; have HA := hid HV.2.2.2; clear HV HLE)
    | fail)
  clear HX hx1 hx3 HXF hv1 hv2 HW2 HW4 HN
  go_region_held3 (fun s' => ((∀ q, s'.cell? ⟨w.heap.size, q, none⟩ = (#[.int .i64 4, .int .i64 m, .int .u32 si, .int .u32 di, .int .i64 s, .int .i64 dd, .slice va qs.length vc] : Array Value)[q]?) ∧ (∀ q, s'.cell? ⟨b, q, none⟩ = (#[.pointer (some ⟨c, 0, none⟩), .pointer (some ⟨x, 0, none⟩), .pointer (some ⟨d, 0, none⟩), .pointer (some ⟨y, 0, none⟩)] : Array Value)[q]?) ∧ (∀ q, s'.cell? ⟨(w.heap.size + 1), q, none⟩ = (#[.int .u32 si, .int .u32 di, .int .i64 s, .int .i64 dd, (.slice (some ⟨W2.heap.size, 0, none⟩) qs.length (qs.length + 2))] : Array Value)[q]?))) (first | exact HS0.out | exact HS1.out | go_keep) (first
    | (go_at_call 19; refine HA.out.mono ?_; rintro e w1 ⟨rfl, HQ⟩; have HS1 := hid (HB.out _ w1 HQ.out).1; have HS2 := hid (HB.out _ w1 HQ.out).2.1; have HB1 := hid (HB.out _ w1 HQ.out).2.2; clear HQ HA))
  go_wp2
  go_region_held3 (fun s' => ((∀ q, s'.cell? ⟨w.heap.size, q, none⟩ = (#[.int .i64 4, .int .i64 m, .int .u32 si, .int .u32 di, .int .i64 s, .int .i64 dd, .slice va qs.length vc] : Array Value)[q]?) ∧ (∀ q, s'.cell? ⟨b, q, none⟩ = (#[.pointer (some ⟨c, 0, none⟩), .pointer (some ⟨x, 0, none⟩), .pointer (some ⟨d, 0, none⟩), .pointer (some ⟨y, 0, none⟩)] : Array Value)[q]?) ∧ (∀ q, s'.cell? ⟨(w.heap.size + 1), q, none⟩ = (#[.int .u32 si, .int .u32 di, .int .i64 s, .int .i64 dd, (.slice (some ⟨W2.heap.size, 0, none⟩) qs.length (qs.length + 2))] : Array Value)[q]?))) (first | exact HS2.out | exact HS3.out | go_keep) (first
    | (go_at_call 35; refine HB1.out.mono ?_; rintro e w4 ⟨rfl, HQ⟩; have HS3 := hid (HC.out _ w4 HQ.out).1; have HAL := hid (HC.out _ w4 HQ.out).2; have HF := hid (fun w5 hb => HE.out _ w4 w5 HQ.out hb); have hy1 := HS3.out.1; have hy3 := HS3.out.2.2; clear HQ HB1))
  go_wp2_with (first
    | (go_at_call 36; refine HAL.out.mono ?_; go_loud (rintro e w6 ⟨rfl, hb6⟩; have HG := hid (HF.out w6 hb6); clear hb6))
    | fail)
  go_ret
  simp only [beq_self_eq_true]
  exact HG.out
end
end Go.Proofs.Ythipdchdbdmmnaa
