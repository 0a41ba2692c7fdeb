/-
  A wheel in memory: its own block, its map, its slots and its heap.
-/
import Derived.Test.YthgcjocjkeieaaaWNum
namespace Go.Proofs.Ythgcjocjkeieaaa
open Go.RowKit
set_option linter.all false

def ints (zs : List Int) : List Value := zs.map (Value.int .i64)
theorem ints_len (zs : List Int) : (ints zs).length = zs.length := by simp [ints]
theorem ints_app (a b : List Int) : ints (a ++ b) = ints a ++ ints b := by simp [ints]
theorem ints_get {zs : List Int} {j : Nat} (h : j < zs.length) : (ints zs)[j]'(by rw [ints_len]; exact h) = .int .i64 (nth zs j) := by simp [ints, nth, h]
def firstV (b : Nat) : Value := .func (.func 20) #[.pointer (some ⟨b, 0, none⟩)] #[]
/-- the cells of a wheel. -/
structure BoxC (C : Array Value) (b m : Nat) (now last : Int) (V : Nat → Value) : Prop where
  size : C.size = 261
  now : C[0]? = some (.int .i64 now)
  last : C[1]? = some (.int .i64 last)
  map : C[2]? = some (.map (some m))
  slot : ∀ i, i < 256 → C[3 + i]? = some (V i)
  first : C[259]? = some (firstV b)
  ids : C[260]? = some (V 256)
def Box (w : World) (b m : Nat) (now last : Int) (V : Nat → Value) : Prop := ∃ C, w.heap[b]? = some (.cells C 58 (0, 0)) ∧ BoxC C b m now last V
theorem Box.keep {w w' : World} {b m : Nat} {now last : Int} {V : Nat → Value} (h : Box w b m now last V) (hk : w'.heap[b]? = w.heap[b]?) : Box w' b m now last V := by
  obtain ⟨C, h1, h2⟩ := h
  exact ⟨C, hk.trans h1, h2⟩
theorem Box.lt {w : World} {b m : Nat} {now last : Int} {V : Nat → Value} (h : Box w b m now last V) : b < w.heap.size := by obtain ⟨C, h1, h2⟩ := h; exact heap_lt h1
theorem Box.cNow {w : World} {b m : Nat} {now last : Int} {V : Nat → Value} (h : Box w b m now last V) : w.cell? ⟨b, 0, none⟩ = some (.int .i64 now) := by obtain ⟨C, h1, h2⟩ := h; exact cellHeap h1 0 h2.now
theorem Box.cLast {w : World} {b m : Nat} {now last : Int} {V : Nat → Value} (h : Box w b m now last V) : w.cell? ⟨b, 1, none⟩ = some (.int .i64 last) := by obtain ⟨C, h1, h2⟩ := h; exact cellHeap h1 1 h2.last
theorem Box.cMap {w : World} {b m : Nat} {now last : Int} {V : Nat → Value} (h : Box w b m now last V) : w.cell? ⟨b, 2, none⟩ = some (.map (some m)) := by obtain ⟨C, h1, h2⟩ := h; exact cellHeap h1 2 h2.map
theorem Box.cSlot {w : World} {b m : Nat} {now last : Int} {V : Nat → Value} (h : Box w b m now last V) {i : Nat} (hi : i < 256) : w.cell? ⟨b, 3 + i, none⟩ = some (V i) := by obtain ⟨C, h1, h2⟩ := h; exact cellHeap h1 _ (h2.slot i hi)
theorem Box.cFirst {w : World} {b m : Nat} {now last : Int} {V : Nat → Value} (h : Box w b m now last V) : w.cell? ⟨b, 259, none⟩ = some (firstV b) := by obtain ⟨C, h1, h2⟩ := h; exact cellHeap h1 259 h2.first
theorem Box.cIds {w : World} {b m : Nat} {now last : Int} {V : Nat → Value} (h : Box w b m now last V) : w.cell? ⟨b, 260, none⟩ = some (V 256) := by obtain ⟨C, h1, h2⟩ := h; exact cellHeap h1 260 h2.ids
theorem Box.fr {w : World} {b m : Nat} {now last : Int} {V : Nat → Value} (h : Box w b m now last V) (j : Nat) : w.frozen? ⟨b, j, none⟩ = false := by obtain ⟨C, h1, h2⟩ := h; exact frozen_of_heap h1 j
theorem get_set {C : Array Value} {i j : Nat} {v : Value} : (C.setIfInBounds i v)[j]? = if i = j ∧ j < C.size then some v else C[j]? := by
  rw [Array.getElem?_setIfInBounds]
  by_cases h : i = j
  · subst h
    by_cases h2 : i < C.size
    · simp [h2]
    · simp [h2]
  · simp [h]
theorem Box.setNow {w : World} {b m : Nat} {now last : Int} {V : Nat → Value} (h : Box w b m now last V) (n : Int) : Box (w.setCell ⟨b, 0, none⟩ (.int .i64 n)) b m n last V := by
  obtain ⟨C, h1, h2⟩ := h
  have hs := h2.size
  refine ⟨_, heap_setCell h1, by simpa using hs, by rw [get_set, if_pos ⟨rfl, by omega⟩], by rw [get_set, if_neg (by omega)]; exact h2.last, by rw [get_set, if_neg (by omega)]; exact h2.map, fun i hi => by rw [get_set, if_neg (by omega)]; exact h2.slot i hi, by rw [get_set, if_neg (by omega)]; exact h2.first, by rw [get_set, if_neg (by omega)]; exact h2.ids⟩
theorem Box.setLast {w : World} {b m : Nat} {now last : Int} {V : Nat → Value} (h : Box w b m now last V) (n : Int) : Box (w.setCell ⟨b, 1, none⟩ (.int .i64 n)) b m now n V := by
  obtain ⟨C, h1, h2⟩ := h
  have hs := h2.size
  refine ⟨_, heap_setCell h1, by simpa using hs, by rw [get_set, if_neg (by omega)]; exact h2.now, by rw [get_set, if_pos ⟨rfl, by omega⟩], by rw [get_set, if_neg (by omega)]; exact h2.map, fun i hi => by rw [get_set, if_neg (by omega)]; exact h2.slot i hi, by rw [get_set, if_neg (by omega)]; exact h2.first, by rw [get_set, if_neg (by omega)]; exact h2.ids⟩
def updV (V : Nat → Value) (i : Nat) (v : Value) : Nat → Value := fun j => if j = i then v else V j
theorem updV_same (V : Nat → Value) (i : Nat) (v : Value) : updV V i v i = v := by simp [updV]
theorem updV_other {V : Nat → Value} {i j : Nat} (v : Value) (h : j ≠ i) : updV V i v j = V j := by simp [updV, h]
theorem Box.setSlot {w : World} {b m : Nat} {now last : Int} {V : Nat → Value} (h : Box w b m now last V) {i : Nat} (hi : i < 256) (v : Value) : Box (w.setCell ⟨b, 3 + i, none⟩ v) b m now last (updV V i v) := by
  obtain ⟨C, h1, h2⟩ := h
  have hs := h2.size
  refine ⟨_, heap_setCell h1, by simpa using hs, by rw [get_set, if_neg (by omega)]; exact h2.now, by rw [get_set, if_neg (by omega)]; exact h2.last, by rw [get_set, if_neg (by omega)]; exact h2.map, fun j hj => ?_, by rw [get_set, if_neg (by omega)]; exact h2.first, by rw [get_set, if_neg (by omega), updV_other _ (by omega)]; exact h2.ids⟩
  by_cases e : j = i
  · subst e; rw [get_set, if_pos ⟨rfl, by omega⟩, updV_same]
  · rw [get_set, if_neg (by omega), updV_other _ e]; exact h2.slot j hj
theorem Box.setIds {w : World} {b m : Nat} {now last : Int} {V : Nat → Value} (h : Box w b m now last V) (v : Value) : Box (w.setCell ⟨b, 260, none⟩ v) b m now last (updV V 256 v) := by
  obtain ⟨C, h1, h2⟩ := h
  have hs := h2.size
  refine ⟨_, heap_setCell h1, by simpa using hs, by rw [get_set, if_neg (by omega)]; exact h2.now, by rw [get_set, if_neg (by omega)]; exact h2.last, by rw [get_set, if_neg (by omega)]; exact h2.map, fun j hj => by rw [get_set, if_neg (by omega), updV_other _ (by omega)]; exact h2.slot j hj, by rw [get_set, if_neg (by omega)]; exact h2.first, by rw [get_set, if_pos ⟨rfl, by omega⟩, updV_same]⟩

/-- a wheel in memory. -/
structure WheelW (w : World) (b m : Nat) (now last : Int) (T : List Tm) (V : Nat → Value) (R : Nat → List Int) : Prop where
  box : Box w b m now last V
  map : MapT w m T
  rows : ∀ i, i ≤ 256 → Row w 3 (V i) (ints (R i))
  apart : ∀ i j, i ≤ 256 → j ≤ 256 → i ≠ j → ∀ g, (V i).ownBlock = some g → (V j).ownBlock ≠ some g
/-- the wheel's blocks. -/
def WK (b m : Nat) (V : Nat → Value) (k : Nat) : Prop := k = b ∨ k = m ∨ ∃ i, i ≤ 256 ∧ (V i).ownBlock = some k
theorem Row.obj {w : World} {e : TypeId} {v : Value} {vs : List Value} (h : Row w e v vs) {g : Nat} (hg : v.ownBlock = some g) : ∃ cur f, w.heap[g]? = some (.cells cur e f) := by
  rcases h with ⟨rfl, _⟩ | ⟨g', cap, cur, lo, hi, rfl, h1, _⟩
  · simp [Value.ownBlock] at hg
  · simp [Value.ownBlock] at hg; subst hg; exact ⟨_, _, h1⟩
theorem WheelW.b_ne_m {w : World} {b m : Nat} {now last : Int} {T : List Tm} {V : Nat → Value} {R : Nat → List Int} (x : WheelW w b m now last T V R) : b ≠ m := by
  rintro rfl
  obtain ⟨C, h1, _⟩ := x.box
  obtain ⟨es, c, h2, _⟩ := x.map
  rw [h1] at h2; simp at h2
theorem WheelW.row_ne_b {w : World} {b m : Nat} {now last : Int} {T : List Tm} {V : Nat → Value} {R : Nat → List Int} (x : WheelW w b m now last T V R) {i g : Nat} (hi : i ≤ 256) (hg : (V i).ownBlock = some g) : g ≠ b := by
  rintro rfl
  obtain ⟨C, h1, _⟩ := x.box
  obtain ⟨cur, f, h2⟩ := (x.rows i hi).obj hg
  rw [h1] at h2
  simp only [Option.some.injEq, Obj.cells.injEq] at h2
  exact absurd h2.2.1 (by decide)
theorem WheelW.row_ne_m {w : World} {b m : Nat} {now last : Int} {T : List Tm} {V : Nat → Value} {R : Nat → List Int} (x : WheelW w b m now last T V R) {i g : Nat} (hi : i ≤ 256) (hg : (V i).ownBlock = some g) : g ≠ m := by
  rintro rfl
  obtain ⟨es, c, h1, _⟩ := x.map
  obtain ⟨cur, f, h2⟩ := (x.rows i hi).obj hg
  rw [h1] at h2; simp at h2
theorem WheelW.lt {w : World} {b m : Nat} {now last : Int} {T : List Tm} {V : Nat → Value} {R : Nat → List Int} (x : WheelW w b m now last T V R) {k : Nat} (hk : WK b m V k) : k < w.heap.size := by
  rcases hk with rfl | rfl | ⟨i, hi, hg⟩
  · exact x.box.lt
  · exact x.map.lt
  · exact (x.rows i hi).lt hg
theorem WheelW.keep {w w' : World} {b m : Nat} {now last : Int} {T : List Tm} {V : Nat → Value} {R : Nat → List Int} (x : WheelW w b m now last T V R) (h : ∀ k, WK b m V k → w'.heap[k]? = w.heap[k]?) : WheelW w' b m now last T V R :=
  ⟨x.box.keep (h b (Or.inl rfl)), x.map.keep (h m (Or.inr (Or.inl rfl))), fun i hi => (x.rows i hi).keep fun g hg => h g (Or.inr (Or.inr ⟨i, hi, hg⟩)), x.apart⟩
theorem WheelW.below {w w' : World} {b m : Nat} {now last : Int} {T : List Tm} {V : Nat → Value} {R : Nat → List Int} (x : WheelW w b m now last T V R) (h : Below w.heap.size w w') : WheelW w' b m now last T V R := x.keep fun k hk => h.block k (x.lt hk)
theorem WheelW.drewN {w : World} {b m : Nat} {now last : Int} {T : List Tm} {V : Nat → Value} {R : Nat → List Int} (x : WheelW w b m now last T V R) (n : Nat) : WheelW (w.drewN n) b m now last T V R := x.keep fun k hk => rfl
theorem WheelW.setNow {w : World} {b m : Nat} {now last : Int} {T : List Tm} {V : Nat → Value} {R : Nat → List Int} (x : WheelW w b m now last T V R) (n : Int) : WheelW (w.setCell ⟨b, 0, none⟩ (.int .i64 n)) b m n last T V R :=
  ⟨x.box.setNow n, x.map.keep (Below.heap_setCell _ _ _ _ (Ne.symm x.b_ne_m)), fun i hi => (x.rows i hi).keep fun g hg => Below.heap_setCell _ _ _ _ (x.row_ne_b hi hg), x.apart⟩
theorem WheelW.setLast {w : World} {b m : Nat} {now last : Int} {T : List Tm} {V : Nat → Value} {R : Nat → List Int} (x : WheelW w b m now last T V R) (n : Int) : WheelW (w.setCell ⟨b, 1, none⟩ (.int .i64 n)) b m now n T V R :=
  ⟨x.box.setLast n, x.map.keep (Below.heap_setCell _ _ _ _ (Ne.symm x.b_ne_m)), fun i hi => (x.rows i hi).keep fun g hg => Below.heap_setCell _ _ _ _ (x.row_ne_b hi hg), x.apart⟩
/-- what a wheel's call does to the world: its own blocks may turn, new ones may come to it. -/
structure Turn (b m : Nat) (w : World) (V : Nat → Value) (w' : World) (V' : Nat → Value) : Prop where
  only : Only (WK b m V) w w'
  new : ∀ k, WK b m V' k → WK b m V k ∨ w.heap.size ≤ k
theorem Turn.refl (b m : Nat) (w : World) (V : Nat → Value) : Turn b m w V w V := ⟨Only.refl _ _, fun k hk => Or.inl hk⟩
theorem Turn.trans {b m : Nat} {w w1 w2 : World} {V V1 V2 : Nat → Value} (h : Turn b m w V w1 V1) (k : Turn b m w1 V1 w2 V2) : Turn b m w V w2 V2 := by
  have hs := h.only.size
  refine ⟨⟨k.only.os.trans h.only.os, k.only.tape.trans h.only.tape, k.only.output.trans h.only.output, Nat.le_trans hs k.only.size, fun i hi hl => ?_⟩, fun i hi => ?_⟩
  · rw [k.only.block i (fun e => ?_) (by omega), h.only.block i hi hl]
    rcases h.new i e with h1 | h1
    · exact hi h1
    · omega
  · rcases k.new i hi with h1 | h1
    · exact h.new i h1
    · exact Or.inr (by omega)
theorem Turn.below {b m : Nat} {w w' : World} {V : Nat → Value} (h : Below w.heap.size w w') : Turn b m w V w' V := ⟨Only.of_below h, fun k hk => Or.inl hk⟩
theorem Turn.drewN (b m : Nat) (w : World) (V : Nat → Value) (n : Nat) : Turn b m w V (w.drewN n) V := ⟨⟨rfl, rfl, rfl, Nat.le_refl _, fun _ _ _ => rfl⟩, fun k hk => Or.inl hk⟩
theorem Turn.but {b m g : Nat} {w w' : World} {V : Nat → Value} (h : But g w w') (hg : WK b m V g) : Turn b m w V w' V := ⟨Only.of_but h hg, fun k hk => Or.inl hk⟩
/-- a row is laid anew: the slice, and what it reads. -/
theorem WheelW.setRow {w w1 : World} {b m : Nat} {now last : Int} {T : List Tm} {V : Nat → Value} {R : Nat → List Int} (x : WheelW w b m now last T V R) {i : Nat} (hi : i ≤ 256) {v : Value} {L : List Int}
    (hb : Box w1 b m now last (updV V i v)) (hr : Row w1 3 v (ints L)) (hk : ∀ k, k ≠ b → (V i).ownBlock ≠ some k → k < w.heap.size → w1.heap[k]? = w.heap[k]?) (hv : ∀ g, v.ownBlock = some g → (V i).ownBlock = some g ∨ w.heap.size ≤ g) :
    WheelW w1 b m now last T (updV V i v) (upd R i L) := by
  refine ⟨hb, x.map.keep (hk m (Ne.symm x.b_ne_m) (fun e => x.row_ne_m hi e rfl) x.map.lt), fun j hj => ?_, fun j k hj hk' hjk g hg => ?_⟩
  · by_cases e : j = i
    · subst e; rw [updV_same, upd_same]; exact hr
    · rw [updV_other _ e, upd_other _ e]
      exact (x.rows j hj).keep fun g hg => hk g (x.row_ne_b hj hg) (x.apart j i hj hi e g hg) ((x.rows j hj).lt hg)
  · by_cases e : j = i
    · subst e
      rw [updV_same] at hg
      rw [updV_other _ (Ne.symm hjk)]
      rcases hv g hg with h1 | h1
      · exact x.apart j k hj hk' hjk g h1
      · intro h2
        have := (x.rows k hk').lt h2
        omega
    · rw [updV_other _ e] at hg
      by_cases e2 : k = i
      · subst e2
        rw [updV_same]
        intro h2
        rcases hv g h2 with h1 | h1
        · exact x.apart j k hj hk' hjk g hg h1
        · have := (x.rows j hj).lt hg
          omega
      · rw [updV_other _ e2]
        exact x.apart j k hj hk' hjk g hg
theorem Turn.row {b m : Nat} {w w' : World} {V : Nat → Value} {i : Nat} (hi : i ≤ 256) {v : Value} (ho : Only (fun k => k = b ∨ (V i).ownBlock = some k) w w') (hv : ∀ g, v.ownBlock = some g → (V i).ownBlock = some g ∨ w.heap.size ≤ g) : Turn b m w V w' (updV V i v) := by
  refine ⟨ho.mono fun k hk => ?_, fun k hk => ?_⟩
  · rcases hk with rfl | hk
    · exact Or.inl rfl
    · exact Or.inr (Or.inr ⟨i, hi, hk⟩)
  · rcases hk with rfl | rfl | ⟨j, hj, hg⟩
    · exact Or.inl (Or.inl rfl)
    · exact Or.inl (Or.inr (Or.inl rfl))
    · by_cases e : j = i
      · subst e
        rw [updV_same] at hg
        rcases hv k hg with h1 | h1
        · exact Or.inl (Or.inr (Or.inr ⟨j, hj, h1⟩))
        · exact Or.inr h1
      · rw [updV_other _ e] at hg
        exact Or.inl (Or.inr (Or.inr ⟨j, hj, hg⟩))
end Go.Proofs.Ythgcjocjkeieaaa
