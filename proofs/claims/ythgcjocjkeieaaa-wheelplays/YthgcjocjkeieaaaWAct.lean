/-
  A wheel as its callers see it: what each call answers, and leaves.
-/
import Derived.Test.YthgcjocjkeieaaaWAdv
import Derived.Test.YthgcjocjkeieaaaWNext
import Derived.Test.YthgcjocjkeieaaaWNew
namespace Go.Proofs.Ythgcjocjkeieaaa
open Go.RowKit
set_option linter.all false

/-- a wheel at b, with its time, its last number and its timers; K: its blocks. -/
structure WA (w : World) (b m : Nat) (now last : Int) (T : List Tm) (K : Nat → Prop) : Prop where
  ex : ∃ V R, WheelW w b m now last T V R ∧ Inv now last T R [] ∧ K = WK b m V
  len : T.length ≤ 1024
  last0 : 0 ≤ last
/-- only K has turned; K' is K, and what is new. -/
structure Turned (K : Nat → Prop) (w : World) (K' : Nat → Prop) (w' : World) : Prop where
  only : Only K w w'
  new : ∀ k, K' k → K k ∨ w.heap.size ≤ k
theorem Turned.refl (K : Nat → Prop) (w : World) : Turned K w K w := ⟨Only.refl _ _, fun k hk => Or.inl hk⟩
theorem Turned.below {K : Nat → Prop} {w w' : World} (h : Below w.heap.size w w') : Turned K w K w' := ⟨Only.of_below h, fun k hk => Or.inl hk⟩
theorem Turned.of {b m : Nat} {w w' : World} {V V' : Nat → Value} (h : Turn b m w V w' V') : Turned (WK b m V) w (WK b m V') w' := ⟨h.only, h.new⟩
theorem WA.keep {w w' : World} {b m : Nat} {now last : Int} {T : List Tm} {K : Nat → Prop} (h : WA w b m now last T K) (hk : ∀ k, K k → w'.heap[k]? = w.heap[k]?) : WA w' b m now last T K := by
  obtain ⟨V, R, x, I, rfl⟩ := h.ex
  exact ⟨⟨V, R, x.keep hk, I, rfl⟩, h.len, h.last0⟩
theorem WA.lt {w : World} {b m : Nat} {now last : Int} {T : List Tm} {K : Nat → Prop} (h : WA w b m now last T K) {k : Nat} (hk : K k) : k < w.heap.size := by
  obtain ⟨V, R, x, I, rfl⟩ := h.ex
  exact x.lt hk
theorem WA.below {w w' : World} {b m : Nat} {now last : Int} {T : List Tm} {K : Nat → Prop} (h : WA w b m now last T K) (hb : Below w.heap.size w w') : WA w' b m now last T K := h.keep fun k hk => hb.block k (h.lt hk)
theorem WA.drewN {w : World} {b m : Nat} {now last : Int} {T : List Tm} {K : Nat → Prop} (h : WA w b m now last T K) (n : Nat) : WA (w.drewN n) b m now last T K := h.keep fun k hk => rfl
theorem WA.box {w : World} {b m : Nat} {now last : Int} {T : List Tm} {K : Nat → Prop} (h : WA w b m now last T K) : K b := by
  obtain ⟨V, R, x, I, rfl⟩ := h.ex
  exact Or.inl rfl
theorem WA.inv {w : World} {b m : Nat} {now last : Int} {T : List Tm} {K : Nat → Prop} (h : WA w b m now last T K) : 0 ≤ now ∧ now ≤ 1125899906842624 ∧ Rising T ∧ (∀ x ∈ T, 1 ≤ x.id ∧ x.id ≤ last) ∧ ∀ x ∈ T, now ≤ x.t ∧ x.t ≤ 1125899906842624 := by
  obtain ⟨V, R, x, I, rfl⟩ := h.ex
  exact ⟨I.low, I.high, I.rise, I.ids, I.time⟩

def armN (T : List Tm) (last : Int) : Int := if T.length < 1024 then last + 1 else 0
def armE (T : List Tm) : Int := if T.length < 1024 then 0 else 70
def armL (T : List Tm) (last : Int) : Int := if T.length < 1024 then last + 1 else last
def armT (T : List Tm) (now last t tag : Int) : List Tm := if T.length < 1024 then T ++ [⟨cnt now t, last + 1, tag⟩] else T
def nxt : List Tm → Int
  | [] => 0
  | x :: r => r.foldl (fun a y => min a y.t) x.t
theorem fold_min : ∀ (r : List Tm) (a : Int), (r.foldl (fun a y => min a y.t) a = a ∨ ∃ y ∈ r, y.t = r.foldl (fun a y => min a y.t) a) ∧ r.foldl (fun a y => min a y.t) a ≤ a ∧ ∀ y ∈ r, r.foldl (fun a y => min a y.t) a ≤ y.t
  | [], a => ⟨Or.inl rfl, Int.le_refl _, by simp⟩
  | y :: r, a => by
    obtain ⟨h1, h2, h3⟩ := fold_min r (min a y.t)
    rw [List.foldl_cons]
    refine ⟨?_, by omega, fun z hz => ?_⟩
    · rcases h1 with h1 | ⟨z, hz, h1⟩
      · by_cases e : a ≤ y.t
        · exact Or.inl (by rw [h1]; omega)
        · exact Or.inr ⟨y, by simp, by rw [h1]; omega⟩
      · exact Or.inr ⟨z, by simp [hz], h1⟩
    · rcases List.mem_cons.1 hz with rfl | hz
      · omega
      · exact h3 z hz
theorem nxt_min {T : List Tm} (h : 0 < T.length) : IsMin T (nxt T) := by
  cases T with
  | nil => simp at h
  | cons x r =>
    obtain ⟨h1, h2, h3⟩ := fold_min r x.t
    refine ⟨?_, fun z hz => ?_⟩
    · rcases h1 with h1 | ⟨y, hy, h1⟩
      · exact ⟨x, by simp, h1.symm⟩
      · exact ⟨y, by simp [hy], h1⟩
    · rcases List.mem_cons.1 hz with rfl | hz
      · exact h2
      · exact h3 z hz
theorem arm_len {T : List Tm} {now last t tag : Int} (h : T.length ≤ 1024) : (armT T now last t tag).length ≤ 1024 := by
  unfold armT
  split
  · simp; omega
  · exact h
theorem wa_new (w : World) : Calls Try.prog 8 #[] w fun e w' => ∃ b m K, e = .returned (.pointer (some ⟨b, 0, none⟩)) ∧ Hid (WA w' b m 0 0 [] K ∧ (∀ k, K k → w.heap.size ≤ k) ∧ Below w.heap.size w w') := by
  refine (new_any w).mono ?_
  rintro e w' ⟨b, m, rfl, HN⟩
  refine ⟨b, m, WK b m (fun _ => .slice none 0 0), rfl, ⟨⟨_, _, HN.out.wh, Inv.start, rfl⟩, by simp, by omega⟩, fun k hk => ?_, HN.out.below⟩
  rcases hk with rfl | rfl | ⟨i, _, h⟩
  · exact HN.out.b
  · exact HN.out.m
  · simp [Value.ownBlock] at h
theorem wa_arm (b m : Nat) (now last : Int) (T : List Tm) (K : Nat → Prop) (t tag : Int) (hl : last < 9223372036854775807) (w : World) (x : WA w b m now last T K) :
    Calls Try.prog 12 #[.pointer (some ⟨b, 0, none⟩), .int .i64 t, .int .i64 tag] w fun e w' => e = .returned (.tuple #[.int .i64 (armN T last), .int .i64 (armE T)]) ∧ ∃ K', Hid (WA w' b m now (armL T last) (armT T now last t tag) K' ∧ Turned K w K' w') := by
  obtain ⟨V, R, xw, I, rfl⟩ := x.ex
  have h0 := x.last0
  by_cases h : T.length < 1024
  · have hlen := arm_len (now := now) (last := last) (t := t) (tag := tag) x.len
    unfold armN armE armL armT at *
    rw [if_pos h, if_pos h, if_pos h]
    rw [if_pos h] at hlen ⊢
    refine (arm_any b m now last T V R t tag h0 hl h w xw I).mono ?_
    rintro e w' ⟨rfl, V', R', HC⟩
    exact ⟨rfl, WK b m V', ⟨⟨V', R', HC.out.wh, HC.out.inv, rfl⟩, hlen, by omega⟩, Turned.of HC.out.turn⟩
  · unfold armN armE armL armT
    rw [if_neg h, if_neg h, if_neg h, if_neg h]
    refine (arm_full b m now last T V R t tag (by omega) x.len w xw).mono ?_
    rintro e w' ⟨rfl, rfl⟩
    exact ⟨rfl, WK b m V, x, Turned.refl _ _⟩
theorem wa_cancel (b m : Nat) (now last : Int) (T : List Tm) (K : Nat → Prop) (a : Int) (ha : fits a) (hl : last ≤ 9223372036854775807) (w : World) (x : WA w b m now last T K) :
    Calls Try.prog 13 #[.pointer (some ⟨b, 0, none⟩), .int .i64 a] w fun e w' => e = .returned (.bool (hasT T a)) ∧ ∃ K', Hid (WA w' b m now last (del T a) K' ∧ Turned K w K' w') := by
  obtain ⟨V, R, xw, I, rfl⟩ := x.ex
  refine (cancel_any b m now last T V R a ha hl x.len w xw I).mono ?_
  rintro e w' ⟨rfl, V', R', HC⟩
  exact ⟨rfl, WK b m V', ⟨⟨V', R', HC.out.wh, HC.out.inv, rfl⟩, Nat.le_trans (List.length_filter_le _ _) x.len, x.last0⟩, Turned.of HC.out.turn⟩
/-- what an Advance answers and leaves. -/
structure AdvA (w : World) (b m : Nat) (last : Int) (T0 : List Tm) (K : Nat → Prop) (e : Int) (w' : World) (v : Value) (F T : List Tm) (K' : Nat → Prop) : Prop where
  wa : WA w' b m e last T K'
  turned : Turned K w K' w'
  fired : Fired T0 e F T
  row : RowF w' v F
  new : ∀ g, v.ownBlock = some g → w.heap.size ≤ g ∧ ¬ K' g
theorem wa_advance (b m : Nat) (now last : Int) (T0 : List Tm) (K : Nat → Prop) (t : Int) (hl : last ≤ 9223372036854775807) (w : World) (x : WA w b m now last T0 K) :
    Calls Try.prog 14 #[.pointer (some ⟨b, 0, none⟩), .int .i64 t] w fun en w' => ∃ ad cap F, en = .returned (.slice ad F.length cap) ∧ ∃ T K', Hid (AdvA w b m last T0 K (cnt now t) w' (.slice ad F.length cap) F T K') := by
  obtain ⟨V, R, xw, I, rfl⟩ := x.ex
  refine (advance_any b m now last T0 V R t hl x.len w xw I).mono ?_
  rintro e w' ⟨ad, cap, F, rfl, T, V', R', HC⟩
  refine ⟨ad, cap, F, rfl, T, WK b m V', ⟨⟨V', R', HC.out.wh, HC.out.inv, rfl⟩, ?_, x.last0⟩, Turned.of HC.out.turn, HC.out.fired, HC.out.row, fun g hg => ⟨HC.out.new g hg, HC.out.off g hg⟩⟩
  rw [HC.out.fired.left]
  exact Nat.le_trans (List.length_filter_le _ _) x.len
theorem wa_next (b m : Nat) (now last : Int) (T : List Tm) (K : Nat → Prop) (hl : last ≤ 9223372036854775807) (w : World) (x : WA w b m now last T K) :
    Calls Try.prog 15 #[.pointer (some ⟨b, 0, none⟩)] w fun e w' => e = .returned (.tuple #[.int .i64 (nxt T), .bool (decide (0 < T.length))]) ∧ ∃ q, w' = w.drewN q := by
  obtain ⟨V, R, xw, I, rfl⟩ := x.ex
  by_cases h : 0 < T.length
  · refine (next_some b m now last T V R hl x.len h w xw I).mono ?_
    rintro e w' ⟨M, q, rfl, HM, rfl⟩
    refine ⟨?_, q, rfl⟩
    rw [HM.out.eq (nxt_min h), decide_eq_true h]
  · have h0 : T.length = 0 := by omega
    have hn : T = [] := List.eq_nil_of_length_eq_zero h0
    refine (next_none b m now last T V R h0 w xw).mono ?_
    rintro e w' ⟨rfl, rfl⟩
    refine ⟨?_, 0, rfl⟩
    rw [hn]; rfl
theorem wa_now (b m : Nat) (now last : Int) (T : List Tm) (K : Nat → Prop) (w : World) (x : WA w b m now last T K) :
    Calls Try.prog 17 #[.pointer (some ⟨b, 0, none⟩)] w fun e w' => e = .returned (.int .i64 now) ∧ w' = w := by
  obtain ⟨V, R, xw, I, rfl⟩ := x.ex
  exact now_any b m now last T V R w xw
theorem wa_len (b m : Nat) (now last : Int) (T : List Tm) (K : Nat → Prop) (w : World) (x : WA w b m now last T K) :
    Calls Try.prog 16 #[.pointer (some ⟨b, 0, none⟩)] w fun e w' => e = .returned (.int .i64 T.length) ∧ w' = w := by
  obtain ⟨V, R, xw, I, rfl⟩ := x.ex
  exact len_any b m now last T V R w xw
end Go.Proofs.Ythgcjocjkeieaaa
