/-
  awake: the chapter's first examples.
-/
import Derived.Test.YtdfefhiajleejaaDiSet
namespace Go.Proofs.Ytdfefhiajleejaa
open Go.RowKit
set_option linter.all false

theorem PartU.of_heap {w : World} {g : Nat} {zs : List Int} {cur : Array Value} {f : Nat × Nat} (hg : w.heap[g]? = some (.cells cur 37 f)) (hc : ∀ j, j < zs.length → cur[j]? = some (.int .u32 (zs.getD j 0))) (hw : Words zs) {c : Nat} (hl : zs.length ≤ c) : PartU w (some ⟨g, 0, none⟩) c zs :=
  ⟨hw, hl, Or.inr ⟨g, 0, rfl, fun j hj => by rw [Nat.zero_add, cell_of_heap hg]; exact hc j hj⟩⟩
def E567 : Obj := .cells #[.int .u32 5, .int .u32 6, .int .u32 7] 37 (0, 0)
def E2 : Obj := .cells #[.int .u32 16383, .int .u32 20] 37 (0, 0)
theorem part567 {w : World} {g : Nat} (h : w.heap[g]? = some E567) : PartU w (some ⟨g, 0, none⟩) 3 [5, 6, 7] :=
  PartU.of_heap h (fun j hj => by simp at hj; rcases j with _ | _ | _ | j <;> first | rfl | omega) (by intro z hz; simp at hz; omega) (by simp)
theorem part2 {w : World} {g : Nat} (h : w.heap[g]? = some E2) : PartU w (some ⟨g, 0, none⟩) 2 [16383, 20] :=
  PartU.of_heap h (fun j hj => by simp at hj; rcases j with _ | _ | j <;> first | rfl | omega) (by intro z hz; simp at hz; omega) (by simp)
/-- the two dices of awake. -/
abbrev AL (p q : Nat) (zs : List Int) : DL := [(46, p, []), (46, q, zs)]
section
variable {w0 w : World} {p q : Nat} {X : List (Nat × Obj)}
theorem aw_span1 (h : DS w0 w (AL p q [5, 6, 7, 16383, 20]) X) : Calls Try.prog 16 #[.pointer (some ⟨q, 0, none⟩), .int .i64 10, .int .i64 12] w fun e w' => e = .returned (.int .i64 12) ∧ Hid (DS w0 w' (AL p q [6, 7, 16383, 20]) X) :=
  (ds_span h 1 rfl (by simp [maxLen]) 10 12 (by omega) (by omega)).mono fun e w' k => ⟨k.1.trans (ret_int (by decide)), k.2⟩
theorem aw_span2 (h : DS w0 w (AL p q [6, 7, 16383, 20]) X) : Calls Try.prog 16 #[.pointer (some ⟨q, 0, none⟩), .int .i64 3, .int .i64 1] w fun e w' => e = .returned (.int .i64 3) ∧ Hid (DS w0 w' (AL p q [6, 7, 16383, 20]) X) :=
  (ds_span h 1 rfl (by simp [maxLen]) 3 1 (by omega) (by omega)).mono fun e w' k => ⟨k.1.trans (ret_int (by decide)), k.2⟩
theorem aw_span3 (h : DS w0 w (AL p q [6, 7, 16383, 20]) X) : Calls Try.prog 16 #[.pointer (some ⟨q, 0, none⟩), .int .i64 (-1), .int .i64 0] w fun e w' => e = .returned (.int .i64 (-1)) ∧ Hid (DS w0 w' (AL p q [7, 16383, 20]) X) :=
  (ds_span h 1 rfl (by simp [maxLen]) (-1) 0 (by omega) (by omega)).mono fun e w' k => ⟨k.1.trans (ret_int (by decide)), k.2⟩
theorem aw_next (h : DS w0 w (AL p q [7, 16383, 20]) X) : Calls Try.prog 14 #[.pointer (some ⟨q, 0, none⟩)] w fun e w' => e = .returned (.int .u32 7) ∧ Hid (DS w0 w' (AL p q [16383, 20]) X) :=
  (ds_next h 1 rfl (by simp [maxLen])).mono fun e w' k => ⟨k.1.trans (ret_int (by decide)), k.2⟩
theorem aw_port (h : DS w0 w (AL p q [16383, 20]) X) : Calls Try.prog 17 #[.pointer (some ⟨q, 0, none⟩)] w fun e w' => e = .returned (.int .i64 65535) ∧ Hid (DS w0 w' (AL p q [20]) X) :=
  (ds_port h 1 rfl (by simp [maxLen])).mono fun e w' k => ⟨k.1.trans (ret_int (by decide)), k.2⟩
theorem aw_back1 (h : DS w0 w (AL p q [20]) X) : Calls Try.prog 18 #[.pointer (some ⟨q, 0, none⟩), .int .i64 40, .int .i64 640, .int .i64 1] w fun e w' => e = .returned (.int .i64 50) ∧ Hid (DS w0 w' (AL p q []) X) :=
  (ds_back h 1 rfl (by simp [maxLen]) 40 640 1 (by omega)).mono fun e w' k => ⟨k.1.trans (ret_int (by decide)), k.2⟩
theorem aw_back2 (h : DS w0 w (AL p q []) X) : Calls Try.prog 18 #[.pointer (some ⟨q, 0, none⟩), .int .i64 40, .int .i64 640, .int .i64 5] w fun e w' => e = .returned (.int .i64 480) ∧ Hid (DS w0 w' (AL p q []) X) :=
  (ds_back h 1 rfl (by simp [maxLen]) 40 640 5 (by omega)).mono fun e w' k => ⟨k.1.trans (ret_int (by decide)), k.2⟩
theorem aw_none (h : DS w0 w (AL p q []) X) : Calls Try.prog 14 #[.pointer (some ⟨p, 0, none⟩)] w fun e w' => e = .returned (.int .u32 0) ∧ Hid (DS w0 w' (AL p q []) X) :=
  (ds_next h 0 rfl (by simp [maxLen])).mono fun e w' k => ⟨k.1.trans (ret_int (by decide)), k.2⟩
theorem aw_left (h : DS w0 w (AL p q [5, 6, 7, 16383, 20]) X) : Calls Try.prog 12 #[.pointer (some ⟨q, 0, none⟩)] w fun e w' => e = .returned (.int .i64 5) ∧ w' = w := ds_left h 1 rfl
theorem aw_left0 (h : DS w0 w (AL p q []) X) : Calls Try.prog 12 #[.pointer (some ⟨p, 0, none⟩)] w fun e w' => e = .returned (.int .i64 0) ∧ w' = w := ds_left h 0 rfl
theorem aw_add (h : DS w0 w (AL p q [5, 6, 7]) X) {g : Nat} (hg : w.heap[g]? = some E2) : Calls Try.prog 20 #[.pointer (some ⟨q, 0, none⟩), .slice (some ⟨g, 0, none⟩) 2 2] w fun e w' => e = .returned (.tuple #[]) ∧ Hid (DS w0 w' (AL p q [5, 6, 7, 16383, 20]) X) :=
  ds_add h 1 rfl (part2 hg) (by simp)
theorem aw_new1 (h : DS w0 w [] X) : Calls Try.prog 8 #[.slice none 0 0] w fun e w' => ∃ p, e = .returned (.pointer (some ⟨p, 0, none⟩)) ∧ Hid (DS w0 w' [(46, p, [])] X) :=
  (ds_new h (PartU.nil w) (by simp)).mono fun e w' k => by obtain ⟨p, k1, k2, _⟩ := k; exact ⟨p, k1, k2⟩
theorem aw_new2 (h : DS w0 w [(46, p, [])] X) {g : Nat} (hg : w.heap[g]? = some E567) : Calls Try.prog 8 #[.slice (some ⟨g, 0, none⟩) 3 3] w fun e w' => ∃ q, e = .returned (.pointer (some ⟨q, 0, none⟩)) ∧ Hid (DS w0 w' (AL p q [5, 6, 7]) X) :=
  (ds_new h (part567 hg) (by simp)).mono fun e w' k => by obtain ⟨p, k1, k2, _⟩ := k; exact ⟨p, k1, k2⟩
end
set_option maxRecDepth 20000 in
set_option maxHeartbeats 4000000 in
theorem awake_any (w : World) : Calls Try.prog 6 #[] w fun e w' => e = .returned (.bool true) ∧ Below w.heap.size w w' := by
  go_enter Try.func6, Try.ntmps6
  go_wp2_with (first
    | (go_at_call 8; (with_reducible refine (aw_new1 (DS.nil w)).mono ?_); go_loud (rintro e w1 ⟨p, rfl, I1⟩; have I2 : Hid (DS w (w1.alloc E567) [(46, p, [])] [(w1.heap.size, E567)]) := I1.out.push E567; clear I1))
    | (go_at_call 8; refine (aw_new2 I2.out (I2.out.ho.at 0 _ _ rfl)).mono ?_; go_loud (rintro e w2 ⟨q, rfl, I3⟩; have I4 : Hid (DS w (w2.alloc E2) (AL p q [5, 6, 7]) [(w2.heap.size, E2)]) := (I3.out.drop (Y := []) (by simp)).push E2; clear I2 I3))
    | (go_at_call 20; refine (aw_add I4.out (I4.out.ho.at 0 _ _ rfl)).mono ?_; go_loud (rintro e w3 ⟨rfl, I5⟩; clear I4))
    | (go_at_call 12; refine (aw_left I5.out).mono ?_; go_loud (rintro e w' ⟨rfl, hw⟩; subst w'))
    | (go_at_call 16; (with_reducible refine (aw_span1 I5.out).mono ?_); go_loud (rintro e w4 ⟨rfl, I6⟩; clear I5))
    | (go_at_call 16; (with_reducible refine (aw_span2 I6.out).mono ?_); go_loud (rintro e w5 ⟨rfl, I7⟩; clear I6))
    | (go_at_call 16; (with_reducible refine (aw_span3 I7.out).mono ?_); go_loud (rintro e w6 ⟨rfl, I8⟩; clear I7))
    | (go_at_call 14; (with_reducible refine (aw_next I8.out).mono ?_); go_loud (rintro e w7 ⟨rfl, I9⟩; clear I8))
    | (go_at_call 17; (with_reducible refine (aw_port I9.out).mono ?_); go_loud (rintro e w8 ⟨rfl, I10⟩; clear I9))
    | (go_at_call 18; (with_reducible refine (aw_back1 I10.out).mono ?_); go_loud (rintro e w9 ⟨rfl, I11⟩; clear I10))
    | (go_at_call 18; (with_reducible refine (aw_back2 I11.out).mono ?_); go_loud (rintro e w10 ⟨rfl, I12⟩; clear I11))
    | (go_at_call 14; (with_reducible refine (aw_none I12.out).mono ?_); go_loud (rintro e w11 ⟨rfl, I13⟩; clear I12))
    | (go_at_call 12; refine (aw_left0 I13.out).mono ?_; go_loud (rintro e w' ⟨rfl, hw⟩; subst w')))
  go_ret
  exact ⟨rfl, I13.out.bel⟩
end Go.Proofs.Ytdfefhiajleejaa
