/-
  The walk of the statement CardFlows.
-/
import Derived.Test.YtclmmncadlbaiaaCLiveW
import Derived.Test.YtclmmncadlbaiaaCFlowR
namespace Go.Proofs.Ytclmmncadlbaiaa
open Go.RowKit
set_option linter.all false

theorem part_val (pt : Part) : pt.val = .slice pt.a pt.zs.length pt.c := rfl
theorem cell_val {w : World} {b o : Nat} {pt : Part} {l : Nat} (h : w.cell? ⟨b, o, none⟩ = some pt.val) (hl : pt.zs.length = l) : w.cell? ⟨b, o, none⟩ = some (.slice pt.a l pt.c) := by rw [h, part_val, hl]
/-- the calls as the flow meets them. -/
theorem arr_len (c : Nat) (pt : Part) (l : Nat) (hl : pt.zs.length = l) (w : World) (h : l = 0 ∨ 1514 < l) (h2 : l ≤ 140737488351232) :
    Calls Try.prog 15 #[.pointer (some ⟨c, 0, none⟩), .slice pt.a l pt.c] w fun e w' => e = .returned (.bool false) ∧ w' = w := arrive_len _ _ l _ w h (by omega)
theorem arr_full {w : World} {n m c g h : Nat} {S : CS} {came laid : List (List Int)} {got gone i : Nat} (x : FlowC w n m c g h S came laid got gone i) (hr : ¬ came.length < got + n) (hi : i < 4398046511104) (pt : Part) (l : Nat) (hl : pt.zs.length = l) (h1 : 1 ≤ l) (h2 : l ≤ 1514) :
    Calls Try.prog 15 #[.pointer (some ⟨c, 0, none⟩), .slice pt.a l pt.c] w fun e w' => e = .returned (.bool false) ∧ ∃ S', FlowC w' n m c g h S' came laid got gone (i + 1) ∧ Only (CardK c g h) w w' := by
  obtain ⟨p, hp, hb⟩ := x.rx.inFull hr
  rw [← x.nr] at hp
  exact (arrive_full c g h S p _ l _ w x.card h1 h2 hp hb (by have := x.cd; omega)).mono (by rintro e w' ⟨rfl, h3, h4⟩; exact ⟨rfl, _, x.drop h3, h4⟩)
theorem arr_yes {w : World} {n m c g h : Nat} {S : CS} {came laid : List (List Int)} {got gone i : Nat} (x : FlowC w n m c g h S came laid got gone i) (hr : came.length < got + n) (hi : i < 4398046511104) (pt : Part) (hok : pt.ok w) (l : Nat) (hl : pt.zs.length = l) (h1 : 1 ≤ l) (h2 : l ≤ 1514) :
    Calls Try.prog 15 #[.pointer (some ⟨c, 0, none⟩), .slice pt.a l pt.c] w fun e w' => e = .returned (.bool true) ∧ ∃ S', FlowC w' n m c g h S' (came ++ [pt.zs]) laid got gone (i + 1) ∧ Only (CardK c g h) w w' := by
  obtain ⟨p, hp, hb⟩ := x.rx.inFree hr
  rw [← x.nr] at hp
  subst hl
  exact (arrive_yes c g h S p pt w x.card hok h1 h2 hp (by simpa using hb) (by have := x.ci; have := x.cl; omega)).mono (by rintro e w' ⟨rfl, h3, h4⟩; exact ⟨rfl, _, x.came' hr _ h3, h4⟩)
theorem rx_free {w : World} {n m c g h : Nat} {S : CS} {came laid : List (List Int)} {got gone i : Nat} (x : FlowC w n m c g h S came laid got gone i) (hr : ¬ got < came.length) (q : Nat) (hq : q = got % n) :
    Calls Try.prog 16 #[.pointer (some ⟨c, 0, none⟩), .int .i64 q] w fun e w' => ∃ g' l' c', e = .returned (.tuple #[.agg #[.bool true, .slice (some ⟨g', 0, none⟩) l' c'], .int .i64 0]) ∧ Below w.heap.size w w' := by
  obtain ⟨p, hp, hb⟩ := x.rx.outFree hr
  subst hq
  refine (rx_any c g h S _ w x.card).mono ?_
  rintro e w' ⟨b, a, l, cc, nn, rfl, hs⟩
  rcases hs with ⟨j, p', hj, hp', rfl, rfl, g', hv, h1, h2, h3⟩ | ⟨h1, _⟩
  · have : j = got % n := by omega
    subst this
    rw [hp] at hp'
    simp only [Option.some.injEq] at hp'
    subst hp'
    rw [hv, hb]
    exact ⟨g', _, _, rfl, h3⟩
  · have := Nat.mod_lt got x.rx.pos
    have h2 := x.rx.len
    simp [hasB] at h1
    omega
theorem rx_used {w : World} {n m c g h : Nat} {S : CS} {came laid : List (List Int)} {got gone i : Nat} (x : FlowC w n m c g h S came laid got gone i) (hr : got < came.length) (q : Nat) (hq : q = got % n) :
    Calls Try.prog 16 #[.pointer (some ⟨c, 0, none⟩), .int .i64 q] w fun e w' => ∃ g' l', e = .returned (.tuple #[.agg #[.bool false, .slice (some ⟨g', 0, none⟩) l' l'], .int .i64 0]) ∧ Hid (l' = (came.getD got []).length) ∧ Hid (w.heap.size ≤ g') ∧ Hid (w'.heap[g']? = some (.cells (u8s (came.getD got [])).toArray 5 (0, 0))) ∧ Hid (∀ z, z ∈ came.getD got [] → 0 ≤ z ∧ z ≤ 255) ∧ Hid (Below w.heap.size w w') := by
  have hp := x.rx.outUsed hr
  subst hq
  have hbd : ∀ z, z ∈ came.getD got [] → 0 ≤ z ∧ z ≤ 255 := by
    obtain ⟨C, _, _, h3⟩ := x.card.rx
    exact (h3 _ _ hp).2.2.2.2
  refine (rx_any c g h S _ w x.card).mono ?_
  rintro e w' ⟨b, a, l, cc, nn, rfl, hs⟩
  rcases hs with ⟨j, p', hj, hp', rfl, rfl, g', hv, h1, h2, h3⟩ | ⟨h1, _⟩
  · have : j = got % n := by omega
    subst this
    rw [hp] at hp'
    simp only [Option.some.injEq] at hp'
    subst hp'
    rw [hv]
    exact ⟨g', _, rfl, rfl, h1, h2, hbd, h3⟩
  · have := Nat.mod_lt got x.rx.pos
    have h2 := x.rx.len
    simp [hasB] at h1
    omega
theorem give_flow {w : World} {n m c g h : Nat} {S : CS} {came laid : List (List Int)} {got gone i : Nat} (x : FlowC w n m c g h S came laid got gone i) (hr : got < came.length) (q : Nat) (hq : q = got % n) :
    Calls Try.prog 17 #[.pointer (some ⟨c, 0, none⟩), .int .i64 q] w fun e w' => e = .returned (.int .i64 0) ∧ ∃ S', FlowC w' n m c g h S' came laid (got + 1) gone (i + 1) ∧ Only (CardK c g h) w w' := by
  subst hq
  exact (give_yes c g h S (got % n) _ w x.card (x.rx.outUsed hr) rfl).mono (by rintro e w' ⟨rfl, h3, h4⟩; exact ⟨rfl, _, x.given hr h3, h4⟩)
theorem has_t {n : Nat} {fs : List (List Int)} {lo : Nat} {u : Bool} {ps : List Pl} (h : Win n fs lo u ps) (a : Nat) : hasB ps.length ((a % n : Nat) : Int) = true := by
  have := Nat.mod_lt a h.pos
  have := h.len
  simp [hasB]; omega
theorem lay_wrong {w : World} {n m c g h : Nat} {S : CS} {came laid : List (List Int)} {got gone i : Nat} (x : FlowC w n m c g h S came laid got gone i) (q : Nat) (hq : q = laid.length % m) (pt : Part) (l : Nat) (hl : l < 60 ∨ 1514 < l) (h2 : l ≤ 140737488351232) :
    Calls Try.prog 18 #[.pointer (some ⟨c, 0, none⟩), .int .i64 q, .slice pt.a l pt.c] w fun e w' => ∃ z : Int, e = .returned (.int .i64 z) ∧ ¬ z = 0 ∧ Below w.heap.size w w' := by
  subst hq
  rcases hl with hl | hl
  · exact (lay_short c g h S _ _ l _ w x.card (has_t x.tx _) hl).mono (by rintro e w' ⟨rfl, rfl⟩; exact ⟨5, rfl, by omega, Below.refl _ _⟩)
  · exact (lay_long c g h S _ _ l _ w x.card (has_t x.tx _) hl (by omega)).mono (by rintro e w' ⟨rfl, rfl⟩; exact ⟨2, rfl, by omega, Below.refl _ _⟩)
theorem lay_full {w : World} {n m c g h : Nat} {S : CS} {came laid : List (List Int)} {got gone i : Nat} (x : FlowC w n m c g h S came laid got gone i) (hr : ¬ laid.length < gone + m) (q : Nat) (hq : q = laid.length % m) (pt : Part) (l : Nat) (h1 : 60 ≤ l) (h2 : l ≤ 1514) :
    Calls Try.prog 18 #[.pointer (some ⟨c, 0, none⟩), .int .i64 q, .slice pt.a l pt.c] w fun e w' => ∃ z : Int, e = .returned (.int .i64 z) ∧ ¬ z = 0 ∧ Below w.heap.size w w' := by
  subst hq
  obtain ⟨p, hp, hb⟩ := x.tx.inFull hr
  exact (lay_owner c g h S _ p _ l _ w x.card hp hb h1 h2).mono (by rintro e w' ⟨rfl, rfl⟩; exact ⟨41, rfl, by omega, Below.refl _ _⟩)
theorem lay_flow {w : World} {n m c g h : Nat} {S : CS} {came laid : List (List Int)} {got gone i : Nat} (x : FlowC w n m c g h S came laid got gone i) (hr : laid.length < gone + m) (q : Nat) (hq : q = laid.length % m) (pt : Part) (hok : pt.ok w) (l : Nat) (hl : pt.zs.length = l) (h1 : 60 ≤ l) (h2 : l ≤ 1514) :
    Calls Try.prog 18 #[.pointer (some ⟨c, 0, none⟩), .int .i64 q, .slice pt.a l pt.c] w fun e w' => e = .returned (.int .i64 0) ∧ ∃ S', FlowC w' n m c g h S' came (laid ++ [pt.zs]) got gone (i + 1) ∧ Only (CardK c g h) w w' := by
  subst hq hl
  obtain ⟨p, hp, hb⟩ := x.tx.inFree hr
  exact (lay_yes c g h S _ p pt w x.card hok hp (by simpa using hb) h1 h2).mono (by rintro e w' ⟨rfl, h3, h4⟩; exact ⟨rfl, _, x.laid' hr _ h3, h4⟩)
theorem dep_none {w : World} {n m c g h : Nat} {S : CS} {came laid : List (List Int)} {got gone i : Nat} (x : FlowC w n m c g h S came laid got gone i) (hr : ¬ gone < laid.length) :
    Calls Try.prog 19 #[.pointer (some ⟨c, 0, none⟩)] w fun e w' => e = .returned (.tuple #[.slice none 0 0, .bool false]) ∧ Below w.heap.size w w' := by
  obtain ⟨p, hp, hb⟩ := x.tx.outFree hr
  rw [← x.nt] at hp
  exact depart_no c g h S p w x.card hp (by simpa using hb)
theorem dep_flow {w : World} {n m c g h : Nat} {S : CS} {came laid : List (List Int)} {got gone i : Nat} (x : FlowC w n m c g h S came laid got gone i) (hr : gone < laid.length) (hi : i < 4398046511104) :
    Calls Try.prog 19 #[.pointer (some ⟨c, 0, none⟩)] w fun e w' => ∃ g' l', e = .returned (.tuple #[.slice (some ⟨g', 0, none⟩) l' l', .bool true]) ∧ Hid (l' = (laid.getD gone []).length) ∧ Hid (w'.heap[g']? = some (.cells (u8s (laid.getD gone [])).toArray 5 (0, 0))) ∧ Hid (∀ z, z ∈ laid.getD gone [] → 0 ≤ z ∧ z ≤ 255) ∧ ∃ S', Hid (FlowC w' n m c g h S' came laid got (gone + 1) (i + 1)) ∧ Hid (Only (CardK c g h) w w') := by
  have hp := x.tx.outUsed hr
  have hbd : ∀ z, z ∈ laid.getD gone [] → 0 ≤ z ∧ z ≤ 255 := by
    obtain ⟨C, _, _, h3⟩ := x.card.tx
    exact (h3 _ _ hp).2.2.2.2
  rw [← x.nt] at hp
  exact (depart_yes c g h S _ w x.card hp rfl (by have := x.co; have := x.ll; have := x.tx.lo1; omega)).mono (by rintro e w' ⟨v, rfl, h3, g', rfl, h4, h5, h6⟩; exact ⟨g', _, rfl, rfl, h5, hbd, _, x.gone' hr h3, h6⟩)
end Go.Proofs.Ytclmmncadlbaiaa

