/-
  live: a few calls.
-/
import Derived.Test.YthgcjocjkeieaaaWAct
import Derived.Test.YthgcjocjkeieaaaWSame
namespace Go.Proofs.Ythgcjocjkeieaaa
open Go.RowKit
set_option linter.all false

/-- a wheel that a call itself has made. -/
structure LV (w0 w : World) (b : Nat) (now last : Int) (T : List Tm) : Prop where
  ex : ∃ m K, WA w b m now last T K ∧ (∀ k, K k → w0.heap.size ≤ k) ∧ Below w0.heap.size w0 w
theorem LV.next_ {w0 w w' : World} {b m : Nat} {now' last' : Int} {T' : List Tm} {K K' : Nat → Prop} (hk : ∀ k, K k → w0.heap.size ≤ k) (hb : Below w0.heap.size w0 w) (h : WA w' b m now' last' T' K') (ht : Turned K w K' w') : LV w0 w' b now' last' T' := by
  refine ⟨m, K', h, fun k hk' => ?_, hb.trans (ht.only.below hk hb.size)⟩
  rcases ht.new k hk' with h1 | h1
  · exact hk k h1
  · have := hb.size; omega
theorem LV.arm {w0 w : World} {b : Nat} {now last : Int} {T : List Tm} (h : LV w0 w b now last T) (hl : last < 9223372036854775807) (t tag : Int) :
    Calls Try.prog 12 #[.pointer (some ⟨b, 0, none⟩), .int .i64 t, .int .i64 tag] w fun e w' => e = .returned (.tuple #[.int .i64 (armN T last), .int .i64 (armE T)]) ∧ Hid (LV w0 w' b now (armL T last) (armT T now last t tag)) := by
  obtain ⟨m, K, hw, hk, hb⟩ := h.ex
  refine (wa_arm b m now last T K t tag hl w hw).mono ?_
  rintro e w' ⟨rfl, K', H⟩
  exact ⟨rfl, LV.next_ hk hb H.out.1 H.out.2⟩
theorem LV.cancel {w0 w : World} {b : Nat} {now last : Int} {T : List Tm} (h : LV w0 w b now last T) (hl : last ≤ 9223372036854775807) (a : Int) (ha : fits a) :
    Calls Try.prog 13 #[.pointer (some ⟨b, 0, none⟩), .int .i64 a] w fun e w' => e = .returned (.bool (hasT T a)) ∧ Hid (LV w0 w' b now last (del T a)) := by
  obtain ⟨m, K, hw, hk, hb⟩ := h.ex
  refine (wa_cancel b m now last T K a ha hl w hw).mono ?_
  rintro e w' ⟨rfl, K', H⟩
  exact ⟨rfl, LV.next_ hk hb H.out.1 H.out.2⟩
theorem LV.next {w0 w : World} {b : Nat} {now last : Int} {T : List Tm} (h : LV w0 w b now last T) (hl : last ≤ 9223372036854775807) :
    Calls Try.prog 15 #[.pointer (some ⟨b, 0, none⟩)] w fun e w' => e = .returned (.tuple #[.int .i64 (nxt T), .bool (decide (0 < T.length))]) ∧ Hid (LV w0 w' b now last T) := by
  obtain ⟨m, K, hw, hk, hb⟩ := h.ex
  refine (wa_next b m now last T K hl w hw).mono ?_
  rintro e w' ⟨rfl, q, rfl⟩
  exact ⟨rfl, m, K, hw.drewN q, hk, ⟨hb.os, hb.tape, hb.output, hb.size, hb.block⟩⟩
theorem LV.advance {w0 w : World} {b : Nat} {now last : Int} {T : List Tm} (h : LV w0 w b now last T) (hl : last ≤ 9223372036854775807) (t : Int) :
    Calls Try.prog 14 #[.pointer (some ⟨b, 0, none⟩), .int .i64 t] w fun e w' => ∃ ad cap F T', e = .returned (.slice ad F.length cap) ∧ Hid (LV w0 w' b (cnt now t) last T') ∧ Hid (Fired T (cnt now t) F T') ∧ Hid (RowF w' (.slice ad F.length cap) F) := by
  obtain ⟨m, K, hw, hk, hb⟩ := h.ex
  refine (wa_advance b m now last T K t hl w hw).mono ?_
  rintro e w' ⟨ad, cap, F, rfl, T', K', H⟩
  exact ⟨ad, cap, F, T', rfl, LV.next_ hk hb H.out.wa H.out.turned, H.out.fired, H.out.row⟩
theorem LV.now {w0 w : World} {b : Nat} {now last : Int} {T : List Tm} (h : LV w0 w b now last T) : Calls Try.prog 17 #[.pointer (some ⟨b, 0, none⟩)] w fun e w' => e = .returned (.int .i64 now) ∧ w' = w := by
  obtain ⟨m, K, hw, hk, hb⟩ := h.ex
  exact wa_now b m now last T K w hw
theorem LV.len {w0 w : World} {b : Nat} {now last : Int} {T : List Tm} (h : LV w0 w b now last T) : Calls Try.prog 16 #[.pointer (some ⟨b, 0, none⟩)] w fun e w' => e = .returned (.int .i64 T.length) ∧ w' = w := by
  obtain ⟨m, K, hw, hk, hb⟩ := h.ex
  exact wa_len b m now last T K w hw
theorem LV.below {w0 w w' : World} {b : Nat} {now last : Int} {T : List Tm} (h : LV w0 w b now last T) (hb' : Below w.heap.size w w') : LV w0 w' b now last T := by
  obtain ⟨m, K, hw, hk, hb⟩ := h.ex
  exact ⟨m, K, hw.below hb', hk, bstep hb hb'⟩
theorem LV.drewN {w0 w : World} {b : Nat} {now last : Int} {T : List Tm} (h : LV w0 w b now last T) (q : Nat) : LV w0 (w.drewN q) b now last T := by
  obtain ⟨m, K, hw, hk, hb⟩ := h.ex
  exact ⟨m, K, hw.drewN q, hk, ⟨hb.os, hb.tape, hb.output, hb.size, hb.block⟩⟩
theorem lv_new (w : World) : Calls Try.prog 8 #[] w fun e w' => ∃ b, e = .returned (.pointer (some ⟨b, 0, none⟩)) ∧ Hid (LV w w' b 0 0 []) := by
  refine (wa_new w).mono ?_
  rintro e w' ⟨b, m, K, rfl, H⟩
  exact ⟨b, rfl, m, K, H.out.1, H.out.2.1, H.out.2.2⟩
theorem live_fired (F T : List Tm) (h : Fired [⟨5, 2, 50⟩] 6 F T) : F = [⟨5, 2, 50⟩] ∧ T = [] := by
  have k : Fired [⟨5, 2, 50⟩] 6 [⟨5, 2, 50⟩] [] := ⟨fun x => ⟨fun hx => ⟨hx, by simp at hx; subst hx; simp⟩, fun hx => hx.1⟩, by simp, by simp⟩
  exact h.eq k
set_option maxRecDepth 20000 in
set_option maxHeartbeats 4000000 in
theorem live_any (w : World) : Calls Try.prog 7 #[] w fun e w' => e = .returned (.bool true) ∧ Below w.heap.size w w' := by
  have HN := hid (lv_new w)
  have H1 : Hid (∀ b w1, LV w w1 b 0 0 [] → Calls Try.prog 15 #[.pointer (some ⟨b, 0, none⟩)] w1 fun e w' => e = .returned (.tuple #[.int .i64 0, .bool false]) ∧ Hid (LV w w' b 0 0 [])) := fun b w1 h => h.next (by decide)
  have H2 : Hid (∀ b w1, LV w w1 b 0 0 [] → Calls Try.prog 12 #[.pointer (some ⟨b, 0, none⟩), .int .i64 7, .int .i64 70] w1 fun e w' => e = .returned (.tuple #[.int .i64 1, .int .i64 0]) ∧ Hid (LV w w' b 0 1 [⟨7, 1, 70⟩])) := fun b w1 h => h.arm (by decide) 7 70
  have H3 : Hid (∀ b w1, LV w w1 b 0 1 [⟨7, 1, 70⟩] → Calls Try.prog 12 #[.pointer (some ⟨b, 0, none⟩), .int .i64 5, .int .i64 50] w1 fun e w' => e = .returned (.tuple #[.int .i64 2, .int .i64 0]) ∧ Hid (LV w w' b 0 2 [⟨7, 1, 70⟩, ⟨5, 2, 50⟩])) := fun b w1 h => h.arm (by decide) 5 50
  have H4 : Hid (∀ b w1, LV w w1 b 0 2 [⟨7, 1, 70⟩, ⟨5, 2, 50⟩] → Calls Try.prog 15 #[.pointer (some ⟨b, 0, none⟩)] w1 fun e w' => e = .returned (.tuple #[.int .i64 5, .bool true]) ∧ Hid (LV w w' b 0 2 [⟨7, 1, 70⟩, ⟨5, 2, 50⟩])) := fun b w1 h => h.next (by decide)
  have H5 : Hid (∀ b w1, LV w w1 b 0 2 [⟨7, 1, 70⟩, ⟨5, 2, 50⟩] → Calls Try.prog 13 #[.pointer (some ⟨b, 0, none⟩), .int .i64 1] w1 fun e w' => e = .returned (.bool true) ∧ Hid (LV w w' b 0 2 [⟨5, 2, 50⟩])) := fun b w1 h => h.cancel (by decide) 1 (by unfold fits; decide)
  have H6 : Hid (∀ b w1, LV w w1 b 0 2 [⟨5, 2, 50⟩] → Calls Try.prog 14 #[.pointer (some ⟨b, 0, none⟩), .int .i64 6] w1 fun e w' => ∃ ad cap, e = .returned (.slice ad 1 cap) ∧ Hid (LV w w' b 6 2 []) ∧ Hid (PartF w' (.slice ad 1 cap) [⟨5, 2, 50⟩])) := fun b w1 h => by
    refine (h.advance (by decide) 6).mono ?_
    rintro e w' ⟨ad, cap, F, T', rfl, HL, HF, HR⟩
    obtain ⟨rfl, rfl⟩ := live_fired F T' HF.out
    exact ⟨ad, cap, rfl, HL.out, PartF.of HR.out (by simp)⟩
  have H7 : Hid (∀ b w1 ad cap, LV w w1 b 6 2 [] → PartF w1 (.slice ad 1 cap) [⟨5, 2, 50⟩] → Calls Try.prog 18 #[.slice ad 1 cap, .slice (some ⟨w1.heap.size, 0, none⟩) 1 1] (w1.alloc (.cells #[.int .i64 5, .int .i64 2, .int .i64 50] 44)) fun e w' => e = .returned (.bool true) ∧ Hid (LV w w' b 6 2 [])) := fun b w1 ad cap h hp => by
    have hb := balloc w1 (.cells #[.int .i64 5, .int .i64 2, .int .i64 50] 44)
    have hp1 : PartF (w1.alloc (.cells #[.int .i64 5, .int .i64 2, .int .i64 50] 44)) (.slice ad 1 cap) [⟨5, 2, 50⟩] := hp.keep fun g hg => by
      obtain ⟨ad', cap', he, _, h1⟩ := hp.ex
      obtain ⟨g', hg', h2⟩ := h1 (by simp)
      simp only [Value.slice.injEq] at he
      rw [he.1, hg'] at hg
      simp [Value.ownBlock] at hg
      subst hg
      exact hb.block _ (World.block_lt_of_cell? w1 _ (h2 0 ⟨5, 2, 50⟩ rfl).1)
    have hp2 : PartF (w1.alloc (.cells #[.int .i64 5, .int .i64 2, .int .i64 50] 44)) (.slice (some ⟨w1.heap.size, 0, none⟩) 1 1) [⟨5, 2, 50⟩] := by
      refine ⟨_, _, rfl, by simp, fun _ => ⟨w1.heap.size, rfl, fun j x hx => ?_⟩⟩
      have hn := heap_new w1 (.cells #[.int .i64 5, .int .i64 2, .int .i64 50] 44)
      have hj : j = 0 := by
        rcases Nat.eq_zero_or_pos j with h | h
        · exact h
        · rw [List.getElem?_eq_none (by simp; omega)] at hx; simp at hx
      subst hj
      simp at hx
      subst hx
      exact ⟨cellHeap hn 0 rfl, cellHeap hn 1 rfl, cellHeap hn 2 rfl⟩
    refine (same_any _ _ [⟨5, 2, 50⟩] _ hp1 hp2).mono ?_
    rintro e w' ⟨rfl, q, rfl⟩
    exact ⟨rfl, (h.below hb).drewN q⟩
  have H8 : Hid (∀ b w1, LV w w1 b 6 2 [] → Calls Try.prog 17 #[.pointer (some ⟨b, 0, none⟩)] w1 fun e w' => e = .returned (.int .i64 6) ∧ w' = w1) := fun b w1 h => h.now
  have H9 : Hid (∀ b w1, LV w w1 b 6 2 [] → Calls Try.prog 16 #[.pointer (some ⟨b, 0, none⟩)] w1 fun e w' => e = .returned (.int .i64 0) ∧ w' = w1) := fun b w1 h => h.len
  go_enter Try.func7, Try.ntmps7
  go_wp2_with (first
    | (go_at_call 8; refine HN.out.mono ?_; go_loud (rintro e w1 ⟨b, rfl, HL⟩; clear HN))
    | (go_at_call 15; refine (H1.out _ _ HL.out).mono ?_; go_loud (rintro e w2 ⟨rfl, HL2⟩; clear HL H1))
    | (go_at_call 12; refine (H2.out _ _ HL2.out).mono ?_; go_loud (rintro e w3 ⟨rfl, HL3⟩; clear HL2 H2))
    | (go_at_call 12; refine (H3.out _ _ HL3.out).mono ?_; go_loud (rintro e w4 ⟨rfl, HL4⟩; clear HL3 H3))
    | (go_at_call 15; refine (H4.out _ _ HL4.out).mono ?_; go_loud (rintro e w5 ⟨rfl, HL5⟩; clear HL4 H4))
    | (go_at_call 13; refine (H5.out _ _ HL5.out).mono ?_; go_loud (rintro e w6 ⟨rfl, HL6⟩; clear HL5 H5))
    | (go_at_call 14; refine (H6.out _ _ HL6.out).mono ?_; go_loud (rintro e w7 ⟨ad, cap, rfl, HL7, HP7⟩; clear HL6 H6))
    | (go_at_call 18; refine (H7.out _ _ _ _ HL7.out HP7.out).mono ?_; go_loud (rintro e w8 ⟨rfl, HL8⟩; clear HL7 H7 HP7))
    | (go_at_call 17; refine (H8.out _ _ HL8.out).mono ?_; go_loud (rintro e w9 ⟨rfl, hw⟩; subst w9))
    | (go_at_call 16; refine (H9.out _ _ HL8.out).mono ?_; go_loud (rintro e w9 ⟨rfl, hw⟩; subst w9))
    | fail)
  go_ret
  obtain ⟨m, K, _, _, hb⟩ := HL8.out.ex
  exact ⟨rfl, hb⟩
set_option maxHeartbeats 1000000 in
theorem wheelNumbers_walk (w : World) : Calls Try.prog 3 #[] w fun e w' => e = .returned (.bool true) ∧ Below w.heap.size w w' := by
  have HL := hid (live_any w)
  go_enter Try.func3, Try.ntmps3
  go_wp2_with (first | (go_at_call 7; refine HL.out.mono ?_; go_loud (rintro e w1 ⟨rfl, hb⟩; have HB := hid hb; clear hb HL)) | fail)
  go_ret
  exact ⟨rfl, HB.out⟩
end Go.Proofs.Ythgcjocjkeieaaa
