import Derived.Test.YthipdchdbdmmnaaPMf
import Derived.Test.YthipdchdbdmmnaaPOpenO
/-
  Port: a call of a script at both: Look. Written by mkpmg.py.
-/
namespace Go.Proofs.Ythipdchdbdmmnaa
open Go.RowKit
set_option linter.all false

/-- what is kept, its two rows of any lengths. -/
structure B1 (w : World) (kb : Nat) (bp : Value) (ls ws : List Value) (lv wv : Value) : Prop where
  box : w.heap[kb]? = some (.cells #[bp, lv, wv] 48 (0, 0))
  lrow : Row w 25 lv ls
  wrow : Row w 25 wv ws
  apart : ∀ k, blkOf lv k → ¬ blkOf wv k
section
variable {w w' : World} {kb : Nat} {bp : Value} {ls ws : List Value} {lv wv : Value}
theorem B1.of (x : BK w kb bp ls ws lv wv) : B1 w kb bp ls ws lv wv := ⟨x.box, x.lrow, x.wrow, x.apart⟩
theorem B1.lt (h : B1 w kb bp ls ws lv wv) {k : Nat} (hk : BKK kb lv wv k) : k < w.heap.size := by
  rcases hk with rfl | hk | hk
  · exact heap_lt h.box
  · exact h.lrow.lt hk
  · exact h.wrow.lt hk
theorem B1.below (h : B1 w kb bp ls ws lv wv) (hb : Below w.heap.size w w') : B1 w' kb bp ls ws lv wv :=
  ⟨(hb.block kb (heap_lt h.box)).trans h.box, h.lrow.below hb, h.wrow.below hb, h.apart⟩
theorem B1.ne (h : B1 w kb bp ls ws lv wv) {k : Nat} (hk : blkOf lv k ∨ blkOf wv k) : k ≠ kb := by
  rintro rfl
  rcases hk with hk | hk
  · obtain ⟨c, f, h1⟩ := h.lrow.obj hk
    rw [h.box] at h1
    simp only [Option.some.injEq, Obj.cells.injEq] at h1
    exact absurd h1.2.1 (by decide)
  · obtain ⟨c, f, h1⟩ := h.wrow.obj hk
    rw [h.box] at h1
    simp only [Option.some.injEq, Obj.cells.injEq] at h1
    exact absurd h1.2.1 (by decide)
/-- a block of states is none of these. -/
theorem B1.off (h : B1 w kb bp ls ws lv wv) {k : Nat} {C : Array Value} {f : Nat × Nat} (hk : w.heap[k]? = some (.cells C 72 f)) : ¬ BKK kb lv wv k := by
  rintro (rfl | h1 | h1)
  · rw [h.box] at hk
    simp only [Option.some.injEq, Obj.cells.injEq] at hk
    exact absurd hk.2.1 (by decide)
  · obtain ⟨c, f, h2⟩ := h.lrow.obj h1
    rw [h2] at hk
    simp only [Option.some.injEq, Obj.cells.injEq] at hk
    exact absurd hk.2.1 (by decide)
  · obtain ⟨c, f, h2⟩ := h.wrow.obj h1
    rw [h2] at hk
    simp only [Option.some.injEq, Obj.cells.injEq] at hk
    exact absurd hk.2.1 (by decide)
theorem row_slice {e : TypeId} {v : Value} {vs : List Value} (h : Row w e v vs) : ∃ a c, v = .slice a vs.length c := by
  obtain ⟨a, c, h1, _⟩ := h.form
  exact ⟨a, c, h1⟩
theorem B1.pushL (x : B1 w kb bp ls ws lv wv) (a : Option Addr) (n c : Nat) (hl : (ls.length + 1) * 24 ≤ 140737488355328) :
    ∃ w1 ad cap, (Builtin.append_ #[46, 46] 46 #[lv, .slice (some ⟨w.heap.size, 0, none⟩) 1 1]).run Try.prog (w.alloc (.cells #[.slice a n c] 25)) = .ok (.slice ad (ls.length + 1) cap) w1 ∧ w1.cell? ⟨kb, 1, none⟩ = some lv ∧ w1.frozen? ⟨kb, 1, none⟩ = false ∧
      B1 (w1.setCell ⟨kb, 1, none⟩ (.slice ad (ls.length + 1) cap)) kb bp (ls ++ [.slice a n c]) ws (.slice ad (ls.length + 1) cap) wv ∧ Turned (BKK kb lv wv) w (BKK kb (.slice ad (ls.length + 1) cap) wv) (w1.setCell ⟨kb, 1, none⟩ (.slice ad (ls.length + 1) cap)) := by
  obtain ⟨w1, ad, cap, hr1, hrow1, ht1⟩ := lists_push x.lrow a n c hl
  have hkb := heap_lt x.box
  have hb1 : w1.heap[kb]? = some (.cells #[bp, lv, wv] 48 (0, 0)) := (ht1.only.block kb (fun e => x.ne (Or.inl e) rfl) hkb).trans x.box
  have hs1 := ht1.only.size
  have hw1 : Row w1 25 wv ws := x.wrow.keep fun g hg => ht1.only.block g (fun e => x.apart g e hg) (x.wrow.lt hg)
  have hne1 : ∀ k, blkOf (.slice ad (ls.length + 1) cap) k → k ≠ kb ∧ ¬ blkOf wv k := fun k hk => by
    rcases ht1.new k hk with h1 | h1
    · exact ⟨x.ne (Or.inl h1), x.apart k h1⟩
    · exact ⟨by omega, fun e => by have := x.wrow.lt e; omega⟩
  have hbW := heap_setCell (j := 1) (v := (.slice ad (ls.length + 1) cap)) hb1
  have hkW : ∀ k, k ≠ kb → (w1.setCell ⟨kb, 1, none⟩ (.slice ad (ls.length + 1) cap)).heap[k]? = w1.heap[k]? := fun k hk => Below.heap_setCell _ _ _ _ hk
  refine ⟨w1, ad, cap, hr1, cellHeap hb1 1 rfl, frozen_of_heap hb1 1, ⟨by simpa using hbW, hrow1.keep fun g hg => hkW g (hne1 g hg).1, hw1.keep fun g hg => hkW g (x.ne (Or.inr hg)), fun k h1 h2 => (hne1 k h1).2 h2⟩, ⟨ht1.only.os, ht1.only.tape, ht1.only.output, by simp [World.setCell]; omega, fun k hk hkl => ?_⟩, fun k hk => ?_⟩
  · rw [hkW k (fun e => hk (Or.inl e)), ht1.only.block k (fun e => hk (Or.inr (Or.inl e))) hkl]
  · rcases hk with rfl | hk | hk
    · exact Or.inl (Or.inl rfl)
    · exact (ht1.new k hk).imp (fun h => Or.inr (Or.inl h)) id
    · exact Or.inl (Or.inr (Or.inr hk))
theorem B1.pushW (x : B1 w kb bp ls ws lv wv) (a : Option Addr) (n c : Nat) (hl : (ws.length + 1) * 24 ≤ 140737488355328) :
    ∃ w1 ad cap, (Builtin.append_ #[46, 46] 46 #[wv, .slice (some ⟨w.heap.size, 0, none⟩) 1 1]).run Try.prog (w.alloc (.cells #[.slice a n c] 25)) = .ok (.slice ad (ws.length + 1) cap) w1 ∧ w1.cell? ⟨kb, 2, none⟩ = some wv ∧ w1.frozen? ⟨kb, 2, none⟩ = false ∧
      B1 (w1.setCell ⟨kb, 2, none⟩ (.slice ad (ws.length + 1) cap)) kb bp ls (ws ++ [.slice a n c]) lv (.slice ad (ws.length + 1) cap) ∧ Turned (BKK kb lv wv) w (BKK kb lv (.slice ad (ws.length + 1) cap)) (w1.setCell ⟨kb, 2, none⟩ (.slice ad (ws.length + 1) cap)) := by
  obtain ⟨w1, ad, cap, hr1, hrow1, ht1⟩ := lists_push x.wrow a n c hl
  have hkb := heap_lt x.box
  have hb1 : w1.heap[kb]? = some (.cells #[bp, lv, wv] 48 (0, 0)) := (ht1.only.block kb (fun e => x.ne (Or.inr e) rfl) hkb).trans x.box
  have hs1 := ht1.only.size
  have hw1 : Row w1 25 lv ls := x.lrow.keep fun g hg => ht1.only.block g (fun e => x.apart g hg e) (x.lrow.lt hg)
  have hne1 : ∀ k, blkOf (.slice ad (ws.length + 1) cap) k → k ≠ kb ∧ ¬ blkOf lv k := fun k hk => by
    rcases ht1.new k hk with h1 | h1
    · exact ⟨x.ne (Or.inr h1), fun e => x.apart k e h1⟩
    · exact ⟨by omega, fun e => by have := x.lrow.lt e; omega⟩
  have hbW := heap_setCell (j := 2) (v := (.slice ad (ws.length + 1) cap)) hb1
  have hkW : ∀ k, k ≠ kb → (w1.setCell ⟨kb, 2, none⟩ (.slice ad (ws.length + 1) cap)).heap[k]? = w1.heap[k]? := fun k hk => Below.heap_setCell _ _ _ _ hk
  refine ⟨w1, ad, cap, hr1, cellHeap hb1 2 rfl, frozen_of_heap hb1 2, ⟨by simpa using hbW, hw1.keep fun g hg => hkW g (x.ne (Or.inl hg)), hrow1.keep fun g hg => hkW g (hne1 g hg).1, fun k h1 h2 => (hne1 k h2).2 h1⟩, ⟨ht1.only.os, ht1.only.tape, ht1.only.output, by simp [World.setCell]; omega, fun k hk hkl => ?_⟩, fun k hk => ?_⟩
  · rw [hkW k (fun e => hk (Or.inl e)), ht1.only.block k (fun e => hk (Or.inr (Or.inr e))) hkl]
  · rcases hk with rfl | hk | hk
    · exact Or.inl (Or.inl rfl)
    · exact Or.inl (Or.inr (Or.inl hk))
    · exact (ht1.new k hk).imp (fun h => Or.inr (Or.inr h)) id
theorem CT.more {w w' : World} {K : Nat → Prop} {ls ws : List Value} {kb : Nat} {bp lv wv va vb : Value} {S : List Pa} (x : B1 w kb bp ls ws lv wv) (hct : CT w ls ws) (hlen : ls.length = ws.length) (ho : Only (BKK kb lv wv) w w') (ha : RowS w 72 3 va S.length (pst S)) (hb : RowS w 72 3 vb S.length (pst S)) (h64 : S.length ≤ 64) (hin : ∀ y ∈ S, y.in64)
    (hK : ∀ j, j < ls.length → ∀ k, blkOf (ls.getD j nilS) k → K k) (hva : ∀ k, blkOf va k → ¬ K k) : CT w' (ls ++ [va]) (ws ++ [vb]) ∧ RowS w' 72 3 va S.length (pst S) ∧ RowS w' 72 3 vb S.length (pst S) := by
  have keep : ∀ {v : Value} {n : Nat} {l : List Value}, RowS w 72 3 v n l → RowS w' 72 3 v n l := fun h => h.keep fun g hg => by
    obtain ⟨cur, hc⟩ := h.obj hg
    exact ho.block g (x.off hc) (h.lt hg)
  refine ⟨⟨fun j hj => ?_, fun i j hi hj hne k h1 h2 => ?_⟩, keep ha, keep hb⟩
  · rw [List.length_append, List.length_singleton] at hj
    by_cases e : j < ls.length
    · obtain ⟨q, q1, q2, q3⟩ := hct.eachP j e
      refine ⟨q, ?_, ?_, q3⟩
      · rw [List.getD_eq_getElem?_getD, List.getElem?_append_left e, ← List.getD_eq_getElem?_getD]; exact keep q1
      · rw [List.getD_eq_getElem?_getD, List.getElem?_append_left (by omega), ← List.getD_eq_getElem?_getD]; exact keep q2
    · have e2 : j = ls.length := by omega
      subst e2
      refine ⟨S, ?_, ?_, h64, hin⟩
      · rw [List.getD_eq_getElem?_getD, List.getElem?_append_right (Nat.le_refl _)]; simpa using keep ha
      · rw [List.getD_eq_getElem?_getD, List.getElem?_append_right (by omega), hlen]; simpa using keep hb
  · rw [List.length_append, List.length_singleton] at hi hj
    have g1 : ∀ j, j < ls.length → (ls ++ [va]).getD j nilS = ls.getD j nilS := fun j e => by rw [List.getD_eq_getElem?_getD, List.getElem?_append_left e, ← List.getD_eq_getElem?_getD]
    have g2 : (ls ++ [va]).getD ls.length nilS = va := by rw [List.getD_eq_getElem?_getD, List.getElem?_append_right (Nat.le_refl _)]; simp
    by_cases e1 : i < ls.length
    · rw [g1 i e1] at h1
      by_cases e2 : j < ls.length
      · rw [g1 j e2] at h2
        exact hct.apart i j e1 e2 hne k h1 h2
      · have e3 : j = ls.length := by omega
        subst e3
        rw [g2] at h2
        exact hva k h2 (hK i e1 k h1)
    · have e3 : i = ls.length := by omega
      subst e3
      rw [g2] at h1
      have e2 : j < ls.length := by omega
      rw [g1 j e2] at h2
      exact hva k h1 (hK j e2 k h2)
end
section
variable {w0 w w' : World} {l : List Ows} {S : List Pa}
/-- two lists in one hand. -/
def OwL2 (va vb : Value) (S : List Pa) : Ows := ⟨fun K w => (RowS w 72 3 va S.length (pst S) ∧ RowS w 72 3 vb S.length (pst S)) ∧ ∀ k, blkOf va k ∨ blkOf vb k → K k, fun K w w' h hk => ⟨⟨h.1.1.keep fun b hb => hk b (h.2 b (Or.inl hb)), h.1.2.keep fun b hb => hk b (h.2 b (Or.inr hb))⟩, h.2⟩⟩
theorem MA.both (h : MA w0 w l) (i j : Nat) (hij : i ≠ j) {va vb : Value} (hi : l[i]? = some (OwL va S)) (hj : l[j]? = some (OwL vb S)) : MA w0 w ((l.set i (OwL2 va vb S)).set j nobody) := by
  obtain ⟨K, H, h1, h2, hk, hh, ha, h4⟩ := h.at2 i j hij hi hj
  exact h4 w _ nobody (fun k => K k ∨ H k) (fun _ => False) ⟨⟨h1.1, h2.1⟩, fun k hk => hk.imp (h1.2 k) (h2.2 k)⟩ trivial (Only.refl _ _) (fun k hk => Or.inl hk) (fun k hk => hk.elim) (fun k hk' => hk'.elim (hk k) (hh k)) (fun k hk => hk.elim) (fun k _ hk => hk)
/-- what is behind both appends, told ahead of them. -/
theorem MA.looked (h : MA w0 w l) (i j : Nat) (hij : i ≠ j) {kb gk n : Nat} {a1 : Option Addr} {c1 : Nat} {a2 : Option Addr} {c2 : Nat} (hi : l[i]? = some (OwK kb gk n)) (hj : l[j]? = some (OwL2 (.slice a1 S.length c1) (.slice a2 S.length c2) S)) (h64 : S.length ≤ 64) (hin : ∀ y ∈ S, y.in64) (hn : (n + 1) * 24 ≤ 140737488355328) :
    ∃ la lc wa wc, w.cell? ⟨kb, 1, none⟩ = some (.slice la n lc) ∧ ∃ w1 ad1 cap1, (Builtin.append_ #[46, 46] 46 #[.slice la n lc, .slice (some ⟨w.heap.size, 0, none⟩) 1 1]).run Try.prog (w.alloc (.cells #[.slice a1 S.length c1] 25)) = .ok (.slice ad1 (n + 1) cap1) w1 ∧ w1.cell? ⟨kb, 1, none⟩ = some (.slice la n lc) ∧ w1.frozen? ⟨kb, 1, none⟩ = false ∧
      ∃ W, W = w1.setCell ⟨kb, 1, none⟩ (.slice ad1 (n + 1) cap1) ∧ W.cell? ⟨kb, 2, none⟩ = some (.slice wa n wc) ∧ ∃ w2 ad2 cap2, (Builtin.append_ #[46, 46] 46 #[.slice wa n wc, .slice (some ⟨W.heap.size, 0, none⟩) 1 1]).run Try.prog (W.alloc (.cells #[.slice a2 S.length c2] 25)) = .ok (.slice ad2 (n + 1) cap2) w2 ∧ w2.cell? ⟨kb, 2, none⟩ = some (.slice wa n wc) ∧ w2.frozen? ⟨kb, 2, none⟩ = false ∧
      Hid (MA w0 (w2.setCell ⟨kb, 2, none⟩ (.slice ad2 (n + 1) cap2)) ((l.set i (OwK kb gk (n + 1))).set j nobody) ∧ RowS (w2.setCell ⟨kb, 2, none⟩ (.slice ad2 (n + 1) cap2)) 72 3 (.slice a1 S.length c1) S.length (pst S) ∧ RowS (w2.setCell ⟨kb, 2, none⟩ (.slice ad2 (n + 1) cap2)) 72 3 (.slice a2 S.length c2) S.length (pst S)) := by
  obtain ⟨K, H, ⟨ls, ws, lv, wv, x, hct, hlen, hbk, hls⟩, ⟨⟨r1, r2⟩, hh2⟩, hkK, hh, ha, h4⟩ := h.at2 i j hij hi hj
  have hwl : ws.length = n := by rw [← x.len]; exact hlen
  obtain ⟨la, lc, hlv⟩ := row_slice x.lrow
  obtain ⟨wa, wc, hwv⟩ := row_slice x.wrow
  rw [hlen] at hlv
  rw [hwl] at hwv
  have x0 := B1.of x
  obtain ⟨w1, ad1, cap1, p1, p2, p3, p4, p5⟩ := x0.pushL a1 S.length c1 (by rw [hlen]; exact hn)
  rw [hlen] at p1 p4 p5
  obtain ⟨W, hW⟩ : ∃ W, W = w1.setCell ⟨kb, 1, none⟩ (.slice ad1 (n + 1) cap1) := ⟨_, rfl⟩
  rw [← hW] at p4 p5
  have x1 := p4
  obtain ⟨w2, ad2, cap2, q1, q2, q3, q4, q5⟩ := x1.pushW a2 S.length c2 (by rw [hwl]; exact hn)
  rw [hwl] at q1 q4 q5
  have ho1 : Only (BKK kb lv wv) w W := p5.only
  have ho : Only (BKK kb lv wv) w (w2.setCell ⟨kb, 2, none⟩ (.slice ad2 (n + 1) cap2)) := by
    have hs := ho1.size
    refine ⟨q5.only.os.trans ho1.os, q5.only.tape.trans ho1.tape, q5.only.output.trans ho1.output, Nat.le_trans hs q5.only.size, fun k hk hkl => ?_⟩
    rw [q5.only.block k (fun e => ?_) (Nat.lt_of_lt_of_le hkl hs)]
    · exact ho1.block k hk hkl
    · rcases p5.new k e with h1 | h1
      · exact hk h1
      · exact absurd h1 (Nat.not_le.2 hkl)
  obtain ⟨z1, z2, z3⟩ := hct.more (K := K) (B1.of x) x.len ho r1 r2 h64 hin (fun j hj k hk => hls j (by omega) k (Or.inl hk)) (fun k hk e => ha k e (hh2 k (Or.inl hk)))
  refine ⟨la, lc, wa, wc, by rw [← hlv]; exact cellHeap x.box 1 rfl, w1, ad1, cap1, by rw [← hlv]; exact p1, by rw [← hlv]; exact p2, p3, W, hW, by rw [← hwv]; exact cellHeap p4.box 2 rfl, w2, ad2, cap2, by rw [← hwv]; exact q1, by rw [← hwv]; exact q2, q3, ?_, z2, z3⟩
  have hnew : ∀ k, BKK kb (.slice ad1 (n + 1) cap1) (.slice ad2 (n + 1) cap2) k → K k ∨ w.heap.size ≤ k := fun k hk => by
    have hs := ho1.size
    rcases q5.new k hk with h1 | h1
    · rcases p5.new k h1 with h2 | h2
      · exact Or.inl (hbk k h2)
      · exact Or.inr h2
    · exact Or.inr (Nat.le_trans hs h1)
  have hall : ∀ j, j < n + 1 → ∀ k, blkOf ((ls ++ [Value.slice a1 S.length c1]).getD j nilS) k ∨ blkOf ((ws ++ [Value.slice a2 S.length c2]).getD j nilS) k → (K k ∨ H k) := fun j hj k hk => by
    by_cases e : j < n
    · rw [List.getD_eq_getElem?_getD, List.getElem?_append_left (by omega), ← List.getD_eq_getElem?_getD, List.getD_eq_getElem?_getD (l := ws ++ _), List.getElem?_append_left (by omega), ← List.getD_eq_getElem?_getD] at hk
      exact Or.inl (hls j e k hk)
    · have e2 : j = n := by omega
      subst e2
      rw [List.getD_eq_getElem?_getD, List.getElem?_append_right (by omega), List.getD_eq_getElem?_getD (l := ws ++ _), List.getElem?_append_right (by omega), hlen, hwl] at hk
      simp only [Nat.sub_self, List.getElem?_cons_zero, Option.getD_some] at hk
      exact Or.inr (hh2 k hk)
  refine h4 _ _ nobody (fun k => BKK kb (.slice ad1 (n + 1) cap1) (.slice ad2 (n + 1) cap2) k ∨ K k ∨ H k) (fun _ => False) ⟨_, _, _, _, ⟨q4.box, q4.lrow, q4.wrow, q4.apart, by simp [x.len]⟩, z1, by simp [hlen], fun k hk => Or.inl hk, fun j hj k hk => Or.inr (hall j hj k hk)⟩ trivial (ho.mono fun k hk => Or.inl (hbk k hk)) (fun k hk => ?_) (fun k hk => hk.elim) (fun k hk => ?_) (fun k hk => hk.elim) (fun k _ hk => hk)
  · rcases hk with hk | hk
    · exact (hnew k hk).imp Or.inl id
    · exact Or.inl hk
  · rcases hk with hk | hk | hk
    · exact q4.lt hk
    · exact Nat.lt_of_lt_of_le (hkK k hk) ho.size
    · exact Nat.lt_of_lt_of_le (hh k hk) ho.size
end
end Go.Proofs.Ythipdchdbdmmnaa

/-
  Port: a call of a script at both: Look; any call. Written by mkpmh.py.
-/
namespace Go.Proofs.Ythipdchdbdmmnaa
open Go.RowKit
set_option linter.all false

section
variable {P' X' b' : Ows} {w0 w : World} {c x d y kb gk b : Nat} {M D : Int} {N : Nat}
theorem aok_in {S : List Pa} (h : AOk M D S) (hM : M ≤ 16) (hD : D ≤ 32) (hs : Sm N S) (hN : N ≤ 4294967296) : S.length ≤ 64 ∧ ∀ y ∈ S, y.in64 := by
  refine ⟨by have := h.len; omega, fun y hy => ?_⟩
  have h1 := h.deep y hy
  have h2 := h.nums y hy
  have h3 := h.dr y hy
  have h4 := (hs y hy).1
  unfold Pa.in64 stIn ipOk
  omega
set_option maxRecDepth 20000 in
set_option maxHeartbeats 4000000 in
theorem step_look (h : PlX P' X' b' w0 w c x d y kb gk b M D N) (o : OpP) (hk : o.k = 6) (hN : N ≤ 4294967296) :
    Calls Try.prog 14 #[.pointer (some ⟨b, 0, none⟩), .pointer (some ⟨kb, 0, none⟩), opA o] w (StepQ P' X' b' w0 c x d y kb gk b M D N) := by
  obtain ⟨S, zs, n, nb, h, hS, hn1, hn2, hz⟩ := h.ex
  obtain ⟨k, m, si, di, s, dd, pt⟩ := o
  simp only at hk
  subst hk
  unfold opA
  simp only
  generalize pt.val = pv
  obtain ⟨ha0, hM, hD⟩ := h.aok 0 rfl
  obtain ⟨h64, hin⟩ := aok_in ha0 hM hD hS hN
  have h2 : MA w0 (w.alloc (.cells #[.int .i64 6, .int .i64 m, .int .u32 si, .int .u32 di, .int .i64 s, .int .i64 dd, pv] 55)) (ST P' X' (OwC b (bxV c x d y)) b' (OwP c M D S) (OwX x M D S) (OwD 92 d zs) (OwD 94 y zs) (OwK kb gk n) (OwB gk nb) nobody nobody (OwC w.heap.size (.cells #[.int .i64 6, .int .i64 m, .int .u32 si, .int .u32 di, .int .i64 s, .int .i64 dd, pv] 55 (0, 0))) nobody nobody) := h.push 12 rfl _
  have HP := hid (h2.box 10 rfl)
  have HA := hid (h2.look0 0 8 rfl rfl)
  have HB := hid (fun (W : World) (H : Ows) (y' : MA w0 W (ST P' X' (OwC b (bxV c x d y)) b' (OwP c M D S) (OwX x M D S) (OwD 92 d zs) (OwD 94 y zs) (OwK kb gk n) (OwB gk nb) H nobody (OwC w.heap.size (.cells #[.int .i64 6, .int .i64 m, .int .u32 si, .int .u32 di, .int .i64 s, .int .i64 dd, pv] 55 (0, 0))) nobody nobody)) => And.intro (y'.box 10 rfl) (y'.look1 1 9 rfl rfl))
  have HC := hid (fun (W : World) (a1 a2 : Option Addr) (c1 c2 : Nat) (y' : MA w0 W (ST P' X' (OwC b (bxV c x d y)) b' (OwP c M D S) (OwX x M D S) (OwD 92 d zs) (OwD 94 y zs) (OwK kb gk n) (OwB gk nb) (OwL (.slice a1 S.length c1) S) (OwL (.slice a2 S.length c2) S) (OwC w.heap.size (.cells #[.int .i64 6, .int .i64 m, .int .u32 si, .int .u32 di, .int .i64 s, .int .i64 dd, pv] 55 (0, 0))) nobody nobody)) => (y'.both 8 9 (by omega) rfl rfl).looked 6 8 (by omega) rfl rfl h64 hin (by omega))
  have HD := hid (fun (W : World) (a1 a2 : Option Addr) (c1 c2 : Nat) (r1 : RowS W 72 3 (.slice a1 S.length c1) S.length (pst S)) (r2 : RowS W 72 3 (.slice a2 S.length c2) S.length (pst S)) => same_states W a1 a2 c1 c2 S r1 r2 hin h64)
  have HE : Hid (∀ W k, MA w0 W (ST P' X' (OwC b (bxV c x d y)) b' (OwP c M D S) (OwX x M D S) (OwD 92 d zs) (OwD 94 y zs) (OwK kb gk (n + 1)) (OwB gk nb) nobody nobody (OwC w.heap.size (.cells #[.int .i64 6, .int .i64 m, .int .u32 si, .int .u32 di, .int .i64 s, .int .i64 dd, pv] 55 (0, 0))) nobody nobody) → StepQ P' X' b' w0 c x d y kb gk b M D N (.returned (.bool true)) (W.drewN k)) :=
    fun W k y' => ⟨rfl, ⟨S, zs, n + 1, nb, (y'.pass (bdrewN W k)).drop 12 rfl, hS.next, by omega, by omega, hz⟩⟩
  have hlen : (S.length : Int) ≤ 64 := by omega
  have hnn : (n : Int) ≤ 4294967296 := by omega
  clear h h2 hS hn1 hn2 hz ha0 h64 hin
  go_enter Try.func14, Try.ntmps14
  have p0 := HP.out 0
  go_upto_region 26 with (first
    | (go_at_call 9; refine HA.out.mono ?_; go_loud (rintro e w1 ⟨a1, c1, rfl, HQ⟩; have HB1 := hid (HB.out w1 _ HQ.out).2; have p1 := (HB.out w1 _ HQ.out).1 1; clear HQ HA))
    | fail)
  go_upto_region 27 with (first
    | (go_at_call 40; refine HB1.out.mono ?_; go_loud (rintro e w2 ⟨a2, c2, rfl, HQ⟩; have HX := HC.out w2 a1 a2 c1 c2 HQ.out; clear HQ HB1))
    | fail)
  clear p0 p1 HB HC HP
  obtain ⟨la, lc, wa, wc, e1, w3, ad1, cap1, r1, e2, f2, W, hW, e3, w4, ad2, cap2, r2, e4, f4, HM⟩ := HX
  have HR1 := hid r1
  have HR2 := hid r2
  have e1' : (w2.alloc (.cells #[(.slice a1 S.length c1)] 25)).cell? ⟨kb, 1, none⟩ = some (.slice la n lc) := cell_later (balloc _ _) e1
  have e3' : (W.alloc (.cells #[(.slice a2 S.length c2)] 25)).cell? ⟨kb, 2, none⟩ = some (.slice wa n wc) := cell_later (balloc _ _) e3
  have HFIN := hid (And.intro (HM.out.1) (HD.out _ a1 a2 c1 c2 HM.out.2.1 HM.out.2.2))
  clear r1 r2 HM HD
  generalize S.length = sl at *
  subst hW
  go_upto_region 28 with (first
    | (at_builtin; refine wpList_append_run _ rfl _ _ _ _ rfl _ _ rfl rfl HR1.out ?_; clear HR1)
    | fail)
  generalize w3.setCell ⟨kb, 1, none⟩ (.slice ad1 (n + 1) cap1) = W at *
  go_upto_region 29 with (first
    | (at_builtin; refine wpList_append_run _ rfl _ _ _ _ rfl _ _ rfl rfl HR2.out ?_; clear HR2)
    | fail)
  go_wp2_with (first
    | (go_at_call 23; refine HFIN.out.2.mono ?_; go_loud (rintro e w5 ⟨rfl, k5, rfl⟩))
    | fail)
  go_ret
  exact HE.out _ _ HFIN.out.1
theorem step_any (h : PlX P' X' b' w0 w c x d y kb gk b M D N) (o : OpP) (ho : o.ok w0) (hl : o.pt.zs.length ≤ 2147483647) (hN : N ≤ 4294967296) :
    Calls Try.prog 14 #[.pointer (some ⟨b, 0, none⟩), .pointer (some ⟨kb, 0, none⟩), opA o] w (StepQ P' X' b' w0 c x d y kb gk b M D N) := by
  by_cases h1 : o.k = 1
  · exact step_open h o h1 ho.2.1
  by_cases h2 : o.k = 2
  · exact step_pick h o h2
  by_cases h3 : o.k = 3
  · exact step_close h o h3 ho.2.1
  by_cases h4 : o.k = 4
  · exact step_put h o h4 ho hl hN
  by_cases h5 : o.k = 5
  · exact step_take h o h5 ho.2.1 hN
  by_cases h6 : o.k = 6
  · exact step_look h o h6 hN
  exact step_else h o h1 h2 h3 h4 h5 h6
end
end Go.Proofs.Ythipdchdbdmmnaa

/-
  Port: last: all that is open, and all that waits. Written by mkpmi.py.
-/
namespace Go.Proofs.Ythipdchdbdmmnaa
open Go.RowKit
set_option linter.all false

/-- two owners as one. -/
def OwAnd (I J : Ows) : Ows := ⟨fun K w => ∃ A B, I.I A w ∧ J.I B w ∧ (∀ k, A k → K k) ∧ ∀ k, B k → K k, fun K w w' h hk => by
  obtain ⟨A, B, h1, h2, h3, h4⟩ := h
  exact ⟨A, B, I.keep A w w' h1 fun k hk' => hk k (h3 k hk'), J.keep B w w' h2 fun k hk' => hk k (h4 k hk'), h3, h4⟩⟩
section
variable {P' X' b' : Ows} {w0 w w' : World} {c x d y kb gk b : Nat} {M D : Int} {N N' : Nat}
theorem PlX.more (h : PlX P' X' b' w0 w c x d y kb gk b M D N) (hN : N ≤ N') : PlX P' X' b' w0 w c x d y kb gk b M D N' := by
  obtain ⟨S, zs, n, nb, h1, h2, h3, h4, h5⟩ := h.ex
  exact ⟨S, zs, n, nb, h1, fun y hy => ⟨by have := (h2 y hy).1; omega, (h2 y hy).2⟩, by omega, by omega, h5⟩
theorem PlX.pass (h : PlX P' X' b' w0 w c x d y kb gk b M D N) (hb : Below w.heap.size w w') : PlX P' X' b' w0 w' c x d y kb gk b M D N := by
  obtain ⟨S, zs, n, nb, h1, h2⟩ := h.ex
  exact ⟨S, zs, n, nb, h1.pass hb, h2⟩
theorem PlX.below (h : PlX P' X' b' w0 w c x d y kb gk b M D N) : Below w0.heap.size w0 w := by
  obtain ⟨S, zs, n, nb, h1, h2⟩ := h.ex
  exact h1.below
theorem PlX.box (h : PlX P' X' b' w0 w c x d y kb gk b M D N) (q : Nat) : w.cell? ⟨b, q, none⟩ = (#[.pointer (some ⟨c, 0, none⟩), .pointer (some ⟨x, 0, none⟩), .pointer (some ⟨d, 0, none⟩), .pointer (some ⟨y, 0, none⟩)] : Array Value)[q]? := by
  obtain ⟨S, zs, n, nb, h1, h2⟩ := h.ex
  exact h1.box 10 rfl q
/-- the document's list is looked at. -/
theorem PlX.look (h : PlX P' X' b' w0 w c x d y kb gk b M D N) (hN : N ≤ 4294967296) :
    Calls Try.prog 40 #[.pointer (some ⟨x, 0, none⟩)] w fun e w' => ∃ S la lc, e = .returned (.slice la S.length lc) ∧ Hid (S.length ≤ 64 ∧ ∀ y ∈ S, y.in64 ∧ y.ds.length ≤ 32) ∧ Hid (PlX P' X' (OwAnd b' (OwL (.slice la S.length lc) S)) w0 w' c x d y kb gk b M D N) := by
  obtain ⟨S, zs, n, nb, h1, h2, h3, h4, h5⟩ := h.ex
  obtain ⟨ha0, hM, hD⟩ := h1.aok 0 rfl
  obtain ⟨h64, hin⟩ := aok_in ha0 hM hD h2 hN
  refine (h1.look1 1 8 rfl rfl).mono ?_
  rintro e w' ⟨la, lc, a1, a2⟩
  refine ⟨S, la, lc, a1, ⟨h64, fun y hy => ⟨hin y hy, by have := ha0.deep y hy; omega⟩⟩, S, zs, n, nb, ?_, h2, h3, h4, h5⟩
  obtain ⟨K, H, k1, k2, kl, kh, ka, k4⟩ := a2.out.at2 11 8 (by omega) rfl rfl
  exact k4 w' (OwAnd b' (OwL (.slice la S.length lc) S)) nobody (fun k => K k ∨ H k) (fun _ => False) ⟨K, H, k1, k2, fun k hk => Or.inl hk, fun k hk => Or.inr hk⟩ trivial (Only.refl _ _) (fun k hk => Or.inl hk) (fun k hk => hk.elim) (fun k hk => hk.elim (kl k) (kh k)) (fun k hk => hk.elim) (fun k _ hk => hk)
theorem PlX.list {v : Value} {S : List Pa} (h : PlX P' X' (OwAnd b' (OwL v S)) w0 w c x d y kb gk b M D N) : RowS w 72 3 v S.length (pst S) := by
  obtain ⟨_, zs, n, nb, h1, _⟩ := h.ex
  obtain ⟨K, ⟨A, B, _, h2, _⟩, _⟩ := h1.at 11 rfl
  exact h2.1
theorem PlX.done {v : Value} {S : List Pa} (h : PlX P' X' (OwAnd b' (OwL v S)) w0 w c x d y kb gk b M D N) : PlX P' X' b' w0 w c x d y kb gk b M D N := by
  obtain ⟨S, zs, n, nb, h1, h2⟩ := h.ex
  obtain ⟨K, ⟨A, B, k1, k2, k3, k4⟩, kl, _, k5⟩ := h1.at 11 rfl
  exact ⟨S, zs, n, nb, k5 w b' A k1 ⟨Only.refl _ _, fun k hk => Or.inl (k3 k hk)⟩ fun k hk => kl k (k3 k hk), h2⟩
/-- what is read of one of the list. -/
theorem PlX.entry {la : Option Addr} {lc : Nat} {S : List Pa} (h : PlX P' X' (OwAnd b' (OwL (.slice la S.length lc) S)) w0 w c x d y kb gk b M D N) (hl : S.length ≤ 64) {i : Nat} {p : Pa} (hp : S[i]? = some p) : ∃ g, la = some ⟨g, 0, none⟩ ∧ w.cell? ⟨g, i * 3, none⟩ = some (.int .i64 p.n) ∧ w.cell? ⟨g, i * 3 + 1, none⟩ = some (.int .i64 p.ds.length) := by
  have hr := h.list
  have hr2 : RowF w (.slice la S.length lc) (S.map paT) := by
    show RowS _ _ _ _ (S.map paT).length (cellsF (S.map paT))
    rw [cellsF_pa, List.length_map]
    exact hr
  obtain ⟨ad, cap, e1, _, e3⟩ := (PartF.of hr2 (by rw [List.length_map]; omega)).ex
  have hi := (List.getElem?_eq_some_iff.1 hp).1
  obtain ⟨g, e4, e5⟩ := e3 (by rw [List.length_map]; omega)
  simp only [Value.slice.injEq] at e1
  have hq := e5 i (paT p) (by rw [List.getElem?_map, hp]; rfl)
  exact ⟨g, e1.1.trans e4, hq.1, hq.2.1⟩
def intOfL : Value → Int | .int _ q => q | _ => 0
set_option maxRecDepth 20000 in
set_option maxHeartbeats 4000000 in
theorem last_any (h : PlX P' X' b' w0 w c x d y kb gk b M D N) (hN : N ≤ 4294960000) :
    Calls Try.prog 16 #[.pointer (some ⟨b, 0, none⟩), .pointer (some ⟨kb, 0, none⟩)] w fun e w' => e = .returned (.bool true) ∧ Hid (PlX P' X' b' w0 w' c x d y kb gk b M D (N + 2200)) := by
  have HO : Hid (∀ (W : World) (N' : Nat) (b2 : Ows) (k n : Int), ipOk k → ipOk n → N' ≤ 4294967296 → PlX P' X' b2 w0 W c x d y kb gk b M D N' → Calls Try.prog 14 #[.pointer (some ⟨b, 0, none⟩), .pointer (some ⟨kb, 0, none⟩), .agg #[.int .i64 k, .int .i64 n, .int .u32 0, .int .u32 0, .int .i64 0, .int .i64 0, .slice none 0 0]] W (StepQ P' X' b2 w0 c x d y kb gk b M D N')) :=
    fun W N' b2 k n hk hn hN' hp => step_any hp ⟨k, n, 0, 0, 0, 0, Part.nil⟩ ⟨hk, hn, by simp, by simp, by unfold ipOk; simp, by unfold ipOk; simp, Part.nil_ok _⟩ (by simp [Part.nil]) hN'
  have HS0 := hid (HO.out w N b' 6 0 (by unfold ipOk; decide) (by unfold ipOk; decide) (by omega) h)
  have HLK := hid (fun W (hp : PlX P' X' b' w0 W c x d y kb gk b M D (N + 1)) => And.intro (hp.box 1) (hp.look (by omega)))
  clear h
  go_enter Try.func16, Try.ntmps16
  go_upto_region 2 with (first
    | (go_at_call 14; refine HS0.out.mono ?_; go_loud (rintro e w1 ⟨rfl, HQ⟩; have HL1 := hid (HLK.out w1 HQ.out).2; have p1 := (HLK.out w1 HQ.out).1; clear HQ HS0 HLK))
    | fail)
  go_upto_region 3 with (first
    | (go_at_call 40; refine HL1.out.mono ?_; go_loud (rintro e w2 ⟨S, la, lc, rfl, HS, HP⟩; clear HL1 p1))
    | fail)
  have hs64 : (S.length : Int) ≤ 64 := by have := HS.out.1; omega
  obtain ⟨ln, hln⟩ : ∃ ln, ln = S.length := ⟨_, rfl⟩
  have HLN := hid hln
  have HEND : Hid (∀ W i, i ≤ ln → PlX P' X' (OwAnd b' (OwL (.slice la S.length lc) S)) w0 W c x d y kb gk b M D (N + 1 + i * 33) → Hid (PlX P' X' b' w0 W c x d y kb gk b M D (N + 2200))) := fun W i hi h => h.done.more (by have := HS.out.1; have := HLN.out; omega)
  rw [← hln] at hs64 ⊢
  clear hln
  go_wp2_with fail
  go_loopw [7, 8, 9] (fun iv _ _ wr => ∃ i : Nat, iv = .int .i64 i ∧ Hid (i ≤ ln) ∧ Hid (PlX P' X' (OwAnd b' (OwL (.slice la S.length lc) S)) w0 wr c x d y kb gk b M D (N + 1 + i * 33))) (fun iv _ _ _ => ln - (intOfL iv).toNat)
  case atStart => exact ⟨0, rfl, Nat.zero_le _, HP⟩
  case round =>
    clear HP
    obtain ⟨i, rfl, HI, HP⟩ := hrel
    by_cases hi : i < ln
    · have hi2 : (i : Int) < ln := by omega
      obtain ⟨p, hp⟩ : ∃ p, S[i]? = some p := ⟨_, List.getElem?_eq_getElem (by have := HLN.out; omega)⟩
      have hpm := List.mem_of_getElem? hp
      have HPI := hid (HS.out.2 p hpm)
      have HEN := hid (fun W N' (h : PlX P' X' (OwAnd b' (OwL (.slice la S.length lc) S)) w0 W c x d y kb gk b M D N') => h.entry HS.out.1 hp)
      have hnp : ipOk p.n := HPI.out.1.1
      have hwt : (p.ds.length : Int) ≤ 32 := by have := HPI.out.2; omega
      obtain ⟨g, rfl, u1, u2⟩ := HEN.out _ _ HP.out
      have HW := hid (fun W N' (h : PlX P' X' (OwAnd b' (OwL (.slice (some ⟨g, 0, none⟩) S.length lc) S)) w0 W c x d y kb gk b M D N') => by
        obtain ⟨g', e, v1, v2⟩ := HEN.out W N' h
        simp only [Option.some.injEq, Addr.mk.injEq, and_true] at e
        subst e
        exact And.intro v1 v2)
      have HNP := hid hnp
      clear HEN hp hpm HPI HS hnp u1 u2
      obtain ⟨wt, hwt2⟩ : ∃ wt, wt = p.ds.length := ⟨_, rfl⟩
      rw [← hwt2] at HW hwt
      clear hwt2
      generalize p.n = pn at *
      have hlast : wt + 1 ≤ 33 := by omega
      have HI3 := hid hi
      go_wp2_with fail
      go_loopw [8, 9] (fun nv _ wr => ∃ n : Nat, nv = .int .i64 n ∧ Hid (n ≤ wt + 1) ∧ Hid (PlX P' X' (OwAnd b' (OwL (.slice (some ⟨g, 0, none⟩) S.length lc) S)) w0 wr c x d y kb gk b M D (N + 1 + i * 33 + n))) (fun nv _ _ => wt + 1 - (intOfL nv).toNat)
      case atStart => exact ⟨0, rfl, Nat.zero_le _, HP⟩
      case round =>
        clear HP
        obtain ⟨n, rfl, HI2, HP⟩ := hrel
        have v2 := (HW.out _ _ HP.out).2
        by_cases hn : n < wt + 1
        · have hn2 : (n : Int) ≤ wt := by omega
          have v1 := (HW.out _ _ HP.out).1
          have HST := hid (HO.out _ _ _ 5 pn (by unfold ipOk; decide) HNP.out (by have := HLN.out; omega) HP.out)
          clear HP
          go_wp2_with (first
            | (go_at_call 14; refine HST.out.mono ?_; go_loud (rintro e w5 ⟨rfl, HP⟩; clear HST v1 v2))
            | fail)
          go_roundw
          case rel => exact ⟨n + 1, by go_num, by unfold Hid; omega, HP⟩
          case measure => simp [intOfL]; omega
        · have hn2 : ¬ (n : Int) ≤ wt := by omega
          have HP2 : Hid (PlX P' X' (OwAnd b' (OwL (.slice (some ⟨g, 0, none⟩) S.length lc) S)) w0 wr c x d y kb gk b M D (N + 1 + (i + 1) * 33)) := hid (HP.out.more (by have := HI2.out; omega))
          clear HP HI2 hn
          go_wp2_with fail
          go_roundw
          case rel => exact ⟨i + 1, by go_num, by have := HI3.out; unfold Hid; omega, HP2⟩
          case measure => have := HI3.out; simp [intOfL]; omega
    · have hi2 : ¬ (i : Int) < ln := by omega
      have HF := HEND.out _ i HI.out HP.out
      clear HP HEND HI hi
      go_wp2_with fail
      go_ret
      exact ⟨rfl, HF⟩
end
end Go.Proofs.Ythipdchdbdmmnaa

/-
  Port: beyond.
-/
namespace Go.Proofs.Ythipdchdbdmmnaa
open Go.RowKit
set_option linter.all false

/-- a script within the bound: as short, and each of its datagrams too. -/
def Within (xs : List OpP) : Prop := xs.length ≤ 2147483647 ∧ ∀ j, j < xs.length → (xs.getD j OpP.nil).pt.zs.length ≤ 2147483647
def BeyI (xs : List OpP) (e : Ending) : Prop := ∃ B, e = .returned (.bool B) ∧ (B = false → Within xs)
theorem wrap_small {a : Int} (h : -9223372036854775808 ≤ a ∧ a ≤ 9223372036854775807) : wrap64 a = a := by
  unfold wrap64
  omega
set_option maxRecDepth 20000 in
set_option maxHeartbeats 4000000 in
theorem beyond_any (xs : List OpP) (ao : Option Addr) (co : Nat) (w : World) (hx : OpsP w ao xs) (hl : xs.length ≤ 140737488355328) (hz : ∀ j, j < xs.length → (xs.getD j OpP.nil).pt.zs.length ≤ 140737488355328) :
    Calls Try.prog 10 #[.slice ao xs.length co] w fun e w' => w' = w ∧ BeyI xs e := by
  have HX := hid hx
  have HZ := hid hz
  obtain ⟨L, hL⟩ : ∃ L, L = xs.length := ⟨_, rfl⟩
  have HL := hid hL
  have HEND : Hid (∀ (B : Bool) (i n : Nat), (B = false → (n : Int) ≤ 2147483647) → (¬ i < L ∨ B = true) → i ≤ n → (∀ j, j < i → (xs.getD j OpP.nil).pt.zs.length ≤ n) → i ≤ L → (B = false → Within xs)) := fun B i n h1 h2 h3 h4 h5 hB => by
    have h6 := h1 hB
    rcases h2 with h2 | h2
    · refine ⟨by rw [← HL.out]; omega, fun j hj => ?_⟩
      have := h4 j (by rw [← HL.out] at hj; omega)
      omega
    · rw [hB] at h2; exact absurd h2 (by decide)
  rw [← hL]
  have hLi : (L : Int) ≤ 140737488355328 := by omega
  clear hx hl hz hL
  go_enter Try.func10, Try.ntmps10
  go_wp2_with fail
  go_loopw [3, 4] (fun nv iv wr => ∃ n i : Nat, nv = .int .i64 n ∧ iv = .int .i64 i ∧ Hid (i ≤ L) ∧ Hid (i ≤ n) ∧ Hid (∀ j, j < i → (xs.getD j OpP.nil).pt.zs.length ≤ n) ∧ Hid (n ≤ 281474976710656) ∧ wr = w) (fun _ iv _ => L - (intOfL iv).toNat)
  case atStart => exact ⟨0, 0, rfl, rfl, Nat.zero_le _, Nat.zero_le _, fun j hj => absurd hj (by omega), by unfold Hid; omega, rfl⟩
  case round =>
    obtain ⟨n, i, rfl, rfl, HI, HN, HS, HB, rfl⟩ := hrel
    have hnb : (n : Int) ≤ 281474976710656 := by have := HB.out; omega
    by_cases hi : i < L
    · have hi2 : (i : Int) < L := by omega
      by_cases hn : (n : Int) ≤ 2147483647
      · have hix : i < xs.length := by rw [← HL.out]; exact hi
        obtain ⟨b, o, rfl, hc, hk⟩ := HX.out i hix
        have hzl := HZ.out i hix
        have c6 : wr.cell? ⟨b, o + i * 7 + 6, none⟩ = some (xs.getD i OpP.nil).pt.val := hc 6 _ rfl
        unfold Part.val at c6
        have HS2 : Hid (∀ j, j < i + 1 → (xs.getD j OpP.nil).pt.zs.length ≤ n + 1 + (xs.getD i OpP.nil).pt.zs.length) := fun j hj => by
          by_cases e : j < i
          · have := HS.out j e; omega
          · have e2 : j = i := by omega
            subst e2; omega
        clear hc hk HS
        generalize (xs.getD i OpP.nil).pt.a = pa at *
        generalize (xs.getD i OpP.nil).pt.c = pc at *
        generalize (xs.getD i OpP.nil).pt.zs.length = pl at *
        have hpl : (pl : Int) ≤ 140737488355328 := by omega
        have c6' : wr.cell? ⟨b, o + i * 7 + 2 + 4, none⟩ = some (.slice pa pl pc) := c6
        go_wp2_with fail
        go_roundw
        case rel => exact ⟨n + 1 + pl, i + 1, by go_num, by go_num, by unfold Hid; omega, by have := HN.out; unfold Hid; omega, HS2, by unfold Hid; omega, by first | trivial | rfl⟩
        case measure => simp only [intOfL]; omega
      · have HF := HEND.out true i n (by simp) (Or.inr rfl) HN.out HS.out HI.out
        have hg : (n : Int) > 2147483647 := by omega
        clear HEND HX HZ HS
        go_wp2_with fail
        go_ret
        exact ⟨rfl, true, by first | rfl | simp, HF⟩
    · have hi2 : ¬ (i : Int) < L := by omega
      have HF := HEND.out (decide ((n : Int) > 2147483647)) i n (by intro h; simpa using h) (Or.inl hi) HN.out HS.out HI.out
      clear HEND HX HZ HS
      go_wp2_with fail
      go_ret
      exact ⟨rfl, decide ((n : Int) > 2147483647), rfl, HF⟩
end Go.Proofs.Ythipdchdbdmmnaa

/-
  Port: two pairs; how all is made; what is kept, twice.
-/
namespace Go.Proofs.Ythipdchdbdmmnaa
open Go.RowKit
set_option linter.all false

def sw : Nat → Nat
  | 0 => 2 | 1 => 3 | 2 => 0 | 3 => 1 | 10 => 11 | 11 => 10 | j => j
theorem sw_sw (j : Nat) : sw (sw j) = j := by
  rcases j with _ | _ | _ | _ | _ | _ | _ | _ | _ | _ | _ | _ | j <;> rfl
theorem sw_us (P X P' X' D Y K B H G b b' o e f : Ows) (j : Nat) : Us [P', X', P, X, D, Y, K, B, H, G, b', b, o, e, f] j = Us [P, X, P', X', D, Y, K, B, H, G, b, b', o, e, f] (sw j) := by
  rcases j with _ | _ | _ | _ | _ | _ | _ | _ | _ | _ | _ | _ | _ | _ | _ | j <;> rfl
section
variable {w0 w w' : World} {l : List Ows}
theorem MA.swap {P X P' X' D Y K B H G b b' o e f : Ows} (h : MA w0 w [P, X, P', X', D, Y, K, B, H, G, b, b', o, e, f]) : MA w0 w [P', X', P, X, D, Y, K, B, H, G, b', b, o, e, f] := by
  obtain ⟨O, h1, h2⟩ := h
  refine ⟨fun j => O (sw j), ⟨fun j => h1.lt (sw j), fun j => h1.lo (sw j), fun i j k hij => h1.apart (sw i) (sw j) k fun e => hij (by have := congrArg sw e; rwa [sw_sw, sw_sw] at this), h1.below⟩, fun j => ?_⟩
  rw [sw_us]
  exact h2 (sw j)
theorem MA.start (w : World) : MA w w [nobody, nobody, nobody, nobody, nobody, nobody, nobody, nobody, nobody, nobody, nobody, nobody, nobody, nobody, nobody] := by
  have h := Many.start w
  have e : (fun _ => nobody : Nat → Ows) = Us [nobody, nobody, nobody, nobody, nobody, nobody, nobody, nobody, nobody, nobody, nobody, nobody, nobody, nobody, nobody] := by
    funext j
    rcases j with _ | _ | _ | _ | _ | _ | _ | _ | _ | _ | _ | _ | _ | _ | _ | j <;> rfl
  rw [e] at h
  exact h
theorem MA.made {I : Ows} {c m : Nat} {M D : Int} (h : MA w0 w l) (i : Nat) (hi : l[i]? = some I) (hp : PMade w w' c m M D) : MA w0 w' (l.set i (OwP c M D [])) := by
  refine h.own i hi _ hp.bel (PF c m []) (fun k hk => ⟨?_, hp.tab.lt k hk⟩) ⟨m, [], hp.tab, rfl, fun k hk => hk⟩
  rcases hk with rfl | (rfl | ⟨x, hx, _⟩) | hk
  · exact hp.cn
  · exact hp.mn
  · simp at hx
  · simp at hk
theorem MA.rmade {I : Ows} {M D : Int} (h : MA w0 w l) (i : Nat) (hi : l[i]? = some I) (hp : RPoW w' w.heap.size (.slice none 0 0) M D [] ∧ Below w.heap.size w w') : MA w0 w' (l.set i (OwX w.heap.size M D [])) := by
  refine h.own i hi _ hp.2 (RF w.heap.size (.slice none 0 0) []) (fun k hk => ⟨?_, hp.1.lt k hk⟩) ⟨_, [], hp.1, rfl, fun k hk => hk⟩
  rcases hk with rfl | hk | ⟨x, hx, _⟩
  · exact Nat.le_refl _
  · simp [Value.ownBlock] at hk
  · simp at hx
theorem MA.dmade {I : Ows} {t : TypeId} {p : Nat} {a : Option Addr} {cp : Nat} {zs : List Int} (h : MA w0 w l) (i : Nat) (hi : l[i]? = some I) (hp : MadeI t w w' p a cp zs) : MA w0 w' (l.set i (OwD t p zs)) :=
  h.own i hi _ hp.bel (DiceK p a) (fun k hk => ⟨hp.new k hk, hp.dice.lt k hk⟩) ⟨a, cp, hp.dice, fun k hk => hk⟩
theorem MA.book {I : Ows} (h : MA w0 w l) (i : Nat) (hi : l[i]? = some I) : MA w0 (w.alloc (.cells #[.slice none 0 0, .slice none 0 0] 45)) (l.set i (OwB w.heap.size 0)) := by
  refine h.own i hi _ (bpush (Below.refl _ _) _) (fun k => k = w.heap.size) (fun k hk => by subst hk; exact ⟨Nat.le_refl _, heap_lt (heap_new w _)⟩) ⟨.slice none 0 0, .slice none 0 0, [], ⟨heap_new w _, Row.nil _ _, Row.nil _ _, fun _ _ => Nat.zero_le _, by simp [Value.ownBlock], by simp [Value.ownBlock], by simp [Value.ownBlock], by simp, by simp, by simp⟩, rfl, fun k hk => ?_⟩
  rcases hk with (hk | hk | hk) | ⟨p, hp, _⟩
  · exact hk
  · simp [Value.ownBlock] at hk
  · simp [Value.ownBlock] at hk
  · simp at hp
theorem MA.keptNew {I : Ows} (gk : Nat) (h : MA w0 w l) (i : Nat) (hi : l[i]? = some I) : MA w0 (w.alloc (.cells #[.pointer (some ⟨gk, 0, none⟩), .slice none 0 0, .slice none 0 0] 48)) (l.set i (OwK w.heap.size gk 0)) := by
  refine h.own i hi _ (bpush (Below.refl _ _) _) (fun k => k = w.heap.size) (fun k hk => by subst hk; exact ⟨Nat.le_refl _, heap_lt (heap_new w _)⟩) ⟨[], [], .slice none 0 0, .slice none 0 0, ⟨heap_new w _, Row.nil _ _, Row.nil _ _, by simp [blkOf, Value.ownBlock], rfl⟩, ⟨by simp, by simp⟩, rfl, fun k hk => ?_, by simp⟩
  rcases hk with hk | hk | hk
  · exact hk
  · simp [blkOf, Value.ownBlock] at hk
  · simp [blkOf, Value.ownBlock] at hk
end
/-- both pairs, nothing kept. -/
structure Pl0 (w0 w : World) (c x c' x' d y b b' : Nat) (M D M' D' : Int) (N : Nat) : Prop where
  ex : ∃ S S' zs, MA w0 w (ST (OwP c' M' D' S') (OwX x' M' D' S') (OwC b (bxV c x d y)) (OwC b' (bxV c' x' d y)) (OwP c M D S) (OwX x M D S) (OwD 92 d zs) (OwD 94 y zs) nobody nobody nobody nobody nobody nobody nobody) ∧ Sm N S ∧ Sm N S' ∧ zs.length ≤ maxLen
/-- both pairs, and what is kept. -/
structure Pl2 (w0 w : World) (c x c' x' d y kb gk b b' : Nat) (M D M' D' : Int) (N : Nat) : Prop where
  ex : ∃ S', PlX (OwP c' M' D' S') (OwX x' M' D' S') (OwC b' (bxV c' x' d y)) w0 w c x d y kb gk b M D N ∧ Sm N S'
section
variable {w0 w w' : World} {c x c' x' d y kb gk b b' : Nat} {M D M' D' : Int} {N N' : Nat}
theorem Sm.more {S : List Pa} (h : Sm N S) (hN : N ≤ N') : Sm N' S := fun y hy => ⟨by have := (h y hy).1; omega, (h y hy).2⟩
theorem Pl2.below (h : Pl2 w0 w c x c' x' d y kb gk b b' M D M' D' N) : Below w0.heap.size w0 w := by
  obtain ⟨S', h1, _⟩ := h.ex
  exact h1.below
theorem Pl2.swap (h : Pl2 w0 w c x c' x' d y kb gk b b' M D M' D' N) : Pl2 w0 w c' x' c x d y kb gk b' b M' D' M D N := by
  obtain ⟨S', h1, h2⟩ := h.ex
  obtain ⟨S, zs, n, nb, h3, h4, h5, h6, h7⟩ := h1.ex
  exact ⟨S, ⟨S', zs, n, nb, h3.swap, h2, h5, h6, h7⟩, h4⟩
theorem Pl2.step (h : Pl2 w0 w c x c' x' d y kb gk b b' M D M' D' N) (o : OpP) (ho : o.ok w0) (hl : o.pt.zs.length ≤ 2147483647) (hN : N ≤ 4294967296) :
    Calls Try.prog 14 #[.pointer (some ⟨b, 0, none⟩), .pointer (some ⟨kb, 0, none⟩), opA o] w fun e w' => e = .returned (.bool true) ∧ Hid (Pl2 w0 w' c x c' x' d y kb gk b b' M D M' D' (N + 1)) := by
  obtain ⟨S', h1, h2⟩ := h.ex
  exact (step_any h1 o ho hl hN).mono fun e w' ⟨a, b⟩ => ⟨a, S', b.out, h2.next⟩
theorem Pl2.other (h : Pl2 w0 w c x c' x' d y kb gk b b' M D M' D' N) (o : OpP) (ho : o.ok w0) (hl : o.pt.zs.length ≤ 2147483647) (hN : N ≤ 4294967296) :
    Calls Try.prog 14 #[.pointer (some ⟨b', 0, none⟩), .pointer (some ⟨kb, 0, none⟩), opA o] w fun e w' => e = .returned (.bool true) ∧ Hid (Pl2 w0 w' c x c' x' d y kb gk b b' M D M' D' (N + 1)) :=
  (h.swap.step o ho hl hN).mono fun e w' ⟨a, b⟩ => ⟨a, b.out.swap⟩
theorem Pl2.last (h : Pl2 w0 w c x c' x' d y kb gk b b' M D M' D' N) (hN : N ≤ 4294960000) :
    Calls Try.prog 16 #[.pointer (some ⟨b, 0, none⟩), .pointer (some ⟨kb, 0, none⟩)] w fun e w' => e = .returned (.bool true) ∧ Hid (Pl2 w0 w' c x c' x' d y kb gk b b' M D M' D' (N + 2200)) := by
  obtain ⟨S', h1, h2⟩ := h.ex
  exact (last_any h1 hN).mono fun e w' ⟨a, b⟩ => ⟨a, S', b.out, h2.more (by omega)⟩
theorem Pl2.last' (h : Pl2 w0 w c x c' x' d y kb gk b b' M D M' D' N) (hN : N ≤ 4294960000) :
    Calls Try.prog 16 #[.pointer (some ⟨b', 0, none⟩), .pointer (some ⟨kb, 0, none⟩)] w fun e w' => e = .returned (.bool true) ∧ Hid (Pl2 w0 w' c x c' x' d y kb gk b b' M D M' D' (N + 2200)) :=
  (h.swap.last hN).mono fun e w' ⟨a, b⟩ => ⟨a, b.out.swap⟩
theorem Pl2.stands (h : Pl2 w0 w c x c' x' d y kb gk b b' M D M' D' N) (hN : N ≤ 4294967296) :
    Calls Try.prog 15 #[.pointer (some ⟨kb, 0, none⟩)] w fun e w' => e = .returned (.bool true) ∧ Hid (Pl0 w0 w' c x c' x' d y b b' M D M' D' N) := by
  obtain ⟨S', h1, h2⟩ := h.ex
  obtain ⟨S, zs, n, nb, h3, h4, h5, h6, h7⟩ := h1.ex
  exact (h3.stands 6 7 (by omega) rfl rfl (by omega)).mono fun e w' ⟨a, b⟩ => ⟨a, S, S', zs, b.out, h4, h2, h7⟩
/-- a new book, and what keeps it. -/
theorem Pl0.fresh (h : Pl0 w0 w c x c' x' d y b b' M D M' D' N) : Pl2 w0 ((w.alloc (.cells #[.slice none 0 0, .slice none 0 0] 45)).alloc (.cells #[.pointer (some ⟨w.heap.size, 0, none⟩), .slice none 0 0, .slice none 0 0] 48)) c x c' x' d y (w.heap.size + 1) w.heap.size b b' M D M' D' N := by
  obtain ⟨S, S', zs, h3, h4, h2, h7⟩ := h.ex
  have h5 := (h3.book 7 rfl).keptNew w.heap.size 6 rfl
  have hsz : (w.alloc (.cells #[.slice none 0 0, .slice none 0 0] 45)).heap.size = w.heap.size + 1 := by simp
  rw [hsz] at h5
  exact ⟨S', ⟨S, zs, 0, 0, h5, h4, Nat.zero_le _, Nat.zero_le _, h7⟩, h2⟩
theorem Pl0.below (h : Pl0 w0 w c x c' x' d y b b' M D M' D' N) : Below w0.heap.size w0 w := by
  obtain ⟨S, S', zs, h3, _⟩ := h.ex
  exact h3.below
end
end Go.Proofs.Ythipdchdbdmmnaa

/-
  PortPlays, walked. Written by mkpml.py.
-/
namespace Go.Proofs.Ythipdchdbdmmnaa
open Go.RowKit
set_option linter.all false

theorem OpP.ok_below {w w' : World} {x : OpP} (h : x.ok w) (hb : Below w.heap.size w w') : x.ok w' := ⟨h.1, h.2.1, h.2.2.1, h.2.2.2.1, h.2.2.2.2.1, h.2.2.2.2.2.1, Part.ok_below (p := x.pt) h.2.2.2.2.2.2 hb⟩
set_option maxRecDepth 20000 in
set_option maxHeartbeats 4000000 in
theorem plays_yes (M D M' D' : Int) (hP : 1 ≤ M ∧ M ≤ 16 ∧ 1 ≤ D ∧ D ≤ 32) (hQ : 1 ≤ M' ∧ M' ≤ 16 ∧ 1 ≤ D' ∧ D' ≤ 32) (da : Option Addr) (dc : Nat) (zs : List Int) (xs : List OpP) (oa : Option Addr) (oc : Nat) (w : World) (hp : PartU w da dc zs) (hz : zs.length * 4 ≤ 140737488355328) (hops : OpsP w oa xs) (hsz : xs.length ≤ 140737488355328) (hzl : ∀ j, j < xs.length → (xs.getD j OpP.nil).pt.zs.length ≤ 140737488355328) :
    Calls Try.prog 5 #[.int .i64 M, .int .i64 D, .int .i64 M', .int .i64 D', .slice da zs.length dc, .slice oa xs.length oc] w fun e w' => e = .returned (.bool true) ∧ Below w.heap.size w w' := by
  have HBE := hid (beyond_any xs oa oc w hops hsz hzl)
  have HL := hid (live_any w)
  have HP := hid hP
  have HQ := hid hQ
  have HPU := hid (fun W (hb : Below w.heap.size w W) => hp.below hb)
  have HX := hid hops
  have hzm : zs.length ≤ maxLen := by unfold maxLen; omega
  have HZ := hid hz
  have HZM := hid hzm
  have HN1 := hid (fun W => pnew_yes M D W hP)
  have HN2 := hid (fun W => rnew_yes M D W hP)
  have HN3 := hid (fun W (hb : Below w.heap.size w W) => new_any da dc zs W (hp.below hb) hz)
  have HN4 := hid (fun W (hb : Below w.heap.size w W) => refNew_any da dc zs W (hp.below hb) hz)
  have HN5 := hid (fun W => pnew_yes M' D' W hQ)
  have HN6 := hid (fun W => rnew_yes M' D' W hQ)
  obtain ⟨L, hL⟩ : ∃ L, L = xs.length := ⟨_, rfl⟩
  have HLN := hid hL
  obtain ⟨zl, hzl2⟩ : ∃ l, l = zs.length := ⟨_, rfl⟩
  rw [← hL] at HBE ⊢
  rw [← hzl2] at HN3 HN4 ⊢
  have hLi : (L : Int) ≤ 140737488355328 := by omega
  clear hp hz hops hsz hzl hzm hL hzl2 HPU hP hQ HP HQ
  go_enter Try.func5, Try.ntmps5
  go_upto_region 2 with (first
    | (go_at_call 10; refine HBE.out.mono ?_; go_loud (rintro e w1 ⟨rfl, B, rfl, HW⟩; clear HBE))
    | fail)
  cases B with
  | true =>
    clear HL HX HZ HZM HN1 HN2 HN3 HN4 HN5 HN6
    go_wp2_with fail
    go_ret
    exact ⟨rfl, Below.refl _ _⟩
  | false =>
    have HWI := hid (HW rfl)
    clear HW
    go_upto_region 5 with (first
      | (go_at_call 7; refine HL.out.mono ?_; go_loud (rintro e w2 ⟨rfl, HB⟩; have HM2 := hid ((MA.start w1).pass HB.out); clear HL HB))
      | fail)
    go_upto_region 6 with (first
      | (go_at_call 8; refine (HN1.out w2).mono ?_; go_loud (rintro e w3 ⟨c, m, rfl, HQ⟩; have HM3 := hid (HM2.out.made 0 rfl HQ.out); clear HQ HM2 HN1))
      | (go_at_call 11; refine (HN2.out w3).mono ?_; go_loud (rintro e w4 ⟨rfl, HQ⟩; have HM4 := hid (HM3.out.rmade 1 rfl HQ.out); clear HQ HM3 HN2))
      | (go_at_call 12; refine (HN3.out w4 HM4.out.below).mono ?_; go_loud (rintro e w5 ⟨d, a5, c5, rfl, HQ⟩; have HM5 := hid (HM4.out.dmade 4 rfl HQ.out); clear HQ HM4 HN3))
      | (go_at_call 13; refine (HN4.out w5 HM5.out.below).mono ?_; go_loud (rintro e w6 ⟨y, a6, c6, rfl, HQ⟩; have HM6 := hid (HM5.out.dmade 5 rfl HQ.out); clear HQ HM5 HN4))
      | fail)
    obtain ⟨x, hx⟩ : ∃ x, x = w3.heap.size := ⟨_, rfl⟩
    rw [← hx] at HM6 ⊢
    clear hx
    have HM7 := hid (HM6.out.push 10 rfl (bxV c x d y))
    clear HM6
    generalize w6.heap.size = b at *
    generalize w6.alloc (bxV c x d y) = w7 at *
    have HX7 := hid (HM7.out.box 10 rfl)
    go_region_held3 (fun s' => ∀ q, s'.cell? ⟨b, q, none⟩ = (#[.pointer (some ⟨c, 0, none⟩), .pointer (some ⟨x, 0, none⟩), .pointer (some ⟨d, 0, none⟩), .pointer (some ⟨y, 0, none⟩)] : Array Value)[q]?) (first | exact HX7.out | exact HX8.out | exact HX9.out | exact HX10.out | go_keep) (first
      | (go_at_call 8; refine (HN5.out _).mono ?_; rintro e w8 ⟨c', m', rfl, HQ⟩; have HM8 := hid ((HM7.out.pass (bdrewN _ 1)).made 2 rfl HQ.out); have HX8 := hid (HM8.out.box 10 rfl); clear HQ)
      | (go_at_call 11; refine (HN6.out w8).mono ?_; rintro e w9 ⟨rfl, HQ⟩; have HM9 := hid (HM8.out.rmade 3 rfl HQ.out); have HX9 := hid (HM9.out.box 10 rfl); have HX10 := hid ((HM9.out.push 11 rfl (bxV c' w8.heap.size d y)).box 10 rfl); clear HQ))
    obtain ⟨x', hx'⟩ : ∃ x, x = w8.heap.size := ⟨_, rfl⟩
    rw [← hx'] at HM9 ⊢
    clear hx' HX7 HX8 HX9 HX10 HM7 HM8 HN5 HN6
    have HM10 := hid (HM9.out.push 11 rfl (bxV c' x' d y))
    clear HM9
    generalize w9.heap.size = b' at *
    generalize w9.alloc (bxV c' x' d y) = w10 at *
    have P0 : Hid (Pl0 w1 w10 c x c' x' d y b b' M D M' D' 0) := ⟨[], [], zs, HM10.out, fun y hy => absurd hy (by simp), fun y hy => absurd hy (by simp), HZM.out⟩
    have c0 := HM10.out.box 10 rfl
    have c1 := HM10.out.box 11 rfl
    clear HM10
    go_upto_region 9 with fail
    have P2 := hid P0.out.fresh
    clear P0 c0 c1
    generalize hw11 : w10 = w11 at *
    clear hw11
    go_upto_region 10 with fail
    generalize w11.heap.size + 1 = kb at *
    generalize w11.heap.size = gk at *
    generalize (w11.alloc (.cells #[.slice none 0 0, .slice none 0 0] 45)).alloc (.cells #[.pointer (some ⟨gk, 0, none⟩), .slice none 0 0, .slice none 0 0] 48) = w12 at *
    have hLb : (L : Int) ≤ 2147483647 := by have := HWI.out.1; have := HLN.out; omega
    go_wp2_with fail
    go_loopw [18, 19] (fun iv _ wr => ∃ i : Nat, iv = .int .i64 i ∧ Hid (i ≤ L) ∧ Hid (Pl2 w1 wr c x c' x' d y kb gk b b' M D M' D' i)) (fun iv _ _ => L - (intOfL iv).toNat)
    case atStart => exact ⟨0, rfl, Nat.zero_le _, P2⟩
    case round =>
      clear P2
      obtain ⟨i, rfl, HI, HP⟩ := hrel
      by_cases hi : i < L
      · have hi2 : (i : Int) < L := by omega
        have HI3 := hid hi
        have hix : i < xs.length := by rw [← HLN.out]; exact hi
        obtain ⟨ob, oo, hoa, hc, hk⟩ := HX.out i hix
        have hzl := HWI.out.2 i hix
        have hbw := HP.out.below
        have hcell : ∀ t u, (xs.getD i OpP.nil).cs[t]? = some u → wr.cell? ⟨ob, oo + i * 7 + t, none⟩ = some u := fun t u h => by
          have h1 := hc t u h
          rw [hbw.cell (World.block_lt_of_cell? w1 _ h1)]; exact h1
        have o0 := hcell 0 _ rfl
        have o1 := hcell 1 _ rfl
        have o2 := hcell 2 _ rfl
        have o3 := hcell 3 _ rfl
        have o4 := hcell 4 _ rfl
        have o5 := hcell 5 _ rfl
        have o6 := hcell 6 _ rfl
        rw [Nat.add_zero] at o0
        subst hoa
        have HS1 := hid (HP.out.step _ hk hzl (by omega))
        have HS2 := hid (HP.out.other _ hk hzl (by omega))
        unfold opA at HS1 HS2
        clear hc hk hzl hbw hcell hix HP
        generalize (xs.getD i OpP.nil).k = k at *
        generalize (xs.getD i OpP.nil).n = m at *
        generalize (xs.getD i OpP.nil).si = si at *
        generalize (xs.getD i OpP.nil).di = di at *
        generalize (xs.getD i OpP.nil).s = s at *
        generalize (xs.getD i OpP.nil).d = dd at *
        unfold Part.val at HS1 HS2 o6
        generalize (xs.getD i OpP.nil).pt.a = pa at *
        generalize (xs.getD i OpP.nil).pt.c = pc at *
        generalize (xs.getD i OpP.nil).pt.zs.length = pl at *
        by_cases hm0 : (i : Int) % 4 = 3
        · clear HS1
          have hm : ((i : Int) % 4 == 3) = true := by simp [hm0]
          clear hm0
          go_wp2_with (first
            | (go_at_call 14; refine HS2.out.mono ?_; go_loud (rintro e w6 ⟨rfl, HP⟩; clear HS2))
            | fail)
          clear hm
          go_roundw
          case rel => exact ⟨i + 1, by go_num, by have := HI3.out; unfold Hid; omega, HP⟩
          case measure => have := HI3.out; simp [intOfL]; omega
        · clear HS2
          have hm : ((i : Int) % 4 == 3) = false := by simp [hm0]
          clear hm0
          go_wp2_with (first
            | (go_at_call 14; refine HS1.out.mono ?_; go_loud (rintro e w6 ⟨rfl, HP⟩; clear HS1))
            | fail)
          clear hm
          go_roundw
          case rel => exact ⟨i + 1, by go_num, by have := HI3.out; unfold Hid; omega, HP⟩
          case measure => have := HI3.out; simp [intOfL]; omega
      · have hi2 : ¬ (i : Int) < L := by omega
        have hib : i ≤ 2147483647 := by have := HI.out; omega
        have HIB := hid hib
        have HST := hid (HP.out.stands (by omega))
        clear HP HI hi hib
        go_upto_region 20 with (first
          | (go_at_call 15; refine HST.out.mono ?_; go_loud (rintro e v1 ⟨rfl, HQ0⟩; have HQ1 := hid HQ0.out.fresh; clear HQ0 HST))
          | fail)
        go_upto_region 21 with fail
        generalize v1.heap.size + 1 = kb2 at *
        generalize v1.heap.size = gk2 at *
        generalize (v1.alloc (.cells #[.slice none 0 0, .slice none 0 0] 45)).alloc (.cells #[.pointer (some ⟨gk2, 0, none⟩), .slice none 0 0, .slice none 0 0] 48) = v2 at *
        have HL1 := hid (HQ1.out.last (by have := HIB.out; omega))
        clear HQ1
        go_upto_region 22 with (first
          | (go_at_call 16; refine HL1.out.mono ?_; go_loud (rintro e v3 ⟨rfl, HQ2⟩; have HL2 := hid (HQ2.out.last' (by have := HIB.out; omega)); clear HQ2 HL1))
          | fail)
        go_upto_region 23 with (first
          | (go_at_call 16; refine HL2.out.mono ?_; go_loud (rintro e v4 ⟨rfl, HQ3⟩; have HS5 := hid (HQ3.out.stands (by have := HIB.out; omega)); clear HQ3 HL2))
          | fail)
        go_wp2_with (first
          | (go_at_call 15; refine HS5.out.mono ?_; go_loud (rintro e v5 ⟨rfl, HQ4⟩; clear HS5))
          | fail)
        go_ret
        exact ⟨rfl, HQ4.out.below⟩
end Go.Proofs.Ythipdchdbdmmnaa

/-
  PortPlays, walked: where something is not made; whole. Written by mkpmm.py.
-/
namespace Go.Proofs.Ythipdchdbdmmnaa
open Go.RowKit
set_option linter.all false

def okMD (M D : Int) : Prop := 1 ≤ M ∧ M ≤ 16 ∧ 1 ≤ D ∧ D ≤ 32
theorem pnew_any (M D : Int) (w : World) : Calls Try.prog 8 #[.int .i64 M, .int .i64 D] w fun e w' => ∃ v : Option Addr, e = .returned (.pointer v) ∧ Hid ((v.isSome = true ↔ okMD M D) ∧ Below w.heap.size w w') := by
  by_cases h : okMD M D
  · exact (pnew_yes M D w h).mono fun e w' ⟨c, m, a, b⟩ => ⟨_, a, by simp [h], b.out.bel⟩
  · exact (pnew_no M D w h).mono fun e w' ⟨a, b⟩ => ⟨none, a, by simp [h], by rw [b]; exact Below.refl _ _⟩
theorem rnew_any (M D : Int) (w : World) : Calls Try.prog 11 #[.int .i64 M, .int .i64 D] w fun e w' => ∃ v : Option Addr, e = .returned (.pointer v) ∧ Hid ((v.isSome = true ↔ okMD M D) ∧ Below w.heap.size w w') := by
  by_cases h : okMD M D
  · exact (rnew_yes M D w h).mono fun e w' ⟨a, b⟩ => ⟨_, a, by simp [h], b.out.2⟩
  · exact (rnew_no M D w h).mono fun e w' ⟨a, b⟩ => ⟨none, a, by simp [h], by rw [b]; exact Below.refl _ _⟩
abbrev bxN (vc vx : Option Addr) (d y : Nat) : Obj := .cells #[.pointer vc, .pointer vx, .pointer (some ⟨d, 0, none⟩), .pointer (some ⟨y, 0, none⟩)] 39 (0, 0)
set_option maxRecDepth 20000 in
set_option maxHeartbeats 4000000 in
theorem plays_no (M D M' D' : Int) (hno : ¬ (okMD M D ∧ okMD M' D')) (da : Option Addr) (dc : Nat) (zs : List Int) (xs : List OpP) (oa : Option Addr) (oc : Nat) (w : World) (hp : PartU w da dc zs) (hz : zs.length * 4 ≤ 140737488355328) (hops : OpsP w oa xs) (hsz : xs.length ≤ 140737488355328) (hzl : ∀ j, j < xs.length → (xs.getD j OpP.nil).pt.zs.length ≤ 140737488355328) :
    Calls Try.prog 5 #[.int .i64 M, .int .i64 D, .int .i64 M', .int .i64 D', .slice da zs.length dc, .slice oa xs.length oc] w fun e w' => e = .returned (.bool true) ∧ Below w.heap.size w w' := by
  have HBE := hid (beyond_any xs oa oc w hops hsz hzl)
  have HL := hid (live_any w)
  have HN1 := hid (fun W => pnew_any M D W)
  have HN2 := hid (fun W => rnew_any M D W)
  have HN3 := hid (fun W (hb : Below w.heap.size w W) => new_any da dc zs W (hp.below hb) hz)
  have HN4 := hid (fun W (hb : Below w.heap.size w W) => refNew_any da dc zs W (hp.below hb) hz)
  have HN5 := hid (fun W => pnew_any M' D' W)
  have HN6 := hid (fun W => rnew_any M' D' W)
  have HNO := hid hno
  generalize zs.length = zl at *
  generalize hL : xs.length = L at *
  clear hp hz hops hsz hzl hL hno
  go_enter Try.func5, Try.ntmps5
  go_upto_region 2 with (first
    | (go_at_call 10; refine HBE.out.mono ?_; go_loud (rintro e w1 ⟨rfl, B, rfl, HW⟩; clear HBE HW))
    | fail)
  cases B with
  | true =>
    clear HL HN1 HN2 HN3 HN4 HN5 HN6
    go_wp2_with fail
    go_ret
    exact ⟨rfl, Below.refl _ _⟩
  | false =>
    go_upto_region 5 with (first
      | (go_at_call 7; refine HL.out.mono ?_; go_loud (rintro e w2 ⟨rfl, HB⟩; have HM2 := hid ((MA.start w1).pass HB.out); clear HL HB))
      | fail)
    go_upto_region 6 with (first
      | (go_at_call 8; refine (HN1.out w2).mono ?_; go_loud (rintro e w3 ⟨vc, rfl, HQ⟩; have HM3 := hid (HM2.out.pass HQ.out.2); have HV1 := hid HQ.out.1; clear HQ HM2 HN1))
      | (go_at_call 11; refine (HN2.out w3).mono ?_; go_loud (rintro e w4 ⟨vx, rfl, HQ⟩; have HM4 := hid (HM3.out.pass HQ.out.2); have HV2 := hid HQ.out.1; clear HQ HM3 HN2))
      | (go_at_call 12; refine (HN3.out w4 HM4.out.below).mono ?_; go_loud (rintro e w5 ⟨d, a5, c5, rfl, HQ⟩; have HM5 := hid (HM4.out.pass HQ.out.bel); clear HQ HM4 HN3))
      | (go_at_call 13; refine (HN4.out w5 HM5.out.below).mono ?_; go_loud (rintro e w6 ⟨y, a6, c6, rfl, HQ⟩; have HM6 := hid (HM5.out.pass HQ.out.bel); clear HQ HM5 HN4))
      | fail)
    have HM7 := hid (HM6.out.push 10 rfl (bxN vc vx d y))
    clear HM6
    generalize w6.heap.size = b at *
    generalize w6.alloc (bxN vc vx d y) = w7 at *
    have HX7 := hid (HM7.out.box 10 rfl)
    go_region_held3 (fun s' => ∀ q, s'.cell? ⟨b, q, none⟩ = (#[.pointer vc, .pointer vx, .pointer (some ⟨d, 0, none⟩), .pointer (some ⟨y, 0, none⟩)] : Array Value)[q]?) (first | exact HX7.out | exact HX8.out | exact HX9.out | exact HX10.out | go_keep) (first
      | (go_at_call 8; refine (HN5.out _).mono ?_; rintro e w8 ⟨vc', rfl, HQ⟩; have HM8 := hid ((HM7.out.pass (bdrewN _ 1)).pass HQ.out.2); have HX8 := hid (HM8.out.box 10 rfl); have HV3 := hid HQ.out.1; clear HQ)
      | (go_at_call 11; refine (HN6.out w8).mono ?_; rintro e w9 ⟨vx', rfl, HQ⟩; have HM9 := hid (HM8.out.pass HQ.out.2); have HX9 := hid (HM9.out.box 10 rfl); have HX10 := hid ((HM9.out.push 11 rfl (bxN vc' vx' d y)).box 10 rfl); have HV4 := hid HQ.out.1; clear HQ))
    clear HX7 HX8 HX9 HX10 HM7 HM8 HN5 HN6
    have HM10 := hid (HM9.out.push 11 rfl (bxN vc' vx' d y))
    clear HM9
    generalize w9.heap.size = b' at *
    generalize w9.alloc (bxN vc' vx' d y) = w10 at *
    have c0 := HM10.out.box 10 rfl
    have c1 := HM10.out.box 11 rfl
    have HBW := hid HM10.out.below
    clear HM10
    have v1 := HV1.out
    have v2 := HV2.out
    have v3 := HV3.out
    have v4 := HV4.out
    have v5 := HNO.out
    clear HV1 HV2 HV3 HV4 HNO
    rcases vc with _ | vc <;> rcases vx with _ | vx
    · rcases vc' with _ | vc' <;> rcases vx' with _ | vx'
      · clear v1 v2 v3 v4 v5
        go_wp2_with fail
        first | (go_ret; exact ⟨rfl, HBW.out⟩) | (go_quiet (fail); go_wp2_with fail; go_ret; exact ⟨rfl, belowN HBW.out _⟩)
      · exact absurd (v3.2 (v4.1 rfl)) (by simp)
      · exact absurd (v4.2 (v3.1 rfl)) (by simp)
      · clear v1 v2 v3 v4 v5
        go_wp2_with fail
        first | (go_ret; exact ⟨rfl, HBW.out⟩) | (go_quiet (fail); go_wp2_with fail; go_ret; exact ⟨rfl, belowN HBW.out _⟩)
    · exact absurd (v1.2 (v2.1 rfl)) (by simp)
    · exact absurd (v2.2 (v1.1 rfl)) (by simp)
    · rcases vc' with _ | vc' <;> rcases vx' with _ | vx'
      · clear v1 v2 v3 v4 v5
        go_wp2_with fail
        first | (go_ret; exact ⟨rfl, HBW.out⟩) | (go_quiet (fail); go_wp2_with fail; go_ret; exact ⟨rfl, belowN HBW.out _⟩)
      · exact absurd (v3.2 (v4.1 rfl)) (by simp)
      · exact absurd (v4.2 (v3.1 rfl)) (by simp)
      · exact absurd ⟨v1.1 rfl, v3.1 rfl⟩ v5
theorem plays_all (M D M' D' : Int) (da : Option Addr) (dc : Nat) (zs : List Int) (xs : List OpP) (oa : Option Addr) (oc : Nat) (w : World) (hp : PartU w da dc zs) (hz : zs.length * 4 ≤ 140737488355328) (hops : OpsP w oa xs) (hsz : xs.length ≤ 140737488355328) (hzl : ∀ j, j < xs.length → (xs.getD j OpP.nil).pt.zs.length ≤ 140737488355328) :
    Calls Try.prog 5 #[.int .i64 M, .int .i64 D, .int .i64 M', .int .i64 D', .slice da zs.length dc, .slice oa xs.length oc] w fun e w' => e = .returned (.bool true) ∧ Below w.heap.size w w' := by
  by_cases h : okMD M D ∧ okMD M' D'
  · exact plays_yes M D M' D' h.1 h.2 da dc zs xs oa oc w hp hz hops hsz hzl
  · exact plays_no M D M' D' h da dc zs xs oa oc w hp hz hops hsz hzl
theorem portPlays_walk (M D M' D' : Int) (da : Option Addr) (dc : Nat) (zs : List Int) (xs : List OpP) (oa : Option Addr) (oc : Nat) (w : World) (_ : -9223372036854775808 ≤ M ∧ M ≤ 9223372036854775807) (_ : -9223372036854775808 ≤ D ∧ D ≤ 9223372036854775807) (_ : -9223372036854775808 ≤ M' ∧ M' ≤ 9223372036854775807) (_ : -9223372036854775808 ≤ D' ∧ D' ≤ 9223372036854775807) (hp : PartU w da dc zs) (hz : zs.length * 4 ≤ 140737488355328) (hops : OpsP w oa xs) (hsz : xs.length * 64 ≤ 140737488351232 ∧ ∀ i, i < xs.length → (xs.getD i OpP.nil).pt.zs.length ≤ 140737488351232) :
    Calls Try.prog 5 #[.int .i64 M, .int .i64 D, .int .i64 M', .int .i64 D', .slice da zs.length dc, .slice oa xs.length oc] w fun e w' => e = .returned (.bool true) ∧ Below w.heap.size w w' :=
  plays_all M D M' D' da dc zs xs oa oc w hp hz hops (by omega) fun j hj => by have := hsz.2 j hj; omega
end Go.Proofs.Ythipdchdbdmmnaa

/-
  Proved: slipwaylaw13.PortPlays, called with any arguments in any memory, returns true and leaves what was there as it was. Its conditions: those of the row alone (none).
-/
namespace Go.Proofs.Ythipdchdbdmmnaa
set_option linter.unusedVariables false
open Go.ChangeShapes Go.WideShapes Go.ChangeAt Go.RowKit
open Go.ChangeMaps (open_string shut_string)

set_option maxRecDepth 100000 in
theorem portPlays_lifted (os : Os) (started : os.Started) (H : Type) (enc : TypeId × Value → H) :
    ReturnsInHanded {} Try.checked os 5 .any (Rows.portPlaysSpec.pre6 enc Try.prog Try.f5 Rows.portPlaysRow.domain false) (Rows.portPlaysSpec.post enc Try.prog Try.f5 false true false false) := by
  refine returnsInHanded_of_change_sized (C := Try.checked) own started (by kernel_rfl) Try.func5
    (ChangeSpec.witness6 (enc := enc) (C := Try.checked) false ⟨#[], #[.int .i64 0, .int .i64 0, .int .i64 0, .int .i64 0, .slice none 0 0, .slice none 0 0], []⟩ 8 (by kernel_rfl) (by kernel_rfl) (by kernel_rfl) (by kernel_rfl)) ?_
  intro W base args ds gs before hval0 hW _ hsz0 _
  have hsz : (DataW.weightsEach Try.prog (Try.f5.params.toList ++ []) (ds ++ gs)).all (· ≤ reachBytes) = true := hsz0
  have hval : ∀ (j : Nat) t v, Try.f5.params[j]? = some t → args[j]? = some v → Value.okWide Try.prog W .any base t v := hval0
  have hW' := hW
  obtain ⟨p, q, hA0, hV, rfl, hfz, hnd⟩ := hW
  have hA : DataW.TrodAll enc Try.prog W 0 (fun _ => true) true Try.f5.params.toList args.toList ds p := hA0
  rw [Try.params5] at hA hval hsz
  have hA2 := hA
  have hlt : ∀ x, x ∈ p → x.block < W.heap.size := fun x hx => hW'.lt x (by simp [hx])
  obtain ⟨rfl, rfl⟩ := trodVars_none hV
  simp only [List.append_nil] at hsz hW'
  obtain ⟨v0, vs0, d0, ds0, p0, q0, hargs, rfl, rfl, h0, r0⟩ := trodAll_cons hA
  obtain ⟨v1, vs1, d1, ds1, p1, q1, rfl, rfl, rfl, h1, r1⟩ := trodAll_cons r0
  obtain ⟨v2, vs2, d2, ds2, p2, q2, rfl, rfl, rfl, h2, r2⟩ := trodAll_cons r1
  obtain ⟨v3, vs3, d3, ds3, p3, q3, rfl, rfl, rfl, h3, r3⟩ := trodAll_cons r2
  obtain ⟨v4, vs4, d4, ds4, p4, q4, rfl, rfl, rfl, h4, r4⟩ := trodAll_cons r3
  obtain ⟨v5, vs5, d5, ds5, p5, q5, rfl, rfl, rfl, h5, r5⟩ := trodAll_cons r4
  obtain ⟨rfl, rfl, rfl⟩ := trodAll_nil r5
  obtain rfl : args = #[v0, v1, v2, v3, v4, v5] := by cases args; simp_all
  obtain ⟨x0, rfl, rfl, rfl, wf0⟩ := open_int Try.underlying3 (hval 0 3 v0 rfl rfl) h0
  have bd0 := bounds_i64 wf0
  obtain ⟨x1, rfl, rfl, rfl, wf1⟩ := open_int Try.underlying3 (hval 1 3 v1 rfl rfl) h1
  have bd1 := bounds_i64 wf1
  obtain ⟨x2, rfl, rfl, rfl, wf2⟩ := open_int Try.underlying3 (hval 2 3 v2 rfl rfl) h2
  have bd2 := bounds_i64 wf2
  obtain ⟨x3, rfl, rfl, rfl, wf3⟩ := open_int Try.underlying3 (hval 3 3 v3 rfl rfl) h3
  have bd3 := bounds_i64 wf3
  obtain ⟨ao4, co4, zs4, rfl, ok4, dd4⟩ := open_words (fun _ => rfl) (hval 4 28 v4 rfl rfl) h4
  have sz4 := words_sized hsz (j := 4) rfl rfl dd4
  obtain ⟨xs5, ao5, co5, rfl, ok5, dd5⟩ := open_ops (fun _ => rfl) (hval 5 29 v5 rfl rfl) h5
  have sz5 := ops_sized hsz (j := 5) rfl rfl dd5
  clear hA0 hval0
  refine (portPlays_walk x0 x1 x2 x3 ao4 co4 zs4 xs5 ao5 co5 W bd0 bd1 bd2 bd3 ok4 sz4 ok5 sz5).mono fun e W' ⟨he, hb⟩ => ?_
  subst he
  exact ⟨_, rfl, _, _, _, [], _, [], hW', trodAll_mk1 (shut_bool Try.underlying4 _), trodAll_below (fun t ht => by
    have hall : ([3, 3, 3, 3, 28, 29].all fun u => Try.prog.readableRec u && decide (u < Try.prog.types.size)) = true := by kernel_rfl
    have := List.all_eq_true.1 hall t ht
    simpa using this) hA2 hb hlt, rfl, hb.frame _, fun h => by cases h⟩

theorem portPlays_holds : Rows.PortPlaysSaid :=
  OpenClaim.holds_of_wide 5 Try.f5 rfl rfl rfl rfl rfl rfl rfl ⟨rfl, rfl, rfl, rfl, rfl⟩ rfl rfl rfl rfl rfl (by kernel_rfl) Try.func5 (by kernel_rfl)
    (of_decide_eq_true (by kernel_rfl)) (by unfold Func.isWrapper; first | (rw [if_pos (by decide +kernel)]; kernel_rfl) | (rw [if_neg (by decide +kernel)]; exact ⟨rfl, rfl⟩))
    (fun os started H enc _ => portPlays_lifted os started H enc)
end Go.Proofs.Ythipdchdbdmmnaa
