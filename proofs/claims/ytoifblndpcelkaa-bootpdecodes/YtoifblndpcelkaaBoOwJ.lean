import Derived.Test.YtoifblndpcelkaaOMem
import Derived.Test.YtoifblndpcelkaaBBookJ
import Derived.Test.YtoifblndpcelkaaOMeet
/-
  The memory of the statements' own function owned (stage 16): the book, two rows that are written over, two that grow.
-/
namespace Go.Proofs.Ytoifblndpcelkaa
open Go.RowKit
set_option linter.all false

/-- as append_s; and a row that moved left its old place as it was. -/
theorem append_t (t ty e : TypeId) (z : Value) (sz bytes : Nat) (ht : Try.prog.underlying t = some (.slice e)) (hinfo : (Try.prog.info? e).map (fun i => (i.zero, i.size, i.bytes)) = some (some z, sz, bytes)) (hzc : z.cells.size = sz) (hsz : 0 < sz)
    {w : World} {v : Value} {n : Nat} {xs : List Value} (h : RowS w e sz v n xs) (a : Addr) (m c : Nat) (news : List Value) (hl : news.length = m * sz) (hnews : ∀ j u, news[j]? = some u → w.cell? (a.add j) = some u) (h1 : ∀ u ∈ news, u.oneCell' = true)
    (hml : n + m ≤ maxLen) (hbytes : (n + m) * bytes ≤ 140737488355328) :
    ∃ v' w', (Builtin.append_ #[t, t] ty #[v, .slice (some a) m c]).run Try.prog w = .ok v' w' ∧ RowS w' e sz v' (n + m) (xs ++ news) ∧ w.grownBy w' v.ownBlock ∧ (v'.ownBlock = v.ownBlock ∨ (w.grownBy w' none ∧ ∀ k, v'.ownBlock = some k → w.heap.size ≤ k)) := by
  obtain ⟨i, hi, hz0, hz1, hz2⟩ := info_sz hinfo
  have weak : ∀ (v' : Value) (w' : World), w'.ownsRow w.heap.size e sz v' (n + m) (xs ++ news) → RowS w' e sz v' (n + m) (xs ++ news) ∧ ∀ k, v'.ownBlock = some k → w.heap.size ≤ k := fun v' w' ho => by
    refine ⟨⟨ho.1, ?_⟩, fun k hk => (World.ownsRow.lt ho k hk).1⟩
    rcases ho.2 with h1 | ⟨g, cap, cur, hv, hB, r⟩
    · exact Or.inl h1
    · exact Or.inr ⟨g, cap, cur, hv, Nat.zero_le _, r⟩
  rcases h.2 with ⟨rfl, rfl⟩ | ⟨g, cap, cur, rfl, _, hg, hnc, hm, hs, htk⟩
  · have hx : xs = [] := List.eq_nil_of_length_eq_zero (by rw [h.1]; simp)
    subst hx
    obtain ⟨v', w', hrun, hown, hgr, _⟩ := run_append_own (P := Try.prog) w w.heap.size t ty e i z sz bytes ht hi hz0 hz1 hz2 hzc hsz (.slice none 0 0) 0 [] (World.ownsRow_nil w w.heap.size e sz) a m c news hl hnews h1 hml hbytes (Nat.le_refl _)
    obtain ⟨h2, h3⟩ := weak v' w' hown
    exact ⟨v', w', hrun, h2, hgr, Or.inr ⟨hgr, h3⟩⟩
  · by_cases hroom : n + m ≤ cap
    · have hfit : n * sz + news.length ≤ cur.size := by rw [hl, hs, ← Nat.add_mul]; exact Nat.mul_le_mul_right _ hroom
      have hrun := run_append_room_cells (P := Try.prog) w t ty e i ht hi g 0 n cap a m c news (by rw [hz1]; exact hl) hnews h1 hroom
        (fun j hj => by rw [hz1, Nat.zero_add, cell_of_heap hg, Array.getElem?_eq_getElem (by omega)]; rfl)
        (fun j hj => by rw [hz1, Nat.zero_add]; exact frozen_of_heap hg _)
      rw [hz1, Nat.zero_add] at hrun
      refine ⟨_, _, hrun, ⟨by rw [List.length_append, h.1, hl, ← Nat.add_mul], Or.inr ⟨g, cap, putCells cur (n * sz) news, rfl, Nat.zero_le _, heap_setCells _ _ _ _ _ _ _ hg, hroom, hm, by rw [putCells_size]; exact hs, ?_⟩⟩, grown_setCells _ _ _ _, Or.inl rfl⟩
      rw [Nat.add_mul, ← hl, putCells_take news cur (n * sz) hfit, htk]
    · obtain ⟨v', w', hrun, hown, hgr⟩ := run_append_arg_grows (P := Try.prog) w t ty e i z sz bytes ht hi hz0 hz1 hz2 hzc hsz ⟨g, 0, none⟩ n cap xs h.1
        (fun j u hj => by
          rw [show (⟨g, 0, none⟩ : Addr).add j = ⟨g, j, none⟩ from by unfold Addr.add; split <;> simp_all]
          exact RowS.cell h hj)
        a m c news hl hnews (by omega) hml hbytes
      obtain ⟨h2, h3⟩ := weak v' w' hown
      exact ⟨v', w', hrun, h2, ⟨hgr.os, hgr.tape, hgr.output, hgr.size, fun k hk _ => hgr.block k hk (by simp)⟩, Or.inr ⟨hgr, h3⟩⟩

/-! ### The book -/
def lsOf (E : List (Opt × Value)) : List (Value × List Int) := E.map fun p => (p.2, p.1.2)
theorem lsOf_take {E : List (Opt × Value)} {k : Nat} {p : Opt × Value} (h : E[k]? = some p) : lsOf (E.take (k + 1)) = lsOf (E.take k) ++ [(p.2, p.1.2)] := by
  have hk : k < E.length := (List.getElem?_eq_some_iff.1 h).1
  rw [List.take_succ_eq_append_getElem hk]
  rw [List.getElem?_eq_getElem hk] at h
  simp only [Option.some.injEq] at h
  simp [lsOf, h]
/-- options' bytes, each in a block of its own, from B on. -/
structure OwE (B : Nat) (w : World) (E : List (Opt × Value)) : Prop where
  data : ∀ p ∈ E, Row w 5 p.2 (u8s p.1.2)
  low : ∀ p ∈ E, ∀ b, p.2.ownBlock = some b → B ≤ b
  apart : ∀ (i j : Nat) p q b, i ≠ j → E[i]? = some p → E[j]? = some q → p.2.ownBlock = some b → q.2.ownBlock ≠ some b
  oks : ∀ p ∈ E, ∀ z ∈ p.1.2, 0 ≤ z ∧ z ≤ 255
  lens : ∀ p ∈ E, p.1.2.length ≤ 140737488351232
  few : E.length ≤ 4000000000000
/-- the book under way: all blocks ahead of it stay. -/
def BkS (B gk : Nat) (w : World) (ls : List (Value × List Int)) (W : World) : Prop := ∃ L V, Late W B gk L V ls ∧ (∀ k, k < gk → W.heap[k]? = w.heap[k]?) ∧ Below B w W
theorem BkS.start (w : World) (B : Nat) (hB : B ≤ w.heap.size) : BkS B w.heap.size w [] (w.alloc (.cells #[.slice none 0 0, .slice none 0 0] 42)) :=
  ⟨_, _, Late.new w B hB, fun k hk => heap_old _ _ hk, (bpush (Below.refl _ w) _).mono hB⟩
theorem bks_take {B gk : Nat} {w W : World} {E : List (Opt × Value)} {k : Nat} {p : Opt × Value} (h : BkS B gk w (lsOf (E.take k)) W) (hE : OwE B w E) (hgk : gk = w.heap.size) (hp : E[k]? = some p) :
    Calls Try.prog 16 #[.pointer (some ⟨gk, 0, none⟩), p.2] W fun e w' => e = .returned (.tuple #[]) ∧ Hid (BkS B gk w (lsOf (E.take (k + 1))) w') := by
  obtain ⟨L, V, h1, h2, h3⟩ := h
  have hm : p ∈ E := List.mem_of_getElem? hp
  have hk : k < E.length := (List.getElem?_eq_some_iff.1 hp).1
  have hr := hE.data p hm
  refine (take_late gk L V p.2 _ p.1.2 B W h1 (hr.low h2 (fun b hb => by rw [hgk]; exact hr.lt hb)) (hE.oks p hm) (hE.lens p hm) (by
    have := hE.few
    simp [lsOf]
    omega) (fun b hb => ⟨hE.low p hm b hb, by rw [hgk]; exact hr.lt hb, fun q hq e => ?_⟩)).mono ?_
  · obtain ⟨q', hq', rfl⟩ := List.mem_map.1 hq
    obtain ⟨j, hj⟩ := List.getElem?_of_mem hq'
    rw [List.getElem?_take] at hj
    split at hj
    · next hjk => exact hE.apart k j p q' b (by omega) hp hj hb e
    · simp at hj
  · rintro e w' ⟨he, L', V', k1, k2, k3⟩
    refine ⟨he, ⟨L', V', ?_, fun b hb => (k2 b hb).trans (h2 b hb), h3.trans k3⟩⟩
    rw [lsOf_take hp]
    exact k1
theorem bks_owned {B gk : Nat} {w W : World} {E : List (Opt × Value)} (h : BkS B gk w (lsOf E) W) :
    Calls Try.prog 17 #[.pointer (some ⟨gk, 0, none⟩)] W fun e w' => e = .returned (.bool true) ∧ Hid (Below B w w' ∧ ∀ k, k < gk → (∀ p ∈ E, p.2.ownBlock ≠ some k) → w'.heap[k]? = w.heap[k]?) := by
  obtain ⟨L, V, h1, h2, h3⟩ := h
  refine (owned_late gk L V _ B W h1).mono ?_
  rintro e w' ⟨he, k1, k2⟩
  refine ⟨he, h3.trans k1, fun k hk hn => (k2 k hk (fun q hq => ?_)).trans (h2 k hk)⟩
  obtain ⟨p, hp, rfl⟩ := List.mem_map.1 hq
  exact hn p hp
/-! ### Two rows that are written over -/
/-- a row, of which the first k elements have the code c. -/
def Fill (W : World) (v : Value) (n : Nat) (c : Int) (k : Nat) : Prop := ∃ xs, RowS W 67 2 v n xs ∧ ∀ j, j < k → xs[j * 2]? = some (.int .i64 c)
theorem Fill.keep {W W' : World} {v : Value} {n : Nat} {c : Int} {k : Nat} (h : Fill W v n c k) (hk : ∀ g, v.ownBlock = some g → W'.heap[g]? = W.heap[g]?) : Fill W' v n c k := by
  obtain ⟨xs, h1, h2⟩ := h
  exact ⟨xs, h1.keep hk, h2⟩
theorem Fill.lt {W : World} {v : Value} {n : Nat} {c : Int} {k : Nat} (h : Fill W v n c k) {g : Nat} (hg : v.ownBlock = some g) : g < W.heap.size := by
  obtain ⟨xs, h1, _⟩ := h
  exact h1.lt hg
theorem Fill.none {W : World} {v : Value} {n : Nat} {c : Int} {xs : List Value} (h : RowS W 67 2 v n xs) : Fill W v n c 0 := ⟨xs, h, fun j hj => by omega⟩
theorem Fill.cell {W : World} {g n cap : Nat} {c : Int} {k : Nat} (h : Fill W (.slice (some ⟨g, 0, .none⟩) n cap) n c k) {j : Nat} (hj : j < k) : W.cell? ⟨g, j * 2, .none⟩ = some (.int .i64 c) := by
  obtain ⟨xs, h1, h2⟩ := h
  exact h1.cell (h2 j hj)
/-- one more is written. -/
theorem Fill.step {W : World} {g n cap : Nat} {c : Int} {k : Nat} (h : Fill W (.slice (some ⟨g, 0, .none⟩) n cap) n c k) (hk : k < n) :
    (∃ u, W.cell? ⟨g, k * 2, .none⟩ = some u) ∧ (∃ u, W.cell? ⟨g, k * 2 + 1, .none⟩ = some u) ∧ W.frozen? ⟨g, k * 2, .none⟩ = false ∧ W.frozen? ⟨g, k * 2 + 1, .none⟩ = false ∧ Fill ((W.setCell ⟨g, k * 2, .none⟩ (.int .i64 c)).setCell ⟨g, k * 2 + 1, .none⟩ (.slice .none 0 0)) (.slice (some ⟨g, 0, .none⟩) n cap) n c (k + 1) := by
  obtain ⟨xs, h1, h2⟩ := h
  have hl : xs.length = n * 2 := h1.1
  obtain ⟨q1, q2, q3⟩ := RowS.set h1 (k * 2) (by omega) (.int .i64 c)
  obtain ⟨r1, r2, r3⟩ := RowS.set q3 (k * 2 + 1) (by simp; omega) (.slice .none 0 0)
  obtain ⟨p1, p2, _⟩ := RowS.set h1 (k * 2 + 1) (by omega) (.slice .none 0 0)
  refine ⟨q1, p1, q2, p2, _, r3, fun j hj => ?_⟩
  rw [List.getElem?_set_ne (by omega)]
  rcases Nat.lt_or_ge j k with h3 | h3
  · rw [List.getElem?_set_ne (by omega)]
    exact h2 j h3
  · have : j = k := by omega
    subst this
    rw [List.getElem?_set_self (by omega)]
theorem but_below {B g : Nat} {W W' : World} (hb : But g W W') (h : B ≤ g) (hs : B ≤ W.heap.size) : Below B W W' := ⟨hb.os, hb.tape, hb.output, hb.size, fun k hk => hb.block k (by omega) (by omega)⟩
theorem two_below {B g : Nat} {w W : World} (h : Below B w W) (hg : B ≤ g) (hB : B ≤ w.heap.size) (i j : Nat) (x y : Value) : Below B w ((W.setCell ⟨g, i, none⟩ x).setCell ⟨g, j, none⟩ y) :=
  (h.trans (but_below (But.setCell g W i x) hg (Nat.le_trans hB h.size))).trans (but_below (But.setCell g _ j y) hg (Nat.le_trans hB (Nat.le_trans h.size (But.setCell g W i x).size)))
/-- what a row tells at its head. -/
def Told (W : World) (u : Value) (m : Nat) (c : Int) : Prop := ∀ g cp, u = .slice (some ⟨g, 0, .none⟩) m cp → ∀ j, j < m → W.cell? ⟨g, j * 2, .none⟩ = some (.int .i64 c)
theorem Told.keep {W W' : World} {u : Value} {m : Nat} {c : Int} (h : Told W u m c) (hk : ∀ g, u.ownBlock = some g → W'.heap[g]? = W.heap[g]?) : Told W' u m c := fun g cp e j hj => by
  rw [World.cell?_of_block (w := W) (a := ⟨g, j * 2, .none⟩) (hk g (by rw [e]; rfl))]
  exact h g cp e j hj
theorem Fill.told {W : World} {u : Value} {m : Nat} {c : Int} (h : Fill W u m c m) : Told W u m c := fun g cp e j hj => by
  subst e
  exact h.cell hj
/-- rows a and b, while they are written over. -/
structure Two (B : Nat) (w : World) (va vb : Value) (na nb : Nat) (ka kb : Nat) (W : World) : Prop where
  a : Fill W va na (-5) ka
  b : Fill W vb nb (-6) kb
  ne : ∀ k, va.ownBlock = some k → vb.ownBlock ≠ some k
  low : ∀ k, va.ownBlock = some k ∨ vb.ownBlock = some k → B ≤ k
  below : Below B w W
  base : B ≤ w.heap.size
theorem Two.stepA {B : Nat} {w W : World} {g na cap nb ka kb : Nat} {vb : Value} (h : Two B w (.slice (some ⟨g, 0, none⟩) na cap) vb na nb ka kb W) (hk : ka < na) : Two B w (.slice (some ⟨g, 0, none⟩) na cap) vb na nb (ka + 1) kb ((W.setCell ⟨g, ka * 2, none⟩ (.int .i64 (-5))).setCell ⟨g, ka * 2 + 1, none⟩ (.slice none 0 0)) := by
  have hg : B ≤ g := h.low g (Or.inl rfl)
  have hb : ∀ k, vb.ownBlock = some k → k ≠ g := fun k hk e => h.ne g rfl (by rw [← e]; exact hk)
  exact ⟨(h.a.step hk).2.2.2.2, h.b.keep fun k hk => by rw [Below.heap_setCell _ _ _ _ (by simpa using hb k hk), Below.heap_setCell _ _ _ _ (by simpa using hb k hk)], h.ne, h.low, two_below h.below hg h.base _ _ _ _, h.base⟩
theorem Two.stepB {B : Nat} {w W : World} {g na cap nb ka kb : Nat} {va : Value} (h : Two B w va (.slice (some ⟨g, 0, none⟩) nb cap) na nb ka kb W) (hk : kb < nb) : Two B w va (.slice (some ⟨g, 0, none⟩) nb cap) na nb ka (kb + 1) ((W.setCell ⟨g, kb * 2, none⟩ (.int .i64 (-6))).setCell ⟨g, kb * 2 + 1, none⟩ (.slice none 0 0)) := by
  have hg : B ≤ g := h.low g (Or.inr rfl)
  have hb : ∀ k, va.ownBlock = some k → k ≠ g := fun k hk e => h.ne k hk (by rw [e]; rfl)
  exact ⟨h.a.keep fun k hk => by rw [Below.heap_setCell _ _ _ _ (by simpa using hb k hk), Below.heap_setCell _ _ _ _ (by simpa using hb k hk)], (h.b.step hk).2.2.2.2, h.ne, h.low, two_below h.below hg h.base _ _ _ _, h.base⟩
/-! ### .. and grown -/
/-- rows a and b, and what they have grown to: c and d. -/
structure Four (B : Nat) (w : World) (va vb vc vd : Value) (na nb nc nd : Nat) (W : World) : Prop where
  a : Told W va na (-5)
  b : Told W vb nb (-6)
  la : ∀ k, va.ownBlock = some k → k < W.heap.size
  lb : ∀ k, vb.ownBlock = some k → k < W.heap.size
  c : Fill W vc nc (-5) nc
  d : Fill W vd nd (-6) nd
  cd : ∀ k, vc.ownBlock = some k → vd.ownBlock ≠ some k
  ad : ∀ k, va.ownBlock = some k → vd.ownBlock ≠ some k
  bc : ∀ k, vb.ownBlock = some k → vc.ownBlock ≠ some k
  low : ∀ k, vc.ownBlock = some k ∨ vd.ownBlock = some k → B ≤ k
  below : Below B w W
  more : na ≤ nc ∧ nb ≤ nd
  base : B ≤ w.heap.size
  fa : 0 < na → ∃ g cp, va = .slice (some ⟨g, 0, none⟩) na cp
  fb : 0 < nb → ∃ g cp, vb = .slice (some ⟨g, 0, none⟩) nb cp
theorem Four.asome {B : Nat} {w W : World} {aa : Option Addr} {ca : Nat} {vb vc vd : Value} {na nb nc nd : Nat} (h : Four B w (.slice aa na ca) vb vc vd na nb nc nd W) (h0 : 0 < na) : ∃ g, aa = some ⟨g, 0, none⟩ := by
  obtain ⟨g, cp, e⟩ := h.fa h0
  simp only [Value.slice.injEq] at e
  exact ⟨g, e.1⟩
theorem Four.bsome {B : Nat} {w W : World} {ab : Option Addr} {cb : Nat} {va vc vd : Value} {na nb nc nd : Nat} (h : Four B w va (.slice ab nb cb) vc vd na nb nc nd W) (h0 : 0 < nb) : ∃ g, ab = some ⟨g, 0, none⟩ := by
  obtain ⟨g, cp, e⟩ := h.fb h0
  simp only [Value.slice.injEq] at e
  exact ⟨g, e.1⟩
theorem Fill.some_of {W : World} {v : Value} {n : Nat} {c : Int} {k : Nat} (h : Fill W v n c k) (h0 : 0 < n) : ∃ g cp, v = .slice (some ⟨g, 0, .none⟩) n cp := by
  obtain ⟨xs, h1, _⟩ := h
  obtain ⟨g, cp, e, _⟩ := h1.some_of h0
  exact ⟨g, cp, e⟩
theorem Four.start {B : Nat} {w W : World} {va vb : Value} {na nb : Nat} (h : Two B w va vb na nb na nb W) : Four B w va vb va vb na nb na nb W :=
  ⟨h.a.told, h.b.told, fun k hk => h.a.lt hk, fun k hk => h.b.lt hk, h.a, h.b, h.ne, h.ne, fun k hk e => h.ne k e hk, h.low, h.below, ⟨Nat.le_refl _, Nat.le_refl _⟩, h.base, h.a.some_of, h.b.some_of⟩
/-- an append of one element behind a filled row; rows that lie in its block ahead of it stay. -/
theorem fill_app {B : Nat} {W : World} {v : Value} {n : Nat} {c : Int} (h : Fill W v n c n) (hB : B ≤ W.heap.size) (hl : ∀ k, v.ownBlock = some k → B ≤ k) (hn : n < 4398046511104) :
    ∃ a' n' c' w', (Builtin.append_ #[26, 26] 26 #[v, .slice (some ⟨W.heap.size, 0, none⟩) 1 1]).run Try.prog (W.alloc (.cells #[.int .i64 c, .slice none 0 0] 67)) = .ok (.slice a' n' c') w' ∧ n' = n + 1 ∧ Fill w' (.slice a' n' c') (n + 1) c (n + 1) ∧ Below B W w' ∧
      (∀ k, k < W.heap.size → v.ownBlock ≠ some k → w'.heap[k]? = W.heap[k]?) ∧ (∀ u m, m ≤ n → Told W u m c → (∀ k, u.ownBlock = some k → k < W.heap.size) → Told w' u m c) ∧ (∀ k, (Value.slice a' n' c').ownBlock = some k → v.ownBlock = some k ∨ W.heap.size ≤ k) := by
  obtain ⟨xs, h1, h2⟩ := h
  have hb := bpush (Below.refl _ W) (.cells #[.int .i64 c, .slice none 0 0] 67)
  have ha := h1.below hb
  obtain ⟨v', w1, r1, r2, r3, r4⟩ := append_t 26 26 67 _ 2 32 Try.underlying26 infoOpt rfl (by decide) ha ⟨W.heap.size, 0, none⟩ 1 1 [.int .i64 c, .slice none 0 0] rfl (fun j u hj => by
    have e : (⟨W.heap.size, 0, none⟩ : Addr).add j = ⟨W.heap.size, j, none⟩ := by unfold Addr.add; split <;> simp_all
    rw [e, cell_of_heap (heap_new W _)]
    simpa using hj) (by
      intro u hu
      simp only [List.mem_cons, List.not_mem_nil, or_false] at hu
      rcases hu with rfl | rfl <;> rfl) (by unfold maxLen; omega) (by omega)
  obtain ⟨ad, cp, e, _⟩ := r2.form
  have hxl : xs.length = n * 2 := h1.1
  have hf : ∀ j, j < n + 1 → (xs ++ [Value.int .i64 c, .slice none 0 0])[j * 2]? = some (.int .i64 c) := fun j hj => by
    rcases Nat.lt_or_ge j n with h3 | h3
    · rw [List.getElem?_append_left (by omega)]
      exact h2 j h3
    · have : j = n := by omega
      subst this
      rw [List.getElem?_append_right (by omega), hxl, Nat.sub_self]
      rfl
  subst e
  have hkeep : ∀ k, k < W.heap.size → v.ownBlock ≠ some k → w1.heap[k]? = W.heap[k]? := fun k hk hv => (r3.block k (by simp; omega) (fun e => hv e.symm)).trans (heap_old _ _ hk)
  refine ⟨ad, _, cp, w1, r1, rfl, ⟨_, r2, hf⟩, (hb.mono hB).trans (grown_from r3 hl (Nat.le_trans hB hb.size)), hkeep, fun u m hm hT hlt => ?_, fun k hk => ?_⟩
  · rcases r4 with r4 | ⟨r4, _⟩
    · intro g cp' e j hj
      by_cases hvg : v.ownBlock = some g
      · have e2 : ad = some ⟨g, 0, none⟩ := by
          rcases r2.2 with ⟨hv, _⟩ | ⟨g2, cap2, cur2, hv2, _⟩
          · rw [hv, hvg] at r4
            simp [Value.ownBlock] at r4
          · simp only [Value.slice.injEq] at hv2
            rw [hv2.1] at r4
            rw [hvg] at r4
            simp only [Value.ownBlock, Option.some.injEq] at r4
            rw [hv2.1, r4]
        subst e2
        exact RowS.cell r2 (hf j (by omega))
      · rw [World.cell?_of_block (w := W) (a := ⟨g, j * 2, none⟩) (hkeep g (hlt g (by rw [e]; rfl)) hvg)]
        exact hT g cp' e j hj
    · exact hT.keep fun k hk => (r4.block k (by have := hlt k hk; simp; omega) (by simp)).trans (heap_old _ _ (hlt k hk))
  · rcases r4 with r4 | ⟨_, r4⟩
    · exact Or.inl (by rw [← r4]; exact hk)
    · have := r4 k hk
      simp at this
      exact Or.inr (by omega)
/-- one more behind c. -/
theorem Four.appC {B : Nat} {w W : World} {va vb vc vd : Value} {na nb nc nd : Nat} (h : Four B w va vb vc vd na nb nc nd W) (hn : nc < 4398046511104) :
    ∃ a' n' c' w', (Builtin.append_ #[26, 26] 26 #[vc, .slice (some ⟨W.heap.size, 0, none⟩) 1 1]).run Try.prog (W.alloc (.cells #[.int .i64 (-5), .slice none 0 0] 67)) = .ok (.slice a' n' c') w' ∧ Four B w va vb (.slice a' n' c') vd na nb (nc + 1) nd w' := by
  have hB : B ≤ W.heap.size := Nat.le_trans h.base h.below.size
  obtain ⟨a', n', c', w', r1, r2, r3, r4, r5, r6, r7⟩ := fill_app h.c hB (fun k hk => h.low k (Or.inl hk)) hn
  have hd : ∀ k, vd.ownBlock = some k → w'.heap[k]? = W.heap[k]? := fun k hk => r5 k (h.d.lt hk) (fun e => h.cd k e hk)
  have hb : ∀ k, vb.ownBlock = some k → w'.heap[k]? = W.heap[k]? := fun k hk => r5 k (h.lb k hk) (h.bc k hk)
  refine ⟨a', n', c', w', r1, r6 va na h.more.1 h.a h.la, h.b.keep hb, fun k hk => Nat.lt_of_lt_of_le (h.la k hk) r4.size, fun k hk => Nat.lt_of_lt_of_le (h.lb k hk) r4.size, r3, h.d.keep hd, fun k hk e => ?_, h.ad, fun k hk e => ?_, fun k hk => ?_, h.below.trans r4, ⟨Nat.le_succ_of_le h.more.1, h.more.2⟩, h.base, h.fa, h.fb⟩
  · rcases r7 k hk with h1 | h1
    · exact h.cd k h1 e
    · have := h.d.lt e
      omega
  · rcases r7 k e with h1 | h1
    · exact h.bc k hk h1
    · have := h.lb k hk
      omega
  · rcases hk with hk | hk
    · rcases r7 k hk with h1 | h1
      · exact h.low k (Or.inl h1)
      · omega
    · exact h.low k (Or.inr hk)
/-- one more behind d. -/
theorem Four.appD {B : Nat} {w W : World} {va vb vc vd : Value} {na nb nc nd : Nat} (h : Four B w va vb vc vd na nb nc nd W) (hn : nd < 4398046511104) :
    ∃ a' n' c' w', (Builtin.append_ #[26, 26] 26 #[vd, .slice (some ⟨W.heap.size, 0, none⟩) 1 1]).run Try.prog (W.alloc (.cells #[.int .i64 (-6), .slice none 0 0] 67)) = .ok (.slice a' n' c') w' ∧ Four B w va vb vc (.slice a' n' c') na nb nc (nd + 1) w' := by
  have hB : B ≤ W.heap.size := Nat.le_trans h.base h.below.size
  obtain ⟨a', n', c', w', r1, r2, r3, r4, r5, r6, r7⟩ := fill_app h.d hB (fun k hk => h.low k (Or.inr hk)) hn
  have hc : ∀ k, vc.ownBlock = some k → w'.heap[k]? = W.heap[k]? := fun k hk => r5 k (h.c.lt hk) (h.cd k hk)
  have ha : ∀ k, va.ownBlock = some k → w'.heap[k]? = W.heap[k]? := fun k hk => r5 k (h.la k hk) (h.ad k hk)
  refine ⟨a', n', c', w', r1, h.a.keep ha, r6 vb nb h.more.2 h.b h.lb, fun k hk => Nat.lt_of_lt_of_le (h.la k hk) r4.size, fun k hk => Nat.lt_of_lt_of_le (h.lb k hk) r4.size, h.c.keep hc, r3, fun k hk e => ?_, fun k hk e => ?_, h.bc, fun k hk => ?_, h.below.trans r4, ⟨h.more.1, Nat.le_succ_of_le h.more.2⟩, h.base, h.fa, h.fb⟩
  · rcases r7 k e with h1 | h1
    · exact h.cd k hk h1
    · have := h.c.lt hk
      omega
  · rcases r7 k e with h1 | h1
    · exact h.ad k hk h1
    · have := h.la k hk
      omega
  · rcases hk with hk | hk
    · exact h.low k (Or.inl hk)
    · rcases r7 k hk with h1 | h1
      · exact h.low k (Or.inr h1)
      · omega
end Go.Proofs.Ytoifblndpcelkaa

/-
  The statements' own function owned (stage 16).
-/
namespace Go.Proofs.Ytoifblndpcelkaa
open Go.RowKit
set_option linter.all false

/-- two rows of options of calls' own, one behind the other. -/
structure OwT (B : Nat) (w : World) (va vb : Value) (Ea Eb : List (Opt × Value)) : Prop where
  a : RowS w 67 2 va Ea.length (flatE Ea)
  b : RowS w 67 2 vb Eb.length (flatE Eb)
  ne : ∀ k, va.ownBlock = some k → vb.ownBlock ≠ some k
  low : ∀ k, va.ownBlock = some k ∨ vb.ownBlock = some k → B ≤ k
  e : OwE B w (Ea ++ Eb)
  base : B ≤ w.heap.size
theorem OwT.off {B : Nat} {w : World} {va vb : Value} {Ea Eb : List (Opt × Value)} (h : OwT B w va vb Ea Eb) {k : Nat} (hk : va.ownBlock = some k ∨ vb.ownBlock = some k) : ∀ p ∈ Ea ++ Eb, p.2.ownBlock ≠ some k := fun p hp e => by
  obtain ⟨c2, f2, h2⟩ := (h.e.data p hp).obj e
  rcases hk with hk | hk
  · obtain ⟨c1, h1⟩ := h.a.obj hk
    rw [h1] at h2
    simp at h2
  · obtain ⟨c1, h1⟩ := h.b.obj hk
    rw [h1] at h2
    simp at h2
theorem OwT.two {B : Nat} {w W : World} {va vb : Value} {Ea Eb : List (Opt × Value)} (h : OwT B w va vb Ea Eb) (hb : Below B w W) (hk : ∀ k, k < w.heap.size → (∀ p ∈ Ea ++ Eb, p.2.ownBlock ≠ some k) → W.heap[k]? = w.heap[k]?) : Two B w va vb Ea.length Eb.length 0 0 W :=
  ⟨Fill.none (h.a.keep fun k hg => hk k (h.a.lt hg) (h.off (Or.inl hg))), Fill.none (h.b.keep fun k hg => hk k (h.b.lt hg) (h.off (Or.inr hg))), h.ne, h.low, hb, h.base⟩
set_option maxRecDepth 20000 in
set_option maxHeartbeats 4000000 in
theorem owned16_any (B : Nat) (aa ab : Option Addr) (na nb ca cb : Nat) (Ea Eb : List (Opt × Value)) (w : World) (hna : na = Ea.length) (hnb : nb = Eb.length) (h : OwT B w (.slice aa na ca) (.slice ab nb cb) Ea Eb) :
    Calls Try.prog 24 #[.slice aa na ca, .slice ab nb cb] w fun e w' => e = .returned (.bool true) ∧ Hid (Below B w w') := by
  have HO := hid h
  have HNA := hid hna
  have HNB := hid hnb
  have hfw : Ea.length + Eb.length ≤ 4000000000000 := by
    have := h.e.few
    simpa using this
  have hfa : na ≤ 4000000000000 := by omega
  have hfb : nb ≤ 4000000000000 := by omega
  clear hfw h hna hnb
  have HS0 := hid (BkS.start w B HO.out.base)
  obtain ⟨gk, hgk⟩ : ∃ g, g = w.heap.size := ⟨_, rfl⟩
  rw [← hgk] at HS0
  have HGK := hid hgk
  go_enter Try.func24, Try.ntmps24
  go_wp2
  rw [← hgk]
  clear hgk
  generalize w.alloc (.cells #[.slice none 0 0, .slice none 0 0] 42) = W0 at *
  go_loopw [6] (fun i wr => ∃ k : Nat, k ≤ na ∧ i = .int .i64 k ∧ Hid (BkS B gk w (lsOf ((Ea ++ Eb).take k)) wr)) (fun i _ => na - (intOf i).toNat)
  case atStart => exact ⟨0, Nat.zero_le _, rfl, by simpa [lsOf] using HS0⟩
  case round =>
    obtain ⟨k, hk, rfl, HS⟩ := hrel
    clear HS0
    by_cases hlt : k < na
    · have hlt' : (k : Int) < na := by omega
      obtain ⟨p, hp⟩ : ∃ p, Ea[k]? = some p := ⟨Ea[k]'(by rw [← HNA.out]; exact hlt), List.getElem?_eq_getElem _⟩
      have hpe : (Ea ++ Eb)[k]? = some p := by rw [List.getElem?_append_left (by rw [← HNA.out]; exact hlt)]; exact hp
      have ha := HO.out.a
      rw [← HNA.out] at ha
      obtain ⟨ga, cpa, e1, _⟩ := ha.some_of (by omega)
      simp only [Value.slice.injEq] at e1
      obtain ⟨rfl, _, rfl⟩ := e1
      have c1 : wr.cell? ⟨ga, k * 2 + 1, none⟩ = some p.2 := by
        obtain ⟨L, V, _, h2, _⟩ := HS.out
        rw [World.cell?_of_block (w := w) (a := ⟨ga, k * 2 + 1, none⟩) (h2 ga (by rw [HGK.out]; exact ha.lt rfl))]
        exact RowS.cell ha (flatE_at Ea k p hp).2
      have HT := hid (bks_take HS.out HO.out.e HGK.out hpe)
      obtain ⟨pa, pc, epv, _⟩ := (HO.out.e.data p (List.mem_of_getElem? hpe)).form
      rw [u8s_len] at epv
      rw [epv] at c1 HT
      generalize p.1.2.length = pl at *
      clear hp hpe ha epv
      go_wp2_with (first
        | (go_at_call 16; refine HT.out.mono ?_; rintro e w1 ⟨rfl, HS1⟩)
        | fail)
      go_roundw
      case rel => exact ⟨k + 1, by omega, by go_num, HS1⟩
      case measure => simp [intOf]; omega
    · have hge : ¬ (k : Int) < na := by omega
      have hkn : k = na := by omega
      have HS2 : Hid (BkS B gk w (lsOf ((Ea ++ Eb).take (na + 0))) wr) := by rw [Nat.add_zero, ← hkn]; exact HS
      clear HS hk hlt hkn
      go_wp2
      go_loopw [7] (fun i wr => ∃ k : Nat, k ≤ nb ∧ i = .int .i64 k ∧ Hid (BkS B gk w (lsOf ((Ea ++ Eb).take (na + k))) wr)) (fun i _ => nb - (intOf i).toNat)
      case atStart => exact ⟨0, Nat.zero_le _, rfl, HS2⟩
      case round =>
        clear HS2 hge
        obtain ⟨k, hk, rfl, HS⟩ := hrel
        by_cases hlt : k < nb
        · have hlt' : (k : Int) < nb := by omega
          obtain ⟨p, hp⟩ : ∃ p, Eb[k]? = some p := ⟨Eb[k]'(by rw [← HNB.out]; exact hlt), List.getElem?_eq_getElem _⟩
          have hpe : (Ea ++ Eb)[na + k]? = some p := by rw [List.getElem?_append_right (by rw [← HNA.out]; omega), ← HNA.out, Nat.add_sub_cancel_left]; exact hp
          have hb := HO.out.b
          rw [← HNB.out] at hb
          obtain ⟨gb, cpb, e1, _⟩ := hb.some_of (by omega)
          simp only [Value.slice.injEq] at e1
          obtain ⟨rfl, _, rfl⟩ := e1
          have c1 : wr.cell? ⟨gb, k * 2 + 1, none⟩ = some p.2 := by
            obtain ⟨L, V, _, h2, _⟩ := HS.out
            rw [World.cell?_of_block (w := w) (a := ⟨gb, k * 2 + 1, none⟩) (h2 gb (by rw [HGK.out]; exact hb.lt rfl))]
            exact RowS.cell hb (flatE_at Eb k p hp).2
          have HT := hid (bks_take HS.out HO.out.e HGK.out hpe)
          obtain ⟨pa, pc, epv, _⟩ := (HO.out.e.data p (List.mem_of_getElem? hpe)).form
          rw [u8s_len] at epv
          rw [epv] at c1 HT
          generalize p.1.2.length = pl at *
          clear hp hpe hb epv
          go_wp2_with (first
            | (go_at_call 16; refine HT.out.mono ?_; rintro e w1 ⟨rfl, HS1⟩)
            | fail)
          go_roundw
          case rel => exact ⟨k + 1, by omega, by go_num, HS1⟩
          case measure => simp [intOf]; omega
        · have hge : ¬ (k : Int) < nb := by omega
          have hkn : k = nb := by omega
          have HS3 : Hid (BkS B gk w (lsOf (Ea ++ Eb)) wr) := by
            have hs := HS.out
            rw [hkn, List.take_of_length_le (by rw [List.length_append, ← HNA.out, ← HNB.out]; exact Nat.le_refl _)] at hs
            exact hs
          have HW := hid (bks_owned HS3.out)
          clear HS HS3 hk hlt hkn
          go_upto_region 11 with (first
            | (go_at_call 17; refine HW.out.mono ?_; rintro e w3 ⟨rfl, HW3⟩)
            | fail)
          have HT0 : Hid (Two B w (.slice aa na ca) (.slice ab nb cb) na nb 0 0 w3) := by
            have := HO.out.two HW3.out.1 (fun k hk hn => HW3.out.2 k (by rw [HGK.out]; exact hk) hn)
            rw [← HNA.out, ← HNB.out] at this
            exact this
          clear HW HW3 HO HGK HNA HNB hge
          go_wp2
          go_loopw [9] (fun i wr => ∃ k : Nat, k ≤ na ∧ i = .int .i64 k ∧ Hid (Two B w (.slice aa na ca) (.slice ab nb cb) na nb k 0 wr)) (fun i _ => na - (intOf i).toNat)
          case atStart => exact ⟨0, Nat.zero_le _, rfl, HT0⟩
          case round =>
            clear HT0
            obtain ⟨k, hk, rfl, HT⟩ := hrel
            by_cases hlt : k < na
            · have hlt' : (k : Int) < na := by omega
              obtain ⟨xs, hx, _⟩ := HT.out.a
              obtain ⟨ga, cpa, e1, _⟩ := hx.some_of (by omega)
              simp only [Value.slice.injEq] at e1
              obtain ⟨rfl, _, rfl⟩ := e1
              obtain ⟨⟨u0, x0⟩, ⟨u1, x1⟩, f0, f1, _⟩ := HT.out.a.step hlt
              have HN := hid (HT.out.stepA hlt)
              clear hx
              go_wp2
              go_roundw
              case rel => exact ⟨k + 1, by omega, by go_num, HN⟩
              case measure => simp [intOf]; omega
            · have hge : ¬ (k : Int) < na := by omega
              have hkn : k = na := by omega
              have HT1 : Hid (Two B w (.slice aa na ca) (.slice ab nb cb) na nb na 0 wr) := by rw [hkn] at HT; exact HT
              clear HT hk hlt hkn
              go_wp2
              go_loopw [10] (fun i wr => ∃ k : Nat, k ≤ nb ∧ i = .int .i64 k ∧ Hid (Two B w (.slice aa na ca) (.slice ab nb cb) na nb na k wr)) (fun i _ => nb - (intOf i).toNat)
              case atStart => exact ⟨0, Nat.zero_le _, rfl, HT1⟩
              case round =>
                clear HT1 hge
                obtain ⟨k, hk, rfl, HT⟩ := hrel
                by_cases hlt : k < nb
                · have hlt' : (k : Int) < nb := by omega
                  obtain ⟨xs, hx, _⟩ := HT.out.b
                  obtain ⟨gb, cpb, e1, _⟩ := hx.some_of (by omega)
                  simp only [Value.slice.injEq] at e1
                  obtain ⟨rfl, _, rfl⟩ := e1
                  obtain ⟨⟨u0, x0⟩, ⟨u1, x1⟩, f0, f1, _⟩ := HT.out.b.step hlt
                  have HN := hid (HT.out.stepB hlt)
                  clear hx
                  go_wp2
                  go_roundw
                  case rel => exact ⟨k + 1, by omega, by go_num, HN⟩
                  case measure => simp [intOf]; omega
                · have hge : ¬ (k : Int) < nb := by omega
                  have hkn : k = nb := by omega
                  have HF0 : Hid (Four B w (.slice aa na ca) (.slice ab nb cb) (.slice aa na ca) (.slice ab nb cb) na nb (na + 0) (nb + 0) wr) := by
                    rw [hkn] at HT
                    exact Four.start HT.out
                  clear HT hk hlt hkn
                  go_wp2
                  go_loopw [11, 12, 13] (fun c d i wr => ∃ (q : Nat) (ac ad : Option Addr) (cc cd nc nd : Nat), q ≤ 9 ∧ i = .int .i64 q ∧ c = .slice ac nc cc ∧ d = .slice ad nd cd ∧ Hid (nc = na + q ∧ nd = nb + q ∧ Four B w (.slice aa na ca) (.slice ab nb cb) (.slice ac nc cc) (.slice ad nd cd) na nb nc nd wr)) (fun _ _ i _ => 9 - (intOf i).toNat)
                  case atStart => exact ⟨0, aa, ab, ca, cb, na, nb, by omega, rfl, rfl, rfl, rfl, rfl, HF0.out⟩
                  case round =>
                    clear HF0 hge
                    obtain ⟨q, ac, ad, cc, cd, nc, nd, hq, rfl, rfl, rfl, HF⟩ := hrel
                    by_cases hlt : q < 9
                    · have hlt' : (q : Int) < 9 := by omega
                      obtain ⟨a1, n1, c1, w1, r1, F1⟩ := HF.out.2.2.appC (by have := HF.out; omega)
                      obtain ⟨a2, n2, c2, w2, r2, F2⟩ := F1.appD (by have := HF.out; omega)
                      have e1 : n1 = nc + 1 := by
                        obtain ⟨xs, h1, _⟩ := F1.c
                        obtain ⟨_, _, e, _⟩ := h1.form
                        simp only [Value.slice.injEq] at e
                        exact e.2.1
                      have e2 : n2 = nd + 1 := by
                        obtain ⟨xs, h1, _⟩ := F2.d
                        obtain ⟨_, _, e, _⟩ := h1.form
                        simp only [Value.slice.injEq] at e
                        exact e.2.1
                      have HR1 := hid r1
                      have HR2 := hid r2
                      have HN : Hid (n1 = na + (q + 1) ∧ n2 = nb + (q + 1) ∧ Four B w (.slice aa na ca) (.slice ab nb cb) (.slice a1 n1 c1) (.slice a2 n2 c2) na nb n1 n2 w2) := by
                        refine ⟨by have := HF.out; omega, by have := HF.out; omega, ?_⟩
                        have := F2
                        rw [← e1, ← e2] at this
                        exact this
                      clear r1 r2 F1 F2 e1 e2 HF
                      go_wp2_with (first
                        | (at_builtin; refine wpList_append_run _ rfl _ _ _ _ rfl _ _ rfl rfl HR1.out ?_; clear HR1)
                        | (at_builtin; refine wpList_append_run _ rfl _ _ _ _ rfl _ _ rfl rfl HR2.out ?_; clear HR2)
                        | fail)
                      go_roundw
                      case rel => exact ⟨q + 1, a1, a2, c1, c2, n1, n2, by omega, by go_num, rfl, rfl, HN⟩
                      case measure => simp [intOf]; omega
                    · have hge : ¬ (q : Int) < 9 := by omega
                      have hnc : na ≤ nc ∧ nc ≤ na + 9 := by have := HF.out; omega
                      have hnd : nb ≤ nd ∧ nd ≤ nb + 9 := by have := HF.out; omega
                      have HG := hid HF.out.2.2
                      clear HF hq hlt
                      go_wp2
                      go_loopw [8, 14] (fun g i wr => ∃ k : Nat, k ≤ nc ∧ i = .int .i64 k ∧ g = .bool true ∧ Hid (Four B w (.slice aa na ca) (.slice ab nb cb) (.slice ac nc cc) (.slice ad nd cd) na nb nc nd wr)) (fun _ i _ => nc - (intOf i).toNat)
                      case atStart => exact ⟨0, Nat.zero_le _, rfl, rfl, HG⟩
                      case round =>
                        clear HG hge
                        obtain ⟨k, hk, rfl, rfl, HG⟩ := hrel
                        by_cases hlt : k < nc
                        · have hlt' : (k : Int) < nc := by omega
                          obtain ⟨xs, hx, _⟩ := HG.out.c
                          obtain ⟨gc, cpc, e1, _⟩ := hx.some_of (by omega)
                          simp only [Value.slice.injEq] at e1
                          obtain ⟨rfl, _, rfl⟩ := e1
                          have c0 : wr.cell? ⟨gc, k * 2, none⟩ = some (.int .i64 (-5)) := HG.out.c.cell hlt
                          clear hx
                          by_cases hin : k < na
                          · have hin' : ¬ (na : Int) ≤ (k : Int) := by omega
                            have hin2 : (k : Int) < (na : Int) := by omega
                            have hd : decide ((na : Int) ≤ (k : Int)) = false := by simp; omega
                            obtain ⟨ga, e2⟩ : ∃ g, aa = some ⟨g, 0, none⟩ := HG.out.asome (by omega)
                            subst e2
                            have c2 : wr.cell? ⟨ga, k * 2, none⟩ = some (.int .i64 (-5)) := HG.out.a ga ca rfl k hin
                            go_wp2
                            go_roundw
                            case rel => exact ⟨k + 1, by omega, by go_num, rfl, HG⟩
                            case measure => simp [intOf]; omega
                          · have hin' : (na : Int) ≤ (k : Int) := by omega
                            have hd : decide ((na : Int) ≤ (k : Int)) = true := by simp; omega
                            go_wp2
                            go_roundw
                            case rel => exact ⟨k + 1, by omega, by go_num, rfl, HG⟩
                            case measure => simp [intOf]; omega
                        · have hge : ¬ (k : Int) < nc := by omega
                          have HG1 := HG
                          clear HG hk hlt
                          go_wp2
                          go_loopw [8, 15] (fun g i wr => ∃ k : Nat, k ≤ nd ∧ i = .int .i64 k ∧ g = .bool true ∧ Hid (Four B w (.slice aa na ca) (.slice ab nb cb) (.slice ac nc cc) (.slice ad nd cd) na nb nc nd wr)) (fun _ i _ => nd - (intOf i).toNat)
                          case atStart => exact ⟨0, Nat.zero_le _, rfl, rfl, HG1⟩
                          case round =>
                            clear HG1 hge
                            obtain ⟨k, hk, rfl, rfl, HG⟩ := hrel
                            by_cases hlt : k < nd
                            · have hlt' : (k : Int) < nd := by omega
                              obtain ⟨xs, hx, _⟩ := HG.out.d
                              obtain ⟨gd, cpd, e1, _⟩ := hx.some_of (by omega)
                              simp only [Value.slice.injEq] at e1
                              obtain ⟨rfl, _, rfl⟩ := e1
                              have c0 : wr.cell? ⟨gd, k * 2, none⟩ = some (.int .i64 (-6)) := HG.out.d.cell hlt
                              clear hx
                              by_cases hin : k < nb
                              · have hin' : ¬ (nb : Int) ≤ (k : Int) := by omega
                                have hin2 : (k : Int) < (nb : Int) := by omega
                                have hd : decide ((nb : Int) ≤ (k : Int)) = false := by simp; omega
                                obtain ⟨gb, e2⟩ : ∃ g, ab = some ⟨g, 0, none⟩ := HG.out.bsome (by omega)
                                subst e2
                                have c2 : wr.cell? ⟨gb, k * 2, none⟩ = some (.int .i64 (-6)) := HG.out.b gb cb rfl k hin
                                go_wp2
                                go_roundw
                                case rel => exact ⟨k + 1, by omega, by go_num, rfl, HG⟩
                                case measure => simp [intOf]; omega
                              · have hin' : (nb : Int) ≤ (k : Int) := by omega
                                have hd : decide ((nb : Int) ≤ (k : Int)) = true := by simp; omega
                                go_wp2
                                go_roundw
                                case rel => exact ⟨k + 1, by omega, by go_num, rfl, HG⟩
                                case measure => simp [intOf]; omega
                            · have hge : ¬ (k : Int) < nd := by omega
                              go_wp2
                              go_ret
                              exact ⟨rfl, HG.out.below⟩
end Go.Proofs.Ytoifblndpcelkaa
