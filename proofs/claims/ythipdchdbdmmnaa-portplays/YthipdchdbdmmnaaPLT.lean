/-
  Port: a table and a dice of the call's own, and what the table's calls make of them.
-/
import Derived.Test.YthipdchdbdmmnaaPLook2
import Derived.Test.YthipdchdbdmmnaaPPick
namespace Go.Proofs.Ythipdchdbdmmnaa
open Go.RowKit
set_option linter.all false

/-- a table, and a dice, all in blocks behind w0's. -/
structure LTx (w0 w : World) (c m : Nat) (M D : Int) (L : List Ab) (p : Nat) (a : Option Addr) (cp : Nat) (zs : List Int) : Prop where
  tab : PoW w c m M D L
  low : ∀ k, PF c m L k → w0.heap.size ≤ k
  dice : DiceW 92 w p a cp zs
  dlow : ∀ k, DiceK p a k → w0.heap.size ≤ k
  bel : Below w0.heap.size w0 w
def LT (w0 w : World) (c m : Nat) (M D : Int) (S : List Pa) (p : Nat) (zs : List Int) : Prop := ∃ L a cp, LTx w0 w c m M D L p a cp zs ∧ abs L = S
section
variable {w0 w w' : World} {c m : Nat} {M D : Int} {L : List Ab} {S : List Pa} {p : Nat} {a : Option Addr} {cp : Nat} {zs : List Int}
theorem LT.below (h : LT w0 w c m M D S p zs) (hb : Below w.heap.size w w') : LT w0 w' c m M D S p zs := by
  obtain ⟨L, a, cp, h, e⟩ := h
  exact ⟨L, a, cp, ⟨h.tab.below hb, h.low, h.dice.below hb, h.dlow, bstep h.bel hb⟩, e⟩
theorem LT.bel (h : LT w0 w c m M D S p zs) : Below w0.heap.size w0 w := by
  obtain ⟨L, a, cp, h, e⟩ := h
  exact h.bel
theorem PF.of {L' : List Ab} (h : ∀ k, PF c m L k → w0.heap.size ≤ k) (hs : w0.heap.size ≤ w.heap.size) (hf : ∀ k, PK m L' k → PK m L k ∨ w.heap.size ≤ k) (hd : ∀ k, k ∈ L'.flatMap (fun x => dblk x.ds) → k ∈ L.flatMap (fun x => dblk x.ds) ∨ w.heap.size ≤ k) : ∀ k, PF c m L' k → w0.heap.size ≤ k := by
  rintro k (rfl | hk | hk)
  · exact h k (Or.inl rfl)
  · rcases hf k hk with h1 | h1
    · exact h k (Or.inr (Or.inl h1))
    · omega
  · rcases hd k hk with h1 | h1
    · exact h k (Or.inr (Or.inr h1))
    · omega
theorem LTx.act {L' : List Ab} (h : LTx w0 w c m M D L p a cp zs) (h1 : PoW w' c m M D L') (h2 : PAct w w' m L L') : LTx w0 w' c m M D L' p a cp zs := by
  refine ⟨h1, PF.of h.low h.bel.size h2.foot h2.data, ⟨?_, ?_, h.dice.words⟩, h.dlow, h.bel.trans (h2.only.below (fun k hk => h.low k (Or.inr (Or.inl hk))) h.bel.size)⟩
  · exact (h2.only.block p (PK.ne h.tab h.dice.box (by decide) (by decide)) (heap_lt h.dice.box)).trans h.dice.box
  · refine h.dice.row.keep fun b hb => ?_
    obtain ⟨cur, hc⟩ := h.dice.row.cells hb
    exact h2.only.block b (PK.ne h.tab hc (by decide) (by decide)) (heap_lt hc)
theorem LTx.pz (h : LTx w0 w c m M D L p a cp zs) (h1 : Pz w w' c m M D L S) : LT w0 w' c m M D S p zs := by
  obtain ⟨L', h2, h3, h4⟩ := h1
  exact ⟨L', a, cp, h.act h2 h4, h3⟩
theorem lt_made {wx w1 : World} (h1 : PMade w0 w c m M D) (hb : Below w.heap.size w wx) (h2 : MadeI 92 wx w1 p a cp zs) : LT w0 w1 c m M D [] p zs := by
  have s := h1.bel.size
  have s2 := hb.size
  refine ⟨[], a, cp, ⟨h1.tab.below (bstep hb h2.bel), ?_, h2.dice, fun k hk => by have := h2.new k hk; omega, bstep (bstep h1.bel hb) h2.bel⟩, rfl⟩
  rintro k (rfl | (rfl | ⟨x, hx, _⟩) | hk)
  · exact h1.cn
  · exact h1.mn
  · simp at hx
  · simp at hk
theorem lt_open (h : LT w0 w c m M D S p zs) (n : Int) (hn : ipOk n) :
    Calls Try.prog 17 #[.pointer (some ⟨c, 0, none⟩), .int .i64 n] w fun e w' => e = .returned (.int .i64 (openE M S n)) ∧ Hid (LT w0 w' c m M D (openF M S n) p zs) := by
  obtain ⟨L, a, cp, h, rfl⟩ := h
  exact (popen_any c m M D L n w h.tab hn).mono fun e w' ⟨h1, h2⟩ => ⟨h1, h.pz h2.out⟩
theorem lt_close (h : LT w0 w c m M D S p zs) (n : Int) (hn : ipOk n) :
    Calls Try.prog 20 #[.pointer (some ⟨c, 0, none⟩), .int .i64 n] w fun e w' => e = .returned (.bool (alook S n).isSome) ∧ Hid (LT w0 w' c m M D (adel S n) p zs) := by
  obtain ⟨L, a, cp, h, rfl⟩ := h
  exact (pclose_any c m M D L n w h.tab hn).mono fun e w' ⟨h1, h2⟩ => ⟨h1, h.pz h2.out⟩
theorem lt_put (h : LT w0 w c m M D S p zs) (d : Dg) (va : Option Addr) (vc : Nat) (hok : d.ok) (hp : Part.ok w ⟨va, vc, d.zs⟩) (hz : d.zs.length ≤ 140737488355328) (hdr : ∀ y ∈ S, y.dr < 4611686018427387904) :
    Calls Try.prog 19 #[.pointer (some ⟨c, 0, none⟩), .agg (d.cells (.slice va d.zs.length vc)).toArray] w fun e w' => e = .returned (.int .i64 (putE D S d)) ∧ Hid (LT w0 w' c m M D (putF D S d) p zs) := by
  obtain ⟨L, a, cp, h, rfl⟩ := h
  exact (pput_any c m M D L d va vc w h.tab hok hp hz hdr).mono fun e w' ⟨h1, h2⟩ => ⟨h1, h.pz h2.out⟩
theorem lt_take_none (h : LT w0 w c m M D S p zs) (n : Int) (hn : ipOk n) (hd : takeD S n = none) :
    Calls Try.prog 21 #[.pointer (some ⟨c, 0, none⟩), .int .i64 n] w fun e w' => e = .returned (.tuple #[dz, .bool false]) ∧ Hid (LT w0 w' c m M D S p zs) := by
  obtain ⟨L, a, cp, h, rfl⟩ := h
  cases hl : look L n with
  | none => exact (ptake_closed c m M D L n w h.tab hn hl).mono fun e w' ⟨h1, h2⟩ => ⟨h1, h.pz h2.out⟩
  | some y =>
    have hy : y.ds = [] := by
      unfold takeD at hd
      rw [abs_some hl] at hd
      simpa [Ab.abs] using hd
    exact (ptake_void c m M D L n y w h.tab hn hl hy).mono fun e w' ⟨h1, h2⟩ => ⟨h1, h.pz h2.out⟩
theorem lt_take_some (h : LT w0 w c m M D S p zs) (n : Int) (hn : ipOk n) (d : Dg) (hd : takeD S n = some d) :
    Calls Try.prog 21 #[.pointer (some ⟨c, 0, none⟩), .int .i64 n] w fun e w' => ∃ va vc, e = .returned (.tuple #[.agg (d.cells (.slice va d.zs.length vc)).toArray, .bool true]) ∧ Hid (LT w0 w' c m M D (takeF S n) p zs) ∧ Hid (Row w' 5 (.slice va d.zs.length vc) (u8s d.zs)) ∧ Hid d.ok := by
  obtain ⟨L, a, cp, h, rfl⟩ := h
  cases hl : look L n with
  | none => unfold takeD at hd; rw [abs_none hl] at hd; simp at hd
  | some y =>
    have hd2 := hd
    unfold takeD at hd2
    rw [abs_some hl] at hd2
    simp only [Option.bind_some, Ab.abs] at hd2
    cases hy : y.ds with
    | nil => rw [hy] at hd2; simp at hd2
    | cons dv r =>
      obtain ⟨d', v⟩ := dv
      rw [hy] at hd2
      simp at hd2
      subst hd2
      have hf : takeF (abs L) n = aput (abs L) { y.abs with ds := r.map Prod.fst } := by
        unfold takeF
        rw [abs_some hl]
        simp [Ab.abs, hy]
      rw [hf]
      refine (ptake_one c m M D L n y d' v r w h.tab hn hl hy).mono fun e w' ⟨h1, h2⟩ => ?_
      have T := h2.out
      obtain ⟨L', t1, t2, t3, t4⟩ := T.tab
      obtain ⟨va, vc, hv, _⟩ := T.row.form
      rw [u8s_len] at hv
      subst hv
      exact ⟨va, vc, h1, ⟨L', a, cp, h.act t1 t3, t2⟩, T.row, T.ok⟩
theorem lt_look (h : LT w0 w c m M D S p zs) :
    Calls Try.prog 9 #[.pointer (some ⟨c, 0, none⟩)] w fun e w' => ∃ la lc, e = .returned (.slice la S.length lc) ∧ Hid (PLk w w' la S.length lc S) ∧ Hid (LT w0 w' c m M D S p zs) := by
  have h0 := h
  obtain ⟨L, a, cp, h, rfl⟩ := h
  exact (plook_any c m M D L w h.tab).mono fun e w' ⟨la, lc, h1, h2⟩ => ⟨la, lc, h1, h2, h0.below h2.out.below⟩
def pickE (M : Int) (S : List Pa) : Int := if (S.length : Int) = M then 3 else 0
def pickV (M : Int) (S : List Pa) (zs : List Int) : Int := if (S.length : Int) = M then 0 else pickR S zs
def pickF (M : Int) (S : List Pa) (zs : List Int) : List Pa := if (S.length : Int) = M then S else aput S ⟨pickR S zs, 0, []⟩
def pickZ (M : Int) (S : List Pa) (zs : List Int) : List Int := if (S.length : Int) = M then zs else zs.tail
theorem lt_pick (h : LT w0 w c m M D S p zs) (hl : zs.length ≤ maxLen) :
    Calls Try.prog 18 #[.pointer (some ⟨c, 0, none⟩), .pointer (some ⟨p, 0, none⟩)] w fun e w' => e = .returned (.tuple #[.int .i64 (pickV M S zs), .int .i64 (pickE M S)]) ∧ Hid (LT w0 w' c m M D (pickF M S zs) p (pickZ M S zs)) := by
  have h0 := h
  obtain ⟨L, a, cp, h, rfl⟩ := h
  unfold pickV pickE pickF pickZ
  by_cases hf : ((abs L).length : Int) = M
  · simp only [if_pos hf]
    exact (ppick_no c m M D L p w h.tab hf).mono fun e w' ⟨h1, k, h2⟩ => ⟨h1, by rw [h2]; exact h0.below (below_drewN w k)⟩
  · simp only [if_neg hf]
    refine (ppick_yes c m M D L p a cp zs w h.tab h.dice hl hf).mono fun e w' ⟨h1, h2⟩ => ⟨h1, ?_⟩
    obtain ⟨L', t1, t2, t3, t4⟩ := h2.out.tab
    obtain ⟨a', c', d1, d2⟩ := h2.out.dice
    have s := h.bel.size
    refine ⟨L', a', c', ⟨t1, PF.of h.low s t3 t4, d1, fun k hk => ?_, h.bel.trans (h2.out.only.below (fun k hk => ?_) s)⟩, t2⟩
    · rcases hk with rfl | hk
      · exact h.dlow k (Or.inl rfl)
      · exact h.dlow k (Or.inr (by rw [← d2]; exact hk))
    · rcases hk with hk | rfl
      · exact h.low k (Or.inr (Or.inl hk))
      · exact h.dlow k (Or.inl rfl)
end
end Go.Proofs.Ythipdchdbdmmnaa
