/-
  The document's card: Lay.
-/
import Derived.Test.YtnjhlndikbkeaaaCRefG
namespace Go.Proofs.Ytnjhlndikbkeaaa
open Go.RowKit
set_option linter.all false

theorem refLay_ring (D : Nat → Prop) (x g cr h ct : Nat) (S : CS) (i : Int) (v : Value) (w : World) (y : RefB w D x g cr h ct S) (hi : hasB S.T.length i = false) :
    Calls Try.prog 64 #[.pointer (some ⟨x, 0, none⟩), .int .i64 i, v] w fun e w' => e = .returned (.int .i64 40) ∧ w' = w := by
  have h0 := (rboxC y.box).c1
  clear y
  by_cases h1 : i < 0
  · clear hi
    go_enter Try.func64, Try.ntmps64
    go_wp2
    go_ret
    exact ⟨rfl, rfl⟩
  · have h2 : (S.T.length : Int) ≤ i := by simp [hasB] at hi; omega
    clear hi
    go_enter Try.func64, Try.ntmps64
    go_wp2
    go_ret
    exact ⟨rfl, rfl⟩
set_option maxRecDepth 20000 in
set_option maxHeartbeats 1000000 in
theorem refLay_len (D : Nat → Prop) (x g cr h ct : Nat) (S : CS) (i : Int) (a : Option Addr) (l cc : Nat) (w : World) (y : RefB w D x g cr h ct S) (hi : hasB S.T.length i = true) (hl : l < 60 ∨ 1514 < l) (hl2 : l ≤ 9223372036854775807) :
    Calls Try.prog 64 #[.pointer (some ⟨x, 0, none⟩), .int .i64 i, .slice a l cc] w fun e w' => e = .returned (.int .i64 (if l < 60 then 5 else 2)) ∧ w' = w := by
  have h0 := (rboxC y.box).c1
  have hi1 : ¬ i < 0 := by simp [hasB] at hi; omega
  have hi2 : ¬ (S.T.length : Int) ≤ i := by simp [hasB] at hi; omega
  clear y hi
  by_cases hs : l < 60
  · rw [if_pos hs]
    have h1 : (l : Int) < 60 := by omega
    clear hl
    go_enter Try.func64, Try.ntmps64
    go_wp2
    go_ret
    exact ⟨rfl, rfl⟩
  · rw [if_neg hs]
    have h1 : ¬ (l : Int) < 60 := by omega
    have h2 : (1514 : Int) < l := by omega
    clear hl
    go_enter Try.func64, Try.ntmps64
    go_wp2
    go_ret
    exact ⟨rfl, rfl⟩
set_option maxRecDepth 20000 in
set_option maxHeartbeats 1000000 in
theorem refLay_owner (D : Nat → Prop) (x g cr h ct : Nat) (S : CS) (j : Nat) (p : Pl) (a : Option Addr) (l cc : Nat) (w : World) (y : RefB w D x g cr h ct S) (hp : S.T[j]? = some p) (hb : p.b = true) (hl : 60 ≤ l) (hl2 : l ≤ 1514) :
    Calls Try.prog 64 #[.pointer (some ⟨x, 0, none⟩), .int .i64 j, .slice a l cc] w fun e w' => e = .returned (.int .i64 41) ∧ w' = w := by
  have h0 := (rboxC y.box).c1
  have hcb := desc_b y.tx hp
  rw [hb] at hcb
  have hj : j < S.T.length := (List.getElem?_eq_some_iff.1 hp).1
  have hj2 : (j : Int) < S.T.length := by omega
  have hj3 : ¬ (j : Int) < 0 := by omega
  have h1 : ¬ (l : Int) < 60 := by omega
  have h2 : ¬ (1514 : Int) < l := by omega
  clear y hp hb
  go_enter Try.func64, Try.ntmps64
  go_wp2
  go_ret
  exact ⟨rfl, rfl⟩
/-- the blocks of bytes, with that of a copy. -/
def withD (D : Nat → Prop) (a : Option Addr) (l c : Nat) (k : Nat) : Prop := D k ∨ (Value.slice a l c).ownBlock = some k
theorem CopI.data {w w1 : World} {a : Option Addr} {l c : Nat} {zs : List Int} (h : CopI w w1 (.slice a l c) zs l) (hl : l = zs.length) (hz : ∀ z, z ∈ zs → 0 ≤ z ∧ z ≤ 255) (D : Nat → Prop) : (zs = [] ∨ ∃ q r, a = some ⟨q, r, none⟩ ∧ withD D a l c q) ∧ ∀ k, (Value.slice a l c).ownBlock = some k → k < w1.heap.size := by
  refine ⟨?_, fun k hk => h.row.lt hk⟩
  rcases (h.part hl hz).2.2 with hn | ⟨q, r, hq, _⟩
  · exact Or.inl hn
  · exact Or.inr ⟨q, r, hq, Or.inr (by simp only at hq; rw [hq]; rfl)⟩
set_option maxRecDepth 20000 in
set_option maxHeartbeats 1000000 in
theorem refLay_yes (D : Nat → Prop) (x g cr h ct : Nat) (S : CS) (j : Nat) (p : Pl) (pt : Part) (w : World) (y : RefB w D x g cr h ct S) (hok : pt.ok w) (hp : S.T[j]? = some p) (hb : p.b = false) (hl : 60 ≤ pt.zs.length) (hl2 : pt.zs.length ≤ 1514) :
    Calls Try.prog 64 #[.pointer (some ⟨x, 0, none⟩), .int .i64 j, pt.val] w fun e w' => e = .returned (.int .i64 0) ∧ RefTo w w' D x g cr h ct (S.laid j pt.zs) := by
  have h0 := (rboxC y.box).c1
  have hcb := desc_b y.tx hp
  rw [hb] at hcb
  obtain ⟨pd, hd, _⟩ := desc_d y.tx hp
  have hj : j < S.T.length := (List.getElem?_eq_some_iff.1 hp).1
  have hj2 : (j : Int) < S.T.length := by omega
  have hj3 : ¬ (j : Int) < 0 := by omega
  have HY := hid y
  obtain ⟨C, hC, hsz, hpl⟩ := y.tx
  have HC := hid hC
  have HSZ := hid hsz
  have HPL := hid hpl
  have HZ := hid hok.1
  have HL2 := hid hl2
  have HCOP : Hid (Calls Try.prog 53 #[.slice pt.a pt.zs.length pt.c] w fun e w' => ∃ a c, e = .returned (.slice a pt.zs.length c) ∧ Hid (CopI w w' (.slice a pt.zs.length c) pt.zs pt.zs.length)) := copied_any pt w hok (by omega)
  have h1 : ¬ (pt.zs.length : Int) < 60 := by omega
  have h2 : ¬ (1514 : Int) < pt.zs.length := by omega
  have hhl := heap_lt hC
  have hxl := heap_lt y.box
  clear y hp hb hC hsz hpl hok hl2
  show Calls Try.prog 64 #[.pointer (some ⟨x, 0, none⟩), .int .i64 j, .slice pt.a pt.zs.length pt.c] w _
  go_enter Try.func64, Try.ntmps64
  go_wp2_with (first | (go_at_call 53; refine HCOP.out.mono ?_; rintro e w1 ⟨a, c, rfl, HI⟩; have h02 := cell_below HI.out.bel h0; have hC1 : w1.heap[h]? = some (.cells C 80 (0, 0)) := (HI.out.bel.block h hhl).trans HC.out; have HC1 := hid hC1; have hf1 := (fun q => frozen_of_heap hC1 q); have hcb1 := cell_below HI.out.bel hcb; have hd1 := cell_below HI.out.bel hd; clear hC1))
  go_ret
  have hg2 := heap_setCell (j := j * 2 + 1) (v := .slice a pt.zs.length c) (heap_setCell (j := j * 2) (v := .bool true) HC1.out)
  have old : ∀ k, k ≠ h → ((w1.setCell ⟨h, j * 2, none⟩ (.bool true)).setCell ⟨h, j * 2 + 1, none⟩ (.slice a pt.zs.length c)).heap[k]? = w1.heap[k]? := fun k hk => by
    rw [Below.heap_setCell _ _ _ _ (by simpa using hk), Below.heap_setCell _ _ _ _ (by simpa using hk)]
  have oldw : ∀ k, k ≠ h → k < w.heap.size → ((w1.setCell ⟨h, j * 2, none⟩ (.bool true)).setCell ⟨h, j * 2 + 1, none⟩ (.slice a pt.zs.length c)).heap[k]? = w.heap[k]? := fun k hk hl => (old k hk).trans (HI.out.bel.block k hl)
  have hdat := HI.out.data rfl HZ.out D
  have s1 := HI.out.bel.size
  refine ⟨rfl, withD D a pt.zs.length c, ⟨?_, ?_, ?_, HY.out.r1, HY.out.r2, by simpa [CS.laid] using HY.out.t1, by simpa [CS.laid] using HY.out.t2, HY.out.gh, HY.out.xg, HY.out.xh, ?_⟩, fun k hk => ?_, ?_⟩
  · rw [← rbox_laid]; exact (oldw x HY.out.xh hxl).trans HY.out.box
  · exact HY.out.rx.keep (oldw g HY.out.gh HY.out.rx.lt) (fun k hk => ⟨oldw k (HY.out.dd k hk).2.2.1 (HY.out.dd k hk).2.2.2, Or.inl hk⟩)
  · refine DescAt.put (pt := ⟨a, c, pt.zs⟩) HSZ.out HPL.out hj hg2 (fun k hk => ⟨oldw k (HY.out.dd k hk).2.2.1 (HY.out.dd k hk).2.2.2, Or.inl hk⟩) ?_ hdat.1 ⟨HL2.out, HZ.out⟩
    refine Part.ok_block (HI.out.part rfl HZ.out) ?_
    rcases hdat.1 with hn | ⟨q, r, hq, _⟩
    · exact Or.inl hn
    · exact Or.inr ⟨q, r, hq, old q (by have := HI.out.own q (by rw [hq]; rfl); omega)⟩
  · rintro k (hk | hk)
    · exact ⟨(HY.out.dd k hk).1, (HY.out.dd k hk).2.1, (HY.out.dd k hk).2.2.1, by have := (HY.out.dd k hk).2.2.2; simp [World.setCell]; omega⟩
    · have h1 := HI.out.own k hk
      have h2 := hdat.2 k hk
      have := HY.out.rx.lt
      exact ⟨by omega, by omega, by omega, by simpa [World.setCell] using h2⟩
  · rcases hk with hk | hk
    · exact Or.inl hk
    · exact Or.inr (HI.out.own k hk)
  · exact (Only.of_below HI.out.bel).trans ((Only.of_but (But.setCell _ _ _ _) (Or.inr (Or.inr (Or.inl rfl)))).trans (Only.of_but (But.setCell _ _ _ _) (Or.inr (Or.inr (Or.inl rfl)))))
end Go.Proofs.Ytnjhlndikbkeaaa
