/-
  The document's card: Arrive, Depart.
-/
import Derived.Test.YtnjhlndikbkeaaaCRefL
namespace Go.Proofs.Ytnjhlndikbkeaaa
open Go.RowKit
set_option linter.all false

theorem rbox_came (S : CS) (zs : List Int) (g cr h ct : Nat) : ((S.rbox g cr h ct).setIfInBounds 2 (.int .i64 ((S.nr + 1) % S.R.length : Nat))).setIfInBounds 4 (.int .i64 (S.ci + 1 : Nat)) = (S.came zs).rbox g cr h ct := by
  simp [CS.rbox, CS.came]
theorem rbox_drop (S : CS) (g cr h ct : Nat) : (S.rbox g cr h ct).setIfInBounds 5 (.int .i64 (S.cd + 1 : Nat)) = S.drop.rbox g cr h ct := by
  simp [CS.rbox, CS.drop]
theorem rbox_gone (S : CS) (g cr h ct : Nat) : ((S.rbox g cr h ct).setIfInBounds 3 (.int .i64 ((S.nt + 1) % S.T.length : Nat))).setIfInBounds 6 (.int .i64 (S.co + 1 : Nat)) = S.gone.rbox g cr h ct := by
  simp [CS.rbox, CS.gone]
set_option maxHeartbeats 1000000 in
theorem refArrive_len (v : Value) (a : Option Addr) (l cc : Nat) (w : World) (h : l = 0 ∨ 1514 < l) (hl : l ≤ 9223372036854775807) :
    Calls Try.prog 26 #[v, .slice a l cc] w fun e w' => e = .returned (.bool false) ∧ w' = w := by
  rcases h with rfl | h
  · go_enter Try.func26, Try.ntmps26
    go_wp2
    go_ret
    exact ⟨rfl, rfl⟩
  · have h1 : ¬ (l : Int) = 0 := by omega
    have h2 : (1514 : Int) < l := by omega
    have h3 : ¬ l = 0 := by omega
    go_enter Try.func26, Try.ntmps26
    go_wp2
    go_ret
    exact ⟨rfl, rfl⟩
set_option maxRecDepth 20000 in
set_option maxHeartbeats 1000000 in
theorem refArrive_full (D : Nat → Prop) (x g cr h ct : Nat) (S : CS) (p : Pl) (a : Option Addr) (l cc : Nat) (w : World) (y : RefB w D x g cr h ct S) (hl1 : 1 ≤ l) (hl2 : l ≤ 1514) (hp : S.R[S.nr]? = some p) (hb : p.b = false) (hn : S.cd < 4611686018427387904) :
    Calls Try.prog 26 #[.pointer (some ⟨x, 0, none⟩), .slice a l cc] w fun e w' => e = .returned (.bool false) ∧ RefTo w w' D x g cr h ct S.drop := by
  have HY := hid y
  have hcb := desc_b y.rx hp
  rw [hb] at hcb
  have h0 := (rboxC y.box).c0
  have hc2 := (rboxC y.box).c2
  have hc5 := (rboxC y.box).c5
  have hfz := (rboxC y.box).fz
  have hr1 := y.r1
  have hr2 : (S.nr : Int) < S.R.length := by omega
  have h1 : ¬ (l : Int) = 0 := by omega
  have h2 : ¬ (1514 : Int) < l := by omega
  have h3 : ¬ l = 0 := by omega
  clear y hp hb
  go_enter Try.func26, Try.ntmps26
  go_wp2
  go_quiet (fail)
  go_wp2
  go_ret
  have hg2 := heap_setCell (w := w.drewN nq) (j := 5) (v := .int .i64 (S.cd + 1 : Nat)) HY.out.box
  rw [rbox_drop] at hg2
  have old : ∀ k, k ≠ x → ((w.drewN nq).setCell ⟨x, 5, none⟩ (.int .i64 (S.cd + 1 : Nat))).heap[k]? = w.heap[k]? := fun k hk => Below.heap_setCell _ _ _ _ (by simpa using hk)
  exact ⟨rfl, D, ⟨hg2, HY.out.rx.keep (old g HY.out.xg.symm) (fun k hk => ⟨old k (HY.out.dd k hk).1, hk⟩), HY.out.tx.keep (old h HY.out.xh.symm) (fun k hk => ⟨old k (HY.out.dd k hk).1, hk⟩), HY.out.r1, HY.out.r2, HY.out.t1, HY.out.t2, HY.out.gh, HY.out.xg, HY.out.xh, fun k hk => ⟨(HY.out.dd k hk).1, (HY.out.dd k hk).2.1, (HY.out.dd k hk).2.2.1, by have := (HY.out.dd k hk).2.2.2; simpa [World.setCell] using this⟩⟩, fun k hk => Or.inl hk, (Only.of_below (drewN_below w nq)).trans (Only.of_but (But.setCell _ _ _ _) (Or.inl rfl))⟩
set_option maxRecDepth 20000 in
set_option maxHeartbeats 2000000 in
theorem refArrive_yes (D : Nat → Prop) (x g cr h ct : Nat) (S : CS) (p : Pl) (pt : Part) (w : World) (y : RefB w D x g cr h ct S) (hok : pt.ok w) (hl1 : 1 ≤ pt.zs.length) (hl2 : pt.zs.length ≤ 1514) (hp : S.R[S.nr]? = some p) (hb : p.b = true) (hn : S.ci < 4611686018427387904) :
    Calls Try.prog 26 #[.pointer (some ⟨x, 0, none⟩), pt.val] w fun e w' => e = .returned (.bool true) ∧ RefTo w w' D x g cr h ct (S.came pt.zs) := by
  have HY := hid y
  have hcb := desc_b y.rx hp
  rw [hb] at hcb
  obtain ⟨pd, hd, _⟩ := desc_d y.rx hp
  obtain ⟨C, hC, hsz, hpl⟩ := y.rx
  have HC := hid hC
  have HSZ := hid hsz
  have HPL := hid hpl
  have HZ := hid hok.1
  have HL2 := hid hl2
  have HCOP : Hid (∀ n, Calls Try.prog 53 #[.slice pt.a pt.zs.length pt.c] (w.drewN n) fun e w' => ∃ a c, e = .returned (.slice a pt.zs.length c) ∧ Hid (CopI (w.drewN n) w' (.slice a pt.zs.length c) pt.zs pt.zs.length)) := fun n => copied_any pt (w.drewN n) (Part.ok_drewN hok n) (by omega)
  have h0 := (rboxC y.box).c0
  have hc2 := (rboxC y.box).c2
  have hr1 := y.r1
  have hrr := y.r2
  have hr2 : (S.nr : Int) < S.R.length := by omega
  have h1 : ¬ (pt.zs.length : Int) = 0 := by omega
  have h2 : ¬ (1514 : Int) < pt.zs.length := by omega
  have h3 : ¬ pt.zs.length = 0 := by omega
  have hxl := heap_lt y.box
  have hgl := heap_lt hC
  have h5 : ¬ S.R.length = 0 := by omega
  have h6 : ((S.nr : Int) + 1).tmod S.R.length = ((S.nr + 1) % S.R.length : Nat) := by
    rw [Int.tmod_eq_emod_of_nonneg (by omega)]; rfl
  have h7 : ((S.nr : Int) + 1) % (S.R.length : Int) = ((S.nr + 1) % S.R.length : Nat) := rfl
  obtain ⟨q, hq⟩ : ∃ q, q = (S.nr + 1) % S.R.length := ⟨_, rfl⟩
  rw [← hq] at h6 h7
  have HQ := hid hq
  clear y hp hb hC hsz hpl hok hl2 hq
  show Calls Try.prog 26 #[.pointer (some ⟨x, 0, none⟩), .slice pt.a pt.zs.length pt.c] w _
  go_enter Try.func26, Try.ntmps26
  go_wp2
  go_quiet (fail)
  go_wp2_with (first | (go_at_call 53; refine (HCOP.out nq).mono ?_; rintro e w1 ⟨a, c, rfl, HI⟩))
  have hx1 : w1.heap[x]? = some (.cells (S.rbox g cr h ct) 78 (0, 0)) := (HI.out.bel.block x hxl).trans HY.out.box
  have hC1 : w1.heap[g]? = some (.cells C 80 (0, 0)) := (HI.out.bel.block g hgl).trans HC.out
  have HX1 := hid hx1
  have HC1 := hid hC1
  have i0 := (rboxC hx1).c0
  have i2 := (rboxC hx1).c2
  have ib := cell_below HI.out.bel (w := w.drewN nq) hcb
  have id1 := cell_below HI.out.bel (w := w.drewN nq) hd
  have if1 := fun q => frozen_of_heap hC1 q
  clear hx1 hC1
  go_region
  generalize hw2 : ((w1.setCell ⟨g, S.nr * 2, none⟩ (.bool false)).setCell ⟨g, S.nr * 2 + 1, none⟩ (.slice a pt.zs.length c)).drew = w2
  have hx2 : w2.heap[x]? = some (.cells (S.rbox g cr h ct) 78 (0, 0)) := by
    rw [← hw2]
    show ((w1.setCell ⟨g, S.nr * 2, none⟩ (.bool false)).setCell ⟨g, S.nr * 2 + 1, none⟩ (.slice a pt.zs.length c)).heap[x]? = _
    rw [Below.heap_setCell _ _ _ _ (by simpa using HY.out.xg), Below.heap_setCell _ _ _ _ (by simpa using HY.out.xg)]
    exact HX1.out
  have HG2 : Hid (w2.heap[g]? = some (.cells ((C.setIfInBounds (S.nr * 2) (.bool false)).setIfInBounds (S.nr * 2 + 1) (Part.mk a c pt.zs).val) 80 (0, 0))) := by
    unfold Hid
    rw [← hw2]
    exact heap_setCell (heap_setCell HC1.out)
  have HO2 : Hid (∀ k, k ≠ g → w2.heap[k]? = w1.heap[k]?) := fun k hk => by
    rw [← hw2]
    show ((w1.setCell ⟨g, S.nr * 2, none⟩ (.bool false)).setCell ⟨g, S.nr * 2 + 1, none⟩ (.slice a pt.zs.length c)).heap[k]? = _
    rw [Below.heap_setCell _ _ _ _ (by simpa using hk), Below.heap_setCell _ _ _ _ (by simpa using hk)]
  have HB2 : Hid (But g w1 w2) := by
    unfold Hid
    rw [← hw2]
    exact ((But.setCell _ _ _ _).trans (But.setCell _ _ _ _)).trans (But.drew _ _)
  have HX2 := hid hx2
  clear hw2 i0 i2 ib id1 if1 hx2
  have i0 := (rboxC HX2.out).c0
  have i2 := (rboxC HX2.out).c2
  have iz := (rboxC HX2.out).fz 2
  go_wp2
  go_region
  generalize hw3 : (w2.setCell ⟨x, 2, none⟩ (.int .i64 (q : Int))).drew = w3
  have HX3 : Hid (w3.heap[x]? = some (.cells ((S.rbox g cr h ct).setIfInBounds 2 (.int .i64 (q : Int))) 78 (0, 0))) := by
    unfold Hid
    rw [← hw3]
    exact heap_setCell HX2.out
  have HB3 : Hid (But x w2 w3) := by
    unfold Hid
    rw [← hw3]
    exact (But.setCell _ _ _ _).trans (But.drew _ _)
  have HO3 : Hid (∀ k, k ≠ x → w3.heap[k]? = w2.heap[k]?) := fun k hk => by
    rw [← hw3]
    exact Below.heap_setCell _ _ _ _ (by simpa using hk)
  clear hw3 i0 i2 iz
  have i4 : w3.cell? ⟨x, 4, none⟩ = some (.int .i64 S.ci) := cellHeap HX3.out 4 rfl
  have iz := frozen_of_heap HX3.out 4
  go_wp2
  go_ret
  have hg4 := heap_setCell (j := 4) (v := .int .i64 (S.ci + 1 : Nat)) HX3.out
  rw [HQ.out, rbox_came S pt.zs] at hg4
  have old4 : ∀ k, k ≠ x → (w3.setCell ⟨x, 4, none⟩ (.int .i64 (S.ci + 1 : Nat))).heap[k]? = w2.heap[k]? := fun k hk => (Below.heap_setCell _ _ _ _ (by simpa using hk)).trans (HO3.out k hk)
  have oldw : ∀ k, k ≠ x → k ≠ g → k < w.heap.size → (w3.setCell ⟨x, 4, none⟩ (.int .i64 (S.ci + 1 : Nat))).heap[k]? = w.heap[k]? := fun k h1 h2 h3 => (old4 k h1).trans ((HO2.out k h2).trans (HI.out.bel.block k h3))
  have hdat := HI.out.data rfl HZ.out D
  have s1 : w.heap.size ≤ w1.heap.size := HI.out.bel.size
  have s2 := HB2.out.size
  have s3 := HB3.out.size
  have s4 : ∀ v, (w3.setCell ⟨x, 4, none⟩ v).heap.size = w3.heap.size := fun v => by simp [World.setCell]
  have hm := Nat.mod_lt (S.nr + 1) (show 0 < S.R.length by omega)
  refine ⟨rfl, withD D a pt.zs.length c, ⟨hg4, ?_, ?_, by simpa [CS.came] using hm, by simpa [CS.came] using HY.out.r2, HY.out.t1, HY.out.t2, HY.out.gh, HY.out.xg, HY.out.xh, ?_⟩, fun k hk => ?_, ?_⟩
  · refine DescAt.put (pt := ⟨a, c, pt.zs⟩) HSZ.out HPL.out hr1 ((old4 g HY.out.xg.symm).trans HG2.out) (fun k hk => ⟨oldw k (HY.out.dd k hk).1 (HY.out.dd k hk).2.1 (HY.out.dd k hk).2.2.2, Or.inl hk⟩) ?_ hdat.1 ⟨HL2.out, HZ.out⟩
    refine Part.ok_block (HI.out.part rfl HZ.out) ?_
    rcases hdat.1 with hn | ⟨q, r, hq, _⟩
    · exact Or.inl hn
    · have h8 : w.heap.size ≤ q := HI.out.own q (by rw [hq]; rfl)
      exact Or.inr ⟨q, r, hq, (old4 q (by omega)).trans (HO2.out q (by omega))⟩
  · exact HY.out.tx.keep (oldw h HY.out.xh.symm HY.out.gh.symm HY.out.tx.lt) (fun k hk => ⟨oldw k (HY.out.dd k hk).1 (HY.out.dd k hk).2.1 (HY.out.dd k hk).2.2.2, Or.inl hk⟩)
  · rintro k (hk | hk)
    · exact ⟨(HY.out.dd k hk).1, (HY.out.dd k hk).2.1, (HY.out.dd k hk).2.2.1, by rw [s4]; have := (HY.out.dd k hk).2.2.2; omega⟩
    · have h8 : w.heap.size ≤ k := HI.out.own k hk
      have h9 := hdat.2 k hk
      have := HY.out.tx.lt
      exact ⟨by omega, by omega, by omega, by rw [s4]; omega⟩
  · rcases hk with hk | hk
    · exact Or.inl hk
    · exact Or.inr (HI.out.own k hk)
  · exact (((Only.of_below (drewN_below w nq)).trans (Only.of_below HI.out.bel)).trans (Only.of_but HB2.out (Or.inr (Or.inl rfl)))).trans ((Only.of_but HB3.out (Or.inl rfl)).trans (Only.of_but (But.setCell _ _ _ _) (Or.inl rfl)))
set_option maxRecDepth 20000 in
set_option maxHeartbeats 1000000 in
theorem refDepart_no (D : Nat → Prop) (x g cr h ct : Nat) (S : CS) (p : Pl) (w : World) (y : RefB w D x g cr h ct S) (hp : S.T[S.nt]? = some p) (hb : p.b = false) :
    Calls Try.prog 27 #[.pointer (some ⟨x, 0, none⟩)] w fun e w' => e = .returned (.tuple #[.slice none 0 0, .bool false]) ∧ Below w.heap.size w w' := by
  have hcb := desc_b y.tx hp
  rw [hb] at hcb
  have h0 := (rboxC y.box).c1
  have hc2 := (rboxC y.box).c3
  have hr1 := y.t1
  have hr2 : (S.nt : Int) < S.T.length := by omega
  clear y hp hb
  go_enter Try.func27, Try.ntmps27
  go_wp2
  go_quiet (fail)
  go_wp2
  go_ret2
  exact ⟨rfl, drewN_below w nq⟩
set_option maxRecDepth 20000 in
set_option maxHeartbeats 2000000 in
theorem refDepart_yes (D : Nat → Prop) (x g cr h ct : Nat) (S : CS) (p : Pl) (w : World) (y : RefB w D x g cr h ct S) (hp : S.T[S.nt]? = some p) (hb : p.b = true) (hn : S.co < 4611686018427387904) :
    Calls Try.prog 27 #[.pointer (some ⟨x, 0, none⟩)] w fun e w' => ∃ a c, e = .returned (.tuple #[.slice a p.zs.length c, .bool true]) ∧ Part.ok w' ⟨a, c, p.zs⟩ ∧ RefTo w w' D x g cr h ct S.gone := by
  have HY := hid y
  have hcb := desc_b y.tx hp
  rw [hb] at hcb
  obtain ⟨pd, hd, hz, hok, hq, hpo⟩ := desc_d y.tx hp
  obtain ⟨C, hC, hsz, hpl⟩ := y.tx
  have HC := hid hC
  have HSZ := hid hsz
  have HPL := hid hpl
  have HOK := hid hok
  have HQ0 := hid hq
  have HZ := hid hz
  have h0 := (rboxC y.box).c1
  have hc2 := (rboxC y.box).c3
  have hr1 := y.t1
  have hrr := y.t2
  have hr2 : (S.nt : Int) < S.T.length := by omega
  have hxl := heap_lt y.box
  have hgl := heap_lt hC
  have hfz := fun q => frozen_of_heap hC q
  have h5 : ¬ S.T.length = 0 := by omega
  have h6 : ((S.nt : Int) + 1).tmod S.T.length = ((S.nt + 1) % S.T.length : Nat) := by
    rw [Int.tmod_eq_emod_of_nonneg (by omega)]; rfl
  have h7 : ((S.nt : Int) + 1) % (S.T.length : Int) = ((S.nt + 1) % S.T.length : Nat) := rfl
  obtain ⟨q, hq⟩ : ∃ q, q = (S.nt + 1) % S.T.length := ⟨_, rfl⟩
  rw [← hq] at h6 h7
  have HQ := hid hq
  clear y hp hb hC hsz hpl hok hq hz hpo
  go_enter Try.func27, Try.ntmps27
  go_wp2
  go_quiet (fail)
  revert nq
  intro n1
  go_wp2
  go_quiet (fail)
  go_wp2
  go_region
  generalize hw2 : ((w.drewN (n1 + nq + 1)).setCell ⟨h, S.nt * 2, none⟩ (.bool false)).setCell ⟨h, S.nt * 2 + 1, none⟩ (.slice none 0 0) = w2
  have hO2 : ∀ k, k ≠ h → w2.heap[k]? = w.heap[k]? := fun k hk => by
    rw [← hw2, Below.heap_setCell _ _ _ _ (by simpa using hk), Below.heap_setCell _ _ _ _ (by simpa using hk)]
    rfl
  have HX2 : Hid (w2.heap[x]? = some (.cells (S.rbox g cr h ct) 78 (0, 0))) := (hO2 x HY.out.xh).trans HY.out.box
  have HG2 : Hid (w2.heap[h]? = some (.cells ((C.setIfInBounds (S.nt * 2) (.bool false)).setIfInBounds (S.nt * 2 + 1) Part.nil.val) 80 (0, 0))) := by
    unfold Hid
    rw [← hw2]
    exact heap_setCell (heap_setCell (w := w.drewN (n1 + nq + 1)) HC.out)
  have HB2 : Hid (But h w w2) := by
    unfold Hid
    rw [← hw2]
    exact (But.drewN _ _ _).trans ((But.setCell _ _ _ _).trans (But.setCell _ _ _ _))
  have HO2 := hid hO2
  clear hw2 hO2 hfz
  have i0 := (rboxC HX2.out).c1
  have i2 := (rboxC HX2.out).c3
  have iz := (rboxC HX2.out).fz 3
  go_wp2
  go_region
  generalize hw3 : (w2.setCell ⟨x, 3, none⟩ (.int .i64 (q : Int))).drew = w3
  have HX3 : Hid (w3.heap[x]? = some (.cells ((S.rbox g cr h ct).setIfInBounds 3 (.int .i64 (q : Int))) 78 (0, 0))) := by
    unfold Hid
    rw [← hw3]
    exact heap_setCell HX2.out
  have HB3 : Hid (But x w2 w3) := by
    unfold Hid
    rw [← hw3]
    exact (But.setCell _ _ _ _).trans (But.drew _ _)
  have HO3 : Hid (∀ k, k ≠ x → w3.heap[k]? = w2.heap[k]?) := fun k hk => by
    rw [← hw3]
    exact Below.heap_setCell _ _ _ _ (by simpa using hk)
  clear hw3 i0 i2 iz
  have i4 : w3.cell? ⟨x, 6, none⟩ = some (.int .i64 S.co) := cellHeap HX3.out 6 rfl
  have iz := frozen_of_heap HX3.out 6
  go_wp2
  go_ret2
  have hg4 := heap_setCell (j := 6) (v := .int .i64 (S.co + 1 : Nat)) HX3.out
  rw [HQ.out, rbox_gone S] at hg4
  have old4 : ∀ k, k ≠ x → (w3.setCell ⟨x, 6, none⟩ (.int .i64 (S.co + 1 : Nat))).heap[k]? = w2.heap[k]? := fun k hk => (Below.heap_setCell _ _ _ _ (by simpa using hk)).trans (HO3.out k hk)
  have oldw : ∀ k, k ≠ x → k ≠ h → (w3.setCell ⟨x, 6, none⟩ (.int .i64 (S.co + 1 : Nat))).heap[k]? = w.heap[k]? := fun k h1 h2 => (old4 k h1).trans (HO2.out k h2)
  have s2 := HB2.out.size
  have s3 := HB3.out.size
  have s4 : ∀ v, (w3.setCell ⟨x, 6, none⟩ v).heap.size = w3.heap.size := fun v => by simp [World.setCell]
  have hm := Nat.mod_lt (S.nt + 1) (show 0 < S.T.length by omega)
  refine ⟨_, _, rfl, ?_, D, ⟨hg4, ?_, ?_, HY.out.r1, HY.out.r2, by simpa [CS.gone] using hm, by simpa [CS.gone] using HY.out.t2, HY.out.gh, HY.out.xg, HY.out.xh, ?_⟩, fun k hk => Or.inl hk, ?_⟩
  · have hpk : pd.ok (w3.setCell ⟨x, 6, none⟩ (.int .i64 (S.co + 1 : Nat))) := by
      refine Part.ok_block HOK.out ?_
      rcases HQ0.out with hn | ⟨q, r, hq, hD⟩
      · exact Or.inl hn
      · exact Or.inr ⟨q, r, hq, oldw q (HY.out.dd q hD).1 (HY.out.dd q hD).2.2.1⟩
    obtain ⟨pa, pc, pz⟩ := pd
    have e : pz = p.zs := HZ.out
    subst e
    exact hpk
  · exact HY.out.rx.keep (oldw g HY.out.xg.symm HY.out.gh) (fun k hk => ⟨oldw k (HY.out.dd k hk).1 (HY.out.dd k hk).2.2.1, hk⟩)
  · exact DescAt.put (pt := Part.nil) HSZ.out HPL.out hr1 ((old4 h HY.out.xh.symm).trans HG2.out) (fun k hk => ⟨oldw k (HY.out.dd k hk).1 (HY.out.dd k hk).2.2.1, hk⟩) (Part.nil_ok _) (Or.inl rfl) (by simp [Pl.ok, Part.nil])
  · exact fun k hk => ⟨(HY.out.dd k hk).1, (HY.out.dd k hk).2.1, (HY.out.dd k hk).2.2.1, by rw [s4]; have := (HY.out.dd k hk).2.2.2; omega⟩
  · exact (Only.of_but HB2.out (Or.inr (Or.inr (Or.inl rfl)))).trans ((Only.of_but HB3.out (Or.inl rfl)).trans (Only.of_but (But.setCell _ _ _ _) (Or.inl rfl)))
end Go.Proofs.Ytnjhlndikbkeaaa
