/-
  Port: the document's table: Take of what waits.
-/
import Derived.Test.YthipdchdbdmmnaaPRe
namespace Go.Proofs.Ythipdchdbdmmnaa
open Go.RowKit
set_option linter.all false

theorem rcell_later {w w' : World} {g t : Nat} {v : Value} (hb : Below w.heap.size w w') (h : w.cell? ⟨g, t, none⟩ = some v) : w'.cell? ⟨g, t, none⟩ = some v := by
  rw [hb.cell (p := ⟨g, t, none⟩) (World.block_lt_of_cell? w _ h)]; exact h
/-- behind a Take: the table, and the datagram's bytes. -/
structure RTk (w w' : World) (c : Nat) (v : Value) (M D : Int) (L : List Ab) (S : List Pa) (d : Dg) (vd : Value) : Prop where
  tab : RPz w w' c v M D L S
  row : Row w' 5 vd (u8s d.zs)
theorem rdcells_get (d : Dg × Value) (r : List (Dg × Value)) (j : Nat) (hj : j < 5) : (dcells (d :: r))[j]? = (d.1.cells d.2)[j]? := by
  rw [dcells_cons, List.getElem?_append_left (by simp [Dg.cells]; exact hj)]
/-- the entry turns: the first one is gone. -/
theorem RPoW.took {V : World} {c : Nat} {v : Value} {M D : Int} {L1 L2 : List Ab} {y : Ab} {d : Dg × Value} {r : List (Dg × Value)} (x : RPoW V c v M D (L1 ++ y :: L2)) (hd : y.ds = d :: r) (q' : Value) (hq : q'.ownBlock = y.q.ownBlock) (hr : RowD V q' r.length (dcells r)) :
    RPoW (V.setCell ⟨y.b, 2, none⟩ q').drew c v M D (L1 ++ { y with q := q', ds := r } :: L2) ∧ RAct V (V.setCell ⟨y.b, 2, none⟩ q').drew c v v (L1 ++ y :: L2) (L1 ++ { y with q := q', ds := r } :: L2) := by
  have hy : y ∈ L1 ++ y :: L2 := by simp
  have ey := x.ents y hy
  have bu : But y.b V (V.setCell ⟨y.b, 2, none⟩ q').drew := (But.setCell _ _ _ _).trans (But.drew _ _)
  refine x.turn (x' := { y with q := q', ds := r }) (Only.of_but bu (Or.inl rfl)) ⟨?_, ?_, fun e he => ?_, fun e he => ey.oks e (by rw [hd]; exact List.mem_cons_of_mem _ he), ey.dr⟩ rfl rfl (fun k hk => Or.inl (by rw [← hq]; exact hk)) (fun e he k hk => Or.inl ⟨e, by rw [hd]; exact List.mem_cons_of_mem _ he, hk⟩) ?_
  · have := heap_setCell (j := 2) (v := q') ey.box
    exact this
  · refine hr.keep fun k hk => bu.block k ?_ (hr.lt hk)
    rintro rfl
    obtain ⟨cur, hc⟩ := hr.obj hk
    rw [ey.box] at hc; simp only [Option.some.injEq, Obj.cells.injEq] at hc; exact absurd hc.2.1 (by decide)
  · have := ey.data e (by rw [hd]; exact List.mem_cons_of_mem _ he)
    refine this.keep fun k hk => bu.block k ?_ (this.lt hk)
    rintro rfl
    obtain ⟨cur, f, hc⟩ := this.obj hk
    rw [ey.box] at hc; simp only [Option.some.injEq, Obj.cells.injEq] at hc; exact absurd hc.2.1 (by decide)
  · have := x.deep y hy
    rw [hd] at this
    simp at this ⊢
    omega

set_option maxRecDepth 20000 in
set_option maxHeartbeats 4000000 in
theorem rtake_one (c : Nat) (v : Value) (M D : Int) (L : List Ab) (n : Int) (y : Ab) (d : Dg) (vd : Value) (r : List (Dg × Value)) (w : World) (x : RPoW w c v M D L) (hl : look L n = some y) (hd : y.ds = (d, vd) :: r) :
    Calls Try.prog 37 #[.pointer (some ⟨c, 0, none⟩), .int .i64 n] w fun e w' => e = .returned (.tuple #[.agg (d.cells vd).toArray, .bool true]) ∧ Hid (RTk w w' c v M D L (aput (abs L) { y.abs with ds := r.map Prod.fst }) d vd) := by
  obtain ⟨va, vl, vc, hvd⟩ : ∃ a l c, vd = .slice a l c := by
    have := (x.ents y (look_some hl).1).data (d, vd) (by rw [hd]; simp)
    obtain ⟨a, c, e, _⟩ := this.form
    exact ⟨a, _, c, e⟩
  subst hvd
  obtain ⟨si, di, sp, dp, zs⟩ := d
  have hB1 := bpush (Below.refl w.heap.size w) (.cells #[.int .u32 0, .int .u32 0, .int .i64 0, .int .i64 0, .slice none 0 0] 53)
  have hB2 := bpush hB1 (.cells #[.int .u32 si, .int .u32 di, .int .i64 sp, .int .i64 dp, .slice va vl vc] 53)
  have x1 := x.below hB1
  have HAT := hid (rat_any c v M D L n _ x1)
  obtain ⟨I, hI, hyI⟩ := at_some hl
  rw [hI] at HAT
  have hh := ((Holds.nil w).push (.cells #[.int .u32 0, .int .u32 0, .int .i64 0, .int .i64 0, .slice none 0 0] 53)).push (.cells #[.int .u32 si, .int .u32 di, .int .i64 sp, .int .i64 dp, .slice va vl vc] 53)
  simp only [World.size_alloc] at hh
  have HH := hid hh
  have hIL : I < L.length := (List.getElem?_eq_some_iff.1 hyI).1
  have hy := List.mem_of_getElem? hyI
  have ey := x.ents y hy
  obtain ⟨qa, qc, hq⟩ := ey.row.form
  rw [hd] at hq
  simp only [List.length_cons] at hq
  have hrow := ey.row
  rw [hq, hd] at hrow
  obtain ⟨gq, off, hqa, hk0⟩ := hrow.cell 0 _ (by rw [rdcells_get _ _ 0 (by omega)]; rfl)
  subst hqa
  obtain ⟨g1, o1, e1, hk1⟩ := hrow.cell 1 _ (by rw [rdcells_get _ _ 1 (by omega)]; rfl)
  obtain ⟨g2, o2, e2, hk2⟩ := hrow.cell 2 _ (by rw [rdcells_get _ _ 2 (by omega)]; rfl)
  obtain ⟨g3, o3, e3, hk3⟩ := hrow.cell 3 _ (by rw [rdcells_get _ _ 3 (by omega)]; rfl)
  obtain ⟨g4, o4, e4, hk4⟩ := hrow.cell 4 _ (by rw [rdcells_get _ _ 4 (by omega)]; rfl)
  simp only [Option.some.injEq, Addr.mk.injEq, and_true] at e1 e2 e3 e4
  obtain ⟨rfl, rfl⟩ := e1
  obtain ⟨rfl, rfl⟩ := e2
  obtain ⟨rfl, rfl⟩ := e3
  obtain ⟨rfl, rfl⟩ := e4
  have hcap : r.length + 1 ≤ qc := by
    rcases hrow.2 with ⟨h, _⟩ | ⟨g', off', cap', cur, h, _, hle, _⟩
    · simp at h
    · simp only [Value.slice.injEq] at h; omega
  obtain ⟨a, cp, hv, c0, c1, c2⟩ := x.cells
  subst hv
  obtain ⟨g, hga, hcp⟩ := x.ptr hyI
  subst hga
  have hbx := ey.box
  rw [hq] at hbx
  have s2 := cell_of_heap hbx 2
  -- the end
  obtain ⟨L1, L2, hL⟩ := List.append_of_mem hy
  have HFIN : Hid (∀ V q', Below w.heap.size w V → V.heap[w.heap.size]? = some (.cells #[.int .u32 0, .int .u32 0, .int .i64 0, .int .i64 0, .slice none 0 0] 53 (0, 0)) → q'.ownBlock = some gq → RowD V q' r.length (dcells r) → RTk w (World.setRow (V.setCell ⟨y.b, 2, none⟩ q').drew w.heap.size #[.int .u32 si, .int .u32 di, .int .i64 sp, .int .i64 dp, .slice va vl vc]) c (.slice (some ⟨g, 0, none⟩) L.length cp) M D L (aput (abs L) { y.abs with ds := r.map Prod.fst }) ⟨si, di, sp, dp, zs⟩ (.slice va vl vc)) := fun V q' hb hz hq' hr => by
    have xV := x.below hb
    rw [hL] at xV
    obtain ⟨t1, t2⟩ := xV.took hd q' (by rw [hq', hq]; rfl) hr
    have bu : But w.heap.size (V.setCell ⟨y.b, 2, none⟩ q').drew (World.setRow (V.setCell ⟨y.b, 2, none⟩ q').drew w.heap.size #[.int .u32 si, .int .u32 di, .int .i64 sp, .int .i64 dp, .slice va vl vc]) := But.setRow _ _ _
    have hold : ∀ k, RF c (.slice (some ⟨g, 0, none⟩) L.length cp) L k → k < w.heap.size := x.lt
    have hfoot : ∀ k, RF c (.slice (some ⟨g, 0, none⟩) L.length cp) (L1 ++ { y with q := q', ds := r } :: L2) k → RF c (.slice (some ⟨g, 0, none⟩) L.length cp) L k := fun k hk => by
      rcases hk with h | h | ⟨z, hz, h⟩
      · exact Or.inl h
      · exact Or.inr (Or.inl h)
      · have hz' : z ∈ L ∨ z = { y with q := q', ds := r } := by
          rw [hL]
          rcases List.mem_append.1 hz with h | h
          · exact Or.inl (List.mem_append_left _ h)
          · rcases List.mem_cons.1 h with h | h
            · exact Or.inr h
            · exact Or.inl (List.mem_append_right _ (List.mem_cons_of_mem _ h))
        rcases hz' with hz | rfl
        · exact Or.inr (Or.inr ⟨z, hz, h⟩)
        · rcases h with h | h | ⟨e, he, h⟩
          · exact Or.inr (Or.inr ⟨y, hy, Or.inl h⟩)
          · exact Or.inr (Or.inr ⟨y, hy, Or.inr (Or.inl (by rw [hq]; rw [hq'] at h; exact h))⟩)
          · exact Or.inr (Or.inr ⟨y, hy, Or.inr (Or.inr ⟨e, by rw [hd]; exact List.mem_cons_of_mem _ he, h⟩)⟩)
    refine ⟨⟨_, L1 ++ { y with q := q', ds := r } :: L2, t1.keep fun k hk => bu.block k (by have := hold k (hfoot k hk); omega) (t1.lt k hk), ?_, ?_, fun k hk => Or.inl (hfoot k hk)⟩, ?_⟩
    · have := abs_mid (L1 := L1) (L2 := L2) (x := y) (x' := { y with q := q', ds := r }) (by rw [← hL]; exact x.rise) rfl
      rw [← hL] at this
      exact this
    · have t3 := t2.only
      rw [← hL] at t3
      exact ⟨bu.os.trans (t3.os.trans hb.os), bu.tape.trans (t3.tape.trans hb.tape), bu.output.trans (t3.output.trans hb.output), Nat.le_trans hb.size (Nat.le_trans t3.size bu.size), fun k hk hkl => by
        have hs := hb.size
        have hs2 := t3.size
        rw [bu.block k (by omega) (by omega), t3.block k hk (by omega), hb.block k hkl]⟩
    · have hrw := ey.data (⟨si, di, sp, dp, zs⟩, .slice va vl vc) (by rw [hd]; simp)
      refine hrw.keep fun k hk => ?_
      have hlt := hrw.lt hk
      obtain ⟨cur, f, hc⟩ := hrw.obj hk
      have hs := hb.size
      have hkb : k ≠ y.b := fun e => by
        rw [e, ey.box] at hc; simp only [Option.some.injEq, Obj.cells.injEq] at hc; exact absurd hc.2.1 (by decide)
      have b2 : But y.b V (V.setCell ⟨y.b, 2, none⟩ q').drew := (But.setCell _ _ _ _).trans (But.drew _ _)
      rw [bu.block k (by omega) (by have := b2.size; omega), b2.block k hkb (by omega), hb.block k hlt]
  have HD : Hid (∀ V, Below w.heap.size w V → RowD V (.slice (some ⟨gq, off, none⟩) (r.length + 1) qc) (r.length + 1) (dcells ((⟨si, di, sp, dp, zs⟩, .slice va vl vc) :: r))) := fun V hb => hrow.keep fun k hk => hb.block k (hrow.lt hk)
  have HCL : Hid (∀ V, Below w.heap.size w V → V.cell? ⟨c, 0, none⟩ = some (.slice (some ⟨g, 0, none⟩) L.length cp) ∧ V.cell? ⟨g, I, none⟩ = some (.pointer (some ⟨y.b, 0, none⟩)) ∧ V.cell? ⟨y.b, 2, none⟩ = some (.slice (some ⟨gq, off, none⟩) (r.length + 1) qc) ∧ V.frozen? ⟨y.b, 2, none⟩ = false ∧ V.cell? ⟨gq, off, none⟩ = some (.int .u32 si) ∧ V.cell? ⟨gq, off + 1, none⟩ = some (.int .u32 di) ∧ V.cell? ⟨gq, off + 2, none⟩ = some (.int .i64 sp) ∧ V.cell? ⟨gq, off + 3, none⟩ = some (.int .i64 dp) ∧ V.cell? ⟨gq, off + 4, none⟩ = some (.slice va vl vc)) := fun V hb =>
    ⟨rcell_later hb c0, rcell_later hb hcp, rcell_later hb s2, frozen_of_heap (kept hbx hb) 2, rcell_later hb hk0, rcell_later hb hk1, rcell_later hb hk2, rcell_later hb hk3, rcell_later hb hk4⟩
  have HI0 : Hid (w.heap.size < (w.alloc (.cells #[.int .u32 0, .int .u32 0, .int .i64 0, .int .i64 0, .slice none 0 0] 53)).heap.size) := by unfold Hid; simp
  have HYW := hid (heap_lt ey.box)
  have hI0 : ¬ (I : Int) < 0 := by omega
  have hI1 : (I : Int) < (L.length : Int) := by omega
  have hI2 : (0 : Int) ≤ (I : Int) := by omega
  have hHB := hid hB1
  have hz0 := hid (heap_new w (.cells #[.int .u32 0, .int .u32 0, .int .i64 0, .int .i64 0, .slice none 0 0] 53))
  have hr1 : ((r.length + 1 : Nat) : Int) ≠ 0 := by omega
  have hr2 : (((r.length + 1 : Nat) : Int) == 0) = false := by simpa using hr1
  have hr3 : (1 : Int) ≤ ((r.length + 1 : Nat) : Int) := by omega
  have hr4 : (0 : Int) < ((r.length + 1 : Nat) : Int) := by omega
  have hr5 : 0 < r.length + 1 := by omega
  have hr6 : ((r.length + 1 : Nat) : Int) ≤ (qc : Int) := by omega
  have hr7 : (1 : Int) ≤ (qc : Int) := by omega
  simp only [Dg.cells] at *
  clear x x1 hB1 hB2 hl hI hyI ey hq hbx s2 c0 c1 c2 hd hh HH hcp hk0 hk1 hk2 hk3 hk4 hrow hy hL hIL
  generalize hln : r.length + 1 = LN at *
  have HLN := hid hln
  clear hln
  generalize L.length = N at *
  generalize y.b = yb at *
  go_enter Try.func37, Try.ntmps37
  go_wp2_with fail
  refine HAT.out.mono ?_
  rintro e w1 ⟨rfl, hw⟩
  subst w1
  generalize hW : w.alloc (.cells #[.int .u32 0, .int .u32 0, .int .i64 0, .int .i64 0, .slice none 0 0] 53) = W at *
  clear hW
  obtain ⟨c0, hcp, s2, f2, k0, k1, k2, k3, k4⟩ := HCL.out W hHB.out
  have hb2 := bpush hHB.out (.cells #[.int .u32 si, .int .u32 di, .int .i64 sp, .int .i64 dp, .slice va vl vc] 53)
  have HB2 := hid hb2
  have HZ2 := hid (kept hz0.out (bpush (Below.refl _ W) (.cells #[.int .u32 si, .int .u32 di, .int .i64 sp, .int .i64 dp, .slice va vl vc] 53)))
  have HGD : Hid (w.heap.size ≤ W.heap.size) := hHB.out.size
  have HN2 := hid (heap_new W (.cells #[.int .u32 si, .int .u32 di, .int .i64 sp, .int .i64 dp, .slice va vl vc] 53))
  clear hb2
  go_wp2
  clear c0 hcp s2 f2 k0 k1 k2 k3 k4
  generalize W.alloc (.cells #[.int .u32 si, .int .u32 di, .int .i64 sp, .int .i64 dp, .slice va vl vc] 53) = V at *
  obtain ⟨c0, hcp, s2, f2, -, -, -, -, -⟩ := HCL.out V HB2.out
  generalize W.heap.size = gd at *
  have HVR := HD.out V HB2.out
  have HYG : Hid (yb < gd) := Nat.lt_of_lt_of_le HYW.out HGD.out
  clear HCL HD
  by_cases hq1 : qc = 1
  · have hlen1 : LN = 1 := by omega
    have HR : Hid (RowD V (.slice (some ⟨gq, off, none⟩) 0 0) r.length (dcells r)) := by
      have h0 : r = [] := List.eq_nil_of_length_eq_zero (by have := HLN.out; omega)
      subst h0
      exact RowD.over HVR
    clear HVR
    have HE := hid (HFIN.out V _ HB2.out HZ2.out rfl HR.out)
    subst hq1
    subst hlen1
    go_region
    have bq : But yb V (V.setCell ⟨yb, 2, none⟩ (.slice (some ⟨gq, off, none⟩) 0 0)).drew := (But.setCell _ _ _ _).trans (But.drew _ _)
    have H9d := hid (keptBut HN2.out bq (by have := HYG.out; omega))
    have H9z := hid (keptBut HZ2.out bq (by have := HYW.out; omega))
    clear bq HN2 HZ2 HB2 c0 hcp s2 f2 HFIN HR
    generalize (V.setCell ⟨yb, 2, none⟩ (.slice (some ⟨gq, off, none⟩) 0 0)).drew = X at *
    go_wp2_with (first
      | (refine wpList_load_row rfl 53 _ rfl gd rfl 53 #[.int .u32 si, .int .u32 di, .int .i64 sp, .int .i64 dp, .slice va vl vc] (0, 0) _ (by exact H9d.out) Try.underlying53 rfl (by kernel_rfl) ?_)
      | (refine wpList_store_row rfl 53 _ _ rfl w.heap.size #[.int .u32 si, .int .u32 di, .int .i64 sp, .int .i64 dp, .slice va vl vc] rfl rfl 53 _ H9z.out (by kernel_rfl) rfl (by first | kernel_rfl | simp [Value.oneCell']) ?_)
      | fail)
    refine bodyPost_ret (v := .tuple #[.agg #[.int .u32 si, .int .u32 di, .int .i64 sp, .int .i64 dp, .slice va vl vc], .bool true]) ?_ (by rfl) ⟨rfl, HE.out⟩
    exact results_row2 Try.results37 _ _ w.heap.size 53 _ (0, 0) _ _ rfl rfl (setRow_heap _ _ _ _ _ _ H9z.out) Try.underlying53 rfl (by kernel_rfl)
  · have HR : Hid (RowD V (.slice (some ⟨gq, off + 5, none⟩) (LN - 1) (qc - 1)) r.length (dcells r)) := by
      obtain ⟨q', hq'⟩ : ∃ q', qc = q' + 1 := ⟨qc - 1, by omega⟩
      subst hq'
      rw [← HLN.out] at HVR
      rw [dcells_cons] at HVR
      have := RowD.drop HVR (by simp [Dg.cells])
      rw [← HLN.out]
      exact this
    clear HVR
    have HE := hid (HFIN.out V _ HB2.out HZ2.out rfl HR.out)
    go_region
    have bq : But yb V (V.setCell ⟨yb, 2, none⟩ (.slice (some ⟨gq, off + 5, none⟩) (LN - 1) (qc - 1))).drew := (But.setCell _ _ _ _).trans (But.drew _ _)
    have H9d := hid (keptBut HN2.out bq (by have := HYG.out; omega))
    have H9z := hid (keptBut HZ2.out bq (by have := HYW.out; omega))
    clear bq HN2 HZ2 HB2 c0 hcp s2 f2 HFIN HR
    generalize (V.setCell ⟨yb, 2, none⟩ (.slice (some ⟨gq, off + 5, none⟩) (LN - 1) (qc - 1))).drew = X at *
    go_wp2_with (first
      | (refine wpList_load_row rfl 53 _ rfl gd rfl 53 #[.int .u32 si, .int .u32 di, .int .i64 sp, .int .i64 dp, .slice va vl vc] (0, 0) _ (by exact H9d.out) Try.underlying53 rfl (by kernel_rfl) ?_)
      | (refine wpList_store_row rfl 53 _ _ rfl w.heap.size #[.int .u32 si, .int .u32 di, .int .i64 sp, .int .i64 dp, .slice va vl vc] rfl rfl 53 _ H9z.out (by kernel_rfl) rfl (by first | kernel_rfl | simp [Value.oneCell']) ?_)
      | fail)
    refine bodyPost_ret (v := .tuple #[.agg #[.int .u32 si, .int .u32 di, .int .i64 sp, .int .i64 dp, .slice va vl vc], .bool true]) ?_ (by rfl) ⟨rfl, HE.out⟩
    exact results_row2 Try.results37 _ _ w.heap.size 53 _ (0, 0) _ _ rfl rfl (setRow_heap _ _ _ _ _ _ H9z.out) Try.underlying53 rfl (by kernel_rfl)
end Go.Proofs.Ythipdchdbdmmnaa
