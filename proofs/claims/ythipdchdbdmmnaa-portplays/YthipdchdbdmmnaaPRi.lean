/-
  Port: the document's table: Put.
-/
import Derived.Test.YthipdchdbdmmnaaPRh
namespace Go.Proofs.Ythipdchdbdmmnaa
open Go.RowKit
set_option linter.all false

theorem RPz.pre {w W w' : World} {c : Nat} {v : Value} {M D : Int} {L : List Ab} {S : List Pa} (hb : Below w.heap.size w W) (h : RPz W w' c v M D L S) : RPz w w' c v M D L S := by
  obtain ⟨v', L', h1, h2, h3⟩ := h
  have hs := hb.size
  exact ⟨v', L', h1, h2, ⟨⟨h3.only.os.trans hb.os, h3.only.tape.trans hb.tape, h3.only.output.trans hb.output, Nat.le_trans hs h3.only.size, fun k hk hl => (h3.only.block k hk (by omega)).trans (hb.block k hl)⟩, fun k hk => (h3.foot k hk).imp id (fun h => by omega)⟩⟩
theorem rput_none (c : Nat) (v : Value) (M D : Int) (L : List Ab) (si di sp dp : Int) (va : Option Addr) (vn vc : Nat) (w : World) (x : RPoW w c v M D L) (hl : look L dp = none) :
    Calls Try.prog 35 #[.pointer (some ⟨c, 0, none⟩), .agg #[.int .u32 si, .int .u32 di, .int .i64 sp, .int .i64 dp, .slice va vn vc]] w fun e w' => e = .returned (.int .i64 131) ∧ Hid (RPz w w' c v M D L (abs L)) := by
  have hB := bpush (Below.refl w.heap.size w) (.cells #[.int .u32 si, .int .u32 di, .int .i64 sp, .int .i64 dp, .slice va vn vc] 53)
  have HZ := hid (RPz.same x hB)
  have HAT := hid (rat_any c v M D L dp _ (x.below hB))
  have h4 : atI L dp < 0 := (at_look L dp).2 hl
  generalize atI L dp = A at *
  clear x hB hl
  go_enter Try.func35, Try.ntmps35
  go_wp2_with (first
    | (go_at_call 52; refine HAT.out.mono ?_; rintro e w1 ⟨rfl, hw⟩; subst w1)
    | fail)
  go_ret
  exact ⟨rfl, HZ.out⟩
theorem only_set {W w7 : World} {b : Nat} {q v' : Value} (hg : W.grownBy w7 q.ownBlock) (o : Nat) : Only (fun k => k = b ∨ q.ownBlock = some k) W (w7.setCell ⟨b, o, none⟩ v') :=
  ((Only.grown hg).mono fun k hk => Or.inr hk).trans (Only.of_but (But.setCell b w7 o v') (Or.inl rfl))
set_option maxRecDepth 20000 in
set_option maxHeartbeats 2000000 in
theorem rput_full (c : Nat) (v : Value) (M D : Int) (L : List Ab) (si di sp dp : Int) (va : Option Addr) (vn vc : Nat) (y : Ab) (w : World) (x : RPoW w c v M D L) (hl : look L dp = some y) (hf : (y.ds.length : Int) = D) (hdr : y.dr < 4611686018427387904) :
    Calls Try.prog 35 #[.pointer (some ⟨c, 0, none⟩), .agg #[.int .u32 si, .int .u32 di, .int .i64 sp, .int .i64 dp, .slice va vn vc]] w fun e w' => e = .returned (.int .i64 3) ∧ Hid (RPz w w' c v M D L (aput (abs L) { y.abs with dr := y.dr + 1 })) := by
  have hB := bpush (Below.refl w.heap.size w) (.cells #[.int .u32 si, .int .u32 di, .int .i64 sp, .int .i64 dp, .slice va vn vc] 53)
  obtain ⟨W, hW⟩ : ∃ W, W = w.alloc (.cells #[.int .u32 si, .int .u32 di, .int .i64 sp, .int .i64 dp, .slice va vn vc] 53) := ⟨_, rfl⟩
  have x1 : RPoW W c v M D L := by rw [hW]; exact x.below hB
  have HB : Hid (Below w.heap.size w W) := by rw [hW]; exact hB
  have k3 : W.cell? ⟨w.heap.size, 3, none⟩ = some (.int .i64 dp) := by rw [hW, cell_of_heap (heap_new w _)]; rfl
  have HAT := hid (rat_any c v M D L dp W x1)
  obtain ⟨I, hI, hyI⟩ := at_some hl
  rw [hI] at HAT
  obtain ⟨a, cp, hv, c0, c1, c2⟩ := x1.cells
  have hIL : I < L.length := (List.getElem?_eq_some_iff.1 hyI).1
  have hlm : (L.length : Int) ≤ 16 := by have := x.len; have := x.most; omega
  have hvx := x1
  rw [hv] at hvx
  obtain ⟨g, hga, hcp⟩ := hvx.ptr hyI
  have hy := (look_some hl).1
  have ey := x1.ents y hy
  obtain ⟨qa, qc, hq⟩ := ey.row.form
  have y1 : W.cell? ⟨y.b, 1, none⟩ = some (.int .i64 y.dr) := by rw [cell_of_heap ey.box]; rfl
  have y2 : W.cell? ⟨y.b, 2, none⟩ = some (.slice qa y.ds.length qc) := by rw [cell_of_heap ey.box, ← hq]; rfl
  have f1 : W.frozen? ⟨y.b, 1, none⟩ = false := frozen_of_heap ey.box 1
  have dr0 := ey.dr
  have e1 : IntKind.i64.wrap (y.dr + 1) = y.dr + 1 := by simp only [IntKind.wrap_i64]; omega
  have hdl : y.ds.length ≤ 32 := by have := x.depth; omega
  have HFIN : Hid (∀ nq, RPz w ((W.drewN nq).setCell ⟨y.b, 1, none⟩ (.int .i64 (y.dr + 1))) c v M D L (aput (abs L) { y.abs with dr := y.dr + 1 })) := fun nq => by
    have hbn : Below W.heap.size W (W.drewN nq) := below_drewN _ nq
    refine RPz.pre (HB.out.trans (hbn.mono HB.out.size)) ?_
    have xk := x1.below hbn
    obtain ⟨L1, L2, hL⟩ := List.append_of_mem hy
    rw [hL] at xk ⊢
    have ek := ey.keep (w' := W.drewN nq) (fun _ _ => rfl)
    have hset : But y.b (W.drewN nq) ((W.drewN nq).setCell ⟨y.b, 1, none⟩ (.int .i64 (y.dr + 1))) := But.setCell _ _ _ _
    have he : REnt ((W.drewN nq).setCell ⟨y.b, 1, none⟩ (.int .i64 (y.dr + 1))) { y with dr := y.dr + 1 } := by
      refine ⟨?_, ek.row.keep fun k hk => hset.block k (fun e => ?_) (ek.row.lt hk), fun d hd => (ek.data d hd).keep fun k hk => hset.block k (fun e => ?_) ((ek.data d hd).lt hk), ek.oks, by show 0 ≤ y.dr + 1; omega⟩
      · have := heap_setCell (j := 1) (v := .int .i64 (y.dr + 1)) ek.box
        simpa using this
      · subst e
        obtain ⟨cur, h1⟩ := ek.row.obj hk
        rw [ek.box] at h1; simp only [Option.some.injEq, Obj.cells.injEq] at h1; exact absurd h1.2.1 (by decide)
      · subst e
        obtain ⟨cur, f, h1⟩ := (ek.data d hd).obj hk
        rw [ek.box] at h1; simp only [Option.some.injEq, Obj.cells.injEq] at h1; exact absurd h1.2.1 (by decide)
    obtain ⟨z1, z2⟩ := xk.turn (x' := { y with dr := y.dr + 1 }) (Only.of_but hset (Or.inl rfl)) he rfl rfl (fun k hk => Or.inl hk) (fun d hd k hk => Or.inl ⟨d, hd, hk⟩) (by show (y.ds.length : Int) ≤ D; omega)
    exact ⟨v, _, z1, abs_mid (by rw [← hL]; exact x1.rise) rfl, z2⟩
  have hge : D ≤ (y.ds.length : Int) := by omega
  have hge2 : decide (D ≤ (y.ds.length : Int)) = true := by simp; omega
  have hIL' : (I : Int) < (L.length : Int) := by omega
  have hI0 : ¬ (I : Int) < 0 := by omega
  subst hga
  clear x x1 hB hl hI hyI hv hvx hy ey hq
  generalize y.b = yb at *
  generalize y.dr = yd at *
  generalize y.ds.length = yn at *
  generalize L.length = N at *
  go_enter Try.func35, Try.ntmps35
  go_upto_region 1 with fail
  rw [← hW]
  clear hW
  go_upto_region 5 with (first
    | (go_at_call 52; refine HAT.out.mono ?_; rintro e w1 ⟨rfl, hw⟩; subst w1)
    | fail)
  go_quiet (fail)
  go_wp2_with fail
  go_ret
  exact ⟨rfl, HFIN.out nq⟩

set_option maxRecDepth 20000 in
set_option maxHeartbeats 4000000 in
theorem rput_room (c : Nat) (v : Value) (M D : Int) (L : List Ab) (si di sp dp : Int) (zs : List Int) (va : Option Addr) (vc : Nat) (y : Ab) (w : World) (x : RPoW w c v M D L) (hl : look L dp = some y) (hf : (y.ds.length : Int) < D) (hok : (Dg.mk si di sp dp zs).ok) (hp : Part.ok w ⟨va, vc, zs⟩) (hz : zs.length ≤ 140737488355328) :
    Calls Try.prog 35 #[.pointer (some ⟨c, 0, none⟩), .agg #[.int .u32 si, .int .u32 di, .int .i64 sp, .int .i64 dp, .slice va zs.length vc]] w fun e w' => e = .returned (.int .i64 0) ∧ Hid (RPz w w' c v M D L (aput (abs L) { y.abs with ds := y.abs.ds ++ [Dg.mk si di sp dp zs] })) := by
  have hB := bpush (Below.refl w.heap.size w) (.cells #[.int .u32 si, .int .u32 di, .int .i64 sp, .int .i64 dp, .slice va zs.length vc] 53)
  obtain ⟨W, hW⟩ : ∃ W, W = w.alloc (.cells #[.int .u32 si, .int .u32 di, .int .i64 sp, .int .i64 dp, .slice va zs.length vc] 53) := ⟨_, rfl⟩
  have x1 : RPoW W c v M D L := by rw [hW]; exact x.below hB
  have HB : Hid (Below w.heap.size w W) := by rw [hW]; exact hB
  have HBX : Hid (W.heap[w.heap.size]? = some (.cells #[.int .u32 si, .int .u32 di, .int .i64 sp, .int .i64 dp, .slice va zs.length vc] 53 (0, 0))) := by rw [hW]; exact heap_new w _
  have k3 : W.cell? ⟨w.heap.size, 3, none⟩ = some (.int .i64 dp) := by rw [cell_of_heap HBX.out]; rfl
  have HAT := hid (rat_any c v M D L dp W x1)
  obtain ⟨I, hI, hyI⟩ := at_some hl
  rw [hI] at HAT
  obtain ⟨a, cp, hv, c0, c1, c2⟩ := x1.cells
  have hIL : I < L.length := (List.getElem?_eq_some_iff.1 hyI).1
  have hlm : (L.length : Int) ≤ 16 := by have := x.len; have := x.most; omega
  have hvx := x1
  rw [hv] at hvx
  obtain ⟨g, hga, hcp⟩ := hvx.ptr hyI
  have hy := (look_some hl).1
  have ey := x1.ents y hy
  obtain ⟨qa, qc, hq⟩ := ey.row.form
  have y2 : W.cell? ⟨y.b, 2, none⟩ = some (.slice qa y.ds.length qc) := by rw [cell_of_heap ey.box, ← hq]; rfl
  have hdl : y.ds.length ≤ 32 := by have := x.depth; omega
  have HCP : Hid (∀ V, Below W.heap.size W V → Calls Try.prog 55 #[.agg #[.int .u32 si, .int .u32 di, .int .i64 sp, .int .i64 dp, .slice va zs.length vc]] V fun e w' => ∃ an nn cn, e = .returned (.agg #[.int .u32 si, .int .u32 di, .int .i64 sp, .int .i64 dp, .slice an nn cn]) ∧ Hid (Ans V w' zs an nn cn)) := fun V hV => rcopied_any si di sp dp ⟨va, vc, zs⟩ V (Part.ok_below (Part.ok_below hp HB.out) hV) hz
  have hge : ¬ D ≤ (y.ds.length : Int) := by omega
  have hge2 : decide (D ≤ (y.ds.length : Int)) = false := by simp; omega
  have hIL' : (I : Int) < (L.length : Int) := by omega
  have hI0 : ¬ (I : Int) < 0 := by omega
  -- the append, and what it leaves
  have HEND : Hid (∀ (V : World) (an : Option Addr) (nn cn gb : Nat), Below W.heap.size W V → Row V 5 (.slice an nn cn) (u8s zs) → (∀ b, (Value.slice an nn cn).ownBlock = some b → W.heap.size ≤ b) → V.heap[gb]? = some (.cells #[.int .u32 si, .int .u32 di, .int .i64 sp, .int .i64 dp, .slice an nn cn] 53 (0, 0)) →
      V.cell? ⟨y.b, 2, none⟩ = some (.slice qa y.ds.length qc) ∧ ∃ a3 n3 c3 w7 u, (Builtin.append_ #[81, 81] 81 #[.slice qa y.ds.length qc, .slice (some ⟨V.heap.size, 0, none⟩) 1 1]).run Try.prog (V.alloc (.cells #[.int .u32 si, .int .u32 di, .int .i64 sp, .int .i64 dp, .slice an nn cn] 53)) = .ok (.slice a3 n3 c3) w7 ∧ w7.cell? ⟨y.b, 2, none⟩ = some u ∧ w7.frozen? ⟨y.b, 2, none⟩ = false ∧ RPz w (w7.setCell ⟨y.b, 2, none⟩ (.slice a3 n3 c3)) c v M D L (aput (abs L) { y.abs with ds := y.abs.ds ++ [Dg.mk si di sp dp zs] })) := fun V an nn cn gb hV hrw hfr hgb => by
    have xV := x1.below hV
    have eV := xV.ents y hy
    have hvq : V.cell? ⟨y.b, 2, none⟩ = some (.slice qa y.ds.length qc) := by rw [cell_of_heap eV.box, ← hq]; rfl
    refine ⟨hvq, ?_⟩
    have hbA := bpush (Below.refl V.heap.size V) (.cells #[.int .u32 si, .int .u32 di, .int .i64 sp, .int .i64 dp, .slice an nn cn] 53)
    obtain ⟨A, hA⟩ : ∃ A, A = V.alloc (.cells #[.int .u32 si, .int .u32 di, .int .i64 sp, .int .i64 dp, .slice an nn cn] 53) := ⟨_, rfl⟩
    have hgA : A.heap[V.heap.size]? = some (.cells #[.int .u32 si, .int .u32 di, .int .i64 sp, .int .i64 dp, .slice an nn cn] 53 (0, 0)) := by rw [hA]; exact heap_new V _
    rw [← hA] at hbA ⊢
    have eA := eV.keep (w' := A) (fun k hk => hbA.block k (xV.lt k (Or.inr (Or.inr ⟨y, hy, hk⟩))))
    have rA := eA.row
    rw [hq] at rA
    obtain ⟨v', w7, hrun, hrow, hgr, hloc⟩ := rA.push V.heap.size [.int .u32 si, .int .u32 di, .int .i64 sp, .int .i64 dp, .slice an nn cn] rfl (by simp [Value.oneCell']) hgA (by omega)
    obtain ⟨a3, c3, ev⟩ := hrow.form
    subst ev
    have hb7 : w7.heap[y.b]? = some (.cells #[.int .i64 y.ip, .int .i64 y.dr, y.q] 110 (0, 0)) := by
      rw [hgr.block y.b (heap_lt eA.box) (fun e => ?_)]
      · exact eA.box
      · obtain ⟨cur, h1⟩ := rA.obj e.symm
        rw [eA.box] at h1; simp only [Option.some.injEq, Obj.cells.injEq] at h1; exact absurd h1.2.1 (by decide)
    refine ⟨a3, _, c3, w7, y.q, hrun, by rw [cell_of_heap hb7]; rfl, frozen_of_heap hb7 2, ?_⟩
    have hWA : Below W.heap.size W A := hV.trans (hbA.mono hV.size)
    refine RPz.pre HB.out ?_
    have xA := x1
    obtain ⟨L1, L2, hL⟩ := List.append_of_mem hy
    rw [hL] at xA ⊢
    have hset := But.setCell y.b w7 2 (.slice a3 (y.ds.length + 1) c3)
    have honly : Only (fun k => k = y.b ∨ y.q.ownBlock = some k) A (w7.setCell ⟨y.b, 2, none⟩ (.slice a3 (y.ds.length + 1) c3)) := by
      rw [hq]
      exact only_set hgr 2
    have hnb : ∀ (u : Value) (xs : List Int), Row A 5 u (u8s xs) → Row (w7.setCell ⟨y.b, 2, none⟩ (.slice a3 (y.ds.length + 1) c3)) 5 u (u8s xs) := fun u xs hr => hr.keep fun k hk => honly.block k (fun e => by
      obtain ⟨cur, f, h1⟩ := hr.obj hk
      rcases e with e | e
      · rw [e, eA.box] at h1; simp only [Option.some.injEq, Obj.cells.injEq] at h1; exact absurd h1.2.1 (by decide)
      · obtain ⟨cur2, h2⟩ := eA.row.obj e
        rw [h1] at h2; simp only [Option.some.injEq, Obj.cells.injEq] at h2; exact absurd h2.2.1 (by decide)) (hr.lt hk)
    have he : REnt (w7.setCell ⟨y.b, 2, none⟩ (.slice a3 (y.ds.length + 1) c3)) { y with q := .slice a3 (y.ds.length + 1) c3, ds := y.ds ++ [(Dg.mk si di sp dp zs, .slice an nn cn)] } := by
      refine ⟨?_, ?_, fun d hd => ?_, fun d hd => ?_, ey.dr⟩
      · have := heap_setCell (j := 2) (v := .slice a3 (y.ds.length + 1) c3) hb7
        simpa using this
      · have hr2 : RowD (w7.setCell ⟨y.b, 2, none⟩ (.slice a3 (y.ds.length + 1) c3)) (.slice a3 (y.ds.length + 1) c3) (y.ds.length + 1) (dcells y.ds ++ [.int .u32 si, .int .u32 di, .int .i64 sp, .int .i64 dp, .slice an nn cn]) := hrow.keep fun k hk => hset.block k (fun e => by
          subst e
          obtain ⟨cur, h1⟩ := hrow.obj hk
          rw [hb7] at h1; simp only [Option.some.injEq, Obj.cells.injEq] at h1; exact absurd h1.2.1 (by decide)) (hrow.lt hk)
        have hd : dcells (y.ds ++ [(Dg.mk si di sp dp zs, .slice an nn cn)]) = dcells y.ds ++ [.int .u32 si, .int .u32 di, .int .i64 sp, .int .i64 dp, .slice an nn cn] := by simp [dcells, Dg.cells]
        show RowD _ _ (y.ds ++ _).length (dcells _)
        rw [hd, List.length_append]
        exact hr2
      · rcases List.mem_append.1 hd with hd | hd
        · exact hnb _ _ (eA.data d hd)
        · simp only [List.mem_singleton] at hd
          subst hd
          exact hnb _ zs (hrw.below hbA)
      · rcases List.mem_append.1 hd with hd | hd
        · exact ey.oks d hd
        · simp only [List.mem_singleton] at hd
          subst hd
          exact hok
    have hsV := hV.size
    have hsA := hbA.size
    obtain ⟨z1, z2⟩ := xA.turn (x' := { y with q := .slice a3 (y.ds.length + 1) c3, ds := y.ds ++ [(Dg.mk si di sp dp zs, .slice an nn cn)] }) ((Only.of_below hWA).trans honly) he rfl rfl (fun k hk => by rw [hq]; exact (hloc k hk).imp id (fun h => by omega)) (fun d hd k hk => by
      rcases List.mem_append.1 hd with hd | hd
      · exact Or.inl ⟨d, hd, hk⟩
      · simp only [List.mem_singleton] at hd
        subst hd
        exact Or.inr (hfr k hk)) (by show ((y.ds ++ _).length : Int) ≤ D; rw [List.length_append]; simp; omega)
    refine ⟨v, _, z1, ?_, z2⟩
    have := abs_mid (L1 := L1) (L2 := L2) (x := y) (x' := { y with q := .slice a3 (y.ds.length + 1) c3, ds := y.ds ++ [(Dg.mk si di sp dp zs, .slice an nn cn)] }) (by rw [← hL]; exact x1.rise) rfl
    rw [this]
    congr 1
    simp [Ab.abs]
  subst hga
  clear x x1 hB hl hI hyI hv hvx hy ey hq hp hz hok
  generalize y.b = yb at *
  generalize y.ds.length = yn at *
  generalize L.length = N at *
  generalize zs.length = zn at *
  go_enter Try.func35, Try.ntmps35
  go_upto_region 1 with fail
  rw [← hW]
  clear hW
  go_upto_region 5 with (first
    | (go_at_call 52; refine HAT.out.mono ?_; rintro e w1 ⟨rfl, hw⟩; subst w1)
    | fail)
  go_quiet (fail)
  have HBn : Hid (Below W.heap.size W (W.drewN nq)) := below_drewN _ nq
  have hbx : (W.drewN nq).heap[w.heap.size]? = some (.cells #[.int .u32 si, .int .u32 di, .int .i64 sp, .int .i64 dp, .slice va zn vc] 53 (0, 0)) := HBX.out
  have HC2 := hid (HCP.out _ HBn.out)
  have HGB : Hid (w.heap.size < W.heap.size) := heap_lt HBX.out
  clear c0 c2 hcp k3 y2 HCP HAT
  generalize w.heap.size = gw at *
  generalize hV0 : W.drewN nq = V0 at *
  clear hV0
  go_upto_region 9 with (first
    | (refine wpList_load_row rfl 53 _ rfl gw rfl 53 #[.int .u32 si, .int .u32 di, .int .i64 sp, .int .i64 dp, .slice va zn vc] (0, 0) _ (by exact hbx) Try.underlying53 rfl (by kernel_rfl) ?_)
    | (go_at_call 55; refine HC2.out.mono ?_; rintro e w3 ⟨an, nn, cn, rfl, HA3⟩)
    | fail)
  have hb4 := bpush (Below.refl w3.heap.size w3) (.cells #[.int .u32 si, .int .u32 di, .int .i64 sp, .int .i64 dp, .slice an nn cn] 53)
  have hg4 := heap_new w3 (.cells #[.int .u32 si, .int .u32 di, .int .i64 sp, .int .i64 dp, .slice an nn cn] 53)
  obtain ⟨W4, hW4⟩ : ∃ W4, W4 = w3.alloc (.cells #[.int .u32 si, .int .u32 di, .int .i64 sp, .int .i64 dp, .slice an nn cn] 53) := ⟨_, rfl⟩
  rw [← hW4] at hb4 hg4 ⊢
  have hB4 : Below W.heap.size W W4 := HBn.out.trans ((HA3.out.2.2.trans (hb4.mono HA3.out.2.2.size)).mono HBn.out.size)
  obtain ⟨q0, a3, n3, c3, w7, u, q1, q2, q3, q4⟩ := HEND.out W4.drew an nn cn w3.heap.size hB4.drew ((HA3.out.1.below hb4).keep fun _ _ => rfl) (fun b hb => Nat.le_trans HBn.out.size (HA3.out.2.1 b hb)) hg4
  have HAP := hid q1
  have HFN := hid q4
  have d0 : W4.cell? ⟨yb, 2, none⟩ = some (.slice qa yn qc) := q0
  have dA : (W4.alloc (.cells #[.int .u32 si, .int .u32 di, .int .i64 sp, .int .i64 dp, .slice an nn cn] 53)).cell? ⟨yb, 2, none⟩ = some (.slice qa yn qc) := cell_later (balloc _ _) d0
  have dg := fun q => cell_of_heap hg4 q
  have e0 : W4.cell? ⟨w3.heap.size, 0, none⟩ = some (.int .u32 si) := (dg 0).trans rfl
  have e1 : W4.cell? ⟨w3.heap.size, 1, none⟩ = some (.int .u32 di) := (dg 1).trans rfl
  have e2 : W4.cell? ⟨w3.heap.size, 2, none⟩ = some (.int .i64 sp) := (dg 2).trans rfl
  have e3 : W4.cell? ⟨w3.heap.size, 3, none⟩ = some (.int .i64 dp) := (dg 3).trans rfl
  have e4 : W4.cell? ⟨w3.heap.size, 4, none⟩ = some (.slice an nn cn) := (dg 4).trans rfl
  clear dg hW4 hb4 hg4 hB4 q0 q1 q4 HA3 HC2 HEND hbx HBX HBn
  generalize w3.heap.size = gb at *
  go_region_law (refine step_append_run rfl (.tmp 45) (.tmp 47) 81 81 rfl _ _ rfl rfl HAP.out ?_)
  all_goals go_wp2
  all_goals go_ret
  all_goals exact ⟨rfl, HFN.out⟩
theorem rput_any (c : Nat) (v : Value) (M D : Int) (L : List Ab) (d : Dg) (va : Option Addr) (vc : Nat) (w : World) (x : RPoW w c v M D L) (hok : d.ok) (hp : Part.ok w ⟨va, vc, d.zs⟩) (hz : d.zs.length ≤ 140737488355328) (hdr : ∀ y ∈ abs L, y.dr < 4611686018427387904) :
    Calls Try.prog 35 #[.pointer (some ⟨c, 0, none⟩), .agg (d.cells (.slice va d.zs.length vc)).toArray] w fun e w' => e = .returned (.int .i64 (putE D (abs L) d)) ∧ Hid (RPz w w' c v M D L (putF D (abs L) d)) := by
  obtain ⟨si, di, sp, dp, zs⟩ := d
  unfold putE putF
  simp only [Dg.cells] at *
  cases hl : look L dp with
  | none =>
    rw [abs_none hl]
    exact rput_none c v M D L si di sp dp va _ vc w x hl
  | some y =>
    have e : alook (abs L) dp = some y.abs := by rw [abs_look, hl]; rfl
    have hy := (look_some hl).1
    have hlen : y.abs.ds.length = y.ds.length := by simp [Ab.abs]
    rw [e]
    simp only [hlen]
    by_cases hf : (y.ds.length : Int) = D
    · rw [if_pos hf, if_pos hf]
      exact rput_full c v M D L si di sp dp va _ vc y w x hl hf (hdr y.abs (List.mem_map_of_mem hy))
    · rw [if_neg hf, if_neg hf]
      have := x.deep y hy
      exact rput_room c v M D L si di sp dp zs va vc y w x hl (by omega) hok hp hz
end Go.Proofs.Ythipdchdbdmmnaa
