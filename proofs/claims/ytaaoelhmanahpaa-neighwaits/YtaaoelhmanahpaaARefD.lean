/-
  The document's Decode: its parts.
-/
import Derived.Test.YtaaoelhmanahpaaADec
import Derived.Test.YtaaoelhmanahpaaBRefGet
namespace Go.Proofs.Ytaaoelhmanahpaa
open Go.RowKit
set_option linter.all false

/-- a whole struct stored, as a step of a region that draws. -/
theorem step_store_row {ops : Array Oper} {o : Oper} {a : Act} {w : World} {K : Act → World → Prop} {Q : Exit → Act → World → Prop} {E : Prop} (hgd : o.guard = none) (ty : TypeId) (x y : Operand) (ho : o.op = .store ty x y)
    (g : Nat) (cells : Array Value) (hx : a.eval x = .pointer (some ⟨g, 0, none⟩)) (hy : a.eval y = .agg cells)
    (t : TypeId) (old : Array Value) (hg : w.heap[g]? = some (.cells old t (0, 0))) (hi : (Try.prog.info? ty).map (·.size) = some cells.size)
    (hold : old.size = cells.size) (h1 : cells.all (·.oneCell') = true)
    (h : ∀ w', Hid (w'.heap[g]? = some (.cells cells t (0, 0))) → Hid (But g w w') → K (a.put o.dst undef) w') :
    if Region.wanted o (yielded ops a.tmps) = true then Oper.wp Try.prog o a w K Q else E := by
  have hw : Region.wanted o (yielded ops a.tmps) = true := by simp [Region.wanted, hgd]
  rw [if_pos hw]
  exact wp_store_row ty x y ho g cells hx hy t old hg hi hold h1 (h _ (setRow_heap w g _ _ t _ hg) (But.setRow g w _))
set_option maxHeartbeats 400000 in
theorem refIpAt_any (pt : Part) (a : Nat) (w : World) (hok : pt.ok w) (hl : pt.zs.length ≤ 140737488351232) (ha : a + 4 ≤ pt.zs.length) :
    Calls Try.prog 69 #[pt.val, .int .i64 a] w fun e w' => e = .returned (.int .u32 (numAt pt.zs a 4)) ∧ w' = w := by
  have HG : Hid (∀ w', Below w.heap.size w w' → Calls Try.prog 43 #[pt.val, .int .i64 a, .int .i64 4] w' fun e w'' => e = .returned (.tuple #[.int .u64 (numAt pt.zs a 4), .int .i64 0]) ∧ w'' = w') := fun w' hb => by
    have h := refGet_part pt a 4 w' (Part.ok_below hok hb) (by omega) (by omega)
    have e : getAns pt.zs a 4 = (numAt pt.zs a 4, 0) := by
      unfold getAns
      rw [if_neg (by omega), if_neg (by omega)]
      simp [numAt]
    rw [e] at h
    exact h
  have hb := numAt_bd hok.1 a
  have hw : IntKind.u32.wrap (numAt pt.zs a 4) = numAt pt.zs a 4 := by
    simp only [IntKind.wrap_u32]
    omega
  clear hok hb
  generalize numAt pt.zs a 4 = N at *
  unfold Part.val at *
  generalize pt.zs.length = l at *
  go_enter Try.func69, Try.ntmps69
  go_wp2_with (first | (go_at_call 43; refine (HG.out _ (Below.refl _ _)).mono ?_; rintro e w1 ⟨rfl, hw1⟩; subst w1) | fail)
  go_ret
  exact ⟨rfl, rfl⟩
set_option maxRecDepth 20000 in
set_option maxHeartbeats 2000000 in
theorem refMacAt8 (pt : Part) (w : World) (hok : pt.ok w) (hl : pt.zs.length ≤ 140737488351232) (ha : 14 ≤ pt.zs.length) :
    Calls Try.prog 68 #[pt.val, .int .i64 8] w fun e w' => e = .returned (macAt pt.zs 8).val ∧ Below w.heap.size w w' := by
  obtain ⟨b, o, hpa, hc⟩ : ∃ b o, pt.a = some ⟨b, o, none⟩ ∧ ∀ j, j < pt.zs.length → w.cell? ⟨b, o + j, none⟩ = some (.int .u8 (pt.zs.getD j 0)) := by
    rcases hok.2.2 with he | ⟨b, o, ha', hc⟩
    · rw [he] at ha; simp at ha
    · exact ⟨b, o, ha', hc⟩
  have c0 := hc 8 (by omega)
  have c1 := hc 9 (by omega)
  have c2 := hc 10 (by omega)
  have c3 := hc 11 (by omega)
  have c4 := hc 12 (by omega)
  have c5 := hc 13 (by omega)
  have hbl : b < w.heap.size := World.block_lt_of_cell? w _ c0
  simp only [macAt, Mac.val]
  unfold Part.val
  rw [hpa]
  clear hok hc hpa
  generalize pt.zs.getD 8 0 = z0 at *
  generalize pt.zs.getD 9 0 = z1 at *
  generalize pt.zs.getD 10 0 = z2 at *
  generalize pt.zs.getD 11 0 = z3 at *
  generalize pt.zs.getD 12 0 = z4 at *
  generalize pt.zs.getD 13 0 = z5 at *
  generalize pt.zs.length = l at *
  have l0 : (8 : Int) < (l : Int) := by omega
  have l1 : (9 : Int) < (l : Int) := by omega
  have l2 : (10 : Int) < (l : Int) := by omega
  have l3 : (11 : Int) < (l : Int) := by omega
  have l4 : (12 : Int) < (l : Int) := by omega
  have l5 : (13 : Int) < (l : Int) := by omega
  have w1 : IntKind.i64.wrap 9 = 9 := by decide
  have y1 : IntKind.i64.wrap (8 + 1) = 9 := by decide
  have w2 : IntKind.i64.wrap 10 = 10 := by decide
  have y2 : IntKind.i64.wrap (8 + 2) = 10 := by decide
  have w3 : IntKind.i64.wrap 11 = 11 := by decide
  have y3 : IntKind.i64.wrap (8 + 3) = 11 := by decide
  have w4 : IntKind.i64.wrap 12 = 12 := by decide
  have y4 : IntKind.i64.wrap (8 + 4) = 12 := by decide
  have w5 : IntKind.i64.wrap 13 = 13 := by decide
  have y5 : IntKind.i64.wrap (8 + 5) = 13 := by decide
  go_enter Try.func68, Try.ntmps68
  go_wp2
  have HG : Hid ((w.alloc (.cells #[.int .u8 0, .int .u8 0, .int .u8 0, .int .u8 0, .int .u8 0, .int .u8 0] 24)).heap[w.heap.size]? = some (.cells #[.int .u8 0, .int .u8 0, .int .u8 0, .int .u8 0, .int .u8 0, .int .u8 0] 24 (0, 0))) := heap_new _ _
  have HB : Hid (Below w.heap.size w (w.alloc (.cells #[.int .u8 0, .int .u8 0, .int .u8 0, .int .u8 0, .int .u8 0, .int .u8 0] 24))) := bpush (Below.refl _ _) _
  have HC : Hid (∀ w' : World, Below w.heap.size w w' → w'.cell? ⟨b, o + 8, none⟩ = some (.int .u8 z0) ∧ w'.cell? ⟨b, o + 9, none⟩ = some (.int .u8 z1) ∧ w'.cell? ⟨b, o + 10, none⟩ = some (.int .u8 z2) ∧ w'.cell? ⟨b, o + 11, none⟩ = some (.int .u8 z3) ∧ w'.cell? ⟨b, o + 12, none⟩ = some (.int .u8 z4) ∧ w'.cell? ⟨b, o + 13, none⟩ = some (.int .u8 z5)) := fun w' hb =>
    ⟨(hb.cell (p := ⟨b, o + 8, none⟩) hbl).trans c0, (hb.cell (p := ⟨b, o + 9, none⟩) hbl).trans c1, (hb.cell (p := ⟨b, o + 10, none⟩) hbl).trans c2, (hb.cell (p := ⟨b, o + 11, none⟩) hbl).trans c3, (hb.cell (p := ⟨b, o + 12, none⟩) hbl).trans c4, (hb.cell (p := ⟨b, o + 13, none⟩) hbl).trans c5⟩
  clear c0 c1 c2 c3 c4 c5
  go_region_held3 (fun w' => w'.cell? ⟨b, o + 8, none⟩ = some (.int .u8 z0) ∧ w'.cell? ⟨b, o + 9, none⟩ = some (.int .u8 z1) ∧ w'.cell? ⟨b, o + 10, none⟩ = some (.int .u8 z2) ∧ w'.cell? ⟨b, o + 11, none⟩ = some (.int .u8 z3) ∧ w'.cell? ⟨b, o + 12, none⟩ = some (.int .u8 z4) ∧ w'.cell? ⟨b, o + 13, none⟩ = some (.int .u8 z5)) (first | assumption | exact HC.out _ (bpush (Below.refl _ _) _).drew | go_keep) (fail)
  go_wp2
  exact bodyPost_ret (v := .agg #[.int .u8 z0, .int .u8 z1, .int .u8 z2, .int .u8 z3, .int .u8 z4, .int .u8 z5]) (by simp [results, Try.results68, go_sem]) rfl ⟨rfl, (bpush (Below.refl _ _) _).drew⟩
set_option maxRecDepth 20000 in
set_option maxHeartbeats 2000000 in
theorem refMacAt18 (pt : Part) (w : World) (hok : pt.ok w) (hl : pt.zs.length ≤ 140737488351232) (ha : 24 ≤ pt.zs.length) :
    Calls Try.prog 68 #[pt.val, .int .i64 18] w fun e w' => e = .returned (macAt pt.zs 18).val ∧ Below w.heap.size w w' := by
  obtain ⟨b, o, hpa, hc⟩ : ∃ b o, pt.a = some ⟨b, o, none⟩ ∧ ∀ j, j < pt.zs.length → w.cell? ⟨b, o + j, none⟩ = some (.int .u8 (pt.zs.getD j 0)) := by
    rcases hok.2.2 with he | ⟨b, o, ha', hc⟩
    · rw [he] at ha; simp at ha
    · exact ⟨b, o, ha', hc⟩
  have c0 := hc 18 (by omega)
  have c1 := hc 19 (by omega)
  have c2 := hc 20 (by omega)
  have c3 := hc 21 (by omega)
  have c4 := hc 22 (by omega)
  have c5 := hc 23 (by omega)
  have hbl : b < w.heap.size := World.block_lt_of_cell? w _ c0
  simp only [macAt, Mac.val]
  unfold Part.val
  rw [hpa]
  clear hok hc hpa
  generalize pt.zs.getD 18 0 = z0 at *
  generalize pt.zs.getD 19 0 = z1 at *
  generalize pt.zs.getD 20 0 = z2 at *
  generalize pt.zs.getD 21 0 = z3 at *
  generalize pt.zs.getD 22 0 = z4 at *
  generalize pt.zs.getD 23 0 = z5 at *
  generalize pt.zs.length = l at *
  have l0 : (18 : Int) < (l : Int) := by omega
  have l1 : (19 : Int) < (l : Int) := by omega
  have l2 : (20 : Int) < (l : Int) := by omega
  have l3 : (21 : Int) < (l : Int) := by omega
  have l4 : (22 : Int) < (l : Int) := by omega
  have l5 : (23 : Int) < (l : Int) := by omega
  have w1 : IntKind.i64.wrap 19 = 19 := by decide
  have y1 : IntKind.i64.wrap (18 + 1) = 19 := by decide
  have w2 : IntKind.i64.wrap 20 = 20 := by decide
  have y2 : IntKind.i64.wrap (18 + 2) = 20 := by decide
  have w3 : IntKind.i64.wrap 21 = 21 := by decide
  have y3 : IntKind.i64.wrap (18 + 3) = 21 := by decide
  have w4 : IntKind.i64.wrap 22 = 22 := by decide
  have y4 : IntKind.i64.wrap (18 + 4) = 22 := by decide
  have w5 : IntKind.i64.wrap 23 = 23 := by decide
  have y5 : IntKind.i64.wrap (18 + 5) = 23 := by decide
  go_enter Try.func68, Try.ntmps68
  go_wp2
  have HG : Hid ((w.alloc (.cells #[.int .u8 0, .int .u8 0, .int .u8 0, .int .u8 0, .int .u8 0, .int .u8 0] 24)).heap[w.heap.size]? = some (.cells #[.int .u8 0, .int .u8 0, .int .u8 0, .int .u8 0, .int .u8 0, .int .u8 0] 24 (0, 0))) := heap_new _ _
  have HB : Hid (Below w.heap.size w (w.alloc (.cells #[.int .u8 0, .int .u8 0, .int .u8 0, .int .u8 0, .int .u8 0, .int .u8 0] 24))) := bpush (Below.refl _ _) _
  have HC : Hid (∀ w' : World, Below w.heap.size w w' → w'.cell? ⟨b, o + 18, none⟩ = some (.int .u8 z0) ∧ w'.cell? ⟨b, o + 19, none⟩ = some (.int .u8 z1) ∧ w'.cell? ⟨b, o + 20, none⟩ = some (.int .u8 z2) ∧ w'.cell? ⟨b, o + 21, none⟩ = some (.int .u8 z3) ∧ w'.cell? ⟨b, o + 22, none⟩ = some (.int .u8 z4) ∧ w'.cell? ⟨b, o + 23, none⟩ = some (.int .u8 z5)) := fun w' hb =>
    ⟨(hb.cell (p := ⟨b, o + 18, none⟩) hbl).trans c0, (hb.cell (p := ⟨b, o + 19, none⟩) hbl).trans c1, (hb.cell (p := ⟨b, o + 20, none⟩) hbl).trans c2, (hb.cell (p := ⟨b, o + 21, none⟩) hbl).trans c3, (hb.cell (p := ⟨b, o + 22, none⟩) hbl).trans c4, (hb.cell (p := ⟨b, o + 23, none⟩) hbl).trans c5⟩
  clear c0 c1 c2 c3 c4 c5
  go_region_held3 (fun w' => w'.cell? ⟨b, o + 18, none⟩ = some (.int .u8 z0) ∧ w'.cell? ⟨b, o + 19, none⟩ = some (.int .u8 z1) ∧ w'.cell? ⟨b, o + 20, none⟩ = some (.int .u8 z2) ∧ w'.cell? ⟨b, o + 21, none⟩ = some (.int .u8 z3) ∧ w'.cell? ⟨b, o + 22, none⟩ = some (.int .u8 z4) ∧ w'.cell? ⟨b, o + 23, none⟩ = some (.int .u8 z5)) (first | assumption | exact HC.out _ (bpush (Below.refl _ _) _).drew | go_keep) (fail)
  go_wp2
  exact bodyPost_ret (v := .agg #[.int .u8 z0, .int .u8 z1, .int .u8 z2, .int .u8 z3, .int .u8 z4, .int .u8 z5]) (by simp [results, Try.results68, go_sem]) rfl ⟨rfl, (bpush (Below.refl _ _) _).drew⟩
set_option maxHeartbeats 1000000 in
theorem refDecode_short (a : Option Addr) (l c : Nat) (w : World) (h : l < 28) :
    Calls Try.prog 42 #[.slice a l c] w fun e w' => e = .returned (.tuple #[zeroArp.val, .int .i64 5]) ∧ Below w.heap.size w w' := by
  have h1 : (l : Int) < 28 := by omega
  go_enter Try.func42, Try.ntmps42
  go_wp2
  exact bodyPost_ret (v := .tuple #[zeroArp.val, .int .i64 5]) (by simp [results, Try.results42, go_sem, Arp.val, zeroArp, zeroMac]) rfl ⟨rfl, bpush (Below.refl _ _) _⟩
end Go.Proofs.Ytaaoelhmanahpaa
