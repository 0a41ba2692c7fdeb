/-
  Neigh: live.
-/
import Derived.Test.YtaaoelhmanahpaaNLivM
import Derived.BigQuiet
namespace Go.Proofs.Ytaaoelhmanahpaa
open Go.RowKit
set_option linter.all false

structure BoxAB (b : Nat) (x : World) : Prop where
  a : x.heap[b]? = some (.cells #[.int .u8 2, .int .u8 0, .int .u8 0, .int .u8 0, .int .u8 0, .int .u8 10] 24 (0, 0))
  b : x.heap[b + 1]? = some (.cells #[.int .u8 2, .int .u8 0, .int .u8 0, .int .u8 0, .int .u8 0, .int .u8 11] 24 (0, 0))
theorem bab_mk {w : World} {b : Nat} (h : BoxAB b w) : (∀ j, w.cell? ⟨b, j, none⟩ = (#[.int .u8 2, .int .u8 0, .int .u8 0, .int .u8 0, .int .u8 0, .int .u8 10] : Array Value)[j]?) ∧ (∀ j, w.cell? ⟨b + 1, j, none⟩ = (#[.int .u8 2, .int .u8 0, .int .u8 0, .int .u8 0, .int .u8 0, .int .u8 11] : Array Value)[j]?) ∧ BoxAB b w := ⟨fun j => cell_of_heap h.a j, fun j => cell_of_heap h.b j, h⟩
theorem bab_keep {w w' : World} {b : Nat} (h : (∀ j, w.cell? ⟨b, j, none⟩ = (#[.int .u8 2, .int .u8 0, .int .u8 0, .int .u8 0, .int .u8 0, .int .u8 10] : Array Value)[j]?) ∧ (∀ j, w.cell? ⟨b + 1, j, none⟩ = (#[.int .u8 2, .int .u8 0, .int .u8 0, .int .u8 0, .int .u8 0, .int .u8 11] : Array Value)[j]?) ∧ BoxAB b w) (hb : Below w.heap.size w w') : (∀ j, w'.cell? ⟨b, j, none⟩ = (#[.int .u8 2, .int .u8 0, .int .u8 0, .int .u8 0, .int .u8 0, .int .u8 10] : Array Value)[j]?) ∧ (∀ j, w'.cell? ⟨b + 1, j, none⟩ = (#[.int .u8 2, .int .u8 0, .int .u8 0, .int .u8 0, .int .u8 0, .int .u8 11] : Array Value)[j]?) ∧ BoxAB b w' := bab_mk ⟨kept h.2.2.a hb, kept h.2.2.b hb⟩
set_option maxRecDepth 40000 in
set_option maxHeartbeats 16000000 in
theorem live_any (w : World) : Calls Try.prog 6 #[] w fun e w' => e = .returned (.bool true) ∧ Below w.heap.size w w' := by
  have HRA := hid (fun w1 => refAsk_any aM 167772170 167772161 w1)
  have HRT := hid (fun w1 => refTell_any bM (askP aM 167772170 167772161) w1)
  have HRP := hid (fun w1 => refProbe_any bM 167772170 w1)
  have HO1 := hid (fun w1 c m K (h : LV w w1 c m lS3 K) => lvOn1 h)
  have HO2 := hid (fun w1 c m K (h : LV w w1 c m lS4 K) => lvOn2 h)
  simp only [Arp.val, tellP, askP, Mac.val, aM, bM, zeroMac] at HRA HRT HRP HO1 HO2
  go_enter Try.func6, Try.ntmps6
  go_wp2_with fail
  refine (lvNew w).mono ?_
  rintro e w1 ⟨c, m, rfl, HL⟩
  have ha := HL.out.cell (g := w.heap.size) (List.Mem.head _)
  go_wp2_with fail
  refine (lvNil HL.out).mono ?_
  rintro e w2 ⟨rfl, HL2⟩
  clear ha HL
  have hcc := conv_const w2.heap.size w2 #[.int .u8 112] 1 1 rfl
  go_wp2_with fail
  refine (lvAsk1 HL2.out).mono ?_
  rintro e w3 ⟨gl, Cl, cpl, rfl, HCL, HL3⟩
  clear hcc HL2
  have hcc := conv_const w3.heap.size w3 #[.int .u8 114] 1 1 rfl
  go_wp2_with fail
  refine (lvAsk2 HL3.out).mono ?_
  rintro e w4 ⟨am, cpm, rfl, HL4⟩
  clear hcc HL3
  go_wp2_with fail
  refine (lvNext HL4.out).mono ?_
  rintro e w5 ⟨rfl, HL5⟩
  clear HL4
  go_wp2_with fail
  refine (lvTick HL5.out).mono ?_
  rintro e w6 ⟨ak, cpk, rfl, HL6⟩
  clear HL5
  go_wp2_with fail
  have HAB : Hid ((∀ j, w6.drew.cell? ⟨w.heap.size, j, none⟩ = (#[.int .u8 2, .int .u8 0, .int .u8 0, .int .u8 0, .int .u8 0, .int .u8 10] : Array Value)[j]?) ∧ (∀ j, w6.drew.cell? ⟨w.heap.size + 1, j, none⟩ = (#[.int .u8 2, .int .u8 0, .int .u8 0, .int .u8 0, .int .u8 0, .int .u8 11] : Array Value)[j]?) ∧ BoxAB w.heap.size w6.drew) := bab_mk (w := w6.drew) ⟨HL6.out.at (List.Mem.tail _ (List.Mem.head _)), HL6.out.at (List.Mem.tail _ (List.Mem.tail _ (List.Mem.head _)))⟩
  go_region_held_law (fun x => (∀ j, x.cell? ⟨w.heap.size, j, none⟩ = (#[.int .u8 2, .int .u8 0, .int .u8 0, .int .u8 0, .int .u8 0, .int .u8 10] : Array Value)[j]?) ∧ (∀ j, x.cell? ⟨w.heap.size + 1, j, none⟩ = (#[.int .u8 2, .int .u8 0, .int .u8 0, .int .u8 0, .int .u8 0, .int .u8 11] : Array Value)[j]?) ∧ BoxAB w.heap.size x) (first
    | assumption
    | exact HAB.out
    | exact HAB9.out
    | (refine bab_keep ?_ hb8; first | assumption | exact HAB.out)
    | (refine bab_keep ?_ hb7; first | assumption | exact HAB.out)) (first
    | (go_at_call 24; refine (HRA.out _).mono ?_; rintro e w7 ⟨rfl, hb7⟩)
    | (go_at_call 23; refine (HRT.out _).mono ?_; rintro e w8 ⟨rfl, hb8⟩; have HL8 := hid (HL6.out.bel (bstep (bundrew hb7) hb8)))
    | (go_at_call 18; refine (HO1.out _ _ _ _ HL8.out).mono ?_; rintro e w9 ⟨go, Co, cpo, gd, D, ad, cpd, rfl, HCO, HRO, HL9⟩; have HAB9 := hid (bab_mk (b := w.heap.size) ⟨HL9.out.at (List.Mem.tail _ (List.Mem.tail _ (List.Mem.tail _ (List.Mem.head _)))), HL9.out.at (List.Mem.tail _ (List.Mem.tail _ (List.Mem.tail _ (List.Mem.tail _ (List.Mem.head _)))))⟩))
    | fail)
  all_goals
    clear HAB
    go_wp2_with fail
    refine (lvLook1 HL9.out).mono ?_
    rintro e w10 ⟨gx, Cx, cpx, rfl, HCX, HL10⟩
    have hb := HL10.out.cell (g := w.heap.size + 1) (List.Mem.tail _ (List.Mem.tail _ (List.Mem.tail _ (List.Mem.tail _ (List.Mem.tail _ (List.Mem.head _))))))
    clear HL9
    go_wp2_with fail
    refine (HRP.out _).mono ?_
    rintro e w11 ⟨rfl, hb11⟩
    have HL11 := hid (HL10.out.bel hb11)
    clear hb HL10 hb11
    go_wp2_with fail
    refine (HO2.out _ _ _ _ HL11.out).mono ?_
    rintro e w12 ⟨ay, cpy, rfl, HL12⟩
    clear HL11
    go_wp2_with fail
    refine (lvClear HL12.out).mono ?_
    rintro e w13 ⟨rfl, HL13⟩
    clear HL12
    go_wp2_with fail
    refine (lvLook2 HL13.out).mono ?_
    rintro e w14 ⟨az, cpz, rfl, HL14⟩
    clear HL13
    have hl6 : w14.cell? ⟨gl, 6, none⟩ = some (.int .i64 2054) := by rw [HL14.out.cell (g := gl) (List.Mem.tail _ (List.Mem.tail _ (List.Mem.tail _ (List.Mem.head _))))]; exact HCL.out
    have hoc := fun j => HL14.out.cell (g := go) (List.Mem.tail _ (List.Mem.head _)) j
    have ho0 : w14.cell? ⟨go, 0, none⟩ = some (.int .u8 2) := by rw [hoc]; exact HCO.out 0 _ rfl
    have ho1 : w14.cell? ⟨go, 1, none⟩ = some (.int .u8 0) := by rw [hoc]; exact HCO.out 1 _ rfl
    have ho2 : w14.cell? ⟨go, 2, none⟩ = some (.int .u8 0) := by rw [hoc]; exact HCO.out 2 _ rfl
    have ho3 : w14.cell? ⟨go, 3, none⟩ = some (.int .u8 0) := by rw [hoc]; exact HCO.out 3 _ rfl
    have ho4 : w14.cell? ⟨go, 4, none⟩ = some (.int .u8 0) := by rw [hoc]; exact HCO.out 4 _ rfl
    have ho5 : w14.cell? ⟨go, 5, none⟩ = some (.int .u8 11) := by rw [hoc]; exact HCO.out 5 _ rfl
    have ho7 : w14.cell? ⟨go, 7, none⟩ = some (.slice ad 1 cpd) := by rw [hoc]; exact HCO.out 7 _ rfl
    have hxc := fun j => HL14.out.cell (g := gx) (List.Mem.head _) j
    have hx1 : w14.cell? ⟨gx, 1, none⟩ = some (.int .u8 2) := by rw [hxc]; exact HCX.out 1 _ rfl
    have hx2 : w14.cell? ⟨gx, 2, none⟩ = some (.int .u8 0) := by rw [hxc]; exact HCX.out 2 _ rfl
    have hx3 : w14.cell? ⟨gx, 3, none⟩ = some (.int .u8 0) := by rw [hxc]; exact HCX.out 3 _ rfl
    have hx4 : w14.cell? ⟨gx, 4, none⟩ = some (.int .u8 0) := by rw [hxc]; exact HCX.out 4 _ rfl
    have hx5 : w14.cell? ⟨gx, 5, none⟩ = some (.int .u8 0) := by rw [hxc]; exact HCX.out 5 _ rfl
    have hx6 : w14.cell? ⟨gx, 6, none⟩ = some (.int .u8 11) := by rw [hxc]; exact HCX.out 6 _ rfl
    have hx8 : w14.cell? ⟨gx, 8, none⟩ = some (.int .i64 612) := by rw [hxc]; exact HCX.out 8 _ rfl
    have hb := HL14.out.cell (g := w.heap.size + 1) (List.Mem.tail _ (List.Mem.tail _ (List.Mem.tail _ (List.Mem.tail _ (List.Mem.tail _ (List.Mem.head _))))))
    have hcv : ∀ n, (convert 40 9 (.slice ad 1 cpd)).run Try.prog (w14.drewN n) = .ok (.string ⟨#[114]⟩) (w14.drewN n) := fun n => by
      have := Row.conv0 (w := w14.drewN n) (zs := [114]) (HRO.out (w14.drewN n) (HL14.out.at (List.Mem.tail _ (List.Mem.tail _ (List.Mem.head _))))) (by simp)
      exact this
    have hcv0 := hcv 0
    have qm : ∀ wx : World, (Op.equalIn 10000 24 (.agg #[.int .u8 2, .int .u8 0, .int .u8 0, .int .u8 0, .int .u8 0, .int .u8 11]) (.agg #[.int .u8 2, .int .u8 0, .int .u8 0, .int .u8 0, .int .u8 0, .int .u8 11])).run Try.prog wx = .ok true wx := fun wx => by
      have := mac_eq bM bM (by simp [Mac.ok, bM]) (by simp [Mac.ok, bM]) wx
      rw [decide_eq_true rfl] at this
      exact this
    clear hoc hxc HCL HCO HCX HRO
    go_wp2_with fail
    simp only [List.append_eq, List.cons_append, List.nil_append]
    go_quiet (fail)
    go_wp2_with fail
    go_ret
    exact ⟨rfl, HL14.out.below.trans ((bdrewN _ nq).mono HL14.out.below.size)⟩
end Go.Proofs.Ytaaoelhmanahpaa
