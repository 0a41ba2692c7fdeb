import Derived.Test.YtgcpoanjjgbfjaaLzJj
/-
  Lease: the call On; New, Next, State, Held. Written by mklzond.py.
-/
namespace Go.Proofs.Ytgcpoanjjgbfjaa
open Go.RowKit
set_option linter.all false

set_option maxRecDepth 20000 in
set_option maxHeartbeats 1000000 in
theorem gatherOn (w : World) (p pd : Nat) (ab : Option Nat) (cl : Cl) (zs : List Int) (cb nb mb : Nat) (now : Int) (m : Bp) (hm : m.ok) (a : Option Addr) (c : Nat) (os : List OP) (h : CD w p pd ab cl zs) (hc : CapB p cb nb now w) (hmb : MsB mb (m.cells (.slice a os.length c)) w) (hov : OVX p pd w a os) :
    Calls Try.prog 14 #[.pointer (some ⟨pd, 0, none⟩), .func (.func 21) #[] #[.pointer (some ⟨cb, 0, none⟩), .pointer (some ⟨nb, 0, none⟩), .pointer (some ⟨mb, 0, none⟩)]] w fun e w' => ∃ a1 n1 cp1, e = .returned (.slice a1 n1 cp1) ∧ Hid (CallI w p pd ab (onS m (absO os) now ⟨cl, zs, []⟩) a1 n1 cp1 w') := by
  obtain ⟨wA, hwA⟩ : ∃ W, W = w.alloc (.cells #[.slice none 0 0] 34) := ⟨_, rfl⟩
  obtain ⟨gA, hgA⟩ : ∃ g, g = w.heap.size := ⟨_, rfl⟩
  have hl := h.start hwA hgA
  have hb : Below w.heap.size w wA := by rw [hwA]; exact bpush (Below.refl _ _) _
  have hcA := hc.stay (Stay.of_below hb)
  have hmA := hmb.stay (Stay.of_below hb)
  have HCL : Hid (Calls Try.prog 21 #[turnV pd gA, .pointer (some ⟨cb, 0, none⟩), .pointer (some ⟨nb, 0, none⟩), .pointer (some ⟨mb, 0, none⟩)] wA fun e w' => e = .returned (.tuple #[]) ∧ Hid (LW w p pd gA ab (onS m (absO os) now ⟨cl, zs, []⟩) w')) := (onC_any cb nb mb now m hm a c os wA hl (by simp) hcA hmA hov).mono fun e w' ⟨k1, k2⟩ => ⟨k1, k2.out.1⟩
  have mf : ∀ (fn : Fn) (first cap : Array Value) (w : World), (Instr.makeFunc fn first cap).run Try.prog w = .ok (.func fn first cap) w := fun _ _ _ _ => rfl
  clear h hc hl hb hcA hmA hmb hov
  generalize hres : (onS m (absO os) now ⟨cl, zs, []⟩) = sR at *
  unfold turnV at *
  go_enter Try.func14, Try.ntmps14
  go_upto_region 2 with (fail)
  rw [← hwA, ← hgA]
  clear hwA hgA
  go_wp2_with (first
    | (go_at_call 21; refine HCL.out.mono ?_; rintro e w2 ⟨rfl, H2⟩; obtain ⟨av, nv, cv, E, v1, v2, v3⟩ := H2.out.var; have cA := cell_of_heap v1 0; simp only [List.getElem?_toArray, List.getElem?_cons_zero] at cA; have HV2 := hid v2; have HV3 := hid v3; clear v1 v2 v3)
    | fail)
  go_ret
  exact ⟨av, nv, cv, rfl, CallI.of H2.out HV2.out HV3.out (Below.refl _ _)⟩
set_option maxRecDepth 20000 in
set_option maxHeartbeats 1000000 in
theorem on_any (w : World) (p pd : Nat) (ab : Option Nat) (cl : Cl) (zs : List Int) (frm now : Int) (m : Bp) (hm : m.ok) (a : Option Addr) (c : Nat) (os : List OP) (h : CD w p pd ab cl zs) (hov : OVX p pd w a os) :
    Calls Try.prog 10 #[.pointer (some ⟨p, 0, none⟩), .int .u32 frm, .agg (m.cells (.slice a os.length c)), .int .i64 now, .pointer (some ⟨pd, 0, none⟩)] w fun e w' => ∃ a1 n1 cp1, e = .returned (.slice a1 n1 cp1) ∧ Hid (CallI w p pd ab (onS m (absO os) now ⟨cl, zs, []⟩) a1 n1 cp1 w') := by
  obtain ⟨wa, hwa⟩ : ∃ W, W = w.alloc (.cells #[.pointer (some ⟨p, 0, none⟩)] 26) := ⟨_, rfl⟩
  obtain ⟨cb, hcb⟩ : ∃ g, g = w.heap.size := ⟨_, rfl⟩
  obtain ⟨wm, hwm⟩ : ∃ W, W = wa.alloc (.cells (m.cells (.slice a os.length c)) 41) := ⟨_, rfl⟩
  obtain ⟨mb, hmb⟩ : ∃ g, g = cb + 1 := ⟨_, rfl⟩
  obtain ⟨wt, hwt⟩ : ∃ W, W = wm.alloc (.cells #[.int .i64 now] 3) := ⟨_, rfl⟩
  obtain ⟨nb, hnb⟩ : ∃ g, g = cb + 1 + 1 := ⟨_, rfl⟩
  have sa : wa.heap.size = mb := by rw [hwa, hmb, hcb]; simp
  have sm : wm.heap.size = nb := by rw [hwm, hnb]; simp; rw [sa, hmb]
  have ba : Below w.heap.size w wa := by rw [hwa]; exact bpush (Below.refl _ _) _
  have bm : Below wa.heap.size wa wm := by rw [hwm]; exact bpush (Below.refl _ _) _
  have bt : Below wm.heap.size wm wt := by rw [hwt]; exact bpush (Below.refl _ _) _
  have HB := hid (bstep (bstep ba bm) bt)
  have hcap : CapB p cb nb now wt := ⟨kept (kept (by rw [hwa, hcb]; exact heap_new _ _) bm) bt, by rw [hwt, ← sm]; exact heap_new _ _⟩
  have hms : MsB mb (m.cells (.slice a os.length c)) wt := kept (by rw [hwm, ← sa]; exact heap_new _ _) bt
  have HGA := hid (gatherOn wt p pd ab cl zs cb nb mb now m hm a c os (h.below HB.out) hcap hms (hov.below HB.out))
  have mf : ∀ (fn : Fn) (first cap : Array Value) (w : World), (Instr.makeFunc fn first cap).run Try.prog w = .ok (.func fn first cap) w := fun _ _ _ _ => rfl
  clear h ba bm bt hcap hms hov hm
  generalize hres : (onS m (absO os) now ⟨cl, zs, []⟩) = sR at *
  unfold Bp.cells at *
  generalize os.length = n at *
  go_enter Try.func10, Try.ntmps10
  go_upto_region 1 with (fail)
  rw [← hwa, ← hcb, ← hwm, ← hnb, ← hmb, ← hwt]
  clear hwa hcb hwm hmb hnb hwt sa sm
  go_wp2_with (first
    | (go_at_call 14; refine HGA.out.mono ?_; rintro e w2 ⟨av, nv, cv, rfl, H2⟩)
    | fail)
  go_ret
  exact ⟨av, nv, cv, rfl, H2.out.from HB.out⟩
/-! ### New, Next, Held -/
def Cl.new (own : Mac) : Cl := ⟨own, 0, 0, 0, 0, 0, Ls.zero, 0, -1⟩
theorem Cl.new_ok {own : Mac} (h : own.ok) : (Cl.new own).ok := ⟨h, by simp [Cl.new], by simp [Cl.new], by simp [Cl.new, U32], by simp [Cl.new], by simp [Cl.new], Ls.zero_ok, by simp [Cl.new], by simp [Cl.new, Tm]⟩
set_option maxRecDepth 20000 in
set_option maxHeartbeats 1000000 in
theorem lnew_any (own : Mac) (w : World) :
    Calls Try.prog 5 #[own.val] w fun e w' => ∃ p, e = .returned (.pointer (some ⟨p, 0, none⟩)) ∧ Hid (BoxC w' p (Cl.new own) ∧ w.heap.size ≤ p ∧ Below w.heap.size w w') := by
  obtain ⟨b0, b1, b2, b3, b4, b5⟩ := own
  have hb : Below w.heap.size w (w.alloc (.cells #[.int .u8 b0, .int .u8 b1, .int .u8 b2, .int .u8 b3, .int .u8 b4, .int .u8 b5] 25)) := bpush (Below.refl _ _) _
  have HB := hid hb
  unfold Mac.val
  go_enter Try.func5, Try.ntmps5
  go_wp2
  go_ret
  refine ⟨_, rfl, ?_, by simp, bpush HB.out _⟩
  have h9 := heap_new (w.alloc (.cells #[.int .u8 b0, .int .u8 b1, .int .u8 b2, .int .u8 b3, .int .u8 b4, .int .u8 b5] 25)) (.cells (Cl.new ⟨b0, b1, b2, b3, b4, b5⟩).cells 53)
  rw [World.size_alloc] at h9
  exact h9
set_option maxHeartbeats 400000 in
theorem lnext_any {p : Nat} {c : Cl} (w : World) (h : BoxC w p c) :
    Calls Try.prog 7 #[.pointer (some ⟨p, 0, none⟩)] w fun e w' => e = .returned (.tuple #[.int .i64 (if c.due = -1 then 0 else c.due), .bool (c.due != -1)]) ∧ w' = w := by
  have c22 : w.cell? ⟨p, 22, none⟩ = some (.int .i64 c.due) := (h.at 22).trans rfl
  clear h
  generalize c.due = d at *
  by_cases hd : d = -1
  · subst hd
    go_enter Try.func7, Try.ntmps7
    go_wp2
    refine bodyPost_ret (results_tmp2 rfl _ _ _) rfl ?_
    exact ⟨rfl, rfl⟩
  · have hd' : (d == -1) = false := by simpa using hd
    have hd2 : (d != -1) = true := by simpa using hd
    rw [if_neg hd, hd2]
    clear hd2
    go_enter Try.func7, Try.ntmps7
    go_wp2
    refine bodyPost_ret (results_tmp2 rfl _ _ _) rfl ?_
    exact ⟨rfl, rfl⟩
end Go.Proofs.Ytgcpoanjjgbfjaa

/-
  Lease: State, Held. Written by mklzone.py.
-/
namespace Go.Proofs.Ytgcpoanjjgbfjaa
open Go.RowKit
set_option linter.all false

def Cl.stt (c : Cl) : Array Value := #[.int .i64 c.st, .int .u32 c.xid, .int .u32 c.l.ip, .int .u32 c.l.m, .int .u32 c.l.r, .int .u32 c.l.sv, .int .u32 c.l.nx, .string c.l.file, .int .i64 c.l.frm, .int .i64 c.l.t1, .int .i64 c.l.t2, .int .i64 c.l.un, .int .i64 c.tries, .int .i64 c.due]
theorem zeroSt : (Try.prog.info? 48).map (·.zero) = some (some (.agg #[.int .i64 0, .int .u32 0, .int .u32 0, .int .u32 0, .int .u32 0, .int .u32 0, .int .u32 0, .string noText, .int .i64 0, .int .i64 0, .int .i64 0, .int .i64 0, .int .i64 0, .int .i64 0])) := by kernel_rfl
theorem infoSt : (Try.prog.info? 48).map (·.size) = some 14 := by kernel_rfl
theorem BoxC.lrow {w : World} {p : Nat} {c : Cl} (h : BoxC w p c) : w.rangeAt p 11 c.l.cells.toList := fun j v hj => by
  rw [h.at]
  match j, hj with
  | 0, hj => exact hj | 1, hj => exact hj | 2, hj => exact hj | 3, hj => exact hj | 4, hj => exact hj
  | 5, hj => exact hj | 6, hj => exact hj | 7, hj => exact hj | 8, hj => exact hj | 9, hj => exact hj
  | k + 10, hj => simp [Ls.cells] at hj
set_option maxRecDepth 20000 in
set_option maxHeartbeats 1000000 in
theorem lstate_any {p : Nat} {c : Cl} (w : World) (h : BoxC w p c) :
    Calls Try.prog 12 #[.pointer (some ⟨p, 0, none⟩)] w fun e w' => e = .returned (.agg c.stt) ∧ Hid (Below w.heap.size w w') := by
  obtain ⟨wa, hwa⟩ : ∃ W, W = w.alloc (.cells #[.int .i64 0, .int .u32 0, .int .u32 0, .int .u32 0, .int .u32 0, .int .u32 0, .int .u32 0, .string noText, .int .i64 0, .int .i64 0, .int .i64 0, .int .i64 0, .int .i64 0, .int .i64 0] 48) := ⟨_, rfl⟩
  obtain ⟨gr, hgr⟩ : ∃ g, g = w.heap.size := ⟨_, rfl⟩
  have HG : Hid (wa.heap[gr]? = some (.cells #[.int .i64 0, .int .u32 0, .int .u32 0, .int .u32 0, .int .u32 0, .int .u32 0, .int .u32 0, .string noText, .int .i64 0, .int .i64 0, .int .i64 0, .int .i64 0, .int .i64 0, .int .i64 0] 48 (0, 0))) := by rw [hwa, hgr]; exact heap_new _ _
  have ba : Below w.heap.size w wa := by rw [hwa]; exact bpush (Below.refl _ _) _
  have HB := hid ba
  have HLE : Hid (w.heap.size ≤ gr) := by rw [hgr]; exact Nat.le_refl _
  have hk : BoxC wa p c := kept h ba
  have h11 := hk.lrow
  have h7 : wa.cell? ⟨p, 7, none⟩ = some (.int .i64 c.st) := (hk.at 7).trans rfl
  have h8 : wa.cell? ⟨p, 8, none⟩ = some (.int .u32 c.xid) := (hk.at 8).trans rfl
  have h21 : wa.cell? ⟨p, 21, none⟩ = some (.int .i64 c.tries) := (hk.at 21).trans rfl
  have h22 : wa.cell? ⟨p, 22, none⟩ = some (.int .i64 c.due) := (hk.at 22).trans rfl
  unfold Cl.stt Ls.cells at *
  clear h ba hk
  generalize c.l = l at *
  generalize c.st = st at *
  generalize c.xid = xid at *
  generalize c.tries = tries at *
  generalize c.due = due at *
  go_enter Try.func12, Try.ntmps12
  go_upto_region 1 with (first
    | (refine wpList_alloc_to rfl 48 rfl #[.int .i64 0, .int .u32 0, .int .u32 0, .int .u32 0, .int .u32 0, .int .u32 0, .int .u32 0, .string noText, .int .i64 0, .int .i64 0, .int .i64 0, .int .i64 0, .int .i64 0, .int .i64 0] zeroSt ?_)
    | fail)
  rw [← hwa, ← hgr]
  try simp only [Act.put, List.setIfInBounds_toArray, List.set_cons_zero, List.set_cons_succ]
  have xx : wa.drew.rangeAt p 11 [.int .u32 l.ip, .int .u32 l.m, .int .u32 l.r, .int .u32 l.sv, .int .u32 l.nx, .string l.file, .int .i64 l.frm, .int .i64 l.t1, .int .i64 l.t2, .int .i64 l.un] ∧ wa.drew.cell? ⟨p, 7, none⟩ = some (.int .i64 st) ∧ wa.drew.cell? ⟨p, 8, none⟩ = some (.int .u32 xid) ∧ wa.drew.cell? ⟨p, 21, none⟩ = some (.int .i64 tries) ∧ wa.drew.cell? ⟨p, 22, none⟩ = some (.int .i64 due) := ⟨h11, h7, h8, h21, h22⟩
  clear hwa hgr h11 h7 h8 h21 h22
  refine wp_region_noPanic ?_
  refine wp_region_last (S := fun w' => w'.rangeAt p 11 [.int .u32 l.ip, .int .u32 l.m, .int .u32 l.r, .int .u32 l.sv, .int .u32 l.nx, .string l.file, .int .i64 l.frm, .int .i64 l.t1, .int .i64 l.t2, .int .i64 l.un] ∧ w'.cell? ⟨p, 7, none⟩ = some (.int .i64 st) ∧ w'.cell? ⟨p, 8, none⟩ = some (.int .u32 xid) ∧ w'.cell? ⟨p, 21, none⟩ = some (.int .i64 tries) ∧ w'.cell? ⟨p, 22, none⟩ = some (.int .i64 due)) 21 (by kernel_rfl) xx (fun hHeld => ?_)
  refine wpLast_take (i := 0) (n := 12) (oi := { dst := some 3, op := .move (.tmp 0), type := _, pos := _, after := _, guard := none }) (v := .pointer (some ⟨p, 0, none⟩)) rfl (by kernel_rfl) (by kernel_rfl) (by kernel_rfl) (by kernel_rfl) (fun _ _ _ h => h) (Or.inl ⟨by rfl, fun wq hSw => by (try dsimp only at hSw); go_simp⟩) (by assumption) ?_
  try simp only [Act.put, List.setIfInBounds_toArray, List.set_cons_zero, List.set_cons_succ]
  refine wpLast_take (i := 1) (n := 12) (oi := { dst := some 4, op := .nilCheck (.tmp 3), type := _, pos := _, after := _, guard := none }) (v := .pointer (some ⟨p, 0, none⟩)) rfl (by kernel_rfl) (by kernel_rfl) (by kernel_rfl) (by kernel_rfl) (fun _ _ _ h => h) (Or.inl ⟨by rfl, fun wq hSw => by (try dsimp only at hSw); go_simp⟩) (by assumption) ?_
  try simp only [Act.put, List.setIfInBounds_toArray, List.set_cons_zero, List.set_cons_succ]
  refine wpLast_take (i := 2) (n := 12) (oi := { dst := some 5, op := .fieldAddr 53 (.tmp 4) 2, type := _, pos := _, after := _, guard := none }) (v := .pointer (some ⟨p, 7, none⟩)) rfl (by kernel_rfl) (by kernel_rfl) (by kernel_rfl) (by kernel_rfl) (fun _ _ _ h => h) (Or.inl ⟨by rfl, fun wq hSw => by (try dsimp only at hSw); go_simp⟩) (by assumption) ?_
  try simp only [Act.put, List.setIfInBounds_toArray, List.set_cons_zero, List.set_cons_succ]
  refine wpLast_take (i := 3) (n := 12) (oi := { dst := some 6, op := .load 3 (.tmp 5), type := _, pos := _, after := _, guard := none }) (v := .int .i64 st) rfl (by kernel_rfl) (by kernel_rfl) (by kernel_rfl) (by kernel_rfl) (fun _ _ _ h => h) (Or.inl ⟨by rfl, fun wq hSw => by (try dsimp only at hSw); go_simp⟩) (by assumption) ?_
  try simp only [Act.put, List.setIfInBounds_toArray, List.set_cons_zero, List.set_cons_succ]
  refine wpLast_take (i := 4) (n := 12) (oi := { dst := some 7, op := .move (.tmp 0), type := _, pos := _, after := _, guard := none }) (v := .pointer (some ⟨p, 0, none⟩)) rfl (by kernel_rfl) (by kernel_rfl) (by kernel_rfl) (by kernel_rfl) (fun _ _ _ h => h) (Or.inl ⟨by rfl, fun wq hSw => by (try dsimp only at hSw); go_simp⟩) (by assumption) ?_
  try simp only [Act.put, List.setIfInBounds_toArray, List.set_cons_zero, List.set_cons_succ]
  refine wpLast_take (i := 5) (n := 12) (oi := { dst := some 8, op := .nilCheck (.tmp 7), type := _, pos := _, after := _, guard := none }) (v := .pointer (some ⟨p, 0, none⟩)) rfl (by kernel_rfl) (by kernel_rfl) (by kernel_rfl) (by kernel_rfl) (fun _ _ _ h => h) (Or.inl ⟨by rfl, fun wq hSw => by (try dsimp only at hSw); go_simp⟩) (by assumption) ?_
  try simp only [Act.put, List.setIfInBounds_toArray, List.set_cons_zero, List.set_cons_succ]
  refine wpLast_take (i := 6) (n := 12) (oi := { dst := some 9, op := .fieldAddr 53 (.tmp 8) 3, type := _, pos := _, after := _, guard := none }) (v := .pointer (some ⟨p, 8, none⟩)) rfl (by kernel_rfl) (by kernel_rfl) (by kernel_rfl) (by kernel_rfl) (fun _ _ _ h => h) (Or.inl ⟨by rfl, fun wq hSw => by (try dsimp only at hSw); go_simp⟩) (by assumption) ?_
  try simp only [Act.put, List.setIfInBounds_toArray, List.set_cons_zero, List.set_cons_succ]
  refine wpLast_take (i := 7) (n := 12) (oi := { dst := some 10, op := .load 30 (.tmp 9), type := _, pos := _, after := _, guard := none }) (v := .int .u32 xid) rfl (by kernel_rfl) (by kernel_rfl) (by kernel_rfl) (by kernel_rfl) (fun _ _ _ h => h) (Or.inl ⟨by rfl, fun wq hSw => by (try dsimp only at hSw); go_simp⟩) (by assumption) ?_
  try simp only [Act.put, List.setIfInBounds_toArray, List.set_cons_zero, List.set_cons_succ]
  refine wpLast_take (i := 8) (n := 12) (oi := { dst := some 11, op := .move (.tmp 0), type := _, pos := _, after := _, guard := none }) (v := .pointer (some ⟨p, 0, none⟩)) rfl (by kernel_rfl) (by kernel_rfl) (by kernel_rfl) (by kernel_rfl) (fun _ _ _ h => h) (Or.inl ⟨by rfl, fun wq hSw => by (try dsimp only at hSw); go_simp⟩) (by assumption) ?_
  try simp only [Act.put, List.setIfInBounds_toArray, List.set_cons_zero, List.set_cons_succ]
  refine wpLast_take (i := 9) (n := 12) (oi := { dst := some 12, op := .nilCheck (.tmp 11), type := _, pos := _, after := _, guard := none }) (v := .pointer (some ⟨p, 0, none⟩)) rfl (by kernel_rfl) (by kernel_rfl) (by kernel_rfl) (by kernel_rfl) (fun _ _ _ h => h) (Or.inl ⟨by rfl, fun wq hSw => by (try dsimp only at hSw); go_simp⟩) (by assumption) ?_
  try simp only [Act.put, List.setIfInBounds_toArray, List.set_cons_zero, List.set_cons_succ]
  refine wpLast_take (i := 10) (n := 12) (oi := { dst := some 13, op := .fieldAddr 53 (.tmp 12) 6, type := _, pos := _, after := _, guard := none }) (v := .pointer (some ⟨p, 11, none⟩)) rfl (by kernel_rfl) (by kernel_rfl) (by kernel_rfl) (by kernel_rfl) (fun _ _ _ h => h) (Or.inl ⟨by rfl, fun wq hSw => by (try dsimp only at hSw); go_simp⟩) (by assumption) ?_
  try simp only [Act.put, List.setIfInBounds_toArray, List.set_cons_zero, List.set_cons_succ]
  refine wpLast_take (i := 11) (n := 12) (oi := { dst := some 14, op := .load 44 (.tmp 13), type := _, pos := _, after := _, guard := none }) (v := .agg #[.int .u32 l.ip, .int .u32 l.m, .int .u32 l.r, .int .u32 l.sv, .int .u32 l.nx, .string l.file, .int .i64 l.frm, .int .i64 l.t1, .int .i64 l.t2, .int .i64 l.un]) rfl (by kernel_rfl) (by kernel_rfl) (by kernel_rfl) (by kernel_rfl) (fun _ _ _ h => h) (yieldsIf_load_mid (by rfl) 44 (.tmp 13) rfl p 11 rfl [.int .u32 l.ip, .int .u32 l.m, .int .u32 l.r, .int .u32 l.sv, .int .u32 l.nx, .string l.file, .int .i64 l.frm, .int .i64 l.t1, .int .i64 l.t2, .int .i64 l.un] _ (fun w hS => hS.1) Try.underlying44 rfl infoLs) (by assumption) ?_
  try simp only [Act.put, List.setIfInBounds_toArray, List.set_cons_zero, List.set_cons_succ]
  refine wpLast_take (i := 12) (n := 12) (oi := { dst := some 15, op := .move (.tmp 0), type := _, pos := _, after := _, guard := none }) (v := .pointer (some ⟨p, 0, none⟩)) rfl (by kernel_rfl) (by kernel_rfl) (by kernel_rfl) (by kernel_rfl) (fun _ _ _ h => h) (Or.inl ⟨by rfl, fun wq hSw => by (try dsimp only at hSw); go_simp⟩) (by assumption) ?_
  try simp only [Act.put, List.setIfInBounds_toArray, List.set_cons_zero, List.set_cons_succ]
  refine wpLast_take (i := 13) (n := 12) (oi := { dst := some 16, op := .nilCheck (.tmp 15), type := _, pos := _, after := _, guard := none }) (v := .pointer (some ⟨p, 0, none⟩)) rfl (by kernel_rfl) (by kernel_rfl) (by kernel_rfl) (by kernel_rfl) (fun _ _ _ h => h) (Or.inl ⟨by rfl, fun wq hSw => by (try dsimp only at hSw); go_simp⟩) (by assumption) ?_
  try simp only [Act.put, List.setIfInBounds_toArray, List.set_cons_zero, List.set_cons_succ]
  refine wpLast_take (i := 14) (n := 12) (oi := { dst := some 17, op := .fieldAddr 53 (.tmp 16) 7, type := _, pos := _, after := _, guard := none }) (v := .pointer (some ⟨p, 21, none⟩)) rfl (by kernel_rfl) (by kernel_rfl) (by kernel_rfl) (by kernel_rfl) (fun _ _ _ h => h) (Or.inl ⟨by rfl, fun wq hSw => by (try dsimp only at hSw); go_simp⟩) (by assumption) ?_
  try simp only [Act.put, List.setIfInBounds_toArray, List.set_cons_zero, List.set_cons_succ]
  refine wpLast_take (i := 15) (n := 12) (oi := { dst := some 18, op := .load 3 (.tmp 17), type := _, pos := _, after := _, guard := none }) (v := .int .i64 tries) rfl (by kernel_rfl) (by kernel_rfl) (by kernel_rfl) (by kernel_rfl) (fun _ _ _ h => h) (Or.inl ⟨by rfl, fun wq hSw => by (try dsimp only at hSw); go_simp⟩) (by assumption) ?_
  try simp only [Act.put, List.setIfInBounds_toArray, List.set_cons_zero, List.set_cons_succ]
  refine wpLast_take (i := 16) (n := 12) (oi := { dst := some 19, op := .move (.tmp 0), type := _, pos := _, after := _, guard := none }) (v := .pointer (some ⟨p, 0, none⟩)) rfl (by kernel_rfl) (by kernel_rfl) (by kernel_rfl) (by kernel_rfl) (fun _ _ _ h => h) (Or.inl ⟨by rfl, fun wq hSw => by (try dsimp only at hSw); go_simp⟩) (by assumption) ?_
  try simp only [Act.put, List.setIfInBounds_toArray, List.set_cons_zero, List.set_cons_succ]
  refine wpLast_take (i := 17) (n := 12) (oi := { dst := some 20, op := .nilCheck (.tmp 19), type := _, pos := _, after := _, guard := none }) (v := .pointer (some ⟨p, 0, none⟩)) rfl (by kernel_rfl) (by kernel_rfl) (by kernel_rfl) (by kernel_rfl) (fun _ _ _ h => h) (Or.inl ⟨by rfl, fun wq hSw => by (try dsimp only at hSw); go_simp⟩) (by assumption) ?_
  try simp only [Act.put, List.setIfInBounds_toArray, List.set_cons_zero, List.set_cons_succ]
  refine wpLast_take (i := 18) (n := 12) (oi := { dst := some 21, op := .fieldAddr 53 (.tmp 20) 8, type := _, pos := _, after := _, guard := none }) (v := .pointer (some ⟨p, 22, none⟩)) rfl (by kernel_rfl) (by kernel_rfl) (by kernel_rfl) (by kernel_rfl) (fun _ _ _ h => h) (Or.inl ⟨by rfl, fun wq hSw => by (try dsimp only at hSw); go_simp⟩) (by assumption) ?_
  try simp only [Act.put, List.setIfInBounds_toArray, List.set_cons_zero, List.set_cons_succ]
  refine wpLast_take (i := 19) (n := 12) (oi := { dst := some 22, op := .load 3 (.tmp 21), type := _, pos := _, after := _, guard := none }) (v := .int .i64 due) rfl (by kernel_rfl) (by kernel_rfl) (by kernel_rfl) (by kernel_rfl) (fun _ _ _ h => h) (Or.inl ⟨by rfl, fun wq hSw => by (try dsimp only at hSw); go_simp⟩) (by assumption) ?_
  try simp only [Act.put, List.setIfInBounds_toArray, List.set_cons_zero, List.set_cons_succ]
  refine wpLast_take (i := 20) (n := 12) (oi := { dst := some 23, op := .build 48 #[(0, .tmp 6), (1, .tmp 10), (2, .tmp 14), (3, .tmp 18), (4, .tmp 22)], type := _, pos := _, after := _, guard := none }) (v := .agg #[.int .i64 st, .int .u32 xid, .int .u32 l.ip, .int .u32 l.m, .int .u32 l.r, .int .u32 l.sv, .int .u32 l.nx, .string l.file, .int .i64 l.frm, .int .i64 l.t1, .int .i64 l.t2, .int .i64 l.un, .int .i64 tries, .int .i64 due]) rfl (by kernel_rfl) (by kernel_rfl) (by kernel_rfl) (by kernel_rfl) (fun _ _ _ h => h) (Or.inl ⟨by rfl, fun wq hSw => by (try dsimp only at hSw); go_simp⟩) (by assumption) ?_
  try simp only [Act.put, List.setIfInBounds_toArray, List.set_cons_zero, List.set_cons_succ]
  refine wpLast_one (i := 21) (o := { dst := none, op := .store 48 (.tmp 2) (.tmp 23), type := _, pos := _, after := _, guard := none }) (by kernel_rfl) rfl (fun K hK => ?_)
  refine step_store_row rfl 48 (.tmp 2) (.tmp 23) rfl gr #[.int .i64 st, .int .u32 xid, .int .u32 l.ip, .int .u32 l.m, .int .u32 l.r, .int .u32 l.sv, .int .u32 l.nx, .string l.file, .int .i64 l.frm, .int .i64 l.t1, .int .i64 l.t2, .int .i64 l.un, .int .i64 tries, .int .i64 due] rfl rfl 48 _ HG.out infoSt rfl (by simp [Value.oneCell']) (fun w2 hw2 hb2 => ?_)
  refine hK _ _ (Or.inl rfl) ?_
  clear hK
  try simp only [Act.put, List.setIfInBounds_toArray, List.set_cons_zero, List.set_cons_succ]
  refine wpLast_done (by kernel_rfl) ?_ _
  refine NoPanic.normal ?_
  go_wp2
  refine bodyPost_ret (v := .agg #[.int .i64 st, .int .u32 xid, .int .u32 l.ip, .int .u32 l.m, .int .u32 l.r, .int .u32 l.sv, .int .u32 l.nx, .string l.file, .int .i64 l.frm, .int .i64 l.t1, .int .i64 l.t2, .int .i64 l.un, .int .i64 tries, .int .i64 due]) ?_ (by rfl) ⟨rfl, bbut HB.out.drew hb2.out HLE.out⟩
  exact results_row1 Try.results12 _ _ gr 48 _ (0, 0) _ rfl hw2.out Try.underlying48 rfl infoSt
set_option maxRecDepth 20000 in
set_option maxHeartbeats 1000000 in
theorem lheld_any {p : Nat} {c : Cl} (w : World) (h : BoxC w p c) :
    Calls Try.prog 11 #[.pointer (some ⟨p, 0, none⟩)] w fun e w' => e = .returned (.tuple #[(if 4 ≤ c.st then c.l else Ls.zero).val, .bool (decide (4 ≤ c.st))]) ∧ Hid (Below w.heap.size w w') := by
  obtain ⟨wa, hwa⟩ : ∃ W, W = w.alloc (.cells #[.int .u32 0, .int .u32 0, .int .u32 0, .int .u32 0, .int .u32 0, .string noText, .int .i64 0, .int .i64 0, .int .i64 0, .int .i64 0] 44) := ⟨_, rfl⟩
  obtain ⟨gr, hgr⟩ : ∃ g, g = w.heap.size := ⟨_, rfl⟩
  have HG : Hid (wa.heap[gr]? = some (.cells #[.int .u32 0, .int .u32 0, .int .u32 0, .int .u32 0, .int .u32 0, .string noText, .int .i64 0, .int .i64 0, .int .i64 0, .int .i64 0] 44 (0, 0))) := by rw [hwa, hgr]; exact heap_new _ _
  have ba : Below w.heap.size w wa := by rw [hwa]; exact bpush (Below.refl _ _) _
  have HB := hid ba
  have HLE : Hid (w.heap.size ≤ gr) := by rw [hgr]; exact Nat.le_refl _
  have hk : BoxC wa p c := kept h ba
  have HHO := hid (lholds_any wa hk)
  have HLR := hid hk.lrow
  clear h ba hk
  by_cases h4 : 4 ≤ c.st
  · rw [if_pos h4]
    rw [decide_eq_true h4] at *
    clear h4
    unfold Ls.val Ls.cells at *
    generalize c.l = l at *
    go_enter Try.func11, Try.ntmps11
    go_upto_region 1 with (first
      | (refine wpList_alloc_to rfl 44 rfl #[.int .u32 0, .int .u32 0, .int .u32 0, .int .u32 0, .int .u32 0, .string noText, .int .i64 0, .int .i64 0, .int .i64 0, .int .i64 0] zeroLs ?_)
      | fail)
    rw [← hwa, ← hgr]
    try simp only [Act.put, List.setIfInBounds_toArray, List.set_cons_zero, List.set_cons_succ]
    clear hwa hgr
    go_wp2_with (first
      | (go_at_call 26; refine HHO.out.mono ?_; rintro e w2 ⟨rfl, rfl⟩)
      | (refine wpList_load_mid rfl 44 _ rfl p 11 rfl [.int .u32 l.ip, .int .u32 l.m, .int .u32 l.r, .int .u32 l.sv, .int .u32 l.nx, .string l.file, .int .i64 l.frm, .int .i64 l.t1, .int .i64 l.t2, .int .i64 l.un] _ HLR.out Try.underlying44 rfl infoLs ?_)
      | (refine wpList_store_row rfl 44 _ _ rfl gr #[.int .u32 l.ip, .int .u32 l.m, .int .u32 l.r, .int .u32 l.sv, .int .u32 l.nx, .string l.file, .int .i64 l.frm, .int .i64 l.t1, .int .i64 l.t2, .int .i64 l.un] rfl rfl 44 _ HG.out infoLs rfl (by simp [Value.oneCell']) ?_)
      | fail)
    refine bodyPost_ret (v := .tuple #[.agg #[.int .u32 l.ip, .int .u32 l.m, .int .u32 l.r, .int .u32 l.sv, .int .u32 l.nx, .string l.file, .int .i64 l.frm, .int .i64 l.t1, .int .i64 l.t2, .int .i64 l.un], .bool true]) ?_ (by rfl) ⟨rfl, bbut HB.out (But.setRow _ _ _) HLE.out⟩
    exact results_row2 Try.results11 _ _ gr 44 _ (0, 0) _ _ rfl rfl (setRow_heap _ _ _ _ _ _ HG.out) Try.underlying44 rfl infoLs
  · rw [if_neg h4]
    rw [decide_eq_false h4] at *
    clear h4
    go_enter Try.func11, Try.ntmps11
    go_upto_region 1 with (first
      | (refine wpList_alloc_to rfl 44 rfl #[.int .u32 0, .int .u32 0, .int .u32 0, .int .u32 0, .int .u32 0, .string noText, .int .i64 0, .int .i64 0, .int .i64 0, .int .i64 0] zeroLs ?_)
      | fail)
    rw [← hwa, ← hgr]
    try simp only [Act.put, List.setIfInBounds_toArray, List.set_cons_zero, List.set_cons_succ]
    clear hwa hgr
    go_wp2_with (first
      | (go_at_call 26; refine HHO.out.mono ?_; rintro e w2 ⟨rfl, rfl⟩)
      | (refine wpList_store_row rfl 44 _ _ rfl gr #[.int .u32 0, .int .u32 0, .int .u32 0, .int .u32 0, .int .u32 0, .string noText, .int .i64 0, .int .i64 0, .int .i64 0, .int .i64 0] rfl rfl 44 _ HG.out infoLs rfl (by simp [Value.oneCell']) ?_)
      | fail)
    refine bodyPost_ret (v := .tuple #[.agg #[.int .u32 0, .int .u32 0, .int .u32 0, .int .u32 0, .int .u32 0, .string noText, .int .i64 0, .int .i64 0, .int .i64 0, .int .i64 0], .bool false]) ?_ (by rfl) ⟨rfl, bbut HB.out (But.setRow _ _ _) HLE.out⟩
    exact results_row2 Try.results11 _ _ gr 44 _ (0, 0) _ _ rfl rfl (setRow_heap _ _ _ _ _ _ HG.out) Try.underlying44 rfl infoLs
end Go.Proofs.Ytgcpoanjjgbfjaa

/-
  Lease: the chapter's first examples, without memory.
-/
namespace Go.Proofs.Ytgcpoanjjgbfjaa
open Go.RowKit
set_option linter.all false

def nxS (s : LS) : LS := ⟨s.c, s.zs, []⟩
def own0 : Mac := ⟨2, 0, 0, 0, 0, 1⟩
def z0 : LS := ⟨Cl.new own0, [7, 0, 0, 9, 9, 9], []⟩
def m0 : Bp := ⟨2, 0, 7, 0, false, 0, 167772165, 0, 0, own0, noText, noText⟩
def g0 : List Opt := [(53, [2]), (54, [10, 0, 0, 1]), (51, [0, 0, 0, 100]), (1, [255, 255, 255, 0])]
def g1 : List Opt := [(53, [5]), (54, [10, 0, 0, 1]), (51, [0, 0, 0, 100]), (1, [255, 255, 255, 0])]
def k1 : LS := startS 1000 z0
def k2 : LS := goOnS 1029 (nxS k1)
def k3 : LS := goOnS 1030 (nxS k2)
def k4 : LS := onS m0 g0 1040 (nxS k3)
def k5 : LS := onS m0 g1 1050 (nxS k4)
def k6 : LS := goOnS 1060 (nxS k5)
def k7 : LS := goOnS 1540 (nxS k6)
theorem k1_due : k1.c.due = 1030 := by kernel_rfl
theorem k1_acts : k1.acts.map (fun a => (a.kind, a.msg.xid, a.dst)) = [(1, 7, 4294967295)] := by kernel_rfl
theorem k2_acts : k2.acts.length = 0 := by kernel_rfl
theorem k3_acts : k3.acts.map (fun a => a.msg.secs) = [3] := by kernel_rfl
theorem k4_acts : k4.acts.map (fun a => a.msg.secs) = [4] := by kernel_rfl
theorem k5_acts : k5.acts.map (fun a => a.kind) = [2] := by kernel_rfl
theorem k6_acts : k6.acts.map (fun a => (a.kind, a.l.un)) = [(3, 2040)] := by kernel_rfl
theorem k6_st : decide (4 ≤ k6.c.st) = true := by kernel_rfl
theorem k6_t1 : k6.c.l.t1 = 1540 := by kernel_rfl
theorem k7_acts : k7.acts.map (fun a => (a.frm, a.dst)) = [(167772165, 167772161)] := by kernel_rfl
theorem k7_st : k7.c.st = 5 := by kernel_rfl
theorem k7_due : k7.c.due = 1915 := by kernel_rfl
theorem k7_xid : k7.c.xid = 9 := by kernel_rfl
end Go.Proofs.Ytgcpoanjjgbfjaa

/-
  Lease: the chapter's first examples in memory: rows of acts that stay, the calls, the options.
-/
namespace Go.Proofs.Ytgcpoanjjgbfjaa
open Go.RowKit
set_option linter.all false

/-- acts that came out of a call, in blocks from B to T. -/
structure RowA (p pd B T : Nat) (w : World) (a : Option Addr) (n c : Nat) (L : List Ac) : Prop where
  act : ∃ E, ActI B w (.slice a n c) E ∧ E.map (·.1) = L ∧ ∀ b, InA (.slice a n c) E b → b < T
  lp : p < B
  ld : pd < B
  lt : T ≤ w.heap.size
theorem RowA.keep {p pd B T : Nat} {w w' : World} {a : Option Addr} {n c : Nat} {L : List Ac} (h : RowA p pd B T w a n c L) (hk : ∀ b, B ≤ b → b < T → w'.heap[b]? = w.heap[b]?) (hs : w.heap.size ≤ w'.heap.size) : RowA p pd B T w' a n c L := by
  obtain ⟨E, h1, h2, h3⟩ := h.act
  exact ⟨⟨E, h1.keep fun b hb => hk b (h1.lt hb).1 (h3 b hb), h2, h3⟩, h.lp, h.ld, Nat.le_trans h.lt hs⟩
theorem RowA.only {p pd B T : Nat} {w w' : World} {a : Option Addr} {n c : Nat} {L : List Ac} (h : RowA p pd B T w a n c L) (ho : Only (fun k => k = p ∨ k = pd) w w') : RowA p pd B T w' a n c L := by
  have := h.lp
  have := h.ld
  have := h.lt
  exact h.keep (fun b h1 h2 => ho.block b (fun e => by rcases e with e | e <;> omega) (by omega)) ho.size
theorem RowA.but {p pd B T g : Nat} {w w' : World} {a : Option Addr} {n c : Nat} {L : List Ac} (h : RowA p pd B T w a n c L) (hb : But g w w') (hg : g < B ∨ T ≤ g) : RowA p pd B T w' a n c L := by
  have := h.lt
  exact h.keep (fun b h1 h2 => hb.block b (by omega) (by omega)) hb.size
theorem RowA.one {p pd B T : Nat} {w : World} {a : Option Addr} {n c : Nat} {x : Ac} (h : RowA p pd B T w a n c [x]) : ∃ g ov, a = some ⟨g, 0, none⟩ ∧ ∀ (j : Nat), j < 31 → w.cell? ⟨g, j, none⟩ = (x.cells ov)[j]? := by
  obtain ⟨E, h1, h2, h3⟩ := h.act
  obtain ⟨q, rfl, hq⟩ := List.map_eq_singleton_iff.1 h2
  clear h2 h3
  obtain ⟨a', c', e⟩ := h1.form
  have hr := h1.row
  clear h1 h
  rw [List.length_singleton] at hr e
  have en : n = 1 := by injection e
  subst en
  obtain ⟨g, e1, e2⟩ := RowS.at0 hr (by decide)
  refine ⟨g, q.2.1, e1, fun j hj => ?_⟩
  have hj' : j < (q.1.cells q.2.1).size := by rw [Ac.size]; exact hj
  have e3 := e2 j ((q.1.cells q.2.1)[j]) (by
    unfold flatA
    rw [List.flatMap_cons, List.flatMap_nil, List.append_nil, Array.getElem?_toList, Array.getElem?_eq_getElem hj'])
  rw [e3, ← hq, Array.getElem?_eq_getElem hj']
theorem one_of {α : Type} {f : Ac → α} {L : List Ac} {y : α} (h : L.map f = [y]) : ∃ x, L = [x] ∧ f x = y := List.map_eq_singleton_iff.1 h
/-- what a call leaves, for those that keep its acts. -/
structure StI (w : World) (p pd : Nat) (ab : Option Nat) (s : LS) (a : Option Addr) (n c : Nat) (w' : World) : Prop where
  cd : CD w' p pd ab s.c s.zs
  row : RowA p pd w.heap.size w'.heap.size w' a n c s.acts
  only : Only (fun k => k = p ∨ k = pd) w w'
theorem CallI.len {w w' : World} {p pd : Nat} {ab : Option Nat} {s : LS} {a : Option Addr} {n c : Nat} (h : CallI w p pd ab s a n c w') : n = s.acts.length := by
  obtain ⟨E, h1, h2⟩ := h.acts
  obtain ⟨a', c', e⟩ := h1.form
  have en : n = E.length := by injection e
  have e2 := congrArg List.length h2
  rw [List.length_map] at e2
  omega
theorem CallI.st {w w' : World} {p pd : Nat} {ab : Option Nat} {s : LS} {a : Option Addr} {n c : Nat} {cl : Cl} {zs : List Int} (h : CallI w p pd ab s a n c w') (hc : CD w p pd ab cl zs) : StI w p pd ab s a n c w' := by
  obtain ⟨E, h1, h2⟩ := h.acts
  exact ⟨h.cd, ⟨⟨E, h1, h2, fun b hb => (h1.lt hb).2⟩, heap_lt hc.box, hc.ldp, Nat.le_refl _⟩, h.only⟩
theorem aw_start (w : World) (p pd : Nat) (ab : Option Nat) (h : CD w p pd ab z0.c z0.zs) :
    Calls Try.prog 8 #[.pointer (some ⟨p, 0, none⟩), .int .i64 1000, .pointer (some ⟨pd, 0, none⟩)] w fun e w' => ∃ a cp, e = .returned (.slice a 1 cp) ∧ Hid (StI w p pd ab k1 a 1 cp w') := (start_any w p pd ab z0.c z0.zs 1000 h).mono fun e w' ⟨a, n, cp, k, H⟩ => by
  have e1 : n = 1 := H.out.len.trans (by kernel_rfl)
  subst e1
  exact ⟨a, cp, k, hid (CallI.st (s := k1) H.out h)⟩
theorem aw_tick (w : World) (p pd : Nat) (ab : Option Nat) (s : LS) (now : Int) (m : Nat) (hm : (goOnS now (nxS s)).acts.length = m) (h : CD w p pd ab s.c s.zs) :
    Calls Try.prog 9 #[.pointer (some ⟨p, 0, none⟩), .int .i64 now, .pointer (some ⟨pd, 0, none⟩)] w fun e w' => ∃ a cp, e = .returned (.slice a m cp) ∧ Hid (StI w p pd ab (goOnS now (nxS s)) a m cp w') := (tick_any w p pd ab s.c s.zs now h).mono fun e w' ⟨a, n, cp, k, H⟩ => by
  have e1 : n = m := H.out.len.trans hm
  subst e1
  exact ⟨a, cp, k, hid (H.out.st h)⟩
theorem own0_ok : own0.ok := by simp [Mac.ok, own0]
theorem m0_ok : m0.ok := ⟨by decide, by decide, by decide, by decide, by decide, by decide, by decide, by decide, own0_ok, by decide, by decide⟩
def os0 (z : Int) (o1 o2 o3 o4 : Nat) : List OP := [(53, ⟨some ⟨o1, 0, none⟩, 1, [z]⟩), (54, ⟨some ⟨o2, 0, none⟩, 4, [10, 0, 0, 1]⟩), (51, ⟨some ⟨o3, 0, none⟩, 4, [0, 0, 0, 100]⟩), (1, ⟨some ⟨o4, 0, none⟩, 4, [255, 255, 255, 0]⟩)]
/-- the options as they lie. -/
structure LaidO (w : World) (g : Nat) (z : Int) (o1 o2 o3 o4 : Nat) : Prop where
  row : w.heap[g]? = some (.cells #[.int .i64 53, .slice (some ⟨o1, 0, none⟩) 1 1, .int .i64 54, .slice (some ⟨o2, 0, none⟩) 4 4, .int .i64 51, .slice (some ⟨o3, 0, none⟩) 4 4, .int .i64 1, .slice (some ⟨o4, 0, none⟩) 4 4] 38 (0, 0))
  d1 : w.heap[o1]? = some (.cells #[.int .u8 z] 5 (0, 0))
  d2 : w.heap[o2]? = some (.cells #[.int .u8 10, .int .u8 0, .int .u8 0, .int .u8 1] 5 (0, 0))
  d3 : w.heap[o3]? = some (.cells #[.int .u8 0, .int .u8 0, .int .u8 0, .int .u8 100] 5 (0, 0))
  d4 : w.heap[o4]? = some (.cells #[.int .u8 255, .int .u8 255, .int .u8 255, .int .u8 0] 5 (0, 0))
theorem LaidO.ovx {w : World} {p pd g : Nat} {z : Int} {o1 o2 o3 o4 : Nat} (h : LaidO w g z o1 o2 o3 o4) (hz : 0 ≤ z ∧ z ≤ 255) (hg : g ≠ p ∧ g ≠ pd) (h1 : o1 ≠ p ∧ o1 ≠ pd) (h2 : o2 ≠ p ∧ o2 ≠ pd) (h3 : o3 ≠ p ∧ o3 ≠ pd) (h4 : o4 ≠ p ∧ o4 ≠ pd) : OVX p pd w (some ⟨g, 0, none⟩) (os0 z o1 o2 o3 o4) := by
  have four : ∀ (o : Nat) (x0 x1 x2 x3 : Int), w.heap[o]? = some (.cells #[.int .u8 x0, .int .u8 x1, .int .u8 x2, .int .u8 x3] 5 (0, 0)) → (0 ≤ x0 ∧ x0 ≤ 255) → (0 ≤ x1 ∧ x1 ≤ 255) → (0 ≤ x2 ∧ x2 ≤ 255) → (0 ≤ x3 ∧ x3 ≤ 255) → Part.ok w ⟨some ⟨o, 0, none⟩, 4, [x0, x1, x2, x3]⟩ := fun o x0 x1 x2 x3 ho b0 b1 b2 b3 => by
    refine ⟨fun y hy => ?_, by simp, Or.inr ⟨o, 0, rfl, fun j hj => ?_⟩⟩
    · simp only [List.mem_cons, List.not_mem_nil, or_false] at hy
      rcases hy with rfl | rfl | rfl | rfl <;> assumption
    · rw [Nat.zero_add, cell_of_heap ho]
      match j, hj with
      | 0, _ => rfl
      | 1, _ => rfl
      | 2, _ => rfl
      | 3, _ => rfl
      | k + 4, hj => exact absurd hj (by show ¬ (k + 4 < 4); omega)
  have p1 : Part.ok w ⟨some ⟨o1, 0, none⟩, 1, [z]⟩ := by
    refine ⟨fun y hy => ?_, by simp, Or.inr ⟨o1, 0, rfl, fun j hj => ?_⟩⟩
    · simp only [List.mem_cons, List.not_mem_nil, or_false] at hy
      subst hy
      exact hz
    · rw [Nat.zero_add, cell_of_heap h.d1]
      match j, hj with
      | 0, _ => rfl
      | k + 1, hj => simp at hj
  have p2 := four o2 _ _ _ _ h.d2 (by decide) (by decide) (by decide) (by decide)
  have p3 := four o3 _ _ _ _ h.d3 (by decide) (by decide) (by decide) (by decide)
  have p4 := four o4 _ _ _ _ h.d4 (by decide) (by decide) (by decide) (by decide)
  refine ⟨⟨fun i o hi => ?_, fun o hi => ?_, by simp [os0], fun o hi => ?_⟩, fun b off e _ => ?_, fun o hi b off e _ => ?_⟩
  · refine ⟨g, 0, rfl, ?_⟩
    rw [cell_of_heap h.row, cell_of_heap h.row]
    match i, hi with
    | 0, hi => cases hi; exact ⟨rfl, rfl⟩
    | 1, hi => cases hi; exact ⟨rfl, rfl⟩
    | 2, hi => cases hi; exact ⟨rfl, rfl⟩
    | 3, hi => cases hi; exact ⟨rfl, rfl⟩
    | k + 4, hi => simp [os0] at hi
  · simp only [os0, List.mem_cons, List.not_mem_nil, or_false] at hi
    rcases hi with rfl | rfl | rfl | rfl
    · exact ⟨p1, by simp⟩
    · exact ⟨p2, by simp⟩
    · exact ⟨p3, by simp⟩
    · exact ⟨p4, by simp⟩
  · simp only [os0, List.mem_cons, List.not_mem_nil, or_false] at hi
    rcases hi with rfl | rfl | rfl | rfl <;> simp
  · simp only [Option.some.injEq, Addr.mk.injEq] at e
    rw [← e.1]
    exact hg
  · simp only [os0, List.mem_cons, List.not_mem_nil, or_false] at hi
    rcases hi with rfl | rfl | rfl | rfl <;> (simp only [Option.some.injEq, Addr.mk.injEq] at e; rw [← e.1]; assumption)
theorem aw_on (z : Int) (w : World) (p pd : Nat) (ab : Option Nat) (s : LS) (now : Int) (g o1 o2 o3 o4 : Nat) (hm : (onS m0 (absO (os0 z o1 o2 o3 o4)) now (nxS s)).acts.length = 1) (h : CD w p pd ab s.c s.zs) (hv : OVX p pd w (some ⟨g, 0, none⟩) (os0 z o1 o2 o3 o4)) :
    Calls Try.prog 10 #[.pointer (some ⟨p, 0, none⟩), .int .u32 0, .agg (m0.cells (.slice (some ⟨g, 0, none⟩) 4 4)), .int .i64 now, .pointer (some ⟨pd, 0, none⟩)] w fun e w' => ∃ a cp, e = .returned (.slice a 1 cp) ∧ Hid (StI w p pd ab (onS m0 (absO (os0 z o1 o2 o3 o4)) now (nxS s)) a 1 cp w') := (on_any w p pd ab s.c s.zs 0 now m0 m0_ok (some ⟨g, 0, none⟩) 4 (os0 z o1 o2 o3 o4) h hv).mono fun e w' ⟨a, n, cp, k, H⟩ => by
  have e1 : n = 1 := H.out.len.trans hm
  subst e1
  exact ⟨a, cp, k, hid (H.out.st h)⟩
end Go.Proofs.Ytgcpoanjjgbfjaa

/-
  Lease: the chapter's first examples: the calls with their numbers, the options' blocks.
-/
namespace Go.Proofs.Ytgcpoanjjgbfjaa
open Go.RowKit
set_option linter.all false

theorem only_at {w w' : World} {p pd g : Nat} {o : Obj} (h : w.heap[g]? = some o) (hp : g ≠ p) (hd : g ≠ pd) (ho : Only (fun k => k = p ∨ k = pd) w w') : w'.heap[g]? = some o := (ho.block g (fun e => e.elim hp hd) (heap_lt h)).trans h
theorem six_allocs (w : World) (a b c d e f : Obj) : ((((((w.alloc a).alloc b).alloc c).alloc d).alloc e).alloc f).heap[w.heap.size]? = some a ∧ ((((((w.alloc a).alloc b).alloc c).alloc d).alloc e).alloc f).heap[w.heap.size + 1]? = some b ∧ ((((((w.alloc a).alloc b).alloc c).alloc d).alloc e).alloc f).heap[w.heap.size + 1 + 1]? = some c ∧ ((((((w.alloc a).alloc b).alloc c).alloc d).alloc e).alloc f).heap[w.heap.size + 1 + 1 + 1]? = some d ∧ ((((((w.alloc a).alloc b).alloc c).alloc d).alloc e).alloc f).heap[w.heap.size + 1 + 1 + 1 + 1]? = some e ∧ ((((((w.alloc a).alloc b).alloc c).alloc d).alloc e).alloc f).heap[w.heap.size + 1 + 1 + 1 + 1 + 1]? = some f ∧ Below w.heap.size w ((((((w.alloc a).alloc b).alloc c).alloc d).alloc e).alloc f) := by
  have n1 := heap_new w a
  have n2 := heap_new (w.alloc a) b
  have n3 := heap_new ((w.alloc a).alloc b) c
  have n4 := heap_new (((w.alloc a).alloc b).alloc c) d
  have n5 := heap_new ((((w.alloc a).alloc b).alloc c).alloc d) e
  have n6 := heap_new (((((w.alloc a).alloc b).alloc c).alloc d).alloc e) f
  simp only [World.size_alloc] at n2 n3 n4 n5 n6
  exact ⟨kept n1 (bpush (bpush (bpush (bpush (bpush (Below.refl _ _) _) _) _) _) _), kept n2 (bpush (bpush (bpush (bpush (Below.refl _ _) _) _) _) _), kept n3 (bpush (bpush (bpush (Below.refl _ _) _) _) _), kept n4 (bpush (bpush (Below.refl _ _) _) _), kept n5 (bpush (Below.refl _ _) _), n6, bpush (bpush (bpush (bpush (bpush (bpush (Below.refl _ _) _) _) _) _) _) _⟩
/-- the options and the message's box as they were made. -/
structure MsgI (w5 w : World) (z : Int) (g o1 o2 o3 o4 mb : Nat) : Prop where
  opts : LaidO w g z o1 o2 o3 o4
  box : w.heap[mb]? = some (.cells #[.int .i64 2, .int .i64 0, .int .u32 7, .int .i64 0, .bool false, .int .u32 0, .int .u32 167772165, .int .u32 0, .int .u32 0, .int .u8 2, .int .u8 0, .int .u8 0, .int .u8 0, .int .u8 0, .int .u8 1, .string noText, .string noText, .slice (some ⟨g, 0, none⟩) 4 4] 41 (0, 0))
  hg : w5.heap.size ≤ g
  h1 : w5.heap.size ≤ o1
  h2 : w5.heap.size ≤ o2 ∧ o2 < g
  h3 : w5.heap.size ≤ o3 ∧ o3 < g
  h4 : w5.heap.size ≤ o4 ∧ o4 < g
  hm : g < mb
theorem aw_laid (w5 wM : World) (h : wM = ((((((w5.alloc (.cells #[.int .u8 2] 5)).alloc (.cells #[.int .u8 10, .int .u8 0, .int .u8 0, .int .u8 1] 5)).alloc (.cells #[.int .u8 0, .int .u8 0, .int .u8 0, .int .u8 100] 5)).alloc (.cells #[.int .u8 255, .int .u8 255, .int .u8 255, .int .u8 0] 5)).alloc (.cells #[.int .i64 53, .slice (some ⟨w5.heap.size, 0, none⟩) 1 1, .int .i64 54, .slice (some ⟨w5.heap.size + 1, 0, none⟩) 4 4, .int .i64 51, .slice (some ⟨w5.heap.size + 1 + 1, 0, none⟩) 4 4, .int .i64 1, .slice (some ⟨w5.heap.size + 1 + 1 + 1, 0, none⟩) 4 4] 38)).alloc (.cells #[.int .i64 2, .int .i64 0, .int .u32 7, .int .i64 0, .bool false, .int .u32 0, .int .u32 167772165, .int .u32 0, .int .u32 0, .int .u8 2, .int .u8 0, .int .u8 0, .int .u8 0, .int .u8 0, .int .u8 1, .string ⟨#[]⟩, .string ⟨#[]⟩, .slice (some ⟨w5.heap.size + 1 + 1 + 1 + 1, 0, none⟩) 4 4] 41))) :
    MsgI w5 wM 2 (w5.heap.size + 1 + 1 + 1 + 1) w5.heap.size (w5.heap.size + 1) (w5.heap.size + 1 + 1) (w5.heap.size + 1 + 1 + 1) (w5.heap.size + 1 + 1 + 1 + 1 + 1) ∧ Below w5.heap.size w5 wM := by
  subst h
  obtain ⟨h1, h2, h3, h4, h5, h6, h7⟩ := six_allocs w5 (.cells #[.int .u8 2] 5) (.cells #[.int .u8 10, .int .u8 0, .int .u8 0, .int .u8 1] 5) (.cells #[.int .u8 0, .int .u8 0, .int .u8 0, .int .u8 100] 5) (.cells #[.int .u8 255, .int .u8 255, .int .u8 255, .int .u8 0] 5) (.cells #[.int .i64 53, .slice (some ⟨w5.heap.size, 0, none⟩) 1 1, .int .i64 54, .slice (some ⟨w5.heap.size + 1, 0, none⟩) 4 4, .int .i64 51, .slice (some ⟨w5.heap.size + 1 + 1, 0, none⟩) 4 4, .int .i64 1, .slice (some ⟨w5.heap.size + 1 + 1 + 1, 0, none⟩) 4 4] 38) (.cells #[.int .i64 2, .int .i64 0, .int .u32 7, .int .i64 0, .bool false, .int .u32 0, .int .u32 167772165, .int .u32 0, .int .u32 0, .int .u8 2, .int .u8 0, .int .u8 0, .int .u8 0, .int .u8 0, .int .u8 1, .string ⟨#[]⟩, .string ⟨#[]⟩, .slice (some ⟨w5.heap.size + 1 + 1 + 1 + 1, 0, none⟩) 4 4] 41)
  exact ⟨⟨⟨h5, h1, h2, h3, h4⟩, h6, by omega, by omega, by omega, by omega, by omega, by omega⟩, h7⟩
theorem CD.but {w w' : World} {p pd g : Nat} {ab : Option Nat} {c : Cl} {zs : List Int} (h : CD w p pd ab c zs) (hb : But g w w') (h1 : g ≠ p) (h2 : g ≠ pd) (h3 : ∀ b, ab = some b → b ≠ g) : CD w' p pd ab c zs := by
  obtain ⟨a, cp, d1, d2⟩ := h.dice
  exact ⟨keptBut h.box hb (Ne.symm h1), ⟨a, cp, d1.keep fun k hk => hb.block k (by
    rcases hk with rfl | hk
    · exact Ne.symm h2
    · exact h3 k (d2.symm.trans hk)) (d1.lt k hk), d2⟩, h.ok⟩
theorem MsgI.ovx {w5 w : World} {z : Int} {g o1 o2 o3 o4 mb p pd : Nat} (h : MsgI w5 w z g o1 o2 o3 o4 mb) (hz : 0 ≤ z ∧ z ≤ 255) (hp : p < w5.heap.size) (hd : pd < w5.heap.size) : OVX p pd w (some ⟨g, 0, none⟩) (os0 z o1 o2 o3 o4) := by
  have h1 := h.hg
  have h2 := h.h1
  have h3 := h.h2
  have h4 := h.h3
  have h5 := h.h4
  exact h.opts.ovx hz ⟨by omega, by omega⟩ ⟨by omega, by omega⟩ ⟨by omega, by omega⟩ ⟨by omega, by omega⟩ ⟨by omega, by omega⟩
theorem MsgI.only {w5 w w' : World} {z : Int} {g o1 o2 o3 o4 mb p pd : Nat} (h : MsgI w5 w z g o1 o2 o3 o4 mb) (hp : p < w5.heap.size) (hd : pd < w5.heap.size) (ho : Only (fun k => k = p ∨ k = pd) w w') : MsgI w5 w' z g o1 o2 o3 o4 mb := by
  have h1 := h.hg
  have h2 := h.h1
  have h3 := h.h2
  have h4 := h.h3
  have h5 := h.h4
  have h6 := h.hm
  exact ⟨⟨only_at h.opts.row (by omega) (by omega) ho, only_at h.opts.d1 (by omega) (by omega) ho, only_at h.opts.d2 (by omega) (by omega) ho, only_at h.opts.d3 (by omega) (by omega) ho, only_at h.opts.d4 (by omega) (by omega) ho⟩, only_at h.box (by omega) (by omega) ho, h1, h2, h3, h4, h5, h6⟩
/-- the first option's bytes are others now. -/
theorem aw_turned {w5 w6 wS : World} {g o1 o2 o3 o4 mb : Nat} (h : MsgI w5 w6 2 g o1 o2 o3 o4 mb) (hs : w5.heap.size ≤ w6.heap.size) (hwS : wS = (w6.alloc (.cells #[.int .u8 5] 5)).setCell ⟨g, 1, none⟩ (.slice (some ⟨w6.heap.size, 0, none⟩) 1 1)) :
    MsgI w5 wS 5 g w6.heap.size o2 o3 o4 mb ∧ Below w6.heap.size w6 (w6.alloc (.cells #[.int .u8 5] 5)) ∧ But g (w6.alloc (.cells #[.int .u8 5] 5)) wS := by
  have hb : Below w6.heap.size w6 (w6.alloc (.cells #[.int .u8 5] 5)) := bpush (Below.refl _ _) _
  have hB : But g (w6.alloc (.cells #[.int .u8 5] 5)) wS := by rw [hwS]; exact But.setCell _ _ _ _
  have hg := heap_lt h.opts.row
  have h3 := h.h2
  have h4 := h.h3
  have h5 := h.h4
  have h6 := h.hm
  refine ⟨⟨⟨?_, keptBut (heap_new w6 _) hB (by omega), keptBut (kept h.opts.d2 hb) hB (by omega), keptBut (kept h.opts.d3 hb) hB (by omega), keptBut (kept h.opts.d4 hb) hB (by omega)⟩, keptBut (kept h.box hb) hB (by omega), h.hg, hs, h3, h4, h5, h6⟩, hb, hB⟩
  rw [hwS]
  exact (heap_setCell (j := 1) (kept h.opts.row hb)).trans rfl
theorem aw_on4 (w5 w : World) (p pd : Nat) (ab : Option Nat) (g o1 o2 o3 o4 mb : Nat) (h : CD w p pd ab k3.c k3.zs) (hm : MsgI w5 w 2 g o1 o2 o3 o4 mb) (hp : p < w5.heap.size) (hd : pd < w5.heap.size) :
    Calls Try.prog 10 #[.pointer (some ⟨p, 0, none⟩), .int .u32 0, .agg #[.int .i64 2, .int .i64 0, .int .u32 7, .int .i64 0, .bool false, .int .u32 0, .int .u32 167772165, .int .u32 0, .int .u32 0, .int .u8 2, .int .u8 0, .int .u8 0, .int .u8 0, .int .u8 0, .int .u8 1, .string noText, .string noText, .slice (some ⟨g, 0, none⟩) 4 4], .int .i64 1040, .pointer (some ⟨pd, 0, none⟩)] w fun e w' => ∃ a cp, e = .returned (.slice a 1 cp) ∧ Hid (StI w p pd ab k4 a 1 cp w') :=
  aw_on 2 w p pd ab k3 1040 g o1 o2 o3 o4 (by kernel_rfl) h (hm.ovx (by decide) hp hd)
theorem aw_on5 (w5 w : World) (p pd : Nat) (ab : Option Nat) (g o1 o2 o3 o4 mb : Nat) (h : CD w p pd ab k4.c k4.zs) (hm : MsgI w5 w 5 g o1 o2 o3 o4 mb) (hp : p < w5.heap.size) (hd : pd < w5.heap.size) :
    Calls Try.prog 10 #[.pointer (some ⟨p, 0, none⟩), .int .u32 0, .agg #[.int .i64 2, .int .i64 0, .int .u32 7, .int .i64 0, .bool false, .int .u32 0, .int .u32 167772165, .int .u32 0, .int .u32 0, .int .u8 2, .int .u8 0, .int .u8 0, .int .u8 0, .int .u8 0, .int .u8 1, .string noText, .string noText, .slice (some ⟨g, 0, none⟩) 4 4], .int .i64 1050, .pointer (some ⟨pd, 0, none⟩)] w fun e w' => ∃ a cp, e = .returned (.slice a 1 cp) ∧ Hid (StI w p pd ab k5 a 1 cp w') :=
  aw_on 5 w p pd ab k4 1050 g o1 o2 o3 o4 (by kernel_rfl) h (hm.ovx (by decide) hp hd)
theorem aw_tick6 (w : World) (p pd : Nat) (ab : Option Nat) (h : CD w p pd ab k5.c k5.zs) :
    Calls Try.prog 9 #[.pointer (some ⟨p, 0, none⟩), .int .i64 1060, .pointer (some ⟨pd, 0, none⟩)] w fun e w' => ∃ a cp, e = .returned (.slice a 1 cp) ∧ Hid (StI w p pd ab k6 a 1 cp w') := aw_tick w p pd ab k5 1060 1 (by kernel_rfl) h
theorem aw_tick7 (w : World) (p pd : Nat) (ab : Option Nat) (h : CD w p pd ab k6.c k6.zs) :
    Calls Try.prog 9 #[.pointer (some ⟨p, 0, none⟩), .int .i64 1540, .pointer (some ⟨pd, 0, none⟩)] w fun e w' => ∃ a cp, e = .returned (.slice a 1 cp) ∧ Hid (StI w p pd ab k7 a 1 cp w') := aw_tick w p pd ab k6 1540 1 (by kernel_rfl) h
theorem aw_held (w : World) (p : Nat) (h : BoxC w p k6.c) :
    Calls Try.prog 11 #[.pointer (some ⟨p, 0, none⟩)] w fun e w' => ∃ l : Ls, e = .returned (.tuple #[.agg #[.int .u32 l.ip, .int .u32 l.m, .int .u32 l.r, .int .u32 l.sv, .int .u32 l.nx, .string l.file, .int .i64 l.frm, .int .i64 1540, .int .i64 l.t2, .int .i64 l.un], .bool true]) ∧ Hid (Below w.heap.size w w') := (lheld_any w h).mono fun e w' ⟨k, H⟩ => by
  refine ⟨k6.c.l, ?_, H⟩
  rw [k, k6_st, if_pos (by have := k6_st; simpa using this), ← k6_t1]
  rfl
theorem aw_state (w : World) (p : Nat) (h : BoxC w p k7.c) :
    Calls Try.prog 12 #[.pointer (some ⟨p, 0, none⟩)] w fun e w' => ∃ (l : Ls) (tr : Int), e = .returned (.agg #[.int .i64 5, .int .u32 9, .int .u32 l.ip, .int .u32 l.m, .int .u32 l.r, .int .u32 l.sv, .int .u32 l.nx, .string l.file, .int .i64 l.frm, .int .i64 l.t1, .int .i64 l.t2, .int .i64 l.un, .int .i64 tr, .int .i64 1915]) ∧ Hid (Below w.heap.size w w') := (lstate_any w h).mono fun e w' ⟨k, H⟩ => by
  refine ⟨k7.c.l, k7.c.tries, ?_, H⟩
  rw [k]
  unfold Cl.stt
  rw [k7_st, k7_xid, k7_due]
theorem row_cell {p pd B T : Nat} {w : World} {a : Option Addr} {n c : Nat} {L : List Ac} {x : Ac} (R : RowA p pd B T w a n c L) (e : L = [x]) : ∃ g, a = some ⟨g, 0, none⟩ ∧ w.cell? ⟨g, 0, none⟩ = some (.int .i64 x.kind) ∧ w.cell? ⟨g, 1, none⟩ = some (.int .u32 x.frm) ∧ w.cell? ⟨g, 2, none⟩ = some (.int .u32 x.dst) ∧ w.cell? ⟨g, 5, none⟩ = some (.int .u32 x.msg.xid) ∧ w.cell? ⟨g, 6, none⟩ = some (.int .i64 x.msg.secs) ∧ w.cell? ⟨g, 30, none⟩ = some (.int .i64 x.l.un) := by
  subst e
  obtain ⟨g, ov, e1, h⟩ := R.one
  exact ⟨g, e1, (h 0 (by decide)).trans rfl, (h 1 (by decide)).trans rfl, (h 2 (by decide)).trans rfl, (h 5 (by decide)).trans rfl, (h 6 (by decide)).trans rfl, (h 30 (by decide)).trans rfl⟩
theorem row_1 {p pd B T : Nat} {w : World} {a : Option Addr} {n c : Nat} (R : RowA p pd B T w a n c k1.acts) : ∃ g, a = some ⟨g, 0, none⟩ ∧ w.cell? ⟨g, 0, none⟩ = some (.int .i64 1) ∧ w.cell? ⟨g, 2, none⟩ = some (.int .u32 4294967295) ∧ w.cell? ⟨g, 5, none⟩ = some (.int .u32 7) := by
  obtain ⟨x, e, f⟩ := one_of k1_acts
  obtain ⟨g, h, h0, h1, h2, h5, h6, h30⟩ := row_cell R e
  simp only [Prod.mk.injEq] at f
  exact ⟨g, h, by rw [h0, f.1], by rw [h2, f.2.2], by rw [h5, f.2.1]⟩
theorem row_3 {p pd B T : Nat} {w : World} {a : Option Addr} {n c : Nat} (R : RowA p pd B T w a n c k3.acts) : ∃ g, a = some ⟨g, 0, none⟩ ∧ w.cell? ⟨g, 6, none⟩ = some (.int .i64 3) := by
  obtain ⟨x, e, f⟩ := one_of k3_acts
  obtain ⟨g, h, h0, h1, h2, h5, h6, h30⟩ := row_cell R e
  exact ⟨g, h, by rw [h6, f]⟩
theorem row_4 {p pd B T : Nat} {w : World} {a : Option Addr} {n c : Nat} (R : RowA p pd B T w a n c k4.acts) : ∃ g, a = some ⟨g, 0, none⟩ ∧ w.cell? ⟨g, 6, none⟩ = some (.int .i64 4) := by
  obtain ⟨x, e, f⟩ := one_of k4_acts
  obtain ⟨g, h, h0, h1, h2, h5, h6, h30⟩ := row_cell R e
  exact ⟨g, h, by rw [h6, f]⟩
theorem row_5 {p pd B T : Nat} {w : World} {a : Option Addr} {n c : Nat} (R : RowA p pd B T w a n c k5.acts) : ∃ g, a = some ⟨g, 0, none⟩ ∧ w.cell? ⟨g, 0, none⟩ = some (.int .i64 2) := by
  obtain ⟨x, e, f⟩ := one_of k5_acts
  obtain ⟨g, h, h0, h1, h2, h5, h6, h30⟩ := row_cell R e
  exact ⟨g, h, by rw [h0, f]⟩
theorem row_6 {p pd B T : Nat} {w : World} {a : Option Addr} {n c : Nat} (R : RowA p pd B T w a n c k6.acts) : ∃ g, a = some ⟨g, 0, none⟩ ∧ w.cell? ⟨g, 0, none⟩ = some (.int .i64 3) ∧ w.cell? ⟨g, 30, none⟩ = some (.int .i64 2040) := by
  obtain ⟨x, e, f⟩ := one_of k6_acts
  obtain ⟨g, h, h0, h1, h2, h5, h6, h30⟩ := row_cell R e
  simp only [Prod.mk.injEq] at f
  exact ⟨g, h, by rw [h0, f.1], by rw [h30, f.2]⟩
theorem row_7 {p pd B T : Nat} {w : World} {a : Option Addr} {n c : Nat} (R : RowA p pd B T w a n c k7.acts) : ∃ g, a = some ⟨g, 0, none⟩ ∧ w.cell? ⟨g, 1, none⟩ = some (.int .u32 167772165) ∧ w.cell? ⟨g, 2, none⟩ = some (.int .u32 167772161) := by
  obtain ⟨x, e, f⟩ := one_of k7_acts
  obtain ⟨g, h, h0, h1, h2, h5, h6, h30⟩ := row_cell R e
  simp only [Prod.mk.injEq] at f
  exact ⟨g, h, by rw [h1, f.1], by rw [h2, f.2]⟩
end Go.Proofs.Ytgcpoanjjgbfjaa
