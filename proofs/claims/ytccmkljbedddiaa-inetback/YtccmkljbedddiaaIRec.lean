/-
  The function that inet.Decode defers: it catches what was given up.
-/
import Derived.Test.YtccmkljbedddiaaIDecF
import Derived.Test.YtccmkljbedddiaaBStep
namespace Go.Proofs.Ytccmkljbedddiaa
open Go.RowKit
set_option linter.all false

theorem sizeSl : (Try.prog.info? 28).map (·.size) = some 1 := by kernel_rfl
theorem assert_err (c : Int) (w : World) : (Instr.typeAssert (.iface 23 (.int .i64 c)) 20 23 false).run Try.prog w = .ok (.int .i64 c) w := by
  simp [Instr.typeAssert, run_underlying Try.underlying23]
theorem sizeErr : (Try.prog.info? 23).map (·.size) = some 1 := by kernel_rfl
set_option maxRecDepth 20000 in
theorem catch_idle (p q r : Addr) (w : World) :
    CallsD Try.prog 25 #[.pointer (some p), .pointer (some q), .pointer (some r)] .returning w fun e u' w' => e = .returned (.tuple #[]) ∧ u' = .returning ∧ w' = w := by
  refine callsD_of_wpS Try.func25 rfl fun c₀ cs hu => ?_
  apply wpS_seq
  apply wpS_region
  simp [wpOpsS, go_sem, recoverD, hu, Try.ntmps25, Exit.thenS]
  refine wpS_of_wp ?_
  show Code.wp _ _ _ { tmps := #[.pointer (some p), .pointer (some q), .pointer (some r), .nilIface, .nilIface, undef, undef, undef, undef, undef], defers := [] } w
  go_wp2
  cases c₀
  simp_all [bodyPostS, results, Try.results25]

/-- three boxes that are written, all else as it was. -/
structure Tri (gh gd ge : Nat) (w w' : World) : Prop where
  os : w'.os = w.os
  tape : w'.tape = w.tape
  output : w'.output = w.output
  size : w.heap.size ≤ w'.heap.size
  block : ∀ k, k ≠ gh → k ≠ gd → k ≠ ge → k < w.heap.size → w'.heap[k]? = w.heap[k]?
theorem Tri.of {gh gd ge : Nat} {a b c d : World} (h1 : But gh a b) (h2 : But gd b c) (h3 : But ge c d) : Tri gh gd ge a d :=
  ⟨h3.os.trans (h2.os.trans h1.os), h3.tape.trans (h2.tape.trans h1.tape), h3.output.trans (h2.output.trans h1.output), Nat.le_trans h1.size (Nat.le_trans h2.size h3.size), fun k a1 a2 a3 hl =>
    (h3.block k a3 (Nat.lt_of_lt_of_le hl (Nat.le_trans h1.size h2.size))).trans ((h2.block k a2 (Nat.lt_of_lt_of_le hl h1.size)).trans (h1.block k a1 hl))⟩
set_option maxRecDepth 20000 in
set_option maxHeartbeats 1000000 in
theorem catch_panicking (gh gd ge : Nat) (c : Int) (older : List PanicEntry) (w : World) (oh : Array Value) (od oe : Value) (hh : w.heap[gh]? = some (.cells oh 27 (0, 0))) (hs : oh.size = 7) (hd : w.heap[gd]? = some (.cells #[od] 28 (0, 0))) (he : w.heap[ge]? = some (.cells #[oe] 23 (0, 0)))
    (n1 : gh ≠ gd) (n2 : gh ≠ ge) (n3 : gd ≠ ge) :
    CallsD Try.prog 25 #[.pointer (some ⟨gh, 0, none⟩), .pointer (some ⟨gd, 0, none⟩), .pointer (some ⟨ge, 0, none⟩)] (.panicking ({ v := .iface 23 (.int .i64 c), recovered := false } :: older)) w fun e u' w' =>
      e = .returned (.tuple #[]) ∧ u' = .panicking ({ v := .iface 23 (.int .i64 c), recovered := true } :: older) ∧
        w'.heap[gh]? = some (.cells #[.int .i64 0, .int .i64 0, .int .i64 0, .int .i64 0, .bool false, .int .u32 0, .int .u32 0] 27 (0, 0)) ∧ w'.heap[gd]? = some (.cells #[.slice none 0 0] 28 (0, 0)) ∧ w'.heap[ge]? = some (.cells #[.int .i64 c] 23 (0, 0)) ∧ Tri gh gd ge w w' := by
  have hta := assert_err c
  have HH := hid hh
  have HS := hid hs
  have HD := hid hd
  have HE := hid he
  clear hh hs hd he
  refine callsD_of_wpS Try.func25 rfl fun c₀ cs hu => ?_
  apply wpS_seq
  apply wpS_region
  simp [wpOpsS, go_sem, recoverD, hu, Try.ntmps25, Exit.thenS]
  refine wpS_of_wp ?_
  show Code.wp _ _ _ { tmps := #[.pointer (some ⟨gh, 0, none⟩), .pointer (some ⟨gd, 0, none⟩), .pointer (some ⟨ge, 0, none⟩), .iface 23 (.int .i64 c), .iface 23 (.int .i64 c), undef, undef, undef, undef, undef], defers := [] } w
  go_wp2
  refine wp_region_noPanic ?_
  refine wp_region_held_drew (S := fun w' => True) (by kernel_rfl) trivial (fun hHeld => ?_)
  refine wpAnyH_take (i := 0) (oi := { dst := some 7, op := .build 27 #[], type := _, pos := _, after := _, guard := none }) (v := .agg #[.int .i64 0, .int .i64 0, .int .i64 0, .int .i64 0, .bool false, .int .u32 0, .int .u32 0]) rfl (by kernel_rfl) (by kernel_rfl) (by kernel_rfl) (fun _ _ _ h => h) (Or.inl ⟨by rfl, fun wq hSw => by (try dsimp only at hSw); first | go_simp | kernel_rfl⟩) (by assumption) ?_
  try simp only [Act.put, List.setIfInBounds_toArray, List.set_cons_zero, List.set_cons_succ]
  refine wpAnyH_take (i := 1) (oi := { dst := some 8, op := .move (.tmp 3), type := _, pos := _, after := _, guard := none }) (v := .iface 23 (.int .i64 c)) rfl (by kernel_rfl) (by kernel_rfl) (by kernel_rfl) (fun _ _ _ h => h) (Or.inl ⟨by rfl, fun wq hSw => by (try dsimp only at hSw); first | go_simp | kernel_rfl⟩) (by assumption) ?_
  try simp only [Act.put, List.setIfInBounds_toArray, List.set_cons_zero, List.set_cons_succ]
  refine wpAnyH_take (i := 2) (oi := { dst := some 9, op := .typeAssert (.tmp 8) 20 23 false, type := _, pos := _, after := _, guard := none }) (v := .int .i64 c) rfl (by kernel_rfl) (by kernel_rfl) (by kernel_rfl) (fun _ _ _ h => h) (Or.inl ⟨by rfl, fun wq hSw => by (try dsimp only at hSw); first | go_simp | kernel_rfl⟩) (by assumption) ?_
  try simp only [Act.put, List.setIfInBounds_toArray, List.set_cons_zero, List.set_cons_succ]
  refine wpAnyH_ready (rs := [3]) (by kernel_rfl) (by simp) ?_
  refine AllReadyH.cons (o := { dst := none, op := .store 27 (.tmp 0) (.tmp 7), type := _, pos := _, after := _, guard := none }) rfl (fun K hK => ?_) AllReadyH.nil
  refine step_store_row rfl 27 _ _ rfl gh #[.int .i64 0, .int .i64 0, .int .i64 0, .int .i64 0, .bool false, .int .u32 0, .int .u32 0] rfl rfl 27 _ (show w.drew.heap[gh]? = _ from HH.out) (by kernel_rfl) HS.out (by first | kernel_rfl | simp [Value.oneCell']) ?_
  intro w3 hg3 hb3
  refine hK.out _ _ trivial (fun hHeld => ?_)
  clear hK
  try simp only [Act.put, List.setIfInBounds_toArray, List.set_cons_zero, List.set_cons_succ]
  refine wpAnyH_ready (rs := [4]) (by kernel_rfl) (by simp) ?_
  refine AllReadyH.cons (o := { dst := none, op := .store 28 (.tmp 1) (.const (.slice none 0 0)), type := _, pos := _, after := _, guard := none }) rfl (fun K hK => ?_) AllReadyH.nil
  refine step_store_one rfl 28 _ _ rfl gd (.slice none 0 0) od rfl rfl (fun wx => store_slice _ sizeSl _ _ _ _ _ wx) 28 (keptBut (w := w.drew) HD.out hb3.out (Ne.symm n1)) ?_
  intro w4 hg4 hb4
  refine hK.out _ _ trivial (fun hHeld => ?_)
  clear hK
  try simp only [Act.put, List.setIfInBounds_toArray, List.set_cons_zero, List.set_cons_succ]
  refine wpAnyH_ready (rs := [5]) (by kernel_rfl) (by simp) ?_
  refine AllReadyH.cons (o := { dst := none, op := .store 23 (.tmp 2) (.tmp 9), type := _, pos := _, after := _, guard := none }) rfl (fun K hK => ?_) AllReadyH.nil
  refine step_store_one rfl 23 _ _ rfl ge (.int .i64 c) oe rfl rfl (fun wx => store_int _ sizeErr _ _ _ _ wx) 23 (keptBut (keptBut (w := w.drew) HE.out hb3.out (Ne.symm n2)) hb4.out (Ne.symm n3)) ?_
  intro w5 hg5 hb5
  refine hK.out _ _ trivial (fun hHeld => ?_)
  clear hK
  try simp only [Act.put, List.setIfInBounds_toArray, List.set_cons_zero, List.set_cons_succ]
  refine wpAnyH_done (by kernel_rfl) ?_ _
  refine NoPanic.normal ?_
  refine ⟨rfl, _, rfl, .tuple #[], by simp [results, Try.results25], rfl, rfl, keptBut (keptBut hg3.out hb4.out n1) hb5.out n2, keptBut hg4.out hb5.out n3, hg5.out, ?_⟩
  exact Tri.of ((But.drew gh w).trans hb3.out) hb4.out hb5.out
end Go.Proofs.Ytccmkljbedddiaa
