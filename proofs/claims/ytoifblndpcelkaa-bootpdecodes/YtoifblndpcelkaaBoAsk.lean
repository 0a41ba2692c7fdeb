/-
  bootp.Ask. Written by mkboask.py.
-/
import Derived.Test.YtoifblndpcelkaaBoMor
import Derived.Test.YtoifblndpcelkaaBoRmJ
import Derived.Test.YtoifblndpcelkaaBNumJ
namespace Go.Proofs.Ytoifblndpcelkaa
open Go.RowKit
set_option linter.all false

theorem Low.up {B B' : Nat} {w : World} {a : Option Addr} {os : List OP} (h : Low B w a os) (hB : B ≤ B') : Low B' w a os := ⟨h.v, fun b off e hn => Nat.lt_of_lt_of_le (h.row b off e hn) hB, fun o ho b off e hn => Nat.lt_of_lt_of_le (h.data o ho b off e hn) hB⟩
/-- one option of the call's own. -/
theorem ownO_one {w w' : World} {g : Nat} {c : Int} {zs : List Int} (h : MadeO w w' g zs) (hz : ∀ z ∈ zs, 0 ≤ z ∧ z ≤ 255) (hl : zs.length ≤ 16) :
    OwnO w.heap.size (w'.alloc (.cells #[.int .i64 c, .slice (some ⟨g, 0, none⟩) zs.length zs.length] 67)) (.slice (some ⟨w'.heap.size, 0, none⟩) 1 1) [((c, zs), .slice (some ⟨g, 0, none⟩) zs.length zs.length)] := by
  obtain ⟨a1, h1, b1⟩ := h
  have l1 := heap_lt h1
  have s1 := b1.size
  have k1 : (w'.alloc (.cells #[.int .i64 c, .slice (some ⟨g, 0, none⟩) zs.length zs.length] 67)).heap[g]? = some (.cells (u8s zs).toArray 5 (0, 0)) := (heap_old _ _ l1).trans h1
  have r1 := Row.of_heap k1 (by simp [u8s]; unfold maxLen; omega)
  simp only [List.size_toArray, u8s_len] at r1
  refine ⟨⟨rfl, Or.inr ⟨w'.heap.size, 1, _, rfl, Nat.zero_le _, heap_new _ _, Nat.le_refl _, by unfold maxLen; omega, rfl, rfl⟩⟩, fun b hb => ?_, ?_, ?_, ?_, ?_⟩
  · have : w'.heap.size = b := by simpa [Value.ownBlock] using hb
    omega
  · intro p hp
    simp only [List.mem_singleton] at hp
    subst hp
    exact r1
  · intro p hp b hb
    simp only [List.mem_singleton] at hp
    subst hp
    have : g = b := by simpa [Value.ownBlock] using hb
    omega
  · intro i j p q b hij hp hq hb e
    have hi := (List.getElem?_eq_some_iff.1 hp).1
    have hj := (List.getElem?_eq_some_iff.1 hq).1
    simp only [List.length_cons, List.length_nil] at hi hj
    omega
  · intro p hp z hzz
    simp only [List.mem_singleton] at hp
    subst hp
    exact hz z hzz
theorem step_alloc_to {ops : Array Oper} {o : Oper} {a : Act} {w : World} {K : Act → World → Prop} {Q : Exit → Act → World → Prop} {E : Prop} (hgd : o.guard = none) (t : TypeId) (ho : o.op = .alloc t) (cells : Array Value)
    (hz : (Try.prog.info? t).map (·.zero) = some (some (.agg cells))) (h : K (a.put o.dst (.pointer (some ⟨w.heap.size, 0, none⟩))) (w.alloc (.cells cells t))) :
    if Region.wanted o (yielded ops a.tmps) = true then Oper.wp Try.prog o a w K Q else E := by
  have hw : Region.wanted o (yielded ops a.tmps) = true := by simp [Region.wanted, hgd]
  rw [if_pos hw]
  cases hq : Try.prog.info? t with
  | none => simp [hq] at hz
  | some i =>
    have hzz : i.zero = some (.agg cells) := by simpa [hq] using hz
    have hr : (Instr.alloc t true (.tuple #[])).run Try.prog w = .ok (.pointer (some ⟨w.heap.size, 0, none⟩)) (w.alloc (.cells cells t)) := by
      simp [Instr.alloc, zeroValue, typeInfo, hq, hzz, Value.cells, go_sem]
    unfold Oper.wp execOp
    simp only [ho, Sem.run_bind, Sem.run_pure, hr, Result.andThen_ok]
    exact h
def askM (mac : Mac) (xid secs ci : Int) : Bp := ⟨1, 0, xid, min (max secs 0) 65535, true, ci, 0, 0, 0, mac, noText, noText⟩
set_option maxRecDepth 20000 in
set_option maxHeartbeats 4000000 in
theorem bask_any (kind : Int) (hk : -9223372036854775808 ≤ kind ∧ kind ≤ 9223372036854775807) (mac : Mac) (xid secs ci : Int) (hs : -9223372036854775808 ≤ secs ∧ secs ≤ 9223372036854775807) (a : Option Addr) (c : Nat) (os : List OP) (w : World) (h : OV w a os) (hf : os.length ≤ 4294967296) :
    Calls Try.prog 26 #[.int .i64 kind, mac.val, .int .u32 xid, .int .i64 secs, .int .u32 ci, .slice a os.length c] w fun e w' => ∃ a' n' c', e = .returned ((askM mac xid secs ci).val (.slice a' n' c')) ∧ Hid (OptI w w' (.slice a' n' c') ((53, op1 kind) :: absO os) ∧ Below w.heap.size w w') := by
  obtain ⟨b0, b1, b2, b3, b4, b5⟩ := mac
  obtain ⟨w0, hw0⟩ : ∃ W, W = w.alloc (.cells #[.int .u8 b0, .int .u8 b1, .int .u8 b2, .int .u8 b3, .int .u8 b4, .int .u8 b5] 25) := ⟨_, rfl⟩
  obtain ⟨w1, hw1⟩ : ∃ W, W = w0.alloc (.cells zeroC 28) := ⟨_, rfl⟩
  have HB1 : Hid (Below w.heap.size w w1) := by rw [hw1, hw0]; exact bpush (bpush (Below.refl _ _) _) _
  have HM0 : Hid (w0.heap[w.heap.size]? = some (.cells #[.int .u8 b0, .int .u8 b1, .int .u8 b2, .int .u8 b3, .int .u8 b4, .int .u8 b5] 25 (0, 0))) := by rw [hw0]; exact heap_new _ _
  have HM1 : Hid (w1.heap[w.heap.size]? = some (.cells #[.int .u8 b0, .int .u8 b1, .int .u8 b2, .int .u8 b3, .int .u8 b4, .int .u8 b5] 25 (0, 0))) := by rw [hw1]; exact (heap_old _ _ (heap_lt HM0.out)).trans HM0.out
  have hz0 : w0.heap.size = w.heap.size + 1 := by rw [hw0]; simp
  have HR1 : Hid (w1.heap[w.heap.size + 1]? = some (.cells zeroC 28 (0, 0))) := by rw [hw1, ← hz0]; exact heap_new _ _
  have HGE : Hid (w.heap.size ≤ w.heap.size + 1) := Nat.le_succ _
  clear hz0
  have HBY := hid (byte_any 53 kind w1 hk.1 hk.2)
  have HLO := hid ((Low.of h).below HB1.out |>.up HB1.out.size)
  have HWM := hid (fun (W : World) (a0 : Option Addr) (n0 c0 : Nat) (L0 : List Opt) (hB : w1.heap.size ≤ W.heap.size) (h0 : MoreI w1.heap.size (.slice a0 n0 c0) W W (.slice a0 n0 c0) L0) (hl0 : L0.length ≤ 5) (hlo : Low w1.heap.size W a os) => withMore_any w1.heap.size a a0 n0 c0 c os L0 W hB h0 hl0 hf hlo)
  obtain ⟨n, hn⟩ : ∃ n, n = os.length := ⟨_, rfl⟩
  rw [← hn] at HWM ⊢
  clear h hf hn hk
  unfold askM
  obtain ⟨S, hS⟩ : ∃ S, S = min (max secs 0) 65535 := ⟨_, rfl⟩
  rw [← hS]
  simp only [Bp.val, Bp.cells, Mac.val]
  go_enter Try.func26, Try.ntmps26
  go_upto_region 2 with (first
    | (refine wpList_alloc_to rfl 28 rfl zeroC (by kernel_rfl) ?_)
    | (go_at_call 55; rw [← hw0, ← hw1]; refine HBY.out.mono ?_; rintro e w2 ⟨g, rfl, HMD⟩)
    | fail)
  have hO := ownO_one HMD.out (c := 53) (op1_bd kind) (by simp [op1])
  rw [show (op1 kind).length = 1 from rfl] at hO
  have hb3 : Below w1.heap.size w1 (w2.alloc (.cells #[.int .i64 53, .slice (some ⟨g, 0, none⟩) 1 1] 67)) := bpush HMD.out.2.2 _
  have HMO := hid hO
  have HB3 := hid hb3
  clear hO hb3 HMD HBY hw1 hw0
  generalize w2.alloc (.cells #[.int .i64 53, .slice (some ⟨g, 0, none⟩) 1 1] 67) = w3 at *
  generalize w2.heap.size = gf at *
  have HM3 := hid (kept HM1.out HB3.out)
  have HR3 := hid (kept HR1.out HB3.out)
  have HL3 := hid (HLO.out.below HB3.out)
  obtain ⟨gr, hgr⟩ : ∃ g, g = w.heap.size + 1 := ⟨_, rfl⟩
  rw [← hgr] at HR1 HR3 HGE ⊢
  obtain ⟨gm, hgm⟩ : ∃ g, g = w.heap.size := ⟨_, rfl⟩
  have HGM := hid hgm
  rw [← hgm] at HM1 HM3 ⊢
  clear hgr hgm HM0
  have HC : Hid (∀ W : World, W.heap[gm]? = some (.cells #[.int .u8 b0, .int .u8 b1, .int .u8 b2, .int .u8 b3, .int .u8 b4, .int .u8 b5] 25 (0, 0)) → ∀ q, W.cell? ⟨gm, q, none⟩ = (#[.int .u8 b0, .int .u8 b1, .int .u8 b2, .int .u8 b3, .int .u8 b4, .int .u8 b5] : Array Value)[q]?) := fun W h q => cell_of_heap h q
  refine wp_region_noPanic ?_
  refine wp_region_held_drew (S := fun w' => ∀ q, w'.cell? ⟨gm, q, none⟩ = (#[.int .u8 b0, .int .u8 b1, .int .u8 b2, .int .u8 b3, .int .u8 b4, .int .u8 b5] : Array Value)[q]?) (by kernel_rfl) (HC.out _ HM3.out) (fun hHeld => ?_)
  refine wpAnyH_take (i := 0) (oi := { dst := some 17, op := .move (.tmp 2), type := _, pos := _, after := _, guard := none }) (v := .int .u32 xid) rfl (by kernel_rfl) (by kernel_rfl) (by kernel_rfl) (fun _ _ _ h => h) (Or.inl ⟨by rfl, fun wq hSw => by (try dsimp only at hSw); go_simp⟩) (by assumption) ?_
  try simp only [Act.put, List.setIfInBounds_toArray, List.set_cons_zero, List.set_cons_succ]
  refine wpAnyH_take (i := 1) (oi := { dst := some 18, op := .move (.tmp 3), type := _, pos := _, after := _, guard := none }) (v := .int .i64 secs) rfl (by kernel_rfl) (by kernel_rfl) (by kernel_rfl) (fun _ _ _ h => h) (Or.inl ⟨by rfl, fun wq hSw => by (try dsimp only at hSw); go_simp⟩) (by assumption) ?_
  try simp only [Act.put, List.setIfInBounds_toArray, List.set_cons_zero, List.set_cons_succ]
  refine wpAnyH_take (i := 2) (oi := { dst := some 19, op := .call { callee := .builtin .max, args := #[.tmp 18, .const (.int .i64 0)], argTypes := #[3, 3] }, type := _, pos := _, after := _, guard := none }) (v := .int .i64 (max secs 0)) rfl (by kernel_rfl) (by kernel_rfl) (by kernel_rfl) (fun _ _ _ h => h) (Or.inl ⟨by rfl, fun wq hSw => by (try dsimp only at hSw); go_simp⟩) (by assumption) ?_
  try simp only [Act.put, List.setIfInBounds_toArray, List.set_cons_zero, List.set_cons_succ]
  refine wpAnyH_take (i := 3) (oi := { dst := some 20, op := .call { callee := .builtin .min, args := #[.tmp 19, .const (.int .i64 65535)], argTypes := #[3, 3] }, type := _, pos := _, after := _, guard := none }) (v := .int .i64 S) rfl (by kernel_rfl) (by kernel_rfl) (by kernel_rfl) (fun _ _ _ h => h) (Or.inl ⟨by rfl, fun wq hSw => by (try dsimp only at hSw); go_simp⟩) (by assumption) ?_
  try simp only [Act.put, List.setIfInBounds_toArray, List.set_cons_zero, List.set_cons_succ]
  refine wpAnyH_take (i := 4) (oi := { dst := some 21, op := .move (.tmp 4), type := _, pos := _, after := _, guard := none }) (v := .int .u32 ci) rfl (by kernel_rfl) (by kernel_rfl) (by kernel_rfl) (fun _ _ _ h => h) (Or.inl ⟨by rfl, fun wq hSw => by (try dsimp only at hSw); go_simp⟩) (by assumption) ?_
  try simp only [Act.put, List.setIfInBounds_toArray, List.set_cons_zero, List.set_cons_succ]
  refine wpAnyH_take (i := 5) (oi := { dst := some 22, op := .load 25 (.tmp 7), type := _, pos := _, after := _, guard := none }) (v := .agg #[.int .u8 b0, .int .u8 b1, .int .u8 b2, .int .u8 b3, .int .u8 b4, .int .u8 b5]) rfl (by kernel_rfl) (by kernel_rfl) (by kernel_rfl) (fun _ _ _ h => h) (Or.inl ⟨by rfl, fun wq hSw => by (try dsimp only at hSw); go_simp⟩) (by assumption) ?_
  try simp only [Act.put, List.setIfInBounds_toArray, List.set_cons_zero, List.set_cons_succ]
  refine wpAnyH_take (i := 6) (oi := { dst := some 23, op := .move (.tmp 13), type := _, pos := _, after := _, guard := none }) (v := .slice (some ⟨gf, 0, none⟩) 1 1) rfl (by kernel_rfl) (by kernel_rfl) (by kernel_rfl) (fun _ _ _ h => h) (Or.inl ⟨by rfl, fun wq hSw => by (try dsimp only at hSw); go_simp⟩) (by assumption) ?_
  try simp only [Act.put, List.setIfInBounds_toArray, List.set_cons_zero, List.set_cons_succ]
  refine wpAnyH_take (i := 7) (oi := { dst := some 24, op := .move (.tmp 5), type := _, pos := _, after := _, guard := none }) (v := .slice a n c) rfl (by kernel_rfl) (by kernel_rfl) (by kernel_rfl) (fun _ _ _ h => h) (Or.inl ⟨by rfl, fun wq hSw => by (try dsimp only at hSw); go_simp⟩) (by assumption) ?_
  try simp only [Act.put, List.setIfInBounds_toArray, List.set_cons_zero, List.set_cons_succ]
  refine wpAnyH_ready (rs := [8]) (by kernel_rfl) (by simp) ?_
  refine AllReadyH.cons (o := { dst := some 25, op := .call { callee := .value (.func 56), args := #[.tmp 23, .tmp 24], argTypes := #[26, 26] }, type := _, pos := _, after := _, guard := none }) rfl (fun K hK => ?_) AllReadyH.nil
  go_simp
  refine (HWM.out w3.drew _ _ _ _ HB3.out.size (MoreI.later HMO.out (Below.refl _ _).drew) (by simp) (HL3.out.below (Below.refl _ _).drew)).mono ?_
  rintro e w4 ⟨a4, n4, c4, rfl, HI4⟩
  have hb4 : Below w1.heap.size w3.drew w4 := by obtain ⟨E, _, _, h3, _⟩ := HI4.out; exact h3
  have HM4 : Hid (w4.heap[gm]? = some (.cells #[.int .u8 b0, .int .u8 b1, .int .u8 b2, .int .u8 b3, .int .u8 b4, .int .u8 b5] 25 (0, 0))) := (hb4.block gm (heap_lt HM1.out)).trans HM3.out
  have HR4 : Hid (w4.heap[gr]? = some (.cells zeroC 28 (0, 0))) := (hb4.block gr (heap_lt HR1.out)).trans HR3.out
  refine hK.out _ _ (HC.out _ HM4.out) (fun hHeld => ?_)
  clear hK
  try simp only [Act.put, List.setIfInBounds_toArray, List.set_cons_zero, List.set_cons_succ]
  refine wpAnyH_take (i := 9) (oi := { dst := some 26, op := .build 28 #[(0, .const (.int .i64 1)), (2, .tmp 17), (3, .tmp 20), (4, .const (.bool true)), (5, .tmp 21), (9, .tmp 22), (12, .tmp 25)], type := _, pos := _, after := _, guard := none }) (v := .agg #[.int .i64 1, .int .i64 0, .int .u32 xid, .int .i64 S, .bool true, .int .u32 ci, .int .u32 0, .int .u32 0, .int .u32 0, .int .u8 b0, .int .u8 b1, .int .u8 b2, .int .u8 b3, .int .u8 b4, .int .u8 b5, .string noText, .string noText, .slice a4 n4 c4]) rfl (by kernel_rfl) (by kernel_rfl) (by kernel_rfl) (fun _ _ _ h => h) (Or.inl ⟨by rfl, fun wq hSw => by (try dsimp only at hSw); (go_simp; try rfl)⟩) (by assumption) ?_
  try simp only [Act.put, List.setIfInBounds_toArray, List.set_cons_zero, List.set_cons_succ]
  refine wpAnyH_ready (rs := [10]) (by kernel_rfl) (by simp) ?_
  refine AllReadyH.cons (o := { dst := none, op := .store 28 (.tmp 12) (.tmp 26), type := _, pos := _, after := _, guard := none }) rfl (fun K hK => ?_) AllReadyH.nil
  refine step_store_row rfl 28 _ _ rfl gr #[.int .i64 1, .int .i64 0, .int .u32 xid, .int .i64 S, .bool true, .int .u32 ci, .int .u32 0, .int .u32 0, .int .u32 0, .int .u8 b0, .int .u8 b1, .int .u8 b2, .int .u8 b3, .int .u8 b4, .int .u8 b5, .string noText, .string noText, .slice a4 n4 c4] rfl rfl 28 _ HR4.out sizeBp rfl (by simp [Value.oneCell']) ?_
  intro w5 hg5 hb5
  have HM5 := hid (keptBut HM4.out hb5.out (by
    intro e
    have h1 := HM4.out
    rw [e, HR4.out] at h1
    simp at h1))
  refine hK.out _ _ (HC.out _ HM5.out) (fun hHeld => ?_)
  clear hK
  try simp only [Act.put, List.setIfInBounds_toArray, List.set_cons_zero, List.set_cons_succ]
  refine wpAnyH_done (by kernel_rfl) ?_ _
  refine NoPanic.normal ?_
  go_wp2
  refine bodyPost_ret (v := .agg #[.int .i64 1, .int .i64 0, .int .u32 xid, .int .i64 S, .bool true, .int .u32 ci, .int .u32 0, .int .u32 0, .int .u32 0, .int .u8 b0, .int .u8 b1, .int .u8 b2, .int .u8 b3, .int .u8 b4, .int .u8 b5, .string noText, .string noText, .slice a4 n4 c4]) ?_ (by rfl) ⟨a4, n4, c4, rfl, ?_⟩
  · exact results_row1 Try.results26 _ _ gr 28 _ (0, 0) _ rfl hg5.out Try.underlying28 rfl sizeBp
  · obtain ⟨E, e1, e2, e3, _⟩ := HI4.out
    have hne : ∀ b, InO (.slice a4 n4 c4) E b → b ≠ gr := fun b hb e => by
      have h1 := (e1.lt hb).1
      have h2 := heap_lt HR1.out
      omega
    refine ⟨⟨E, (e1.keep fun b hb => hb5.out.block b (hne b hb) (e1.lt hb).2).le HB1.out.size, by rw [e2]; rfl⟩, ?_⟩
    exact bbut (((HB1.out.trans (HB3.out.mono HB1.out.size)).drew.trans (hb4.mono HB1.out.size))) hb5.out (by have := HGM.out; have := HGE.out; omega)
/-- two options of the call's own. -/
theorem ownO_two {w w1 w2 : World} {g1 g2 : Nat} {c1 c2 : Int} {xs ys : List Int} (h1 : MadeO w w1 g1 xs) (h2 : MadeO w1 w2 g2 ys) (hx : ∀ z ∈ xs, 0 ≤ z ∧ z ≤ 255) (hy : ∀ z ∈ ys, 0 ≤ z ∧ z ≤ 255) (hl1 : xs.length ≤ 16) (hl2 : ys.length ≤ 16) :
    OwnO w.heap.size (w2.alloc (.cells #[.int .i64 c1, .slice (some ⟨g1, 0, none⟩) xs.length xs.length, .int .i64 c2, .slice (some ⟨g2, 0, none⟩) ys.length ys.length] 67)) (.slice (some ⟨w2.heap.size, 0, none⟩) 2 2) [((c1, xs), .slice (some ⟨g1, 0, none⟩) xs.length xs.length), ((c2, ys), .slice (some ⟨g2, 0, none⟩) ys.length ys.length)] := by
  obtain ⟨a1, h1, b1⟩ := h1
  obtain ⟨a2, h2, b2⟩ := h2
  have l1 := heap_lt h1
  have s1 := b1.size
  have l2 := heap_lt h2
  have s2 := b2.size
  have k1 : (w2.alloc (.cells #[.int .i64 c1, .slice (some ⟨g1, 0, none⟩) xs.length xs.length, .int .i64 c2, .slice (some ⟨g2, 0, none⟩) ys.length ys.length] 67)).heap[g1]? = some (.cells (u8s xs).toArray 5 (0, 0)) := (heap_old _ _ (by omega)).trans ((b2.block g1 l1).trans h1)
  have k2 : (w2.alloc (.cells #[.int .i64 c1, .slice (some ⟨g1, 0, none⟩) xs.length xs.length, .int .i64 c2, .slice (some ⟨g2, 0, none⟩) ys.length ys.length] 67)).heap[g2]? = some (.cells (u8s ys).toArray 5 (0, 0)) := (heap_old _ _ l2).trans h2
  have r1 := Row.of_heap k1 (by simp [u8s]; unfold maxLen; omega)
  simp only [List.size_toArray, u8s_len] at r1
  have r2 := Row.of_heap k2 (by simp [u8s]; unfold maxLen; omega)
  simp only [List.size_toArray, u8s_len] at r2
  refine ⟨⟨rfl, Or.inr ⟨w2.heap.size, 2, _, rfl, Nat.zero_le _, heap_new _ _, Nat.le_refl _, by unfold maxLen; omega, rfl, rfl⟩⟩, fun b hb => ?_, ?_, ?_, ?_, ?_⟩
  · have : w2.heap.size = b := by simpa [Value.ownBlock] using hb
    omega
  · intro p hp
    simp only [List.mem_cons, List.not_mem_nil, or_false] at hp
    rcases hp with rfl | rfl
    · exact r1
    · exact r2
  · intro p hp b hb
    simp only [List.mem_cons, List.not_mem_nil, or_false] at hp
    rcases hp with rfl | rfl
    · have : g1 = b := by simpa [Value.ownBlock] using hb
      omega
    · have : g2 = b := by simpa [Value.ownBlock] using hb
      omega
  · intro i j p q b hij hp hq hb e
    have hi := (List.getElem?_eq_some_iff.1 hp).1
    have hj := (List.getElem?_eq_some_iff.1 hq).1
    simp only [List.length_cons, List.length_nil] at hi hj
    have ci : i = 0 ∨ i = 1 := by omega
    have cj : j = 0 ∨ j = 1 := by omega
    rcases ci with rfl | rfl <;> rcases cj with rfl | rfl <;> simp at hp hq <;> subst hp <;> subst hq <;> simp [Value.ownBlock] at hb e <;> omega
  · intro p hp z hzz
    simp only [List.mem_cons, List.not_mem_nil, or_false] at hp
    rcases hp with rfl | rfl
    · exact hx z hzz
    · exact hy z hzz
def ansM (kind : Int) (tm : Bp) (yi : Int) : Bp := ⟨2, 0, tm.xid, 0, tm.all, if kind = 5 then tm.ci else 0, yi, 0, 0, tm.mac, noText, noText⟩
/-- an Answer behind its options: the box of the message, not yet laid. -/
def AnsS (w w1 : World) (gm gr gx : Nat) (C X : Array Value) (a4 : Option Addr) (n4 c4 : Nat) (L : List Opt) (W : World) : Prop :=
  W.heap[gm]? = some (.cells C 28 (0, 0)) ∧ W.heap[gr]? = some (.cells zeroC 28 (0, 0)) ∧ W.heap[gx]? = some (.cells X 28 (0, 0)) ∧ gx ≠ gm ∧ gx ≠ gr ∧ w.heap.size ≤ gx ∧ (∃ E, OwnO w.heap.size W (.slice a4 n4 c4) E ∧ codes E = L ∧ (∀ b, InO (.slice a4 n4 c4) E b → b ≠ gx ∧ b ≠ gr)) ∧ Below w.heap.size w W
theorem AnsS.set {w w1 W W' : World} {gm gr gx : Nat} {C X X' : Array Value} {a4 : Option Addr} {n4 c4 : Nat} {L : List Opt} (h : AnsS w w1 gm gr gx C X a4 n4 c4 L W) (hb : But gx W W') (hx : W'.heap[gx]? = some (.cells X' 28 (0, 0))) : AnsS w w1 gm gr gx C X' a4 n4 c4 L W' := by
  obtain ⟨h1, h2, h3, h4, h5, h6, ⟨E, e1, e2, e3⟩, h8⟩ := h
  exact ⟨keptBut h1 hb (fun e => h4 e.symm), keptBut h2 hb (fun e => h5 e.symm), hx, h4, h5, h6, ⟨E, e1.keep fun b hi => hb.block b (e3 b hi).1 (e1.lt hi).2, e2, e3⟩, bbut h8 hb h6⟩
set_option maxRecDepth 20000 in
set_option maxHeartbeats 4000000 in
theorem banswer_any (kind : Int) (hk : -9223372036854775808 ≤ kind ∧ kind ≤ 9223372036854775807) (tm : Bp) (ta : Option Addr) (tn tc : Nat) (yi sv : Int) (hs : 0 ≤ sv ∧ sv ≤ 4294967295) (a : Option Addr) (c : Nat) (os : List OP) (w : World) (h : OV w a os) (hf : os.length ≤ 4294967296) :
    Calls Try.prog 27 #[.int .i64 kind, tm.val (.slice ta tn tc), .int .u32 yi, .int .u32 sv, .slice a os.length c] w fun e w' => ∃ a' n' c', e = .returned ((ansM kind tm yi).val (.slice a' n' c')) ∧ Hid (OptI w w' (.slice a' n' c') ((53, op1 kind) :: (54, ip4 sv) :: absO os) ∧ Below w.heap.size w w') := by
  obtain ⟨top, thops, txid, tsecs, tall, tci, tyi, tsi, tgi, ⟨t0, t1, t2, t3, t4, t5⟩, tsn, tfl⟩ := tm
  obtain ⟨w0, hw0⟩ : ∃ W, W = w.alloc (.cells #[.int .i64 top, .int .i64 thops, .int .u32 txid, .int .i64 tsecs, .bool tall, .int .u32 tci, .int .u32 tyi, .int .u32 tsi, .int .u32 tgi, .int .u8 t0, .int .u8 t1, .int .u8 t2, .int .u8 t3, .int .u8 t4, .int .u8 t5, .string tsn, .string tfl, .slice ta tn tc] 28) := ⟨_, rfl⟩
  obtain ⟨w1, hw1⟩ : ∃ W, W = w0.alloc (.cells zeroC 28) := ⟨_, rfl⟩
  have HB1 : Hid (Below w.heap.size w w1) := by rw [hw1, hw0]; exact bpush (bpush (Below.refl _ _) _) _
  have HM0 : Hid (w0.heap[w.heap.size]? = some (.cells #[.int .i64 top, .int .i64 thops, .int .u32 txid, .int .i64 tsecs, .bool tall, .int .u32 tci, .int .u32 tyi, .int .u32 tsi, .int .u32 tgi, .int .u8 t0, .int .u8 t1, .int .u8 t2, .int .u8 t3, .int .u8 t4, .int .u8 t5, .string tsn, .string tfl, .slice ta tn tc] 28 (0, 0))) := by rw [hw0]; exact heap_new _ _
  have HM1 : Hid (w1.heap[w.heap.size]? = some (.cells #[.int .i64 top, .int .i64 thops, .int .u32 txid, .int .i64 tsecs, .bool tall, .int .u32 tci, .int .u32 tyi, .int .u32 tsi, .int .u32 tgi, .int .u8 t0, .int .u8 t1, .int .u8 t2, .int .u8 t3, .int .u8 t4, .int .u8 t5, .string tsn, .string tfl, .slice ta tn tc] 28 (0, 0))) := by rw [hw1]; exact (heap_old _ _ (heap_lt HM0.out)).trans HM0.out
  have hz0 : w0.heap.size = w.heap.size + 1 := by rw [hw0]; simp
  have HR1 : Hid (w1.heap[w.heap.size + 1]? = some (.cells zeroC 28 (0, 0))) := by rw [hw1, ← hz0]; exact heap_new _ _
  clear hz0
  have HBY := hid (byte_any 53 kind w1 hk.1 hk.2)
  have HNB := hid (fun W => numbered_any 54 sv W hs.1 hs.2)
  have HLO := hid ((Low.of h).below HB1.out |>.up HB1.out.size)
  have HWM := hid (fun (W : World) (a0 : Option Addr) (n0 c0 : Nat) (L0 : List Opt) (hB : w1.heap.size ≤ W.heap.size) (h0 : MoreI w1.heap.size (.slice a0 n0 c0) W W (.slice a0 n0 c0) L0) (hl0 : L0.length ≤ 5) (hlo : Low w1.heap.size W a os) => withMore_any w1.heap.size a a0 n0 c0 c os L0 W hB h0 hl0 hf hlo)
  obtain ⟨n, hn⟩ : ∃ n, n = os.length := ⟨_, rfl⟩
  rw [← hn] at HWM ⊢
  clear h hf hn hs
  unfold ansM
  simp only [Bp.val, Bp.cells, Mac.val]
  go_enter Try.func27, Try.ntmps27
  go_upto_region 2 with (first
    | (refine wpList_alloc_to rfl 28 rfl zeroC (by kernel_rfl) ?_)
    | (go_at_call 55; rw [← hw0, ← hw1]; refine HBY.out.mono ?_; rintro e w2 ⟨g, rfl, HMD⟩)
    | (go_at_call 57; refine (HNB.out _).mono ?_; rintro e w3 ⟨g2, rfl, HMN⟩)
    | fail)
  have hO := ownO_two HMD.out HMN.out (c1 := 53) (c2 := 54) (op1_bd kind) (ip4_bd sv) (by simp [op1]) (by simp [ip4])
  rw [show (op1 kind).length = 1 from rfl, show (ip4 sv).length = 4 from rfl] at hO
  have hb3 : Below w1.heap.size w1 (w3.alloc (.cells #[.int .i64 53, .slice (some ⟨g, 0, none⟩) 1 1, .int .i64 54, .slice (some ⟨g2, 0, none⟩) 4 4] 67)) := bpush (bstep HMD.out.2.2 HMN.out.2.2) _
  have HMO := hid hO
  have HB3 := hid hb3
  clear hO hb3 HMD HMN HBY HNB hw1 hw0
  generalize w3.alloc (.cells #[.int .i64 53, .slice (some ⟨g, 0, none⟩) 1 1, .int .i64 54, .slice (some ⟨g2, 0, none⟩) 4 4] 67) = w4 at *
  generalize w3.heap.size = gf at *
  have HM3 := hid (kept HM1.out HB3.out)
  have HR3 := hid (kept HR1.out HB3.out)
  have HL3 := hid (HLO.out.below HB3.out)
  have HGE : Hid (w.heap.size ≤ w.heap.size + 1) := Nat.le_succ _
  obtain ⟨gr, hgr⟩ : ∃ g, g = w.heap.size + 1 := ⟨_, rfl⟩
  rw [← hgr] at HR1 HR3 HGE ⊢
  obtain ⟨gm, hgm⟩ : ∃ g, g = w.heap.size := ⟨_, rfl⟩
  have HGM := hid hgm
  rw [← hgm] at HM1 HM3 ⊢
  clear hgr hgm HM0
  have HC : Hid (∀ W : World, W.heap[gm]? = some (.cells #[.int .i64 top, .int .i64 thops, .int .u32 txid, .int .i64 tsecs, .bool tall, .int .u32 tci, .int .u32 tyi, .int .u32 tsi, .int .u32 tgi, .int .u8 t0, .int .u8 t1, .int .u8 t2, .int .u8 t3, .int .u8 t4, .int .u8 t5, .string tsn, .string tfl, .slice ta tn tc] 28 (0, 0)) → ∀ q, W.cell? ⟨gm, q, none⟩ = (#[.int .i64 top, .int .i64 thops, .int .u32 txid, .int .i64 tsecs, .bool tall, .int .u32 tci, .int .u32 tyi, .int .u32 tsi, .int .u32 tgi, .int .u8 t0, .int .u8 t1, .int .u8 t2, .int .u8 t3, .int .u8 t4, .int .u8 t5, .string tsn, .string tfl, .slice ta tn tc] : Array Value)[q]?) := fun W h q => cell_of_heap h q
  refine wp_region_noPanic ?_
  refine wp_region_held_drew (S := fun w' => ∀ q, w'.cell? ⟨gm, q, none⟩ = (#[.int .i64 top, .int .i64 thops, .int .u32 txid, .int .i64 tsecs, .bool tall, .int .u32 tci, .int .u32 tyi, .int .u32 tsi, .int .u32 tgi, .int .u8 t0, .int .u8 t1, .int .u8 t2, .int .u8 t3, .int .u8 t4, .int .u8 t5, .string tsn, .string tfl, .slice ta tn tc] : Array Value)[q]?) (by kernel_rfl) (HC.out _ HM3.out) (fun hHeld => ?_)
  refine wpAnyH_take (i := 0) (oi := { dst := some 18, op := .fieldAddr 28 (.tmp 6) 2, type := _, pos := _, after := _, guard := none }) (v := .pointer (some ⟨gm, 2, none⟩)) rfl (by kernel_rfl) (by kernel_rfl) (by kernel_rfl) (fun _ _ _ h => h) (Or.inl ⟨by rfl, fun wq hSw => by (try dsimp only at hSw); go_simp⟩) (by assumption) ?_
  try simp only [Act.put, List.setIfInBounds_toArray, List.set_cons_zero, List.set_cons_succ]
  refine wpAnyH_take (i := 1) (oi := { dst := some 19, op := .load 23 (.tmp 18), type := _, pos := _, after := _, guard := none }) (v := .int .u32 txid) rfl (by kernel_rfl) (by kernel_rfl) (by kernel_rfl) (fun _ _ _ h => h) (Or.inl ⟨by rfl, fun wq hSw => by (try dsimp only at hSw); go_simp⟩) (by assumption) ?_
  try simp only [Act.put, List.setIfInBounds_toArray, List.set_cons_zero, List.set_cons_succ]
  refine wpAnyH_take (i := 2) (oi := { dst := some 20, op := .fieldAddr 28 (.tmp 6) 4, type := _, pos := _, after := _, guard := none }) (v := .pointer (some ⟨gm, 4, none⟩)) rfl (by kernel_rfl) (by kernel_rfl) (by kernel_rfl) (fun _ _ _ h => h) (Or.inl ⟨by rfl, fun wq hSw => by (try dsimp only at hSw); go_simp⟩) (by assumption) ?_
  try simp only [Act.put, List.setIfInBounds_toArray, List.set_cons_zero, List.set_cons_succ]
  refine wpAnyH_take (i := 3) (oi := { dst := some 21, op := .load 4 (.tmp 20), type := _, pos := _, after := _, guard := none }) (v := .bool tall) rfl (by kernel_rfl) (by kernel_rfl) (by kernel_rfl) (fun _ _ _ h => h) (Or.inl ⟨by rfl, fun wq hSw => by (try dsimp only at hSw); go_simp⟩) (by assumption) ?_
  try simp only [Act.put, List.setIfInBounds_toArray, List.set_cons_zero, List.set_cons_succ]
  refine wpAnyH_take (i := 4) (oi := { dst := some 22, op := .move (.tmp 2), type := _, pos := _, after := _, guard := none }) (v := .int .u32 yi) rfl (by kernel_rfl) (by kernel_rfl) (by kernel_rfl) (fun _ _ _ h => h) (Or.inl ⟨by rfl, fun wq hSw => by (try dsimp only at hSw); go_simp⟩) (by assumption) ?_
  try simp only [Act.put, List.setIfInBounds_toArray, List.set_cons_zero, List.set_cons_succ]
  refine wpAnyH_take (i := 5) (oi := { dst := some 23, op := .fieldAddr 28 (.tmp 6) 9, type := _, pos := _, after := _, guard := none }) (v := .pointer (some ⟨gm, 9, none⟩)) rfl (by kernel_rfl) (by kernel_rfl) (by kernel_rfl) (fun _ _ _ h => h) (Or.inl ⟨by rfl, fun wq hSw => by (try dsimp only at hSw); go_simp⟩) (by assumption) ?_
  try simp only [Act.put, List.setIfInBounds_toArray, List.set_cons_zero, List.set_cons_succ]
  refine wpAnyH_take (i := 6) (oi := { dst := some 24, op := .load 25 (.tmp 23), type := _, pos := _, after := _, guard := none }) (v := .agg #[.int .u8 t0, .int .u8 t1, .int .u8 t2, .int .u8 t3, .int .u8 t4, .int .u8 t5]) rfl (by kernel_rfl) (by kernel_rfl) (by kernel_rfl) (fun _ _ _ h => h) (Or.inl ⟨by rfl, fun wq hSw => by (try dsimp only at hSw); go_simp⟩) (by assumption) ?_
  try simp only [Act.put, List.setIfInBounds_toArray, List.set_cons_zero, List.set_cons_succ]
  refine wpAnyH_take (i := 7) (oi := { dst := some 25, op := .move (.tmp 11), type := _, pos := _, after := _, guard := none }) (v := .slice (some ⟨gf, 0, none⟩) 2 2) rfl (by kernel_rfl) (by kernel_rfl) (by kernel_rfl) (fun _ _ _ h => h) (Or.inl ⟨by rfl, fun wq hSw => by (try dsimp only at hSw); go_simp⟩) (by assumption) ?_
  try simp only [Act.put, List.setIfInBounds_toArray, List.set_cons_zero, List.set_cons_succ]
  refine wpAnyH_take (i := 8) (oi := { dst := some 26, op := .move (.tmp 4), type := _, pos := _, after := _, guard := none }) (v := .slice a n c) rfl (by kernel_rfl) (by kernel_rfl) (by kernel_rfl) (fun _ _ _ h => h) (Or.inl ⟨by rfl, fun wq hSw => by (try dsimp only at hSw); go_simp⟩) (by assumption) ?_
  try simp only [Act.put, List.setIfInBounds_toArray, List.set_cons_zero, List.set_cons_succ]
  refine wpAnyH_ready (rs := [9, 11]) (by kernel_rfl) (by simp) ?_
  refine AllReadyH.cons (o := { dst := some 27, op := .call { callee := .value (.func 56), args := #[.tmp 25, .tmp 26], argTypes := #[26, 26] }, type := _, pos := _, after := _, guard := none }) rfl (fun K hK => ?_) (AllReadyH.cons (o := { dst := some 12, op := .alloc 28, type := _, pos := _, after := _, guard := none }) rfl (fun K hK => ?_) AllReadyH.nil)
  · go_simp
    refine (HWM.out w4.drew _ _ _ _ HB3.out.size (MoreI.later HMO.out (Below.refl _ _).drew) (by simp) (HL3.out.below (Below.refl _ _).drew)).mono ?_
    rintro e w5 ⟨a4, n4, c4, rfl, HI5⟩
    have hb5 : Below w1.heap.size w4.drew w5 := by obtain ⟨E, _, _, h3, _⟩ := HI5.out; exact h3
    have HM5 : Hid (w5.heap[gm]? = some (.cells #[.int .i64 top, .int .i64 thops, .int .u32 txid, .int .i64 tsecs, .bool tall, .int .u32 tci, .int .u32 tyi, .int .u32 tsi, .int .u32 tgi, .int .u8 t0, .int .u8 t1, .int .u8 t2, .int .u8 t3, .int .u8 t4, .int .u8 t5, .string tsn, .string tfl, .slice ta tn tc] 28 (0, 0))) := (hb5.block gm (heap_lt HM1.out)).trans HM3.out
    have HR5 : Hid (w5.heap[gr]? = some (.cells zeroC 28 (0, 0))) := (hb5.block gr (heap_lt HR1.out)).trans HR3.out
    have HA6 : Hid (∀ W, W = w5.alloc (.cells zeroC 28) → AnsS w w1 gm gr w5.heap.size #[.int .i64 top, .int .i64 thops, .int .u32 txid, .int .i64 tsecs, .bool tall, .int .u32 tci, .int .u32 tyi, .int .u32 tsi, .int .u32 tgi, .int .u8 t0, .int .u8 t1, .int .u8 t2, .int .u8 t3, .int .u8 t4, .int .u8 t5, .string tsn, .string tfl, .slice ta tn tc] zeroC a4 n4 c4 ((53, op1 kind) :: (54, ip4 sv) :: absO os) W) := fun W hW => by
      rw [hW]
      obtain ⟨E, e1, e2, e3, _⟩ := HI5.out
      have hp := bpush (Below.refl _ w5) (.cells zeroC 28)
      have l1 := heap_lt HM5.out
      have l2 := heap_lt HR5.out
      have s1 := HB1.out.size
      have l3 := heap_lt HR1.out
      refine ⟨kept HM5.out hp, kept HR5.out hp, heap_new _ _, by omega, by omega, ?_, ⟨E, (e1.below hp).le s1, e2, fun b hb => ?_⟩, bpush (((HB1.out.trans (HB3.out.mono s1)).drew.trans (e3.mono s1))) _⟩
      · exact Nat.le_trans s1 (Nat.le_trans HB3.out.size hb5.size)
      · have := e1.lt hb
        omega
    refine hK.out _ _ (HC.out _ HM5.out) (fun hHeld => ?_)
    clear hK
    try simp only [Act.put, List.setIfInBounds_toArray, List.set_cons_zero, List.set_cons_succ]
    refine wpAnyH_take (i := 10) (oi := { dst := some 28, op := .build 28 #[(0, .const (.int .i64 2)), (2, .tmp 19), (4, .tmp 21), (6, .tmp 22), (9, .tmp 24), (12, .tmp 27)], type := _, pos := _, after := _, guard := none }) (v := .agg #[.int .i64 2, .int .i64 0, .int .u32 txid, .int .i64 0, .bool tall, .int .u32 0, .int .u32 yi, .int .u32 0, .int .u32 0, .int .u8 t0, .int .u8 t1, .int .u8 t2, .int .u8 t3, .int .u8 t4, .int .u8 t5, .string noText, .string noText, .slice a4 n4 c4]) rfl (by kernel_rfl) (by kernel_rfl) (by kernel_rfl) (fun _ _ _ h => h) (Or.inl ⟨by rfl, fun wq hSw => by (try dsimp only at hSw); (go_simp; try rfl)⟩) (by assumption) ?_
    try simp only [Act.put, List.setIfInBounds_toArray, List.set_cons_zero, List.set_cons_succ]
    refine wpAnyH_ready (rs := [11]) (by kernel_rfl) (by simp) ?_
    refine AllReadyH.cons (o := { dst := some 12, op := .alloc 28, type := _, pos := _, after := _, guard := none }) rfl (fun K hK => ?_) AllReadyH.nil
    refine step_alloc_to rfl 28 rfl zeroC (by kernel_rfl) ?_
    refine hK.out _ _ (HC.out _ (kept HM5.out (bpush (Below.refl _ _) _))) (fun hHeld => ?_)
    clear hK
    try simp only [Act.put, List.setIfInBounds_toArray, List.set_cons_zero, List.set_cons_succ]
    have HA7 := hid (HA6.out _ rfl)
    clear HA6 HI5 hb5 HM5 HR5
    generalize w5.alloc (.cells zeroC 28) = w6 at *
    generalize w5.heap.size = gx at *
    refine wpAnyH_ready (rs := [12]) (by kernel_rfl) (by simp) ?_
    refine AllReadyH.cons (o := { dst := none, op := .store 28 (.tmp 12) (.tmp 28), type := _, pos := _, after := _, guard := none }) rfl (fun K hK => ?_) AllReadyH.nil
    refine step_store_row rfl 28 _ _ rfl gx #[.int .i64 2, .int .i64 0, .int .u32 txid, .int .i64 0, .bool tall, .int .u32 0, .int .u32 yi, .int .u32 0, .int .u32 0, .int .u8 t0, .int .u8 t1, .int .u8 t2, .int .u8 t3, .int .u8 t4, .int .u8 t5, .string noText, .string noText, .slice a4 n4 c4] rfl rfl 28 _ HA7.out.2.2.1 sizeBp rfl (by simp [Value.oneCell']) ?_
    intro w7 hg7 hb7
    have HA8 := hid (HA7.out.set hb7.out hg7.out)
    refine hK.out _ _ (HC.out _ HA8.out.1) (fun hHeld => ?_)
    clear hK
    try simp only [Act.put, List.setIfInBounds_toArray, List.set_cons_zero, List.set_cons_succ]
    refine wpAnyH_done (by kernel_rfl) ?_ _
    refine NoPanic.normal ?_
    clear HA7 hg7 hb7 hHeld HC
    by_cases h5 : kind = 5
    · subst h5
      have cg : w7.cell? ⟨gm, 5, none⟩ = some (.int .u32 tci) := (cell_of_heap HA8.out.1 5).trans rfl
      have cx : w7.cell? ⟨gx, 5, none⟩ = some (.int .u32 0) := (cell_of_heap HA8.out.2.2.1 5).trans rfl
      have fx : w7.frozen? ⟨gx, 5, none⟩ = false := frozen_of_heap HA8.out.2.2.1 5
      have HA9 : Hid (AnsS w w1 gm gr gx #[.int .i64 top, .int .i64 thops, .int .u32 txid, .int .i64 tsecs, .bool tall, .int .u32 tci, .int .u32 tyi, .int .u32 tsi, .int .u32 tgi, .int .u8 t0, .int .u8 t1, .int .u8 t2, .int .u8 t3, .int .u8 t4, .int .u8 t5, .string tsn, .string tfl, .slice ta tn tc] #[.int .i64 2, .int .i64 0, .int .u32 txid, .int .i64 0, .bool tall, .int .u32 tci, .int .u32 yi, .int .u32 0, .int .u32 0, .int .u8 t0, .int .u8 t1, .int .u8 t2, .int .u8 t3, .int .u8 t4, .int .u8 t5, .string noText, .string noText, .slice a4 n4 c4] a4 n4 c4 ((53, op1 5) :: (54, ip4 sv) :: absO os) (w7.setCell ⟨gx, 5, none⟩ (.int .u32 tci))) := HA8.out.set (But.setCell _ _ _ _) ((heap_setCell HA8.out.2.2.1).trans rfl)
      go_upto_region 5 with (fail)
      generalize w7.setCell ⟨gx, 5, none⟩ (.int .u32 tci) = w8 at *
      go_wp2_with (first
        | (refine wpList_load_row rfl 28 _ rfl gx rfl 28 #[.int .i64 2, .int .i64 0, .int .u32 txid, .int .i64 0, .bool tall, .int .u32 tci, .int .u32 yi, .int .u32 0, .int .u32 0, .int .u8 t0, .int .u8 t1, .int .u8 t2, .int .u8 t3, .int .u8 t4, .int .u8 t5, .string noText, .string noText, .slice a4 n4 c4] (0, 0) _ (by exact HA9.out.2.2.1) Try.underlying28 rfl sizeBp ?_)
        | (refine wpList_store_row rfl 28 _ _ rfl gr #[.int .i64 2, .int .i64 0, .int .u32 txid, .int .i64 0, .bool tall, .int .u32 tci, .int .u32 yi, .int .u32 0, .int .u32 0, .int .u8 t0, .int .u8 t1, .int .u8 t2, .int .u8 t3, .int .u8 t4, .int .u8 t5, .string noText, .string noText, .slice a4 n4 c4] rfl rfl 28 _ HA9.out.2.1 sizeBp rfl (by simp [Value.oneCell']) ?_)
        | fail)
      refine bodyPost_ret (v := .agg #[.int .i64 2, .int .i64 0, .int .u32 txid, .int .i64 0, .bool tall, .int .u32 tci, .int .u32 yi, .int .u32 0, .int .u32 0, .int .u8 t0, .int .u8 t1, .int .u8 t2, .int .u8 t3, .int .u8 t4, .int .u8 t5, .string noText, .string noText, .slice a4 n4 c4]) ?_ (by rfl) ⟨a4, n4, c4, rfl, ?_⟩
      · exact results_row1 Try.results27 _ _ gr 28 _ (0, 0) _ rfl (setRow_heap _ _ _ _ _ _ HA9.out.2.1) Try.underlying28 rfl sizeBp
      · obtain ⟨h1, h2, h3, h4, h5, h6, ⟨E, e1, e2, e3⟩, h8⟩ := HA9.out
        exact ⟨⟨E, e1.keep fun b hi => (But.setRow gr _ _).block b (e3 b hi).2 (e1.lt hi).2, e2⟩, bbut h8 (But.setRow _ _ _) (by have := HGM.out; have := HGE.out; omega)⟩
    · have h5' : (kind == 5) = false := by simpa using h5
      go_wp2_with (first
        | (refine wpList_load_row rfl 28 _ rfl gx rfl 28 #[.int .i64 2, .int .i64 0, .int .u32 txid, .int .i64 0, .bool tall, .int .u32 0, .int .u32 yi, .int .u32 0, .int .u32 0, .int .u8 t0, .int .u8 t1, .int .u8 t2, .int .u8 t3, .int .u8 t4, .int .u8 t5, .string noText, .string noText, .slice a4 n4 c4] (0, 0) _ (by exact HA8.out.2.2.1) Try.underlying28 rfl sizeBp ?_)
        | (refine wpList_store_row rfl 28 _ _ rfl gr #[.int .i64 2, .int .i64 0, .int .u32 txid, .int .i64 0, .bool tall, .int .u32 0, .int .u32 yi, .int .u32 0, .int .u32 0, .int .u8 t0, .int .u8 t1, .int .u8 t2, .int .u8 t3, .int .u8 t4, .int .u8 t5, .string noText, .string noText, .slice a4 n4 c4] rfl rfl 28 _ HA8.out.2.1 sizeBp rfl (by simp [Value.oneCell']) ?_)
        | fail)
      refine bodyPost_ret (v := .agg #[.int .i64 2, .int .i64 0, .int .u32 txid, .int .i64 0, .bool tall, .int .u32 0, .int .u32 yi, .int .u32 0, .int .u32 0, .int .u8 t0, .int .u8 t1, .int .u8 t2, .int .u8 t3, .int .u8 t4, .int .u8 t5, .string noText, .string noText, .slice a4 n4 c4]) ?_ (by rfl) ⟨a4, n4, c4, by first | rfl | (rw [if_neg h5]) | (simp [h5]), ?_⟩
      · exact results_row1 Try.results27 _ _ gr 28 _ (0, 0) _ rfl (setRow_heap _ _ _ _ _ _ HA8.out.2.1) Try.underlying28 rfl sizeBp
      · obtain ⟨h1, h2, h3, h4, h5, h6, ⟨E, e1, e2, e3⟩, h8⟩ := HA8.out
        exact ⟨⟨E, e1.keep fun b hi => (But.setRow gr _ _).block b (e3 b hi).2 (e1.lt hi).2, e2⟩, bbut h8 (But.setRow _ _ _) (by have := HGM.out; have := HGE.out; omega)⟩
  · refine step_alloc_to rfl 28 rfl zeroC (by kernel_rfl) ?_
    refine hK.out _ _ (HC.out _ (kept HM3.out (bpush (Below.refl _ w4).drew _))) (fun hHeld => ?_)
    clear hK
    try simp only [Act.put, List.setIfInBounds_toArray, List.set_cons_zero, List.set_cons_succ]
    obtain ⟨wz, hwz⟩ : ∃ W, W = w4.drew.alloc (.cells zeroC 28) := ⟨_, rfl⟩
    have HBZ : Hid (Below w4.heap.size w4 wz) := by rw [hwz]; exact bpush (Below.refl _ w4).drew _
    have HXZ : Hid (wz.heap[w4.drew.heap.size]? = some (.cells zeroC 28 (0, 0))) := by rw [hwz]; exact heap_new _ _
    have HGZ : Hid (w4.heap.size ≤ w4.drew.heap.size) := Nat.le_refl _
    rw [← hwz]
    generalize w4.drew.heap.size = gx at *
    clear hwz hHeld
    have HMZ := hid (kept HM3.out HBZ.out)
    have HRZ := hid (kept HR3.out HBZ.out)
    refine wpAnyH_ready (rs := [9]) (by kernel_rfl) (by simp) ?_
    refine AllReadyH.cons (o := { dst := some 27, op := .call { callee := .value (.func 56), args := #[.tmp 25, .tmp 26], argTypes := #[26, 26] }, type := _, pos := _, after := _, guard := none }) rfl (fun K hK => ?_) AllReadyH.nil
    go_simp
    refine (HWM.out wz _ _ _ _ (Nat.le_trans HB3.out.size HBZ.out.size) (MoreI.later HMO.out HBZ.out) (by simp) (HL3.out.below (HBZ.out.mono HB3.out.size))).mono ?_
    rintro e w5 ⟨a4, n4, c4, rfl, HI5⟩
    have hb5 : Below w1.heap.size wz w5 := by obtain ⟨E, _, _, h3, _⟩ := HI5.out; exact h3
    have HM5 : Hid (w5.heap[gm]? = some (.cells #[.int .i64 top, .int .i64 thops, .int .u32 txid, .int .i64 tsecs, .bool tall, .int .u32 tci, .int .u32 tyi, .int .u32 tsi, .int .u32 tgi, .int .u8 t0, .int .u8 t1, .int .u8 t2, .int .u8 t3, .int .u8 t4, .int .u8 t5, .string tsn, .string tfl, .slice ta tn tc] 28 (0, 0))) := (hb5.block gm (heap_lt HM1.out)).trans HMZ.out
    have HR5 : Hid (w5.heap[gr]? = some (.cells zeroC 28 (0, 0))) := (hb5.block gr (heap_lt HR1.out)).trans HRZ.out
    have HA7 : Hid (AnsS w w1 gm gr gx #[.int .i64 top, .int .i64 thops, .int .u32 txid, .int .i64 tsecs, .bool tall, .int .u32 tci, .int .u32 tyi, .int .u32 tsi, .int .u32 tgi, .int .u8 t0, .int .u8 t1, .int .u8 t2, .int .u8 t3, .int .u8 t4, .int .u8 t5, .string tsn, .string tfl, .slice ta tn tc] zeroC a4 n4 c4 ((53, op1 kind) :: (54, ip4 sv) :: absO os) w5) := by
      obtain ⟨E, e1, e2, e3, e4, e5⟩ := HI5.out
      have l1 := heap_lt HM3.out
      have l2 := heap_lt HR3.out
      have s1 := HB1.out.size
      have l3 := heap_lt HR1.out
      have s3 := HB3.out.size
      have gz := HGZ.out
      have x5 : w5.heap[gx]? = some (.cells zeroC 28 (0, 0)) := (e5 gx (heap_lt HXZ.out) (fun e => by
        have := (HMO.out.lt (Or.inl e)).2
        omega)).trans HXZ.out
      refine ⟨HM5.out, HR5.out, x5, by omega, by omega, by omega, ⟨E, e1.le s1, e2, fun b hb => ⟨fun e => ?_, ?_⟩⟩, ((HB1.out.trans (HB3.out.mono s1)).trans (HBZ.out.mono (by omega))).trans (e3.mono s1)⟩
      · subst e
        rcases hb with hb | ⟨p, hp, hb⟩
        · obtain ⟨c1, h1⟩ := e1.row.obj hb
          rw [x5] at h1
          simp at h1
        · obtain ⟨c1, f1, h1⟩ := (e1.data p hp).obj hb
          rw [x5] at h1
          simp at h1
      · have := (e1.lt hb).1
        omega
    refine hK.out _ _ (HC.out _ HM5.out) (fun hHeld => ?_)
    clear hK HI5 hb5 HM5 HR5
    try simp only [Act.put, List.setIfInBounds_toArray, List.set_cons_zero, List.set_cons_succ]
    refine wpAnyH_take (i := 10) (oi := { dst := some 28, op := .build 28 #[(0, .const (.int .i64 2)), (2, .tmp 19), (4, .tmp 21), (6, .tmp 22), (9, .tmp 24), (12, .tmp 27)], type := _, pos := _, after := _, guard := none }) (v := .agg #[.int .i64 2, .int .i64 0, .int .u32 txid, .int .i64 0, .bool tall, .int .u32 0, .int .u32 yi, .int .u32 0, .int .u32 0, .int .u8 t0, .int .u8 t1, .int .u8 t2, .int .u8 t3, .int .u8 t4, .int .u8 t5, .string noText, .string noText, .slice a4 n4 c4]) rfl (by kernel_rfl) (by kernel_rfl) (by kernel_rfl) (fun _ _ _ h => h) (Or.inl ⟨by rfl, fun wq hSw => by (try dsimp only at hSw); (go_simp; try rfl)⟩) (by assumption) ?_
    try simp only [Act.put, List.setIfInBounds_toArray, List.set_cons_zero, List.set_cons_succ]
    refine wpAnyH_ready (rs := [12]) (by kernel_rfl) (by simp) ?_
    refine AllReadyH.cons (o := { dst := none, op := .store 28 (.tmp 12) (.tmp 28), type := _, pos := _, after := _, guard := none }) rfl (fun K hK => ?_) AllReadyH.nil
    refine step_store_row rfl 28 _ _ rfl gx #[.int .i64 2, .int .i64 0, .int .u32 txid, .int .i64 0, .bool tall, .int .u32 0, .int .u32 yi, .int .u32 0, .int .u32 0, .int .u8 t0, .int .u8 t1, .int .u8 t2, .int .u8 t3, .int .u8 t4, .int .u8 t5, .string noText, .string noText, .slice a4 n4 c4] rfl rfl 28 _ HA7.out.2.2.1 sizeBp rfl (by simp [Value.oneCell']) ?_
    intro w7 hg7 hb7
    have HA8 := hid (HA7.out.set hb7.out hg7.out)
    refine hK.out _ _ (HC.out _ HA8.out.1) (fun hHeld => ?_)
    clear hK
    try simp only [Act.put, List.setIfInBounds_toArray, List.set_cons_zero, List.set_cons_succ]
    refine wpAnyH_done (by kernel_rfl) ?_ _
    refine NoPanic.normal ?_
    clear HA7 hg7 hb7 hHeld HC
    by_cases h5 : kind = 5
    · subst h5
      have cg : w7.cell? ⟨gm, 5, none⟩ = some (.int .u32 tci) := (cell_of_heap HA8.out.1 5).trans rfl
      have cx : w7.cell? ⟨gx, 5, none⟩ = some (.int .u32 0) := (cell_of_heap HA8.out.2.2.1 5).trans rfl
      have fx : w7.frozen? ⟨gx, 5, none⟩ = false := frozen_of_heap HA8.out.2.2.1 5
      have HA9 : Hid (AnsS w w1 gm gr gx #[.int .i64 top, .int .i64 thops, .int .u32 txid, .int .i64 tsecs, .bool tall, .int .u32 tci, .int .u32 tyi, .int .u32 tsi, .int .u32 tgi, .int .u8 t0, .int .u8 t1, .int .u8 t2, .int .u8 t3, .int .u8 t4, .int .u8 t5, .string tsn, .string tfl, .slice ta tn tc] #[.int .i64 2, .int .i64 0, .int .u32 txid, .int .i64 0, .bool tall, .int .u32 tci, .int .u32 yi, .int .u32 0, .int .u32 0, .int .u8 t0, .int .u8 t1, .int .u8 t2, .int .u8 t3, .int .u8 t4, .int .u8 t5, .string noText, .string noText, .slice a4 n4 c4] a4 n4 c4 ((53, op1 5) :: (54, ip4 sv) :: absO os) (w7.setCell ⟨gx, 5, none⟩ (.int .u32 tci))) := HA8.out.set (But.setCell _ _ _ _) ((heap_setCell HA8.out.2.2.1).trans rfl)
      go_upto_region 5 with (fail)
      generalize w7.setCell ⟨gx, 5, none⟩ (.int .u32 tci) = w8 at *
      go_wp2_with (first
        | (refine wpList_load_row rfl 28 _ rfl gx rfl 28 #[.int .i64 2, .int .i64 0, .int .u32 txid, .int .i64 0, .bool tall, .int .u32 tci, .int .u32 yi, .int .u32 0, .int .u32 0, .int .u8 t0, .int .u8 t1, .int .u8 t2, .int .u8 t3, .int .u8 t4, .int .u8 t5, .string noText, .string noText, .slice a4 n4 c4] (0, 0) _ (by exact HA9.out.2.2.1) Try.underlying28 rfl sizeBp ?_)
        | (refine wpList_store_row rfl 28 _ _ rfl gr #[.int .i64 2, .int .i64 0, .int .u32 txid, .int .i64 0, .bool tall, .int .u32 tci, .int .u32 yi, .int .u32 0, .int .u32 0, .int .u8 t0, .int .u8 t1, .int .u8 t2, .int .u8 t3, .int .u8 t4, .int .u8 t5, .string noText, .string noText, .slice a4 n4 c4] rfl rfl 28 _ HA9.out.2.1 sizeBp rfl (by simp [Value.oneCell']) ?_)
        | fail)
      refine bodyPost_ret (v := .agg #[.int .i64 2, .int .i64 0, .int .u32 txid, .int .i64 0, .bool tall, .int .u32 tci, .int .u32 yi, .int .u32 0, .int .u32 0, .int .u8 t0, .int .u8 t1, .int .u8 t2, .int .u8 t3, .int .u8 t4, .int .u8 t5, .string noText, .string noText, .slice a4 n4 c4]) ?_ (by rfl) ⟨a4, n4, c4, rfl, ?_⟩
      · exact results_row1 Try.results27 _ _ gr 28 _ (0, 0) _ rfl (setRow_heap _ _ _ _ _ _ HA9.out.2.1) Try.underlying28 rfl sizeBp
      · obtain ⟨h1, h2, h3, h4, h5, h6, ⟨E, e1, e2, e3⟩, h8⟩ := HA9.out
        exact ⟨⟨E, e1.keep fun b hi => (But.setRow gr _ _).block b (e3 b hi).2 (e1.lt hi).2, e2⟩, bbut h8 (But.setRow _ _ _) (by have := HGM.out; have := HGE.out; omega)⟩
    · have h5' : (kind == 5) = false := by simpa using h5
      go_wp2_with (first
        | (refine wpList_load_row rfl 28 _ rfl gx rfl 28 #[.int .i64 2, .int .i64 0, .int .u32 txid, .int .i64 0, .bool tall, .int .u32 0, .int .u32 yi, .int .u32 0, .int .u32 0, .int .u8 t0, .int .u8 t1, .int .u8 t2, .int .u8 t3, .int .u8 t4, .int .u8 t5, .string noText, .string noText, .slice a4 n4 c4] (0, 0) _ (by exact HA8.out.2.2.1) Try.underlying28 rfl sizeBp ?_)
        | (refine wpList_store_row rfl 28 _ _ rfl gr #[.int .i64 2, .int .i64 0, .int .u32 txid, .int .i64 0, .bool tall, .int .u32 0, .int .u32 yi, .int .u32 0, .int .u32 0, .int .u8 t0, .int .u8 t1, .int .u8 t2, .int .u8 t3, .int .u8 t4, .int .u8 t5, .string noText, .string noText, .slice a4 n4 c4] rfl rfl 28 _ HA8.out.2.1 sizeBp rfl (by simp [Value.oneCell']) ?_)
        | fail)
      refine bodyPost_ret (v := .agg #[.int .i64 2, .int .i64 0, .int .u32 txid, .int .i64 0, .bool tall, .int .u32 0, .int .u32 yi, .int .u32 0, .int .u32 0, .int .u8 t0, .int .u8 t1, .int .u8 t2, .int .u8 t3, .int .u8 t4, .int .u8 t5, .string noText, .string noText, .slice a4 n4 c4]) ?_ (by rfl) ⟨a4, n4, c4, by first | rfl | (rw [if_neg h5]) | (simp [h5]), ?_⟩
      · exact results_row1 Try.results27 _ _ gr 28 _ (0, 0) _ rfl (setRow_heap _ _ _ _ _ _ HA8.out.2.1) Try.underlying28 rfl sizeBp
      · obtain ⟨h1, h2, h3, h4, h5, h6, ⟨E, e1, e2, e3⟩, h8⟩ := HA8.out
        exact ⟨⟨E, e1.keep fun b hi => (But.setRow gr _ _).block b (e3 b hi).2 (e1.lt hi).2, e2⟩, bbut h8 (But.setRow _ _ _) (by have := HGM.out; have := HGE.out; omega)⟩
end Go.Proofs.Ytoifblndpcelkaa
