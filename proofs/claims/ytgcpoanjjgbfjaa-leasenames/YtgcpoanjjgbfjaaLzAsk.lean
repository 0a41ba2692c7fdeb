/-
  bootp.Ask, bootp.Type; messages that are read. (Heads of BoAsk and BoBpV, over OMem alone.)
-/
import Derived.Test.YtgcpoanjjgbfjaaLzMor
import Derived.Test.YtgcpoanjjgbfjaaOMk
import Derived.Test.YtgcpoanjjgbfjaaOFst
import Derived.Test.YtgcpoanjjgbfjaaBBig
import Derived.Test.YtgcpoanjjgbfjaaBStep
import Derived.Deep.RegionHeld3
namespace Go.Proofs.Ytgcpoanjjgbfjaa
open Go.RowKit
set_option linter.all false

theorem sizeBp : (Try.prog.info? 41).map (·.size) = some 18 := by kernel_rfl
def zeroC : Array Value := zeroBp.cells (.slice none 0 0)
/-- options of a call's own. -/
def OptI (w W : World) (v : Value) (g : List Opt) : Prop := ∃ E, OwnO w.heap.size W v E ∧ codes E = g
theorem OptI.below {w W W' : World} {v : Value} {g : List Opt} (h : OptI w W v g) (hb : Below W.heap.size W W') : OptI w W' v g := by
  obtain ⟨E, h1, h2⟩ := h
  exact ⟨E, h1.below hb, h2⟩
theorem Low.up {B B' : Nat} {w : World} {a : Option Addr} {os : List OP} (h : Low B w a os) (hB : B ≤ B') : Low B' w a os := ⟨h.v, fun b off e hn => Nat.lt_of_lt_of_le (h.row b off e hn) hB, fun o ho b off e hn => Nat.lt_of_lt_of_le (h.data o ho b off e hn) hB⟩
/-- one option of the call's own. -/
theorem ownO_one {w w' : World} {g : Nat} {c : Int} {zs : List Int} (h : MadeO w w' g zs) (hz : ∀ z ∈ zs, 0 ≤ z ∧ z ≤ 255) (hl : zs.length ≤ 16) :
    OwnO w.heap.size (w'.alloc (.cells #[.int .i64 c, .slice (some ⟨g, 0, none⟩) zs.length zs.length] 38)) (.slice (some ⟨w'.heap.size, 0, none⟩) 1 1) [((c, zs), .slice (some ⟨g, 0, none⟩) zs.length zs.length)] := by
  obtain ⟨a1, h1, b1⟩ := h
  have l1 := heap_lt h1
  have s1 := b1.size
  have k1 : (w'.alloc (.cells #[.int .i64 c, .slice (some ⟨g, 0, none⟩) zs.length zs.length] 38)).heap[g]? = some (.cells (u8s zs).toArray 5 (0, 0)) := (heap_old _ _ l1).trans h1
  have r1 := Row.of_heap k1 (by simp [u8s]; unfold maxLen; omega)
  simp only [List.size_toArray, u8s_len] at r1
  refine ⟨⟨rfl, Or.inr ⟨w'.heap.size, 1, _, rfl, Nat.zero_le _, heap_new _ _, Nat.le_refl _, by unfold maxLen; omega, rfl, rfl⟩⟩, fun b hb => ?_, ?_, ?_, ?_, ?_⟩
  · have : w'.heap.size = b := by simpa [Value.ownBlock] using hb
    omega
  · intro p hp
    simp only [List.mem_singleton] at hp
    subst hp
    exact r1
  · intro p hp b hb
    simp only [List.mem_singleton] at hp
    subst hp
    have : g = b := by simpa [Value.ownBlock] using hb
    omega
  · intro i j p q b hij hp hq hb e
    have hi := (List.getElem?_eq_some_iff.1 hp).1
    have hj := (List.getElem?_eq_some_iff.1 hq).1
    simp only [List.length_cons, List.length_nil] at hi hj
    omega
  · intro p hp z hzz
    simp only [List.mem_singleton] at hp
    subst hp
    exact hz z hzz
theorem step_alloc_to {ops : Array Oper} {o : Oper} {a : Act} {w : World} {K : Act → World → Prop} {Q : Exit → Act → World → Prop} {E : Prop} (hgd : o.guard = none) (t : TypeId) (ho : o.op = .alloc t) (cells : Array Value)
    (hz : (Try.prog.info? t).map (·.zero) = some (some (.agg cells))) (h : K (a.put o.dst (.pointer (some ⟨w.heap.size, 0, none⟩))) (w.alloc (.cells cells t))) :
    if Region.wanted o (yielded ops a.tmps) = true then Oper.wp Try.prog o a w K Q else E := by
  have hw : Region.wanted o (yielded ops a.tmps) = true := by simp [Region.wanted, hgd]
  rw [if_pos hw]
  cases hq : Try.prog.info? t with
  | none => simp [hq] at hz
  | some i =>
    have hzz : i.zero = some (.agg cells) := by simpa [hq] using hz
    have hr : (Instr.alloc t true (.tuple #[])).run Try.prog w = .ok (.pointer (some ⟨w.heap.size, 0, none⟩)) (w.alloc (.cells cells t)) := by
      simp [Instr.alloc, zeroValue, typeInfo, hq, hzz, Value.cells, go_sem]
    unfold Oper.wp execOp
    simp only [ho, Sem.run_bind, Sem.run_pure, hr, Result.andThen_ok]
    exact h
def askM (mac : Mac) (xid secs ci : Int) : Bp := ⟨1, 0, xid, min (max secs 0) 65535, true, ci, 0, 0, 0, mac, noText, noText⟩
set_option maxRecDepth 20000 in
set_option maxHeartbeats 4000000 in
theorem bask_any (kind : Int) (hk : -9223372036854775808 ≤ kind ∧ kind ≤ 9223372036854775807) (mac : Mac) (xid secs ci : Int) (hs : -9223372036854775808 ≤ secs ∧ secs ≤ 9223372036854775807) (a : Option Addr) (c : Nat) (os : List OP) (w : World) (h : OV w a os) (hf : os.length ≤ 4294967296) :
    Calls Try.prog 73 #[.int .i64 kind, mac.val, .int .u32 xid, .int .i64 secs, .int .u32 ci, .slice a os.length c] w fun e w' => ∃ a' n' c', e = .returned ((askM mac xid secs ci).val (.slice a' n' c')) ∧ Hid (OptI w w' (.slice a' n' c') ((53, op1 kind) :: absO os) ∧ Below w.heap.size w w') := by
  obtain ⟨b0, b1, b2, b3, b4, b5⟩ := mac
  obtain ⟨w0, hw0⟩ : ∃ W, W = w.alloc (.cells #[.int .u8 b0, .int .u8 b1, .int .u8 b2, .int .u8 b3, .int .u8 b4, .int .u8 b5] 25) := ⟨_, rfl⟩
  obtain ⟨w1, hw1⟩ : ∃ W, W = w0.alloc (.cells zeroC 41) := ⟨_, rfl⟩
  have HB1 : Hid (Below w.heap.size w w1) := by rw [hw1, hw0]; exact bpush (bpush (Below.refl _ _) _) _
  have HM0 : Hid (w0.heap[w.heap.size]? = some (.cells #[.int .u8 b0, .int .u8 b1, .int .u8 b2, .int .u8 b3, .int .u8 b4, .int .u8 b5] 25 (0, 0))) := by rw [hw0]; exact heap_new _ _
  have HM1 : Hid (w1.heap[w.heap.size]? = some (.cells #[.int .u8 b0, .int .u8 b1, .int .u8 b2, .int .u8 b3, .int .u8 b4, .int .u8 b5] 25 (0, 0))) := by rw [hw1]; exact (heap_old _ _ (heap_lt HM0.out)).trans HM0.out
  have hz0 : w0.heap.size = w.heap.size + 1 := by rw [hw0]; simp
  have HR1 : Hid (w1.heap[w.heap.size + 1]? = some (.cells zeroC 41 (0, 0))) := by rw [hw1, ← hz0]; exact heap_new _ _
  have HGE : Hid (w.heap.size ≤ w.heap.size + 1) := Nat.le_succ _
  clear hz0
  have HBY := hid (byte_any 53 kind w1 hk.1 hk.2)
  have HLO := hid ((Low.of h).below HB1.out |>.up HB1.out.size)
  have HWM := hid (fun (W : World) (a0 : Option Addr) (n0 c0 : Nat) (L0 : List Opt) (hB : w1.heap.size ≤ W.heap.size) (h0 : MoreI w1.heap.size (.slice a0 n0 c0) W W (.slice a0 n0 c0) L0) (hl0 : L0.length ≤ 5) (hlo : Low w1.heap.size W a os) => withMore_any w1.heap.size a a0 n0 c0 c os L0 W hB h0 hl0 hf hlo)
  obtain ⟨n, hn⟩ : ∃ n, n = os.length := ⟨_, rfl⟩
  rw [← hn] at HWM ⊢
  clear h hf hn hk
  unfold askM
  obtain ⟨S, hS⟩ : ∃ S, S = min (max secs 0) 65535 := ⟨_, rfl⟩
  rw [← hS]
  simp only [Bp.val, Bp.cells, Mac.val]
  go_enter Try.func73, Try.ntmps73
  go_upto_region 2 with (first
    | (refine wpList_alloc_to rfl 41 rfl zeroC (by kernel_rfl) ?_)
    | (go_at_call 78; rw [← hw0, ← hw1]; refine HBY.out.mono ?_; rintro e w2 ⟨g, rfl, HMD⟩)
    | fail)
  have hO := ownO_one HMD.out (c := 53) (op1_bd kind) (by simp [op1])
  rw [show (op1 kind).length = 1 from rfl] at hO
  have hb3 : Below w1.heap.size w1 (w2.alloc (.cells #[.int .i64 53, .slice (some ⟨g, 0, none⟩) 1 1] 38)) := bpush HMD.out.2.2 _
  have HMO := hid hO
  have HB3 := hid hb3
  clear hO hb3 HMD HBY hw1 hw0
  generalize w2.alloc (.cells #[.int .i64 53, .slice (some ⟨g, 0, none⟩) 1 1] 38) = w3 at *
  generalize w2.heap.size = gf at *
  have HM3 := hid (kept HM1.out HB3.out)
  have HR3 := hid (kept HR1.out HB3.out)
  have HL3 := hid (HLO.out.below HB3.out)
  obtain ⟨gr, hgr⟩ : ∃ g, g = w.heap.size + 1 := ⟨_, rfl⟩
  rw [← hgr] at HR1 HR3 HGE ⊢
  obtain ⟨gm, hgm⟩ : ∃ g, g = w.heap.size := ⟨_, rfl⟩
  have HGM := hid hgm
  rw [← hgm] at HM1 HM3 ⊢
  clear hgr hgm HM0
  have HC : Hid (∀ W : World, W.heap[gm]? = some (.cells #[.int .u8 b0, .int .u8 b1, .int .u8 b2, .int .u8 b3, .int .u8 b4, .int .u8 b5] 25 (0, 0)) → ∀ q, W.cell? ⟨gm, q, none⟩ = (#[.int .u8 b0, .int .u8 b1, .int .u8 b2, .int .u8 b3, .int .u8 b4, .int .u8 b5] : Array Value)[q]?) := fun W h q => cell_of_heap h q
  refine wp_region_noPanic ?_
  refine wp_region_held_drew (S := fun w' => ∀ q, w'.cell? ⟨gm, q, none⟩ = (#[.int .u8 b0, .int .u8 b1, .int .u8 b2, .int .u8 b3, .int .u8 b4, .int .u8 b5] : Array Value)[q]?) (by kernel_rfl) (HC.out _ HM3.out) (fun hHeld => ?_)
  refine wpAnyH_take (i := 0) (oi := { dst := some 17, op := .move (.tmp 2), type := _, pos := _, after := _, guard := none }) (v := .int .u32 xid) rfl (by kernel_rfl) (by kernel_rfl) (by kernel_rfl) (fun _ _ _ h => h) (Or.inl ⟨by rfl, fun wq hSw => by (try dsimp only at hSw); go_simp⟩) (by assumption) ?_
  try simp only [Act.put, List.setIfInBounds_toArray, List.set_cons_zero, List.set_cons_succ]
  refine wpAnyH_take (i := 1) (oi := { dst := some 18, op := .move (.tmp 3), type := _, pos := _, after := _, guard := none }) (v := .int .i64 secs) rfl (by kernel_rfl) (by kernel_rfl) (by kernel_rfl) (fun _ _ _ h => h) (Or.inl ⟨by rfl, fun wq hSw => by (try dsimp only at hSw); go_simp⟩) (by assumption) ?_
  try simp only [Act.put, List.setIfInBounds_toArray, List.set_cons_zero, List.set_cons_succ]
  refine wpAnyH_take (i := 2) (oi := { dst := some 19, op := .call { callee := .builtin .max, args := #[.tmp 18, .const (.int .i64 0)], argTypes := #[3, 3] }, type := _, pos := _, after := _, guard := none }) (v := .int .i64 (max secs 0)) rfl (by kernel_rfl) (by kernel_rfl) (by kernel_rfl) (fun _ _ _ h => h) (Or.inl ⟨by rfl, fun wq hSw => by (try dsimp only at hSw); go_simp; try (split <;> omega)⟩) (by assumption) ?_
  try simp only [Act.put, List.setIfInBounds_toArray, List.set_cons_zero, List.set_cons_succ]
  refine wpAnyH_take (i := 3) (oi := { dst := some 20, op := .call { callee := .builtin .min, args := #[.tmp 19, .const (.int .i64 65535)], argTypes := #[3, 3] }, type := _, pos := _, after := _, guard := none }) (v := .int .i64 S) rfl (by kernel_rfl) (by kernel_rfl) (by kernel_rfl) (fun _ _ _ h => h) (Or.inl ⟨by rfl, fun wq hSw => by (try dsimp only at hSw); go_simp; try (split <;> omega)⟩) (by assumption) ?_
  try simp only [Act.put, List.setIfInBounds_toArray, List.set_cons_zero, List.set_cons_succ]
  refine wpAnyH_take (i := 4) (oi := { dst := some 21, op := .move (.tmp 4), type := _, pos := _, after := _, guard := none }) (v := .int .u32 ci) rfl (by kernel_rfl) (by kernel_rfl) (by kernel_rfl) (fun _ _ _ h => h) (Or.inl ⟨by rfl, fun wq hSw => by (try dsimp only at hSw); go_simp⟩) (by assumption) ?_
  try simp only [Act.put, List.setIfInBounds_toArray, List.set_cons_zero, List.set_cons_succ]
  refine wpAnyH_take (i := 5) (oi := { dst := some 22, op := .load 25 (.tmp 7), type := _, pos := _, after := _, guard := none }) (v := .agg #[.int .u8 b0, .int .u8 b1, .int .u8 b2, .int .u8 b3, .int .u8 b4, .int .u8 b5]) rfl (by kernel_rfl) (by kernel_rfl) (by kernel_rfl) (fun _ _ _ h => h) (Or.inl ⟨by rfl, fun wq hSw => by (try dsimp only at hSw); go_simp⟩) (by assumption) ?_
  try simp only [Act.put, List.setIfInBounds_toArray, List.set_cons_zero, List.set_cons_succ]
  refine wpAnyH_take (i := 6) (oi := { dst := some 23, op := .move (.tmp 13), type := _, pos := _, after := _, guard := none }) (v := .slice (some ⟨gf, 0, none⟩) 1 1) rfl (by kernel_rfl) (by kernel_rfl) (by kernel_rfl) (fun _ _ _ h => h) (Or.inl ⟨by rfl, fun wq hSw => by (try dsimp only at hSw); go_simp⟩) (by assumption) ?_
  try simp only [Act.put, List.setIfInBounds_toArray, List.set_cons_zero, List.set_cons_succ]
  refine wpAnyH_take (i := 7) (oi := { dst := some 24, op := .move (.tmp 5), type := _, pos := _, after := _, guard := none }) (v := .slice a n c) rfl (by kernel_rfl) (by kernel_rfl) (by kernel_rfl) (fun _ _ _ h => h) (Or.inl ⟨by rfl, fun wq hSw => by (try dsimp only at hSw); go_simp⟩) (by assumption) ?_
  try simp only [Act.put, List.setIfInBounds_toArray, List.set_cons_zero, List.set_cons_succ]
  refine wpAnyH_ready (rs := [8]) (by kernel_rfl) (by simp) ?_
  refine AllReadyH.cons (o := { dst := some 25, op := .call { callee := .value (.func 79), args := #[.tmp 23, .tmp 24], argTypes := #[39, 39] }, type := _, pos := _, after := _, guard := none }) rfl (fun K hK => ?_) AllReadyH.nil
  go_simp
  refine (HWM.out w3.drew _ _ _ _ HB3.out.size (MoreI.later HMO.out (Below.refl _ _).drew) (by simp) (HL3.out.below (Below.refl _ _).drew)).mono ?_
  rintro e w4 ⟨a4, n4, c4, rfl, HI4⟩
  have hb4 : Below w1.heap.size w3.drew w4 := by obtain ⟨E, _, _, h3, _⟩ := HI4.out; exact h3
  have HM4 : Hid (w4.heap[gm]? = some (.cells #[.int .u8 b0, .int .u8 b1, .int .u8 b2, .int .u8 b3, .int .u8 b4, .int .u8 b5] 25 (0, 0))) := (hb4.block gm (heap_lt HM1.out)).trans HM3.out
  have HR4 : Hid (w4.heap[gr]? = some (.cells zeroC 41 (0, 0))) := (hb4.block gr (heap_lt HR1.out)).trans HR3.out
  refine hK.out _ _ (HC.out _ HM4.out) (fun hHeld => ?_)
  clear hK
  try simp only [Act.put, List.setIfInBounds_toArray, List.set_cons_zero, List.set_cons_succ]
  refine wpAnyH_take (i := 9) (oi := { dst := some 26, op := .build 41 #[(0, .const (.int .i64 1)), (2, .tmp 17), (3, .tmp 20), (4, .const (.bool true)), (5, .tmp 21), (9, .tmp 22), (12, .tmp 25)], type := _, pos := _, after := _, guard := none }) (v := .agg #[.int .i64 1, .int .i64 0, .int .u32 xid, .int .i64 S, .bool true, .int .u32 ci, .int .u32 0, .int .u32 0, .int .u32 0, .int .u8 b0, .int .u8 b1, .int .u8 b2, .int .u8 b3, .int .u8 b4, .int .u8 b5, .string noText, .string noText, .slice a4 n4 c4]) rfl (by kernel_rfl) (by kernel_rfl) (by kernel_rfl) (fun _ _ _ h => h) (Or.inl ⟨by rfl, fun wq hSw => by (try dsimp only at hSw); (go_simp; try rfl)⟩) (by assumption) ?_
  try simp only [Act.put, List.setIfInBounds_toArray, List.set_cons_zero, List.set_cons_succ]
  refine wpAnyH_ready (rs := [10]) (by kernel_rfl) (by simp) ?_
  refine AllReadyH.cons (o := { dst := none, op := .store 41 (.tmp 12) (.tmp 26), type := _, pos := _, after := _, guard := none }) rfl (fun K hK => ?_) AllReadyH.nil
  refine step_store_row rfl 41 _ _ rfl gr #[.int .i64 1, .int .i64 0, .int .u32 xid, .int .i64 S, .bool true, .int .u32 ci, .int .u32 0, .int .u32 0, .int .u32 0, .int .u8 b0, .int .u8 b1, .int .u8 b2, .int .u8 b3, .int .u8 b4, .int .u8 b5, .string noText, .string noText, .slice a4 n4 c4] rfl rfl 41 _ HR4.out sizeBp rfl (by simp [Value.oneCell']) ?_
  intro w5 hg5 hb5
  have HM5 := hid (keptBut HM4.out hb5.out (by
    intro e
    have h1 := HM4.out
    rw [e, HR4.out] at h1
    simp at h1))
  refine hK.out _ _ (HC.out _ HM5.out) (fun hHeld => ?_)
  clear hK
  try simp only [Act.put, List.setIfInBounds_toArray, List.set_cons_zero, List.set_cons_succ]
  refine wpAnyH_done (by kernel_rfl) ?_ _
  refine NoPanic.normal ?_
  go_wp2
  refine bodyPost_ret (v := .agg #[.int .i64 1, .int .i64 0, .int .u32 xid, .int .i64 S, .bool true, .int .u32 ci, .int .u32 0, .int .u32 0, .int .u32 0, .int .u8 b0, .int .u8 b1, .int .u8 b2, .int .u8 b3, .int .u8 b4, .int .u8 b5, .string noText, .string noText, .slice a4 n4 c4]) ?_ (by rfl) ⟨a4, n4, c4, rfl, ?_⟩
  · exact results_row1 Try.results73 _ _ gr 41 _ (0, 0) _ rfl hg5.out Try.underlying41 rfl sizeBp
  · obtain ⟨E, e1, e2, e3, _⟩ := HI4.out
    have hne : ∀ b, InO (.slice a4 n4 c4) E b → b ≠ gr := fun b hb e => by
      have h1 := (e1.lt hb).1
      have h2 := heap_lt HR1.out
      omega
    refine ⟨⟨E, (e1.keep fun b hb => hb5.out.block b (hne b hb) (e1.lt hb).2).le HB1.out.size, by rw [e2]; rfl⟩, ?_⟩
    exact bbut (((HB1.out.trans (HB3.out.mono HB1.out.size)).drew.trans (hb4.mono HB1.out.size))) hb5.out (by have := HGM.out; have := HGE.out; omega)
set_option maxHeartbeats 1000000 in
theorem type_any (m : Bp) (a : Option Addr) (c : Nat) (os : List OP) (w : World) (h : OV w a os) :
    Calls Try.prog 22 #[m.val (.slice a os.length c)] w fun e w' => e = .returned (.int .i64 (exN (fstP os 53).zs 1)) ∧ Hid (Below w.heap.size w w') := by
  have C := fun wx (hw : Below w.heap.size w wx) => small_any a c os 53 wx (h.below hw)
  have HC := hid C
  generalize exN (fstP os 53).zs 1 = N at *
  generalize exB (fstP os 53).zs 1 = B at *
  generalize os.length = n at *
  clear C h
  obtain ⟨op, hops, xid, secs, all, ci, yi, si, gi, ⟨b0, b1, b2, b3, b4, b5⟩, sname, file⟩ := m
  simp only [Bp.val, Bp.cells] at *
  go_enter Try.func22, Try.ntmps22
  go_wp2_with (first
    | (go_at_call 32; refine (HC.out _ (bpush (Below.refl _ _) _)).mono ?_; rintro e w1 ⟨rfl, HB⟩)
    | fail)
  go_ret
  exact ⟨rfl, bstep (bpush (Below.refl _ _) _) HB.out⟩
theorem abs_bd {w : World} {a : Option Addr} {os : List OP} (h : OV w a os) : ∀ o ∈ absO os, ∀ z ∈ o.2, 0 ≤ z ∧ z ≤ 255 := fun o ho => by
  obtain ⟨p, hp, rfl⟩ := List.mem_map.1 ho
  exact (h.oks p hp).1.1
/-- a message's cells, its options being read. -/
def BpV (m : Bp) (g : List Opt) (X : Array Value) (W : World) : Prop := ∃ a os c, X = m.cells (.slice a os.length c) ∧ OV W a os ∧ absO os = g
theorem BpV.below {m : Bp} {g : List Opt} {X : Array Value} {W W' : World} (h : BpV m g X W) (hb : Below W.heap.size W W') : BpV m g X W' := by
  obtain ⟨a, os, c, h1, h2, h3⟩ := h
  exact ⟨a, os, c, h1, h2.below hb, h3⟩
theorem BpV.size {m : Bp} {g : List Opt} {X : Array Value} {W : World} (h : BpV m g X W) : X.size = 18 := by
  obtain ⟨a, os, c, h1, _⟩ := h
  rw [h1]
  rfl
theorem BpV.one {m : Bp} {g : List Opt} {X : Array Value} {W : World} (h : BpV m g X W) : X.all (·.oneCell') = true := by
  obtain ⟨a, os, c, h1, _⟩ := h
  rw [h1]
  simp [Bp.cells, Value.oneCell']
theorem BpV.info {m : Bp} {g : List Opt} {X : Array Value} {W : World} (h : BpV m g X W) : (Try.prog.info? 41).map (·.size) = some X.size := by rw [h.size]; exact sizeBp
/-- the number at a place of the cells. -/
theorem BpV.at {m : Bp} {g : List Opt} {X : Array Value} {W : World} (h : BpV m g X W) (i : Nat) (hi : i < 17) (v : Value) (hv : ∀ d, (m.cells d)[i]? = some v) : X[i]? = some v := by
  obtain ⟨a, os, c, h1, _⟩ := h
  rw [h1]
  exact hv _
theorem BpV.bd {m : Bp} {g : List Opt} {X : Array Value} {W : World} (h : BpV m g X W) : ∀ o ∈ g, ∀ z ∈ o.2, 0 ≤ z ∧ z ≤ 255 := by
  obtain ⟨a, os, c, h1, h2, h3⟩ := h
  rw [← h3]
  exact abs_bd h2
def typN (os : List OP) : Int := exN (fstP os 53).zs 1
def typG (g : List Opt) : Int := exN ((findO g 53).getD []) 1
theorem typN_abs (os : List OP) : typN os = typG (absO os) := by
  have e2 : (fstP os 53).zs = (findO (absO os) 53).getD [] := by
    rw [find_abs]
    unfold fstP
    cases fst? os 53 <;> rfl
  unfold typN typG
  rw [e2]
theorem bp_type {m : Bp} {g : List Opt} {X : Array Value} {W : World} (h : BpV m g X W) :
    Calls Try.prog 22 #[.agg X] W fun e w' => e = .returned (.int .i64 (typG g)) ∧ Hid (Below W.heap.size W w') := by
  obtain ⟨a, os, c, h1, h2, h3⟩ := h
  subst h1
  subst h3
  rw [← typN_abs]
  exact type_any m a c os W h2
end Go.Proofs.Ytgcpoanjjgbfjaa
