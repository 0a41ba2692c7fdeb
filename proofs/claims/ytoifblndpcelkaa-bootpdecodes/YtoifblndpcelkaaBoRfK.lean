/-
  The document's Ask and Answer. Written by mkborfk.py.
-/
import Derived.Test.YtoifblndpcelkaaBoBpV
import Derived.Test.YtoifblndpcelkaaBoLiv
namespace Go.Proofs.Ytoifblndpcelkaa
open Go.RowKit
set_option linter.all false

/-- options of calls' own behind options of calls' own. -/
theorem OwnO.join {B : Nat} {w : World} {v1 : Value} {a2 : Option Addr} {n2 c2 : Nat} {E1 E2 : List (Opt × Value)} (h1 : OwnO B w v1 E1) (h2 : OwnO B w (.slice a2 n2 c2) E2) (hB : B ≤ w.heap.size) (hsep : ∀ p ∈ E1, ∀ q ∈ E2, ∀ k, p.2.ownBlock = some k → q.2.ownBlock ≠ some k) (hn : E1.length + E2.length ≤ 4398046511104) :
    ∃ a' n' c' w', (Builtin.append_ #[26, 26] 26 #[v1, .slice a2 n2 c2]).run Try.prog w = .ok (.slice a' n' c') w' ∧ OwnO B w' (.slice a' n' c') (E1 ++ E2) ∧ Below B w w' ∧ (∀ k, k < w.heap.size → v1.ownBlock ≠ some k → w'.heap[k]? = w.heap[k]?) := by
  obtain ⟨i, hi, hz0, hz1, hz2⟩ := info_sz infoOpt
  obtain ⟨a1, c1, e1, _⟩ := h1.form
  have hl2 : n2 = E2.length := by
    obtain ⟨_, _, e, _⟩ := h2.form
    simp only [Value.slice.injEq] at e
    exact e.2.1
  by_cases h0 : E2 = []
  · subst h0
    simp at hl2
    subst hl2
    have hs : Src Try.prog i.size 26 (.slice a2 0 c2) 0 [] w := by
      cases a2 with
      | none => exact Src.ofNil w Try.underlying26 c2
      | some x => exact Src.ofSlice w Try.underlying26 x 0 c2 [] (by simp) (by simp) (by simp)
    have hcap : E1.length ≤ c1 := by
      rcases h1.row.2 with ⟨hv, h⟩ | ⟨g, cap, cur, hv, _, _, hl, _⟩
      · omega
      · rw [e1] at hv
        simp only [Value.slice.injEq] at hv
        omega
    rw [List.append_nil, e1]
    rw [e1] at h1
    exact ⟨_, _, _, w, run_append_nothing w _ _ _ _ i Try.underlying26 hi _ _ _ hcap _ hs, h1, Below.refl _ _, fun _ _ _ => rfl⟩
  · have hp : 0 < E2.length := List.length_pos_iff.2 h0
    obtain ⟨g2, cap2, e2, _⟩ := h2.row.some_of hp
    simp only [Value.slice.injEq] at e2
    obtain ⟨rfl, rfl, rfl⟩ := e2
    obtain ⟨v', w1, r1, r2, r3, r4⟩ := append_s 26 26 67 _ 2 32 Try.underlying26 infoOpt rfl (by decide) h1.row ⟨g2, 0, none⟩ E2.length c2 (flatE E2) (flatE_len E2) (fun j u hj => by
      have e : (⟨g2, 0, none⟩ : Addr).add j = ⟨g2, j, none⟩ := by unfold Addr.add; split <;> simp_all
      rw [e]
      exact RowS.cell h2.row hj) (fun u hu => by
        unfold flatE at hu
        obtain ⟨p, hp, hu⟩ := List.mem_flatMap.1 hu
        simp only [List.mem_cons, List.not_mem_nil, or_false] at hu
        rcases hu with rfl | rfl
        · rfl
        · obtain ⟨a, c, e, _⟩ := (h2.data p hp).form
          rw [e]
          rfl) (by unfold maxLen; omega) (by omega)
    obtain ⟨ad, cp, e, _⟩ := r2.form
    subst e
    have keep : ∀ (x : Value) (ys : List Int), Row w 5 x (u8s ys) → Row w1 5 x (u8s ys) := fun x ys hx => hx.grown r3 fun b hb e => by
      obtain ⟨c1, h1⟩ := h1.row.obj e
      obtain ⟨c2, f2, h2⟩ := hx.obj hb
      rw [h1] at h2
      simp at h2
    refine ⟨ad, _, cp, w1, r1, ⟨?_, fun b hb => ?_, fun p hp => ?_, fun p hp b hb => ?_, fun i j p q b hij hp hq hb e => ?_, fun p hp => ?_⟩, grown_from r3 h1.low hB, fun k hk hv => r3.block k hk (fun e => hv e.symm)⟩
    · rw [List.length_append, show flatE (E1 ++ E2) = flatE E1 ++ flatE E2 by simp [flatE]]
      exact r2
    · rcases r4 b hb with h | h
      · exact h1.low b h
      · omega
    · rcases List.mem_append.1 hp with hp | hp
      · exact keep _ _ (h1.data p hp)
      · exact keep _ _ (h2.data p hp)
    · rcases List.mem_append.1 hp with hp | hp
      · exact h1.dlow p hp b hb
      · exact h2.dlow p hp b hb
    · rw [List.getElem?_append] at hp hq
      split at hp <;> split at hq
      · exact h1.apart i j p q b hij hp hq hb e
      · exact hsep p (List.mem_of_getElem? hp) q (List.mem_of_getElem? hq) b hb e
      · exact hsep q (List.mem_of_getElem? hq) p (List.mem_of_getElem? hp) b e hb
      · exact h2.apart _ _ p q b (by omega) hp hq hb e
    · rcases List.mem_append.1 hp with hp | hp
      · exact h1.oks p hp
      · exact h2.oks p hp
/-- a message being made: its box, the result's, its options. -/
structure RfS (w : World) (gr gx : Nat) (X : Array Value) (v : Value) (E : List (Opt × Value)) (W : World) : Prop where
  res : W.heap[gr]? = some (.cells zeroC 28 (0, 0))
  box : W.heap[gx]? = some (.cells X 28 (0, 0))
  ne : gx ≠ gr
  lo : w.heap.size ≤ gr ∧ w.heap.size ≤ gx
  own : OwnO w.heap.size W v E
  below : Below w.heap.size w W
theorem RfS.offX {w W : World} {gr gx : Nat} {X : Array Value} {v : Value} {E : List (Opt × Value)} (h : RfS w gr gx X v E W) {g : Nat} {Y : Array Value} (hg : W.heap[g]? = some (.cells Y 28 (0, 0))) : ∀ b, InO v E b → b ≠ g := fun b hb e => by
  subst e
  rcases hb with hb | ⟨p, hp, hb⟩
  · obtain ⟨c1, h1⟩ := h.own.row.obj hb
    rw [hg] at h1
    simp at h1
  · obtain ⟨c1, f1, h1⟩ := (h.own.data p hp).obj hb
    rw [hg] at h1
    simp at h1
theorem RfS.keep {w W W' : World} {gr gx : Nat} {X : Array Value} {v : Value} {E : List (Opt × Value)} (h : RfS w gr gx X v E W) (hb : Below W.heap.size W W') : RfS w gr gx X v E W' := ⟨kept h.res hb, kept h.box hb, h.ne, h.lo, h.own.below hb, bstep h.below hb⟩
theorem RfS.set {w W W' : World} {gr gx : Nat} {X X' : Array Value} {v : Value} {E : List (Opt × Value)} (h : RfS w gr gx X v E W) (hb : But gx W W') (hx : W'.heap[gx]? = some (.cells X' 28 (0, 0))) : RfS w gr gx X' v E W' :=
  ⟨keptBut h.res hb (fun e => h.ne e.symm), hx, h.ne, h.lo, h.own.keep fun b hi => hb.block b (h.offX h.box b hi) (h.own.lt hi).2, bbut h.below hb h.lo.2⟩
/-- another row of options; all blocks but the elder row's stay. -/
theorem RfS.turn {w W W' : World} {gr gx : Nat} {X : Array Value} {v v' : Value} {E E' : List (Opt × Value)} (h : RfS w gr gx X v E W) (ho : OwnO w.heap.size W' v' E') (hk : ∀ k, k < W.heap.size → v.ownBlock ≠ some k → W'.heap[k]? = W.heap[k]?) (hb : Below w.heap.size W W') : RfS w gr gx X v' E' W' :=
  ⟨(hk gr (heap_lt h.res) (fun e => h.offX h.res gr (Or.inl e) rfl)).trans h.res, (hk gx (heap_lt h.box) (fun e => h.offX h.box gx (Or.inl e) rfl)).trans h.box, h.ne, h.lo, ho, h.below.trans hb⟩
theorem RfS.done {w W : World} {gr gx : Nat} {X : Array Value} {v : Value} {E : List (Opt × Value)} (h : RfS w gr gx X v E W) (Y : Array Value) : OwnO w.heap.size (W.setRow gr Y) v E ∧ Below w.heap.size w (W.setRow gr Y) :=
  ⟨h.own.keep fun b hi => (But.setRow gr W Y).block b (h.offX h.res b hi) (h.own.lt hi).2, bbut h.below (But.setRow gr W Y) h.lo.1⟩
set_option maxRecDepth 20000 in
set_option maxHeartbeats 4000000 in
theorem refAsk_low (kind : Int) (hk : -9223372036854775808 ≤ kind ∧ kind ≤ 9223372036854775807) (b0 b1 b2 b3 b4 b5 xid secs ci : Int) (hs : secs < 0) (a : Option Addr) (c : Nat) (os : List OP) (w : World) (h : OV w a os) (hf : os.length ≤ 4294967296) :
    Calls Try.prog 28 #[.int .i64 kind, .agg #[.int .u8 b0, .int .u8 b1, .int .u8 b2, .int .u8 b3, .int .u8 b4, .int .u8 b5], .int .u32 xid, .int .i64 secs, .int .u32 ci, .slice a os.length c] w fun e w' => ∃ a' n' c', e = .returned (.agg #[.int .i64 1, .int .i64 0, .int .u32 xid, .int .i64 0, .bool true, .int .u32 ci, .int .u32 0, .int .u32 0, .int .u32 0, .int .u8 b0, .int .u8 b1, .int .u8 b2, .int .u8 b3, .int .u8 b4, .int .u8 b5, .string noText, .string noText, .slice a' n' c']) ∧ Hid (OptI w w' (.slice a' n' c') ((53, op1 kind) :: absO os) ∧ Below w.heap.size w w') := by
  obtain ⟨w0, hw0⟩ : ∃ W, W = w.alloc (.cells #[.int .u8 b0, .int .u8 b1, .int .u8 b2, .int .u8 b3, .int .u8 b4, .int .u8 b5] 25) := ⟨_, rfl⟩
  obtain ⟨w1, hw1⟩ : ∃ W, W = w0.alloc (.cells zeroC 28) := ⟨_, rfl⟩
  have HB1 : Hid (Below w.heap.size w w1) := by rw [hw1, hw0]; exact bpush (bpush (Below.refl _ _) _) _
  have HM0 : Hid (w0.heap[w.heap.size]? = some (.cells #[.int .u8 b0, .int .u8 b1, .int .u8 b2, .int .u8 b3, .int .u8 b4, .int .u8 b5] 25 (0, 0))) := by rw [hw0]; exact heap_new _ _
  have HM1 : Hid (w1.heap[w.heap.size]? = some (.cells #[.int .u8 b0, .int .u8 b1, .int .u8 b2, .int .u8 b3, .int .u8 b4, .int .u8 b5] 25 (0, 0))) := by rw [hw1]; exact (heap_old _ _ (heap_lt HM0.out)).trans HM0.out
  have hz0 : w0.heap.size = w.heap.size + 1 := by rw [hw0]; simp
  have HR1 : Hid (w1.heap[w.heap.size + 1]? = some (.cells zeroC 28 (0, 0))) := by rw [hw1, ← hz0]; exact heap_new _ _
  have cm := fun q => cell_of_heap HM1.out q
  clear hz0
  have HBY := hid (fun W => refByte_any 53 kind W hk.1 hk.2)
  have HCP := hid (fun (W : World) (hb : Below w.heap.size w W) => copied_any a c os W (h.below hb))
  have HFW := hid hf
  obtain ⟨n, hn⟩ : ∃ n, n = os.length := ⟨_, rfl⟩
  rw [← hn] at HCP ⊢
  have HN := hid hn
  clear h hf hn hk
  have hs1 : decide (secs < 0) = true := by simpa using hs
  go_enter Try.func28, Try.ntmps28
  go_upto_region 5 with (first
    | (refine wpList_alloc_to rfl 28 rfl zeroC (by kernel_rfl) ?_)
    | fail)
  rw [← hw0, ← hw1]
  clear hw0 hw1
  go_upto_region 6 with (first
    | (refine wpList_build_to rfl 28 _ rfl #[.int .i64 1, .int .i64 0, .int .u32 xid, .int .i64 0, .bool true, .int .u32 ci, .int .u32 0, .int .u32 0, .int .u32 0, .int .u8 b0, .int .u8 b1, .int .u8 b2, .int .u8 b3, .int .u8 b4, .int .u8 b5, .string noText, .string noText, .slice none 0 0] (by rfl) ?_)
    | (refine wpList_alloc_to rfl 28 rfl zeroC (by kernel_rfl) ?_)
    | (refine wpList_store_row rfl 28 _ _ rfl w1.heap.size #[.int .i64 1, .int .i64 0, .int .u32 xid, .int .i64 0, .bool true, .int .u32 ci, .int .u32 0, .int .u32 0, .int .u32 0, .int .u8 b0, .int .u8 b1, .int .u8 b2, .int .u8 b3, .int .u8 b4, .int .u8 b5, .string noText, .string noText, .slice none 0 0] rfl rfl 28 _ (heap_new w1 _) sizeBp rfl (by simp [Value.oneCell']) ?_)
    | fail)
  have hl2 := box_laid w1 #[.int .i64 1, .int .i64 0, .int .u32 xid, .int .i64 0, .bool true, .int .u32 ci, .int .u32 0, .int .u32 0, .int .u32 0, .int .u8 b0, .int .u8 b1, .int .u8 b2, .int .u8 b3, .int .u8 b4, .int .u8 b5, .string noText, .string noText, .slice none 0 0]
  have HS2 : Hid (RfS w (w.heap.size + 1) w1.heap.size #[.int .i64 1, .int .i64 0, .int .u32 xid, .int .i64 0, .bool true, .int .u32 ci, .int .u32 0, .int .u32 0, .int .u32 0, .int .u8 b0, .int .u8 b1, .int .u8 b2, .int .u8 b3, .int .u8 b4, .int .u8 b5, .string noText, .string noText, .slice none 0 0] (.slice none 0 0) [] ((w1.alloc (.cells zeroC 28)).setRow w1.heap.size #[.int .i64 1, .int .i64 0, .int .u32 xid, .int .i64 0, .bool true, .int .u32 ci, .int .u32 0, .int .u32 0, .int .u32 0, .int .u8 b0, .int .u8 b1, .int .u8 b2, .int .u8 b3, .int .u8 b4, .int .u8 b5, .string noText, .string noText, .slice none 0 0])) := by
    have hl := heap_lt HR1.out
    exact ⟨kept HR1.out hl2.2, hl2.1, by omega, ⟨by omega, by omega⟩, OwnO.nil _ _, bstep HB1.out hl2.2⟩
  clear hl2 cm HM0 HM1 HR1 HB1
  generalize (w1.alloc (.cells zeroC 28)).setRow w1.heap.size #[.int .i64 1, .int .i64 0, .int .u32 xid, .int .i64 0, .bool true, .int .u32 ci, .int .u32 0, .int .u32 0, .int .u32 0, .int .u8 b0, .int .u8 b1, .int .u8 b2, .int .u8 b3, .int .u8 b4, .int .u8 b5, .string noText, .string noText, .slice none 0 0] = W2 at *
  generalize w1.heap.size = gx at *
  generalize w.heap.size + 1 = gr at *
  go_upto_region 7 with (first
    | (go_at_call 58; refine (HBY.out _).mono ?_; rintro e w3 ⟨g, rfl, HMD⟩)
    | fail)
  have HS3 : Hid (RfS w gr gx #[.int .i64 1, .int .i64 0, .int .u32 xid, .int .i64 0, .bool true, .int .u32 ci, .int .u32 0, .int .u32 0, .int .u32 0, .int .u8 b0, .int .u8 b1, .int .u8 b2, .int .u8 b3, .int .u8 b4, .int .u8 b5, .string noText, .string noText, .slice none 0 0] (.slice none 0 0) [] (w3.alloc (.cells #[.int .i64 53, .slice (some ⟨g, 0, none⟩) 1 1] 67))) := HS2.out.keep (bpush HMD.out.2.2 _)
  have HBX := hid (heap_new w3 (.cells #[.int .i64 53, .slice (some ⟨g, 0, none⟩) 1 1] 67))
  have hk1 : (w3.alloc (.cells #[.int .i64 53, .slice (some ⟨g, 0, none⟩) 1 1] 67)).heap[g]? = some (.cells (u8s (op1 kind)).toArray 5 (0, 0)) := (heap_old _ _ (heap_lt HMD.out.2.1)).trans HMD.out.2.1
  have hr1 : Row (w3.alloc (.cells #[.int .i64 53, .slice (some ⟨g, 0, none⟩) 1 1] 67)) 5 (.slice (some ⟨g, 0, none⟩) 1 1) (u8s (op1 kind)) := Row.of_heap hk1 (by simp [u8s, op1]; unfold maxLen; omega)
  have HG : Hid (W2.heap.size ≤ g) := HMD.out.1
  have HWS : Hid (w.heap.size ≤ W2.heap.size) := HS2.out.below.size
  obtain ⟨a5, n5, c5, w5, r5, O5, B5, K5⟩ := HS3.out.own.app2 HS3.out.below.size (by simp) 53 (op1 kind) (.slice (some ⟨g, 0, none⟩) 1 1) hr1 (op1_bd kind) (fun b hb => ⟨by simp [Value.ownBlock] at hb; have := HG.out; have := HWS.out; omega, by simp⟩)
  have HS5 : Hid (RfS w gr gx #[.int .i64 1, .int .i64 0, .int .u32 xid, .int .i64 0, .bool true, .int .u32 ci, .int .u32 0, .int .u32 0, .int .u32 0, .int .u8 b0, .int .u8 b1, .int .u8 b2, .int .u8 b3, .int .u8 b4, .int .u8 b5, .string noText, .string noText, .slice none 0 0] (.slice a5 n5 c5) [((53, op1 kind), .slice (some ⟨g, 0, none⟩) 1 1)] w5) := HS3.out.turn O5 K5.1 B5
  have HR5 := hid r5
  have x17 := (cell_of_heap HS3.out.box 17).trans (rfl : (#[.int .i64 1, .int .i64 0, .int .u32 xid, .int .i64 0, .bool true, .int .u32 ci, .int .u32 0, .int .u32 0, .int .u32 0, .int .u8 b0, .int .u8 b1, .int .u8 b2, .int .u8 b3, .int .u8 b4, .int .u8 b5, .string noText, .string noText, .slice none 0 0] : Array Value)[17]? = some (.slice none 0 0))
  have y17 := (cell_of_heap HS5.out.box 17).trans (rfl : (#[.int .i64 1, .int .i64 0, .int .u32 xid, .int .i64 0, .bool true, .int .u32 ci, .int .u32 0, .int .u32 0, .int .u32 0, .int .u8 b0, .int .u8 b1, .int .u8 b2, .int .u8 b3, .int .u8 b4, .int .u8 b5, .string noText, .string noText, .slice none 0 0] : Array Value)[17]? = some (.slice none 0 0))
  have f17 := frozen_of_heap HS5.out.box 17
  have cb := fun q => cell_of_heap HBX.out q
  have hgl : w3.heap.size < (w3.alloc (.cells #[.int .i64 53, .slice (some ⟨g, 0, none⟩) 1 1] 67)).heap.size := heap_lt HBX.out
  have hxl : gx < (w3.alloc (.cells #[.int .i64 53, .slice (some ⟨g, 0, none⟩) 1 1] 67)).heap.size := heap_lt HS3.out.box
  have HS6 : Hid (RfS w gr gx #[.int .i64 1, .int .i64 0, .int .u32 xid, .int .i64 0, .bool true, .int .u32 ci, .int .u32 0, .int .u32 0, .int .u32 0, .int .u8 b0, .int .u8 b1, .int .u8 b2, .int .u8 b3, .int .u8 b4, .int .u8 b5, .string noText, .string noText, .slice a5 n5 c5] (.slice a5 n5 c5) [((53, op1 kind), .slice (some ⟨g, 0, none⟩) 1 1)] (w5.setCell ⟨gx, 17, none⟩ (.slice a5 n5 c5))) := HS5.out.set (But.setCell _ _ _ _) ((heap_setCell HS5.out.box).trans rfl)
  have HGL : Hid (g < w5.heap.size) := hid (by
    have := (O5.data ((53, op1 kind), .slice (some ⟨g, 0, none⟩) 1 1) (by simp)).lt (b := g) rfl
    exact this)
  clear r5 O5 B5 K5 hk1 hr1 HS5 HMD HS2 HBY
  generalize w3.alloc (.cells #[.int .i64 53, .slice (some ⟨g, 0, none⟩) 1 1] 67) = W4 at *
  generalize w3.heap.size = g14 at *
  go_upto_region 8 with (first
    | (at_builtin; refine wpList_append_run _ rfl _ _ _ _ rfl _ _ rfl rfl HR5.out ?_; clear HR5)
    | fail)
  clear x17 y17 f17 cb hgl hxl HS3 HBX
  have HGL2 : Hid (g < (w5.setCell ⟨gx, 17, none⟩ (.slice a5 n5 c5)).heap.size) := hid (by have := HGL.out; simpa [World.setCell] using this)
  generalize w5.setCell ⟨gx, 17, none⟩ (.slice a5 n5 c5) = W6 at *
  go_upto_region 9 with (first
    | (go_at_call 59; refine (HCP.out _ HS6.out.below).mono ?_; rintro e w7 ⟨a7, n7, c7, rfl, HC7⟩)
    | fail)
  obtain ⟨E7, O7, e7, B7⟩ := HC7.out
  have HS7 : Hid (RfS w gr gx #[.int .i64 1, .int .i64 0, .int .u32 xid, .int .i64 0, .bool true, .int .u32 ci, .int .u32 0, .int .u32 0, .int .u32 0, .int .u8 b0, .int .u8 b1, .int .u8 b2, .int .u8 b3, .int .u8 b4, .int .u8 b5, .string noText, .string noText, .slice a5 n5 c5] (.slice a5 n5 c5) [((53, op1 kind), .slice (some ⟨g, 0, none⟩) 1 1)] w7) := HS6.out.keep B7
  have hlen7 : E7.length = n := by
    have := congrArg List.length e7
    rw [List.length_map, absO_len, ← HN.out] at this
    exact this
  obtain ⟨a8, n8, c8, w8, r8, O8, B8, K8⟩ := HS7.out.own.join (O7.le HS6.out.below.size) HS7.out.below.size (fun p hp q hq k hk e => by
    simp only [List.mem_singleton] at hp
    subst hp
    have h1 := O7.dlow q hq k e
    have h2 := HGL2.out
    simp [Value.ownBlock] at hk
    omega) (by have := HFW.out; have := HN.out; simp; omega)
  have HS8 : Hid (RfS w gr gx #[.int .i64 1, .int .i64 0, .int .u32 xid, .int .i64 0, .bool true, .int .u32 ci, .int .u32 0, .int .u32 0, .int .u32 0, .int .u8 b0, .int .u8 b1, .int .u8 b2, .int .u8 b3, .int .u8 b4, .int .u8 b5, .string noText, .string noText, .slice a5 n5 c5] (.slice a8 n8 c8) ([((53, op1 kind), .slice (some ⟨g, 0, none⟩) 1 1)] ++ E7) w8) := HS7.out.turn O8 K8 B8
  have HR8 := hid r8
  have x17 := (cell_of_heap HS7.out.box 17).trans (rfl : (#[.int .i64 1, .int .i64 0, .int .u32 xid, .int .i64 0, .bool true, .int .u32 ci, .int .u32 0, .int .u32 0, .int .u32 0, .int .u8 b0, .int .u8 b1, .int .u8 b2, .int .u8 b3, .int .u8 b4, .int .u8 b5, .string noText, .string noText, .slice a5 n5 c5] : Array Value)[17]? = some (.slice a5 n5 c5))
  have y17 := (cell_of_heap HS8.out.box 17).trans (rfl : (#[.int .i64 1, .int .i64 0, .int .u32 xid, .int .i64 0, .bool true, .int .u32 ci, .int .u32 0, .int .u32 0, .int .u32 0, .int .u8 b0, .int .u8 b1, .int .u8 b2, .int .u8 b3, .int .u8 b4, .int .u8 b5, .string noText, .string noText, .slice a5 n5 c5] : Array Value)[17]? = some (.slice a5 n5 c5))
  have f17 := frozen_of_heap HS8.out.box 17
  have HS9 : Hid (RfS w gr gx #[.int .i64 1, .int .i64 0, .int .u32 xid, .int .i64 0, .bool true, .int .u32 ci, .int .u32 0, .int .u32 0, .int .u32 0, .int .u8 b0, .int .u8 b1, .int .u8 b2, .int .u8 b3, .int .u8 b4, .int .u8 b5, .string noText, .string noText, .slice a8 n8 c8] (.slice a8 n8 c8) ([((53, op1 kind), .slice (some ⟨g, 0, none⟩) 1 1)] ++ E7) (w8.setCell ⟨gx, 17, none⟩ (.slice a8 n8 c8))) := HS8.out.set (But.setCell _ _ _ _) ((heap_setCell HS8.out.box).trans rfl)
  have HE7 : Hid (codes ([((53, op1 kind), Value.slice (some ⟨g, 0, none⟩) 1 1)] ++ E7) = (53, op1 kind) :: absO os) := hid (by rw [← e7]; rfl)
  clear r8 O8 B8 K8 O7 e7 B7 HC7 HS6 HS8 hlen7
  go_upto_region 10 with (first
    | (at_builtin; refine wpList_append_run _ rfl _ _ _ _ rfl _ _ rfl rfl HR8.out ?_; clear HR8)
    | fail)
  clear x17 y17 f17 HS7
  generalize w8.setCell ⟨gx, 17, none⟩ (.slice a8 n8 c8) = W9 at *
  go_wp2_with (first
    | (refine wpList_load_row rfl 28 _ rfl gx rfl 28 #[.int .i64 1, .int .i64 0, .int .u32 xid, .int .i64 0, .bool true, .int .u32 ci, .int .u32 0, .int .u32 0, .int .u32 0, .int .u8 b0, .int .u8 b1, .int .u8 b2, .int .u8 b3, .int .u8 b4, .int .u8 b5, .string noText, .string noText, .slice a8 n8 c8] (0, 0) _ (by exact HS9.out.box) Try.underlying28 rfl sizeBp ?_)
    | (refine wpList_store_row rfl 28 _ _ rfl gr #[.int .i64 1, .int .i64 0, .int .u32 xid, .int .i64 0, .bool true, .int .u32 ci, .int .u32 0, .int .u32 0, .int .u32 0, .int .u8 b0, .int .u8 b1, .int .u8 b2, .int .u8 b3, .int .u8 b4, .int .u8 b5, .string noText, .string noText, .slice a8 n8 c8] rfl rfl 28 _ HS9.out.res sizeBp rfl (by simp [Value.oneCell']) ?_)
    | fail)
  refine bodyPost_ret (v := .agg #[.int .i64 1, .int .i64 0, .int .u32 xid, .int .i64 0, .bool true, .int .u32 ci, .int .u32 0, .int .u32 0, .int .u32 0, .int .u8 b0, .int .u8 b1, .int .u8 b2, .int .u8 b3, .int .u8 b4, .int .u8 b5, .string noText, .string noText, .slice a8 n8 c8]) ?_ (by rfl) ⟨a8, n8, c8, rfl, ⟨_, (HS9.out.done _).1, HE7.out⟩, (HS9.out.done _).2⟩
  exact results_row1 Try.results28 _ _ gr 28 _ (0, 0) _ rfl (setRow_heap _ _ _ _ _ _ HS9.out.res) Try.underlying28 rfl sizeBp
set_option maxRecDepth 20000 in
set_option maxHeartbeats 4000000 in
theorem refAsk_mid (kind : Int) (hk : -9223372036854775808 ≤ kind ∧ kind ≤ 9223372036854775807) (b0 b1 b2 b3 b4 b5 xid secs ci : Int) (hs : 0 ≤ secs ∧ secs ≤ 65535) (a : Option Addr) (c : Nat) (os : List OP) (w : World) (h : OV w a os) (hf : os.length ≤ 4294967296) :
    Calls Try.prog 28 #[.int .i64 kind, .agg #[.int .u8 b0, .int .u8 b1, .int .u8 b2, .int .u8 b3, .int .u8 b4, .int .u8 b5], .int .u32 xid, .int .i64 secs, .int .u32 ci, .slice a os.length c] w fun e w' => ∃ a' n' c', e = .returned (.agg #[.int .i64 1, .int .i64 0, .int .u32 xid, .int .i64 secs, .bool true, .int .u32 ci, .int .u32 0, .int .u32 0, .int .u32 0, .int .u8 b0, .int .u8 b1, .int .u8 b2, .int .u8 b3, .int .u8 b4, .int .u8 b5, .string noText, .string noText, .slice a' n' c']) ∧ Hid (OptI w w' (.slice a' n' c') ((53, op1 kind) :: absO os) ∧ Below w.heap.size w w') := by
  obtain ⟨w0, hw0⟩ : ∃ W, W = w.alloc (.cells #[.int .u8 b0, .int .u8 b1, .int .u8 b2, .int .u8 b3, .int .u8 b4, .int .u8 b5] 25) := ⟨_, rfl⟩
  obtain ⟨w1, hw1⟩ : ∃ W, W = w0.alloc (.cells zeroC 28) := ⟨_, rfl⟩
  have HB1 : Hid (Below w.heap.size w w1) := by rw [hw1, hw0]; exact bpush (bpush (Below.refl _ _) _) _
  have HM0 : Hid (w0.heap[w.heap.size]? = some (.cells #[.int .u8 b0, .int .u8 b1, .int .u8 b2, .int .u8 b3, .int .u8 b4, .int .u8 b5] 25 (0, 0))) := by rw [hw0]; exact heap_new _ _
  have HM1 : Hid (w1.heap[w.heap.size]? = some (.cells #[.int .u8 b0, .int .u8 b1, .int .u8 b2, .int .u8 b3, .int .u8 b4, .int .u8 b5] 25 (0, 0))) := by rw [hw1]; exact (heap_old _ _ (heap_lt HM0.out)).trans HM0.out
  have hz0 : w0.heap.size = w.heap.size + 1 := by rw [hw0]; simp
  have HR1 : Hid (w1.heap[w.heap.size + 1]? = some (.cells zeroC 28 (0, 0))) := by rw [hw1, ← hz0]; exact heap_new _ _
  have cm := fun q => cell_of_heap HM1.out q
  clear hz0
  have HBY := hid (fun W => refByte_any 53 kind W hk.1 hk.2)
  have HCP := hid (fun (W : World) (hb : Below w.heap.size w W) => copied_any a c os W (h.below hb))
  have HFW := hid hf
  obtain ⟨n, hn⟩ : ∃ n, n = os.length := ⟨_, rfl⟩
  rw [← hn] at HCP ⊢
  have HN := hid hn
  clear h hf hn hk
  have hs1 : ¬ secs < 0 := by omega
  have hs2 : ¬ 65535 < secs := by omega
  go_enter Try.func28, Try.ntmps28
  go_upto_region 5 with (first
    | (refine wpList_alloc_to rfl 28 rfl zeroC (by kernel_rfl) ?_)
    | fail)
  rw [← hw0, ← hw1]
  clear hw0 hw1
  go_upto_region 6 with (first
    | (refine wpList_build_to rfl 28 _ rfl #[.int .i64 1, .int .i64 0, .int .u32 xid, .int .i64 secs, .bool true, .int .u32 ci, .int .u32 0, .int .u32 0, .int .u32 0, .int .u8 b0, .int .u8 b1, .int .u8 b2, .int .u8 b3, .int .u8 b4, .int .u8 b5, .string noText, .string noText, .slice none 0 0] (by rfl) ?_)
    | (refine wpList_alloc_to rfl 28 rfl zeroC (by kernel_rfl) ?_)
    | (refine wpList_store_row rfl 28 _ _ rfl w1.heap.size #[.int .i64 1, .int .i64 0, .int .u32 xid, .int .i64 secs, .bool true, .int .u32 ci, .int .u32 0, .int .u32 0, .int .u32 0, .int .u8 b0, .int .u8 b1, .int .u8 b2, .int .u8 b3, .int .u8 b4, .int .u8 b5, .string noText, .string noText, .slice none 0 0] rfl rfl 28 _ (heap_new w1 _) sizeBp rfl (by simp [Value.oneCell']) ?_)
    | fail)
  have hl2 := box_laid w1 #[.int .i64 1, .int .i64 0, .int .u32 xid, .int .i64 secs, .bool true, .int .u32 ci, .int .u32 0, .int .u32 0, .int .u32 0, .int .u8 b0, .int .u8 b1, .int .u8 b2, .int .u8 b3, .int .u8 b4, .int .u8 b5, .string noText, .string noText, .slice none 0 0]
  have HS2 : Hid (RfS w (w.heap.size + 1) w1.heap.size #[.int .i64 1, .int .i64 0, .int .u32 xid, .int .i64 secs, .bool true, .int .u32 ci, .int .u32 0, .int .u32 0, .int .u32 0, .int .u8 b0, .int .u8 b1, .int .u8 b2, .int .u8 b3, .int .u8 b4, .int .u8 b5, .string noText, .string noText, .slice none 0 0] (.slice none 0 0) [] ((w1.alloc (.cells zeroC 28)).setRow w1.heap.size #[.int .i64 1, .int .i64 0, .int .u32 xid, .int .i64 secs, .bool true, .int .u32 ci, .int .u32 0, .int .u32 0, .int .u32 0, .int .u8 b0, .int .u8 b1, .int .u8 b2, .int .u8 b3, .int .u8 b4, .int .u8 b5, .string noText, .string noText, .slice none 0 0])) := by
    have hl := heap_lt HR1.out
    exact ⟨kept HR1.out hl2.2, hl2.1, by omega, ⟨by omega, by omega⟩, OwnO.nil _ _, bstep HB1.out hl2.2⟩
  clear hl2 cm HM0 HM1 HR1 HB1
  generalize (w1.alloc (.cells zeroC 28)).setRow w1.heap.size #[.int .i64 1, .int .i64 0, .int .u32 xid, .int .i64 secs, .bool true, .int .u32 ci, .int .u32 0, .int .u32 0, .int .u32 0, .int .u8 b0, .int .u8 b1, .int .u8 b2, .int .u8 b3, .int .u8 b4, .int .u8 b5, .string noText, .string noText, .slice none 0 0] = W2 at *
  generalize w1.heap.size = gx at *
  generalize w.heap.size + 1 = gr at *
  go_upto_region 7 with (first
    | (go_at_call 58; refine (HBY.out _).mono ?_; rintro e w3 ⟨g, rfl, HMD⟩)
    | fail)
  have HS3 : Hid (RfS w gr gx #[.int .i64 1, .int .i64 0, .int .u32 xid, .int .i64 secs, .bool true, .int .u32 ci, .int .u32 0, .int .u32 0, .int .u32 0, .int .u8 b0, .int .u8 b1, .int .u8 b2, .int .u8 b3, .int .u8 b4, .int .u8 b5, .string noText, .string noText, .slice none 0 0] (.slice none 0 0) [] (w3.alloc (.cells #[.int .i64 53, .slice (some ⟨g, 0, none⟩) 1 1] 67))) := HS2.out.keep (bpush HMD.out.2.2 _)
  have HBX := hid (heap_new w3 (.cells #[.int .i64 53, .slice (some ⟨g, 0, none⟩) 1 1] 67))
  have hk1 : (w3.alloc (.cells #[.int .i64 53, .slice (some ⟨g, 0, none⟩) 1 1] 67)).heap[g]? = some (.cells (u8s (op1 kind)).toArray 5 (0, 0)) := (heap_old _ _ (heap_lt HMD.out.2.1)).trans HMD.out.2.1
  have hr1 : Row (w3.alloc (.cells #[.int .i64 53, .slice (some ⟨g, 0, none⟩) 1 1] 67)) 5 (.slice (some ⟨g, 0, none⟩) 1 1) (u8s (op1 kind)) := Row.of_heap hk1 (by simp [u8s, op1]; unfold maxLen; omega)
  have HG : Hid (W2.heap.size ≤ g) := HMD.out.1
  have HWS : Hid (w.heap.size ≤ W2.heap.size) := HS2.out.below.size
  obtain ⟨a5, n5, c5, w5, r5, O5, B5, K5⟩ := HS3.out.own.app2 HS3.out.below.size (by simp) 53 (op1 kind) (.slice (some ⟨g, 0, none⟩) 1 1) hr1 (op1_bd kind) (fun b hb => ⟨by simp [Value.ownBlock] at hb; have := HG.out; have := HWS.out; omega, by simp⟩)
  have HS5 : Hid (RfS w gr gx #[.int .i64 1, .int .i64 0, .int .u32 xid, .int .i64 secs, .bool true, .int .u32 ci, .int .u32 0, .int .u32 0, .int .u32 0, .int .u8 b0, .int .u8 b1, .int .u8 b2, .int .u8 b3, .int .u8 b4, .int .u8 b5, .string noText, .string noText, .slice none 0 0] (.slice a5 n5 c5) [((53, op1 kind), .slice (some ⟨g, 0, none⟩) 1 1)] w5) := HS3.out.turn O5 K5.1 B5
  have HR5 := hid r5
  have x17 := (cell_of_heap HS3.out.box 17).trans (rfl : (#[.int .i64 1, .int .i64 0, .int .u32 xid, .int .i64 secs, .bool true, .int .u32 ci, .int .u32 0, .int .u32 0, .int .u32 0, .int .u8 b0, .int .u8 b1, .int .u8 b2, .int .u8 b3, .int .u8 b4, .int .u8 b5, .string noText, .string noText, .slice none 0 0] : Array Value)[17]? = some (.slice none 0 0))
  have y17 := (cell_of_heap HS5.out.box 17).trans (rfl : (#[.int .i64 1, .int .i64 0, .int .u32 xid, .int .i64 secs, .bool true, .int .u32 ci, .int .u32 0, .int .u32 0, .int .u32 0, .int .u8 b0, .int .u8 b1, .int .u8 b2, .int .u8 b3, .int .u8 b4, .int .u8 b5, .string noText, .string noText, .slice none 0 0] : Array Value)[17]? = some (.slice none 0 0))
  have f17 := frozen_of_heap HS5.out.box 17
  have cb := fun q => cell_of_heap HBX.out q
  have hgl : w3.heap.size < (w3.alloc (.cells #[.int .i64 53, .slice (some ⟨g, 0, none⟩) 1 1] 67)).heap.size := heap_lt HBX.out
  have hxl : gx < (w3.alloc (.cells #[.int .i64 53, .slice (some ⟨g, 0, none⟩) 1 1] 67)).heap.size := heap_lt HS3.out.box
  have HS6 : Hid (RfS w gr gx #[.int .i64 1, .int .i64 0, .int .u32 xid, .int .i64 secs, .bool true, .int .u32 ci, .int .u32 0, .int .u32 0, .int .u32 0, .int .u8 b0, .int .u8 b1, .int .u8 b2, .int .u8 b3, .int .u8 b4, .int .u8 b5, .string noText, .string noText, .slice a5 n5 c5] (.slice a5 n5 c5) [((53, op1 kind), .slice (some ⟨g, 0, none⟩) 1 1)] (w5.setCell ⟨gx, 17, none⟩ (.slice a5 n5 c5))) := HS5.out.set (But.setCell _ _ _ _) ((heap_setCell HS5.out.box).trans rfl)
  have HGL : Hid (g < w5.heap.size) := hid (by
    have := (O5.data ((53, op1 kind), .slice (some ⟨g, 0, none⟩) 1 1) (by simp)).lt (b := g) rfl
    exact this)
  clear r5 O5 B5 K5 hk1 hr1 HS5 HMD HS2 HBY
  generalize w3.alloc (.cells #[.int .i64 53, .slice (some ⟨g, 0, none⟩) 1 1] 67) = W4 at *
  generalize w3.heap.size = g14 at *
  go_upto_region 8 with (first
    | (at_builtin; refine wpList_append_run _ rfl _ _ _ _ rfl _ _ rfl rfl HR5.out ?_; clear HR5)
    | fail)
  clear x17 y17 f17 cb hgl hxl HS3 HBX
  have HGL2 : Hid (g < (w5.setCell ⟨gx, 17, none⟩ (.slice a5 n5 c5)).heap.size) := hid (by have := HGL.out; simpa [World.setCell] using this)
  generalize w5.setCell ⟨gx, 17, none⟩ (.slice a5 n5 c5) = W6 at *
  go_upto_region 9 with (first
    | (go_at_call 59; refine (HCP.out _ HS6.out.below).mono ?_; rintro e w7 ⟨a7, n7, c7, rfl, HC7⟩)
    | fail)
  obtain ⟨E7, O7, e7, B7⟩ := HC7.out
  have HS7 : Hid (RfS w gr gx #[.int .i64 1, .int .i64 0, .int .u32 xid, .int .i64 secs, .bool true, .int .u32 ci, .int .u32 0, .int .u32 0, .int .u32 0, .int .u8 b0, .int .u8 b1, .int .u8 b2, .int .u8 b3, .int .u8 b4, .int .u8 b5, .string noText, .string noText, .slice a5 n5 c5] (.slice a5 n5 c5) [((53, op1 kind), .slice (some ⟨g, 0, none⟩) 1 1)] w7) := HS6.out.keep B7
  have hlen7 : E7.length = n := by
    have := congrArg List.length e7
    rw [List.length_map, absO_len, ← HN.out] at this
    exact this
  obtain ⟨a8, n8, c8, w8, r8, O8, B8, K8⟩ := HS7.out.own.join (O7.le HS6.out.below.size) HS7.out.below.size (fun p hp q hq k hk e => by
    simp only [List.mem_singleton] at hp
    subst hp
    have h1 := O7.dlow q hq k e
    have h2 := HGL2.out
    simp [Value.ownBlock] at hk
    omega) (by have := HFW.out; have := HN.out; simp; omega)
  have HS8 : Hid (RfS w gr gx #[.int .i64 1, .int .i64 0, .int .u32 xid, .int .i64 secs, .bool true, .int .u32 ci, .int .u32 0, .int .u32 0, .int .u32 0, .int .u8 b0, .int .u8 b1, .int .u8 b2, .int .u8 b3, .int .u8 b4, .int .u8 b5, .string noText, .string noText, .slice a5 n5 c5] (.slice a8 n8 c8) ([((53, op1 kind), .slice (some ⟨g, 0, none⟩) 1 1)] ++ E7) w8) := HS7.out.turn O8 K8 B8
  have HR8 := hid r8
  have x17 := (cell_of_heap HS7.out.box 17).trans (rfl : (#[.int .i64 1, .int .i64 0, .int .u32 xid, .int .i64 secs, .bool true, .int .u32 ci, .int .u32 0, .int .u32 0, .int .u32 0, .int .u8 b0, .int .u8 b1, .int .u8 b2, .int .u8 b3, .int .u8 b4, .int .u8 b5, .string noText, .string noText, .slice a5 n5 c5] : Array Value)[17]? = some (.slice a5 n5 c5))
  have y17 := (cell_of_heap HS8.out.box 17).trans (rfl : (#[.int .i64 1, .int .i64 0, .int .u32 xid, .int .i64 secs, .bool true, .int .u32 ci, .int .u32 0, .int .u32 0, .int .u32 0, .int .u8 b0, .int .u8 b1, .int .u8 b2, .int .u8 b3, .int .u8 b4, .int .u8 b5, .string noText, .string noText, .slice a5 n5 c5] : Array Value)[17]? = some (.slice a5 n5 c5))
  have f17 := frozen_of_heap HS8.out.box 17
  have HS9 : Hid (RfS w gr gx #[.int .i64 1, .int .i64 0, .int .u32 xid, .int .i64 secs, .bool true, .int .u32 ci, .int .u32 0, .int .u32 0, .int .u32 0, .int .u8 b0, .int .u8 b1, .int .u8 b2, .int .u8 b3, .int .u8 b4, .int .u8 b5, .string noText, .string noText, .slice a8 n8 c8] (.slice a8 n8 c8) ([((53, op1 kind), .slice (some ⟨g, 0, none⟩) 1 1)] ++ E7) (w8.setCell ⟨gx, 17, none⟩ (.slice a8 n8 c8))) := HS8.out.set (But.setCell _ _ _ _) ((heap_setCell HS8.out.box).trans rfl)
  have HE7 : Hid (codes ([((53, op1 kind), Value.slice (some ⟨g, 0, none⟩) 1 1)] ++ E7) = (53, op1 kind) :: absO os) := hid (by rw [← e7]; rfl)
  clear r8 O8 B8 K8 O7 e7 B7 HC7 HS6 HS8 hlen7
  go_upto_region 10 with (first
    | (at_builtin; refine wpList_append_run _ rfl _ _ _ _ rfl _ _ rfl rfl HR8.out ?_; clear HR8)
    | fail)
  clear x17 y17 f17 HS7
  generalize w8.setCell ⟨gx, 17, none⟩ (.slice a8 n8 c8) = W9 at *
  go_wp2_with (first
    | (refine wpList_load_row rfl 28 _ rfl gx rfl 28 #[.int .i64 1, .int .i64 0, .int .u32 xid, .int .i64 secs, .bool true, .int .u32 ci, .int .u32 0, .int .u32 0, .int .u32 0, .int .u8 b0, .int .u8 b1, .int .u8 b2, .int .u8 b3, .int .u8 b4, .int .u8 b5, .string noText, .string noText, .slice a8 n8 c8] (0, 0) _ (by exact HS9.out.box) Try.underlying28 rfl sizeBp ?_)
    | (refine wpList_store_row rfl 28 _ _ rfl gr #[.int .i64 1, .int .i64 0, .int .u32 xid, .int .i64 secs, .bool true, .int .u32 ci, .int .u32 0, .int .u32 0, .int .u32 0, .int .u8 b0, .int .u8 b1, .int .u8 b2, .int .u8 b3, .int .u8 b4, .int .u8 b5, .string noText, .string noText, .slice a8 n8 c8] rfl rfl 28 _ HS9.out.res sizeBp rfl (by simp [Value.oneCell']) ?_)
    | fail)
  refine bodyPost_ret (v := .agg #[.int .i64 1, .int .i64 0, .int .u32 xid, .int .i64 secs, .bool true, .int .u32 ci, .int .u32 0, .int .u32 0, .int .u32 0, .int .u8 b0, .int .u8 b1, .int .u8 b2, .int .u8 b3, .int .u8 b4, .int .u8 b5, .string noText, .string noText, .slice a8 n8 c8]) ?_ (by rfl) ⟨a8, n8, c8, rfl, ⟨_, (HS9.out.done _).1, HE7.out⟩, (HS9.out.done _).2⟩
  exact results_row1 Try.results28 _ _ gr 28 _ (0, 0) _ rfl (setRow_heap _ _ _ _ _ _ HS9.out.res) Try.underlying28 rfl sizeBp
set_option maxRecDepth 20000 in
set_option maxHeartbeats 4000000 in
theorem refAsk_top (kind : Int) (hk : -9223372036854775808 ≤ kind ∧ kind ≤ 9223372036854775807) (b0 b1 b2 b3 b4 b5 xid secs ci : Int) (hs : 65535 < secs) (a : Option Addr) (c : Nat) (os : List OP) (w : World) (h : OV w a os) (hf : os.length ≤ 4294967296) :
    Calls Try.prog 28 #[.int .i64 kind, .agg #[.int .u8 b0, .int .u8 b1, .int .u8 b2, .int .u8 b3, .int .u8 b4, .int .u8 b5], .int .u32 xid, .int .i64 secs, .int .u32 ci, .slice a os.length c] w fun e w' => ∃ a' n' c', e = .returned (.agg #[.int .i64 1, .int .i64 0, .int .u32 xid, .int .i64 65535, .bool true, .int .u32 ci, .int .u32 0, .int .u32 0, .int .u32 0, .int .u8 b0, .int .u8 b1, .int .u8 b2, .int .u8 b3, .int .u8 b4, .int .u8 b5, .string noText, .string noText, .slice a' n' c']) ∧ Hid (OptI w w' (.slice a' n' c') ((53, op1 kind) :: absO os) ∧ Below w.heap.size w w') := by
  obtain ⟨w0, hw0⟩ : ∃ W, W = w.alloc (.cells #[.int .u8 b0, .int .u8 b1, .int .u8 b2, .int .u8 b3, .int .u8 b4, .int .u8 b5] 25) := ⟨_, rfl⟩
  obtain ⟨w1, hw1⟩ : ∃ W, W = w0.alloc (.cells zeroC 28) := ⟨_, rfl⟩
  have HB1 : Hid (Below w.heap.size w w1) := by rw [hw1, hw0]; exact bpush (bpush (Below.refl _ _) _) _
  have HM0 : Hid (w0.heap[w.heap.size]? = some (.cells #[.int .u8 b0, .int .u8 b1, .int .u8 b2, .int .u8 b3, .int .u8 b4, .int .u8 b5] 25 (0, 0))) := by rw [hw0]; exact heap_new _ _
  have HM1 : Hid (w1.heap[w.heap.size]? = some (.cells #[.int .u8 b0, .int .u8 b1, .int .u8 b2, .int .u8 b3, .int .u8 b4, .int .u8 b5] 25 (0, 0))) := by rw [hw1]; exact (heap_old _ _ (heap_lt HM0.out)).trans HM0.out
  have hz0 : w0.heap.size = w.heap.size + 1 := by rw [hw0]; simp
  have HR1 : Hid (w1.heap[w.heap.size + 1]? = some (.cells zeroC 28 (0, 0))) := by rw [hw1, ← hz0]; exact heap_new _ _
  have cm := fun q => cell_of_heap HM1.out q
  clear hz0
  have HBY := hid (fun W => refByte_any 53 kind W hk.1 hk.2)
  have HCP := hid (fun (W : World) (hb : Below w.heap.size w W) => copied_any a c os W (h.below hb))
  have HFW := hid hf
  obtain ⟨n, hn⟩ : ∃ n, n = os.length := ⟨_, rfl⟩
  rw [← hn] at HCP ⊢
  have HN := hid hn
  clear h hf hn hk
  have hs1 : ¬ secs < 0 := by omega
  go_enter Try.func28, Try.ntmps28
  go_upto_region 5 with (first
    | (refine wpList_alloc_to rfl 28 rfl zeroC (by kernel_rfl) ?_)
    | fail)
  rw [← hw0, ← hw1]
  clear hw0 hw1
  go_upto_region 6 with (first
    | (refine wpList_build_to rfl 28 _ rfl #[.int .i64 1, .int .i64 0, .int .u32 xid, .int .i64 65535, .bool true, .int .u32 ci, .int .u32 0, .int .u32 0, .int .u32 0, .int .u8 b0, .int .u8 b1, .int .u8 b2, .int .u8 b3, .int .u8 b4, .int .u8 b5, .string noText, .string noText, .slice none 0 0] (by rfl) ?_)
    | (refine wpList_alloc_to rfl 28 rfl zeroC (by kernel_rfl) ?_)
    | (refine wpList_store_row rfl 28 _ _ rfl w1.heap.size #[.int .i64 1, .int .i64 0, .int .u32 xid, .int .i64 65535, .bool true, .int .u32 ci, .int .u32 0, .int .u32 0, .int .u32 0, .int .u8 b0, .int .u8 b1, .int .u8 b2, .int .u8 b3, .int .u8 b4, .int .u8 b5, .string noText, .string noText, .slice none 0 0] rfl rfl 28 _ (heap_new w1 _) sizeBp rfl (by simp [Value.oneCell']) ?_)
    | fail)
  have hl2 := box_laid w1 #[.int .i64 1, .int .i64 0, .int .u32 xid, .int .i64 65535, .bool true, .int .u32 ci, .int .u32 0, .int .u32 0, .int .u32 0, .int .u8 b0, .int .u8 b1, .int .u8 b2, .int .u8 b3, .int .u8 b4, .int .u8 b5, .string noText, .string noText, .slice none 0 0]
  have HS2 : Hid (RfS w (w.heap.size + 1) w1.heap.size #[.int .i64 1, .int .i64 0, .int .u32 xid, .int .i64 65535, .bool true, .int .u32 ci, .int .u32 0, .int .u32 0, .int .u32 0, .int .u8 b0, .int .u8 b1, .int .u8 b2, .int .u8 b3, .int .u8 b4, .int .u8 b5, .string noText, .string noText, .slice none 0 0] (.slice none 0 0) [] ((w1.alloc (.cells zeroC 28)).setRow w1.heap.size #[.int .i64 1, .int .i64 0, .int .u32 xid, .int .i64 65535, .bool true, .int .u32 ci, .int .u32 0, .int .u32 0, .int .u32 0, .int .u8 b0, .int .u8 b1, .int .u8 b2, .int .u8 b3, .int .u8 b4, .int .u8 b5, .string noText, .string noText, .slice none 0 0])) := by
    have hl := heap_lt HR1.out
    exact ⟨kept HR1.out hl2.2, hl2.1, by omega, ⟨by omega, by omega⟩, OwnO.nil _ _, bstep HB1.out hl2.2⟩
  clear hl2 cm HM0 HM1 HR1 HB1
  generalize (w1.alloc (.cells zeroC 28)).setRow w1.heap.size #[.int .i64 1, .int .i64 0, .int .u32 xid, .int .i64 65535, .bool true, .int .u32 ci, .int .u32 0, .int .u32 0, .int .u32 0, .int .u8 b0, .int .u8 b1, .int .u8 b2, .int .u8 b3, .int .u8 b4, .int .u8 b5, .string noText, .string noText, .slice none 0 0] = W2 at *
  generalize w1.heap.size = gx at *
  generalize w.heap.size + 1 = gr at *
  go_upto_region 7 with (first
    | (go_at_call 58; refine (HBY.out _).mono ?_; rintro e w3 ⟨g, rfl, HMD⟩)
    | fail)
  have HS3 : Hid (RfS w gr gx #[.int .i64 1, .int .i64 0, .int .u32 xid, .int .i64 65535, .bool true, .int .u32 ci, .int .u32 0, .int .u32 0, .int .u32 0, .int .u8 b0, .int .u8 b1, .int .u8 b2, .int .u8 b3, .int .u8 b4, .int .u8 b5, .string noText, .string noText, .slice none 0 0] (.slice none 0 0) [] (w3.alloc (.cells #[.int .i64 53, .slice (some ⟨g, 0, none⟩) 1 1] 67))) := HS2.out.keep (bpush HMD.out.2.2 _)
  have HBX := hid (heap_new w3 (.cells #[.int .i64 53, .slice (some ⟨g, 0, none⟩) 1 1] 67))
  have hk1 : (w3.alloc (.cells #[.int .i64 53, .slice (some ⟨g, 0, none⟩) 1 1] 67)).heap[g]? = some (.cells (u8s (op1 kind)).toArray 5 (0, 0)) := (heap_old _ _ (heap_lt HMD.out.2.1)).trans HMD.out.2.1
  have hr1 : Row (w3.alloc (.cells #[.int .i64 53, .slice (some ⟨g, 0, none⟩) 1 1] 67)) 5 (.slice (some ⟨g, 0, none⟩) 1 1) (u8s (op1 kind)) := Row.of_heap hk1 (by simp [u8s, op1]; unfold maxLen; omega)
  have HG : Hid (W2.heap.size ≤ g) := HMD.out.1
  have HWS : Hid (w.heap.size ≤ W2.heap.size) := HS2.out.below.size
  obtain ⟨a5, n5, c5, w5, r5, O5, B5, K5⟩ := HS3.out.own.app2 HS3.out.below.size (by simp) 53 (op1 kind) (.slice (some ⟨g, 0, none⟩) 1 1) hr1 (op1_bd kind) (fun b hb => ⟨by simp [Value.ownBlock] at hb; have := HG.out; have := HWS.out; omega, by simp⟩)
  have HS5 : Hid (RfS w gr gx #[.int .i64 1, .int .i64 0, .int .u32 xid, .int .i64 65535, .bool true, .int .u32 ci, .int .u32 0, .int .u32 0, .int .u32 0, .int .u8 b0, .int .u8 b1, .int .u8 b2, .int .u8 b3, .int .u8 b4, .int .u8 b5, .string noText, .string noText, .slice none 0 0] (.slice a5 n5 c5) [((53, op1 kind), .slice (some ⟨g, 0, none⟩) 1 1)] w5) := HS3.out.turn O5 K5.1 B5
  have HR5 := hid r5
  have x17 := (cell_of_heap HS3.out.box 17).trans (rfl : (#[.int .i64 1, .int .i64 0, .int .u32 xid, .int .i64 65535, .bool true, .int .u32 ci, .int .u32 0, .int .u32 0, .int .u32 0, .int .u8 b0, .int .u8 b1, .int .u8 b2, .int .u8 b3, .int .u8 b4, .int .u8 b5, .string noText, .string noText, .slice none 0 0] : Array Value)[17]? = some (.slice none 0 0))
  have y17 := (cell_of_heap HS5.out.box 17).trans (rfl : (#[.int .i64 1, .int .i64 0, .int .u32 xid, .int .i64 65535, .bool true, .int .u32 ci, .int .u32 0, .int .u32 0, .int .u32 0, .int .u8 b0, .int .u8 b1, .int .u8 b2, .int .u8 b3, .int .u8 b4, .int .u8 b5, .string noText, .string noText, .slice none 0 0] : Array Value)[17]? = some (.slice none 0 0))
  have f17 := frozen_of_heap HS5.out.box 17
  have cb := fun q => cell_of_heap HBX.out q
  have hgl : w3.heap.size < (w3.alloc (.cells #[.int .i64 53, .slice (some ⟨g, 0, none⟩) 1 1] 67)).heap.size := heap_lt HBX.out
  have hxl : gx < (w3.alloc (.cells #[.int .i64 53, .slice (some ⟨g, 0, none⟩) 1 1] 67)).heap.size := heap_lt HS3.out.box
  have HS6 : Hid (RfS w gr gx #[.int .i64 1, .int .i64 0, .int .u32 xid, .int .i64 65535, .bool true, .int .u32 ci, .int .u32 0, .int .u32 0, .int .u32 0, .int .u8 b0, .int .u8 b1, .int .u8 b2, .int .u8 b3, .int .u8 b4, .int .u8 b5, .string noText, .string noText, .slice a5 n5 c5] (.slice a5 n5 c5) [((53, op1 kind), .slice (some ⟨g, 0, none⟩) 1 1)] (w5.setCell ⟨gx, 17, none⟩ (.slice a5 n5 c5))) := HS5.out.set (But.setCell _ _ _ _) ((heap_setCell HS5.out.box).trans rfl)
  have HGL : Hid (g < w5.heap.size) := hid (by
    have := (O5.data ((53, op1 kind), .slice (some ⟨g, 0, none⟩) 1 1) (by simp)).lt (b := g) rfl
    exact this)
  clear r5 O5 B5 K5 hk1 hr1 HS5 HMD HS2 HBY
  generalize w3.alloc (.cells #[.int .i64 53, .slice (some ⟨g, 0, none⟩) 1 1] 67) = W4 at *
  generalize w3.heap.size = g14 at *
  go_upto_region 8 with (first
    | (at_builtin; refine wpList_append_run _ rfl _ _ _ _ rfl _ _ rfl rfl HR5.out ?_; clear HR5)
    | fail)
  clear x17 y17 f17 cb hgl hxl HS3 HBX
  have HGL2 : Hid (g < (w5.setCell ⟨gx, 17, none⟩ (.slice a5 n5 c5)).heap.size) := hid (by have := HGL.out; simpa [World.setCell] using this)
  generalize w5.setCell ⟨gx, 17, none⟩ (.slice a5 n5 c5) = W6 at *
  go_upto_region 9 with (first
    | (go_at_call 59; refine (HCP.out _ HS6.out.below).mono ?_; rintro e w7 ⟨a7, n7, c7, rfl, HC7⟩)
    | fail)
  obtain ⟨E7, O7, e7, B7⟩ := HC7.out
  have HS7 : Hid (RfS w gr gx #[.int .i64 1, .int .i64 0, .int .u32 xid, .int .i64 65535, .bool true, .int .u32 ci, .int .u32 0, .int .u32 0, .int .u32 0, .int .u8 b0, .int .u8 b1, .int .u8 b2, .int .u8 b3, .int .u8 b4, .int .u8 b5, .string noText, .string noText, .slice a5 n5 c5] (.slice a5 n5 c5) [((53, op1 kind), .slice (some ⟨g, 0, none⟩) 1 1)] w7) := HS6.out.keep B7
  have hlen7 : E7.length = n := by
    have := congrArg List.length e7
    rw [List.length_map, absO_len, ← HN.out] at this
    exact this
  obtain ⟨a8, n8, c8, w8, r8, O8, B8, K8⟩ := HS7.out.own.join (O7.le HS6.out.below.size) HS7.out.below.size (fun p hp q hq k hk e => by
    simp only [List.mem_singleton] at hp
    subst hp
    have h1 := O7.dlow q hq k e
    have h2 := HGL2.out
    simp [Value.ownBlock] at hk
    omega) (by have := HFW.out; have := HN.out; simp; omega)
  have HS8 : Hid (RfS w gr gx #[.int .i64 1, .int .i64 0, .int .u32 xid, .int .i64 65535, .bool true, .int .u32 ci, .int .u32 0, .int .u32 0, .int .u32 0, .int .u8 b0, .int .u8 b1, .int .u8 b2, .int .u8 b3, .int .u8 b4, .int .u8 b5, .string noText, .string noText, .slice a5 n5 c5] (.slice a8 n8 c8) ([((53, op1 kind), .slice (some ⟨g, 0, none⟩) 1 1)] ++ E7) w8) := HS7.out.turn O8 K8 B8
  have HR8 := hid r8
  have x17 := (cell_of_heap HS7.out.box 17).trans (rfl : (#[.int .i64 1, .int .i64 0, .int .u32 xid, .int .i64 65535, .bool true, .int .u32 ci, .int .u32 0, .int .u32 0, .int .u32 0, .int .u8 b0, .int .u8 b1, .int .u8 b2, .int .u8 b3, .int .u8 b4, .int .u8 b5, .string noText, .string noText, .slice a5 n5 c5] : Array Value)[17]? = some (.slice a5 n5 c5))
  have y17 := (cell_of_heap HS8.out.box 17).trans (rfl : (#[.int .i64 1, .int .i64 0, .int .u32 xid, .int .i64 65535, .bool true, .int .u32 ci, .int .u32 0, .int .u32 0, .int .u32 0, .int .u8 b0, .int .u8 b1, .int .u8 b2, .int .u8 b3, .int .u8 b4, .int .u8 b5, .string noText, .string noText, .slice a5 n5 c5] : Array Value)[17]? = some (.slice a5 n5 c5))
  have f17 := frozen_of_heap HS8.out.box 17
  have HS9 : Hid (RfS w gr gx #[.int .i64 1, .int .i64 0, .int .u32 xid, .int .i64 65535, .bool true, .int .u32 ci, .int .u32 0, .int .u32 0, .int .u32 0, .int .u8 b0, .int .u8 b1, .int .u8 b2, .int .u8 b3, .int .u8 b4, .int .u8 b5, .string noText, .string noText, .slice a8 n8 c8] (.slice a8 n8 c8) ([((53, op1 kind), .slice (some ⟨g, 0, none⟩) 1 1)] ++ E7) (w8.setCell ⟨gx, 17, none⟩ (.slice a8 n8 c8))) := HS8.out.set (But.setCell _ _ _ _) ((heap_setCell HS8.out.box).trans rfl)
  have HE7 : Hid (codes ([((53, op1 kind), Value.slice (some ⟨g, 0, none⟩) 1 1)] ++ E7) = (53, op1 kind) :: absO os) := hid (by rw [← e7]; rfl)
  clear r8 O8 B8 K8 O7 e7 B7 HC7 HS6 HS8 hlen7
  go_upto_region 10 with (first
    | (at_builtin; refine wpList_append_run _ rfl _ _ _ _ rfl _ _ rfl rfl HR8.out ?_; clear HR8)
    | fail)
  clear x17 y17 f17 HS7
  generalize w8.setCell ⟨gx, 17, none⟩ (.slice a8 n8 c8) = W9 at *
  go_wp2_with (first
    | (refine wpList_load_row rfl 28 _ rfl gx rfl 28 #[.int .i64 1, .int .i64 0, .int .u32 xid, .int .i64 65535, .bool true, .int .u32 ci, .int .u32 0, .int .u32 0, .int .u32 0, .int .u8 b0, .int .u8 b1, .int .u8 b2, .int .u8 b3, .int .u8 b4, .int .u8 b5, .string noText, .string noText, .slice a8 n8 c8] (0, 0) _ (by exact HS9.out.box) Try.underlying28 rfl sizeBp ?_)
    | (refine wpList_store_row rfl 28 _ _ rfl gr #[.int .i64 1, .int .i64 0, .int .u32 xid, .int .i64 65535, .bool true, .int .u32 ci, .int .u32 0, .int .u32 0, .int .u32 0, .int .u8 b0, .int .u8 b1, .int .u8 b2, .int .u8 b3, .int .u8 b4, .int .u8 b5, .string noText, .string noText, .slice a8 n8 c8] rfl rfl 28 _ HS9.out.res sizeBp rfl (by simp [Value.oneCell']) ?_)
    | fail)
  refine bodyPost_ret (v := .agg #[.int .i64 1, .int .i64 0, .int .u32 xid, .int .i64 65535, .bool true, .int .u32 ci, .int .u32 0, .int .u32 0, .int .u32 0, .int .u8 b0, .int .u8 b1, .int .u8 b2, .int .u8 b3, .int .u8 b4, .int .u8 b5, .string noText, .string noText, .slice a8 n8 c8]) ?_ (by rfl) ⟨a8, n8, c8, rfl, ⟨_, (HS9.out.done _).1, HE7.out⟩, (HS9.out.done _).2⟩
  exact results_row1 Try.results28 _ _ gr 28 _ (0, 0) _ rfl (setRow_heap _ _ _ _ _ _ HS9.out.res) Try.underlying28 rfl sizeBp
theorem refAsk_any (kind : Int) (hk : -9223372036854775808 ≤ kind ∧ kind ≤ 9223372036854775807) (mac : Mac) (xid secs ci : Int) (a : Option Addr) (c : Nat) (os : List OP) (w : World) (h : OV w a os) (hf : os.length ≤ 4294967296) :
    Calls Try.prog 28 #[.int .i64 kind, mac.val, .int .u32 xid, .int .i64 secs, .int .u32 ci, .slice a os.length c] w fun e w' => ∃ X, e = .returned (.agg X) ∧ Hid (BpV (askM mac xid secs ci) ((53, op1 kind) :: absO os) X w' ∧ Below w.heap.size w w') := by
  have fin : ∀ (e : Ending) (w' : World), (∃ a' n' c', e = .returned (.agg ((askM mac xid secs ci).cells (.slice a' n' c'))) ∧ Hid (OptI w w' (.slice a' n' c') ((53, op1 kind) :: absO os) ∧ Below w.heap.size w w')) → ∃ X, e = .returned (.agg X) ∧ Hid (BpV (askM mac xid secs ci) ((53, op1 kind) :: absO os) X w' ∧ Below w.heap.size w w') := by
    rintro e w' ⟨a', n', c', rfl, HI⟩
    exact ⟨_, rfl, HI.out.1.bp _ (readable_cons h.readable (by simp [op1]) (by simp) (by rw [absO_len]; omega)), HI.out.2⟩
  obtain ⟨b0, b1, b2, b3, b4, b5⟩ := mac
  by_cases h1 : secs < 0
  · have e : min (max secs 0) 65535 = 0 := by omega
    unfold askM at fin ⊢
    rw [e] at fin ⊢
    exact (refAsk_low kind hk b0 b1 b2 b3 b4 b5 xid secs ci h1 a c os w h hf).mono fin
  · by_cases h2 : 65535 < secs
    · have e : min (max secs 0) 65535 = 65535 := by omega
      unfold askM at fin ⊢
      rw [e] at fin ⊢
      exact (refAsk_top kind hk b0 b1 b2 b3 b4 b5 xid secs ci h2 a c os w h hf).mono fin
    · have e : min (max secs 0) 65535 = secs := by omega
      unfold askM at fin ⊢
      rw [e] at fin ⊢
      exact (refAsk_mid kind hk b0 b1 b2 b3 b4 b5 xid secs ci (by omega) a c os w h hf).mono fin
end Go.Proofs.Ytoifblndpcelkaa
