/-
  icmp.Answer, icmp.Refuse.
-/
import Derived.Test.YthmfappindbjnaaIcAct
namespace Go.Proofs.Ythmfappindbjnaa
open Go.RowKit
set_option linter.all false

/-- is it a question? -/
def askB (k c : Int) : Bool := decide (k = 8) && decide (c = 0)
theorem results_row0 {P : Program} {fn : Func} {p : Tmp} {ty : TypeId} (h : fn.results = #[.cell p ty]) (tmps : Array Value) (w : World) (g : Nat) (t : TypeId) (cs : Array Value) (fr : Nat × Nat) (d : TypeDesc)
    (hp : tmps.getD p undef = .pointer (some ⟨g, 0, none⟩)) (hg : w.heap[g]? = some (.cells cs t fr))
    (hu : P.underlying ty = some d) (hd : (match d with | .struct _ | .array _ _ => true | _ => false) = true) (hi : (P.info? ty).map (·.size) = some cs.size) :
    (results fn tmps).run P w = .ok (.agg cs) w := by
  have hp' : tmps[p]?.getD undef = .pointer (some ⟨g, 0, none⟩) := by simpa using hp
  simp [results, h, hp', asAddr, run_loadVar_row w g t ty cs fr d hg hu hd hi]

/-- an Answer under way: the message's box, the answer's. -/
def AnI (w : World) (F : Array Value) (W : World) : Prop := W.heap[w.heap.size]? = some (.cells F 26 (0, 0)) ∧ W.heap[w.heap.size + 1]? = some (.cells #[.int .i64 0, .int .i64 0, .int .u32 0, .slice none 0 0] 26 (0, 0)) ∧ Below w.heap.size w W
theorem AnI.first (w : World) (F : Array Value) : AnI w F ((w.alloc (.cells F 26)).alloc (.cells #[.int .i64 0, .int .i64 0, .int .u32 0, .slice none 0 0] 26)) := by
  have h := ((Holds.nil w).push (.cells F 26)).push (.cells #[.int .i64 0, .int .i64 0, .int .u32 0, .slice none 0 0] 26)
  simp only [World.size_alloc] at h
  exact ⟨h.at 1 _ _ rfl, h.at 0 _ _ rfl, bpush (bpush (Below.refl _ _) _) _⟩
theorem AnI.next {w W W' : World} {F : Array Value} (h : AnI w F W) (hb : Below W.heap.size W W') : AnI w F W' := ⟨kept h.1 hb, kept h.2.1 hb, bstep h.2.2 hb⟩
/-- the end: what was told is in the answer's box. -/
theorem AnI.done {w W w5 : World} {F : Array Value} {D : List Int} {a : Option Addr} {n c : Nat} (h : AnI w F W) (ha : Ans W w5 D a n c) (x0 x1 x2 x3 : Value) :
    (((((w5.setCell ⟨w.heap.size + 1, 0, none⟩ x0).setCell ⟨w.heap.size + 1, 1, none⟩ x1).setCell ⟨w.heap.size + 1, 2, none⟩ x2).setCell ⟨w.heap.size + 1, 3, none⟩ x3).heap[w.heap.size + 1]? = some (.cells #[x0, x1, x2, x3] 26 (0, 0))) ∧ Ans w ((((w5.setCell ⟨w.heap.size + 1, 0, none⟩ x0).setCell ⟨w.heap.size + 1, 1, none⟩ x1).setCell ⟨w.heap.size + 1, 2, none⟩ x2).setCell ⟨w.heap.size + 1, 3, none⟩ x3) D a n c := by
  have h5 := h.next ha.2.2
  have hlt := heap_lt h.2.1
  have bu : But (w.heap.size + 1) w5 ((((w5.setCell ⟨w.heap.size + 1, 0, none⟩ x0).setCell ⟨w.heap.size + 1, 1, none⟩ x1).setCell ⟨w.heap.size + 1, 2, none⟩ x2).setCell ⟨w.heap.size + 1, 3, none⟩ x3) := (((But.setCell _ _ _ _).trans (But.setCell _ _ _ _)).trans (But.setCell _ _ _ _)).trans (But.setCell _ _ _ _)
  refine ⟨heap_setCell (j := 3) (heap_setCell (j := 2) (heap_setCell (j := 1) (heap_setCell (j := 0) h5.2.1))), ha.1.but bu (fun b hb => by have := ha.2.1 b hb; omega), fun b hb => by have := ha.2.1 b hb; omega, bbut h5.2.2 bu (by omega)⟩

set_option maxRecDepth 20000 in
set_option maxHeartbeats 1000000 in
theorem answer_no (k c : Int) (r v : Value) (w : World) (h : askB k c = false) :
    Calls Try.prog 19 #[.agg #[.int .i64 k, .int .i64 c, r, v]] w fun e w' => e = .returned (.tuple #[.agg #[.int .i64 0, .int .i64 0, .int .u32 0, .slice none 0 0], .bool false]) ∧ Below w.heap.size w w' := by
  have H0 := hid (AnI.first w #[.int .i64 k, .int .i64 c, r, v])
  by_cases h1 : k = 8
  · have h2 : ¬ c = 0 := by rintro rfl; subst h1; simp [askB] at h
    have k1 : (c != 0) = true := by simpa using h2
    subst h1
    clear h
    go_enter Try.func19, Try.ntmps19
    go_wp2_with (first
      | (refine wpList_store_row rfl 26 _ _ rfl (w.heap.size + 1) #[.int .i64 0, .int .i64 0, .int .u32 0, .slice none 0 0] rfl rfl 26 _ H0.out.2.1 (by kernel_rfl) rfl (by first | kernel_rfl | simp [Value.oneCell']) ?_) | fail)
    refine bodyPost_ret (v := .tuple #[.agg #[.int .i64 0, .int .i64 0, .int .u32 0, .slice none 0 0], .bool false]) ?_ (by rfl) ⟨rfl, bbut H0.out.2.2 (But.setRow (w.heap.size + 1) _ _) (by omega)⟩
    exact results_row2 Try.results19 _ _ (w.heap.size + 1) 26 _ (0, 0) _ _ rfl rfl (setRow_heap _ _ _ _ _ _ H0.out.2.1) Try.underlying26 rfl (by kernel_rfl)
  · have k1 : (k != 8) = true := by simpa using h1
    clear h
    go_enter Try.func19, Try.ntmps19
    go_wp2_with (first
      | (refine wpList_store_row rfl 26 _ _ rfl (w.heap.size + 1) #[.int .i64 0, .int .i64 0, .int .u32 0, .slice none 0 0] rfl rfl 26 _ H0.out.2.1 (by kernel_rfl) rfl (by first | kernel_rfl | simp [Value.oneCell']) ?_) | fail)
    refine bodyPost_ret (v := .tuple #[.agg #[.int .i64 0, .int .i64 0, .int .u32 0, .slice none 0 0], .bool false]) ?_ (by rfl) ⟨rfl, bbut H0.out.2.2 (But.setRow (w.heap.size + 1) _ _) (by omega)⟩
    exact results_row2 Try.results19 _ _ (w.heap.size + 1) 26 _ (0, 0) _ _ rfl rfl (setRow_heap _ _ _ _ _ _ H0.out.2.1) Try.underlying26 rfl (by kernel_rfl)

set_option maxRecDepth 20000 in
set_option maxHeartbeats 2000000 in
theorem answer_yes (r : Int) (pt : Part) (w : World) (hok : pt.ok w) (hl : pt.zs.length ≤ 140737488355328) :
    Calls Try.prog 19 #[.agg #[.int .i64 8, .int .i64 0, .int .u32 r, pt.val]] w fun e w' => ∃ a n c, e = .returned (.tuple #[.agg #[.int .i64 0, .int .i64 0, .int .u32 r, .slice a n c], .bool true]) ∧ Ans w w' pt.zs a n c := by
  have H0 := hid (AnI.first w #[.int .i64 8, .int .i64 0, .int .u32 r, pt.val])
  have KC : Hid (∀ V : World, Below w.heap.size w V → _) := fun V hb => bclone_any pt V (Part.ok_below hok hb) hl
  clear hok hl
  unfold Part.val at *
  generalize pt.zs.length = l at *
  generalize pt.a = pa at *
  generalize pt.c = pc at *
  generalize pt.zs = D at *
  go_enter Try.func19, Try.ntmps19
  go_wp2
  generalize ((w.alloc (.cells #[.int .i64 8, .int .i64 0, .int .u32 r, .slice pa l pc] 26)).alloc (.cells #[.int .i64 0, .int .i64 0, .int .u32 0, .slice none 0 0] 26)) = W at *
  have HBd : Hid (Below w.heap.size w W.drew) := H0.out.2.2.drew
  have c2 : W.cell? ⟨w.heap.size, 2, none⟩ = some (.int .u32 r) := cell_of_heap H0.out.1 2
  have c3 : W.cell? ⟨w.heap.size, 3, none⟩ = some (.slice pa l pc) := cell_of_heap H0.out.1 3
  go_region_held3 (fun w' => w'.cell? ⟨w.heap.size, 2, none⟩ = some (.int .u32 r) ∧ w'.cell? ⟨w.heap.size, 3, none⟩ = some (.slice pa l pc)) (first | assumption | exact ⟨c2, c3⟩) (first
    | (go_at_call 30; (with_reducible refine (KC.out _ HBd.out).mono ?_); rintro e w5 ⟨a5, c5, rfl, HAN⟩; have H5 := H0.out.next (bstep (a := W) (Below.refl _ _).drew HAN.out.2.2); have h7 : w5.cell? ⟨w.heap.size, 2, none⟩ = some (.int .u32 r) ∧ w5.cell? ⟨w.heap.size, 3, none⟩ = some (.slice pa l pc) := ⟨cell_of_heap H5.1 2, cell_of_heap H5.1 3⟩; have q0 := cell_of_heap H5.2.1 0; have q1 := cell_of_heap H5.2.1 1; have q2 := cell_of_heap H5.2.1 2; have q3 := cell_of_heap H5.2.1 3; have f0 := frozen_of_heap H5.2.1 0; have f1 := frozen_of_heap H5.2.1 1; have f2 := frozen_of_heap H5.2.1 2; have f3 := frozen_of_heap H5.2.1 3; have HE := hid (AnI.done (W := W.drew) (H0.out.next (Below.refl _ _).drew) HAN.out (.int .i64 0) (.int .i64 0) (.int .u32 r) (.slice a5 l c5)); have h8 : ((((w5.setCell ⟨w.heap.size + 1, 0, none⟩ (.int .i64 0)).setCell ⟨w.heap.size + 1, 1, none⟩ (.int .i64 0)).setCell ⟨w.heap.size + 1, 2, none⟩ (.int .u32 r)).setCell ⟨w.heap.size + 1, 3, none⟩ (.slice a5 l c5)).cell? ⟨w.heap.size, 2, none⟩ = some (.int .u32 r) ∧ ((((w5.setCell ⟨w.heap.size + 1, 0, none⟩ (.int .i64 0)).setCell ⟨w.heap.size + 1, 1, none⟩ (.int .i64 0)).setCell ⟨w.heap.size + 1, 2, none⟩ (.int .u32 r)).setCell ⟨w.heap.size + 1, 3, none⟩ (.slice a5 l c5)).cell? ⟨w.heap.size, 3, none⟩ = some (.slice pa l pc) := ⟨cell_of_heap (keptBut H5.1 ((((But.setCell _ _ _ _).trans (But.setCell _ _ _ _)).trans (But.setCell _ _ _ _)).trans (But.setCell (w.heap.size + 1) _ _ _)) (by omega)) 2, cell_of_heap (keptBut H5.1 ((((But.setCell _ _ _ _).trans (But.setCell _ _ _ _)).trans (But.setCell _ _ _ _)).trans (But.setCell (w.heap.size + 1) _ _ _)) (by omega)) 3⟩; clear HAN H5)
    | fail)
  go_wp2
  refine bodyPost_ret (v := .tuple #[.agg #[.int .i64 0, .int .i64 0, .int .u32 r, .slice a5 l c5], .bool true]) ?_ (by rfl) ⟨a5, l, c5, rfl, HE.out.2⟩
  exact results_row2 Try.results19 _ _ (w.heap.size + 1) 26 _ (0, 0) _ _ rfl rfl HE.out.1 Try.underlying26 rfl (by kernel_rfl)

/-- the answer. -/
def ansR (k c r : Int) : Int := if askB k c then r else 0
def ansD (k c : Int) (zs : List Int) : List Int := if askB k c then zs else []
theorem answer_u (k c r : Int) (pt : Part) (w : World) (hok : pt.ok w) (hl : pt.zs.length ≤ 140737488355328) :
    Calls Try.prog 19 #[.agg #[.int .i64 k, .int .i64 c, .int .u32 r, pt.val]] w fun e w' => ∃ a n c', e = .returned (.tuple #[.agg #[.int .i64 0, .int .i64 0, .int .u32 (ansR k c r), .slice a n c'], .bool (askB k c)]) ∧ Ans w w' (ansD k c pt.zs) a n c' := by
  unfold ansR ansD
  by_cases h : askB k c = true
  · simp only [h, if_true]
    obtain ⟨rfl, rfl⟩ : k = 8 ∧ c = 0 := by simpa [askB] using h
    exact answer_yes r pt w hok hl
  · have h' : askB k c = false := by simpa using h
    simp only [h']
    exact (answer_no k c _ _ w h').mono fun e w' h => ⟨_, _, _, h.1, ans_nil h.2⟩
theorem four_done {w W w5 : World} {g : Nat} {D : List Int} {a : Option Addr} {n c : Nat} (hb : Below w.heap.size w W) (hz : W.heap[g]? = some (.cells #[.int .i64 0, .int .i64 0, .int .u32 0, .slice none 0 0] 26 (0, 0))) (hg : w.heap.size ≤ g) (ha : Ans W w5 D a n c) (x0 x1 x2 x3 : Value) :
    (((((w5.setCell ⟨g, 0, none⟩ x0).setCell ⟨g, 1, none⟩ x1).setCell ⟨g, 2, none⟩ x2).setCell ⟨g, 3, none⟩ x3).heap[g]? = some (.cells #[x0, x1, x2, x3] 26 (0, 0))) ∧ Ans w ((((w5.setCell ⟨g, 0, none⟩ x0).setCell ⟨g, 1, none⟩ x1).setCell ⟨g, 2, none⟩ x2).setCell ⟨g, 3, none⟩ x3) D a n c := by
  have hlt := heap_lt hz
  have hs := hb.size
  have bu : But g w5 ((((w5.setCell ⟨g, 0, none⟩ x0).setCell ⟨g, 1, none⟩ x1).setCell ⟨g, 2, none⟩ x2).setCell ⟨g, 3, none⟩ x3) := (((But.setCell _ _ _ _).trans (But.setCell _ _ _ _)).trans (But.setCell _ _ _ _)).trans (But.setCell _ _ _ _)
  refine ⟨heap_setCell (j := 3) (heap_setCell (j := 2) (heap_setCell (j := 1) (heap_setCell (j := 0) (kept hz ha.2.2)))), ha.1.but bu (fun b hb => by have := ha.2.1 b hb; omega), fun b hb => by have := ha.2.1 b hb; omega, bbut (bstep hb ha.2.2) bu hg⟩

/-- a beginning of a slice. -/
theorem Part.first_ok {w : World} {pt : Part} (h : pt.ok w) (n : Nat) (hn : n ≤ pt.zs.length) : Part.ok w ⟨pt.a, pt.c, pt.zs.take n⟩ := by
  obtain ⟨pa, c, zs⟩ := pt
  simp only at hn
  have hc := h.2.1
  simp only at hc
  rcases h.2.2 with he | ⟨b, o, ha, hcells⟩
  · simp only at he
    subst he
    exact ⟨by simp, by simp, Or.inl (by simp)⟩
  · simp only at ha
    subst ha
    have := Part.sub_ok h 0 n c (by omega) (by omega)
    simpa using this

set_option maxRecDepth 20000 in
set_option maxHeartbeats 2000000 in
theorem refuse_u (code : Int) (pt : Part) (w : World) (hok : pt.ok w) (hl : pt.zs.length ≤ 140737488355328) :
    Calls Try.prog 20 #[.int .i64 code, pt.val] w fun e w' => ∃ a n c, e = .returned (.agg #[.int .i64 3, .int .i64 code, .int .u32 0, .slice a n c]) ∧ Ans w w' (pt.zs.take 28) a n c := by
  obtain ⟨n, hn⟩ : ∃ n, n = min pt.zs.length 28 := ⟨_, rfl⟩
  have hnl : n ≤ pt.zs.length := by omega
  have e28 : pt.zs.take 28 = pt.zs.take n := by
    by_cases h : pt.zs.length < 28
    · rw [List.take_of_length_le (by omega), List.take_of_length_le (by omega)]
    · rw [show n = 28 by omega]
  rw [e28]
  have len : (pt.zs.take n).length = n := by simp; omega
  have hcap := hok.2.1
  have KC : Hid (∀ V : World, Below w.heap.size w V → Calls Try.prog 30 #[.slice pt.a n pt.c] V fun e w' => ∃ a c, e = .returned (.slice a n c) ∧ Hid (Ans V w' (pt.zs.take n) a n c)) := fun V hb => by
    have h := bclone_any _ V (Part.first_ok (Part.ok_below hok hb) n hnl) (by simp only [len]; omega)
    simp only [Part.val, len] at h
    exact h
  have hno : pt.a = none → n = 0 := fun e => by
    rcases hok.2.2 with he | ⟨b, o, ha, _⟩
    · rw [he] at hnl; simpa using hnl
    · rw [ha] at e; simp at e
  have H0 : Hid ((w.alloc (.cells #[.int .i64 0, .int .i64 0, .int .u32 0, .slice none 0 0] 26)).heap[w.heap.size]? = some (.cells #[.int .i64 0, .int .i64 0, .int .u32 0, .slice none 0 0] 26 (0, 0)) ∧ Below w.heap.size w (w.alloc (.cells #[.int .i64 0, .int .i64 0, .int .u32 0, .slice none 0 0] 26))) := ⟨heap_new w _, bpush (Below.refl _ _) _⟩
  unfold Part.val
  clear hok e28 len
  generalize pt.zs.take n = D at *
  generalize pt.zs.length = l at *
  generalize pt.c = pc at *
  have q1 : (n : Int) ≤ (pc : Int) := by omega
  have q2 : (0 : Int) ≤ (n : Int) := by omega
  have q3 : n ≤ pc := by omega
  rcases (show (n = l ∧ l ≤ 28) ∨ (n = 28 ∧ 28 < l) by omega) with ⟨rfl, hm⟩ | ⟨rfl, hm⟩
  case' inl => have hm2 : (n : Int) ≤ 28 := by omega
  case' inr => have hm2 : ¬ (l : Int) ≤ 28 := by omega
  all_goals
    cases hpa : pt.a
    case' none =>
      have h0 := hno hpa
      first | (subst h0) | (exact absurd h0 (by omega))
  all_goals
    rw [hpa] at KC
    clear hn hpa hno
    go_enter Try.func20, Try.ntmps20
    go_wp2_with fail
    refine (KC.out _ H0.out.2).mono ?_
    rintro e w5 ⟨a5, c5, rfl, HAN⟩
    have hg5 := kept H0.out.1 HAN.out.2.2
    have q0 := cell_of_heap hg5 0
    have q1' := cell_of_heap hg5 1
    have q2' := cell_of_heap hg5 2
    have q3' := cell_of_heap hg5 3
    have f0 := frozen_of_heap hg5 0
    have f1 := frozen_of_heap hg5 1
    have f2 := frozen_of_heap hg5 2
    have f3 := frozen_of_heap hg5 3
    have HE := hid (fun x => four_done H0.out.2 H0.out.1 (Nat.le_refl _) HAN.out (.int .i64 3) (.int .i64 code) (.int .u32 0) x)
    clear hg5 HAN
    go_wp2
    refine bodyPost_ret (v := .agg #[.int .i64 3, .int .i64 code, .int .u32 0, .slice a5 _ c5]) ?_ (by rfl) ⟨a5, _, c5, rfl, (HE.out _).2⟩
    exact results_row0 Try.results20 _ _ w.heap.size 26 _ (0, 0) _ rfl (HE.out _).1 Try.underlying26 rfl (by kernel_rfl)
end Go.Proofs.Ythmfappindbjnaa
