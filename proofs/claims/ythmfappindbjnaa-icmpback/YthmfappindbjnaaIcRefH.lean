/-
  The document's Answer, Refuse, Same.
-/
import Derived.Test.YthmfappindbjnaaIcRefF
namespace Go.Proofs.Ythmfappindbjnaa
open Go.RowKit
set_option linter.all false

theorem refAdd_part (pt : Part) (w : World) (hok : pt.ok w) (hl : pt.zs.length ≤ 140737488355328) :
    Calls Try.prog 32 #[.slice none 0 0, pt.val] w fun e w' => ∃ a c, e = .returned (.slice a pt.zs.length c) ∧ Hid (Ans w w' pt.zs a pt.zs.length c) := by
  refine (refAdd_nil pt w hok hl).mono ?_
  rintro e w' ⟨a', n', c', rfl, an⟩
  obtain ⟨a'', c'', e, _⟩ := an.out.1.form
  simp only [Value.slice.injEq, u8s_len] at e
  obtain ⟨rfl, rfl, rfl⟩ := e
  exact ⟨_, _, rfl, an⟩

set_option maxRecDepth 20000 in
set_option maxHeartbeats 1000000 in
theorem refAnswer_no (k c : Int) (r v : Value) (w : World) (h : askB k c = false) :
    Calls Try.prog 21 #[.agg #[.int .i64 k, .int .i64 c, r, v]] w fun e w' => e = .returned (.tuple #[.agg #[.int .i64 0, .int .i64 0, .int .u32 0, .slice none 0 0], .bool false]) ∧ Below w.heap.size w w' := by
  have H0 := hid (AnI.first w #[.int .i64 k, .int .i64 c, r, v])
  by_cases h1 : k = 8
  · have h2 : ¬ c = 0 := by rintro rfl; subst h1; simp [askB] at h
    have k1 : (c != 0) = true := by simpa using h2
    subst h1
    clear h
    go_enter Try.func21, Try.ntmps21
    go_wp2_with (first
      | (refine wpList_store_row rfl 26 _ _ rfl (w.heap.size + 1) #[.int .i64 0, .int .i64 0, .int .u32 0, .slice none 0 0] rfl rfl 26 _ H0.out.2.1 (by kernel_rfl) rfl (by first | kernel_rfl | simp [Value.oneCell']) ?_) | fail)
    refine bodyPost_ret (v := .tuple #[.agg #[.int .i64 0, .int .i64 0, .int .u32 0, .slice none 0 0], .bool false]) ?_ (by rfl) ⟨rfl, bbut H0.out.2.2 (But.setRow (w.heap.size + 1) _ _) (by omega)⟩
    exact results_row2 Try.results21 _ _ (w.heap.size + 1) 26 _ (0, 0) _ _ rfl rfl (setRow_heap _ _ _ _ _ _ H0.out.2.1) Try.underlying26 rfl (by kernel_rfl)
  · have k1 : (k != 8) = true := by simpa using h1
    clear h
    go_enter Try.func21, Try.ntmps21
    go_wp2_with (first
      | (refine wpList_store_row rfl 26 _ _ rfl (w.heap.size + 1) #[.int .i64 0, .int .i64 0, .int .u32 0, .slice none 0 0] rfl rfl 26 _ H0.out.2.1 (by kernel_rfl) rfl (by first | kernel_rfl | simp [Value.oneCell']) ?_) | fail)
    refine bodyPost_ret (v := .tuple #[.agg #[.int .i64 0, .int .i64 0, .int .u32 0, .slice none 0 0], .bool false]) ?_ (by rfl) ⟨rfl, bbut H0.out.2.2 (But.setRow (w.heap.size + 1) _ _) (by omega)⟩
    exact results_row2 Try.results21 _ _ (w.heap.size + 1) 26 _ (0, 0) _ _ rfl rfl (setRow_heap _ _ _ _ _ _ H0.out.2.1) Try.underlying26 rfl (by kernel_rfl)

set_option maxRecDepth 20000 in
set_option maxHeartbeats 2000000 in
theorem refAnswer_yes (r : Int) (pt : Part) (w : World) (hok : pt.ok w) (hl : pt.zs.length ≤ 140737488355328) :
    Calls Try.prog 21 #[.agg #[.int .i64 8, .int .i64 0, .int .u32 r, pt.val]] w fun e w' => ∃ a n c, e = .returned (.tuple #[.agg #[.int .i64 0, .int .i64 0, .int .u32 r, .slice a n c], .bool true]) ∧ Ans w w' pt.zs a n c := by
  have H0 := hid (AnI.first w #[.int .i64 8, .int .i64 0, .int .u32 r, pt.val])
  have KC : Hid (∀ V : World, Below w.heap.size w V → _) := fun V hb => refAdd_part pt V (Part.ok_below hok hb) hl
  clear hok hl
  unfold Part.val at *
  generalize pt.zs.length = l at *
  generalize pt.a = pa at *
  generalize pt.c = pc at *
  generalize pt.zs = D at *
  go_enter Try.func21, Try.ntmps21
  go_wp2
  generalize ((w.alloc (.cells #[.int .i64 8, .int .i64 0, .int .u32 r, .slice pa l pc] 26)).alloc (.cells #[.int .i64 0, .int .i64 0, .int .u32 0, .slice none 0 0] 26)) = W at *
  have HBd : Hid (Below w.heap.size w W.drew) := H0.out.2.2.drew
  have c2 : W.cell? ⟨w.heap.size, 2, none⟩ = some (.int .u32 r) := cell_of_heap H0.out.1 2
  have c3 : W.cell? ⟨w.heap.size, 3, none⟩ = some (.slice pa l pc) := cell_of_heap H0.out.1 3
  go_region_held3 (fun w' => w'.cell? ⟨w.heap.size, 2, none⟩ = some (.int .u32 r) ∧ w'.cell? ⟨w.heap.size, 3, none⟩ = some (.slice pa l pc)) (first | assumption | exact ⟨c2, c3⟩) (first
    | (go_at_call 32; (with_reducible refine (KC.out _ HBd.out).mono ?_); rintro e w5 ⟨a5, c5, rfl, HAN⟩; have H5 := H0.out.next (bstep (a := W) (Below.refl _ _).drew HAN.out.2.2); have h7 : w5.cell? ⟨w.heap.size, 2, none⟩ = some (.int .u32 r) ∧ w5.cell? ⟨w.heap.size, 3, none⟩ = some (.slice pa l pc) := ⟨cell_of_heap H5.1 2, cell_of_heap H5.1 3⟩; have q0 := cell_of_heap H5.2.1 0; have q1 := cell_of_heap H5.2.1 1; have q2 := cell_of_heap H5.2.1 2; have q3 := cell_of_heap H5.2.1 3; have f0 := frozen_of_heap H5.2.1 0; have f1 := frozen_of_heap H5.2.1 1; have f2 := frozen_of_heap H5.2.1 2; have f3 := frozen_of_heap H5.2.1 3; have HE := hid (AnI.done (W := W.drew) (H0.out.next (Below.refl _ _).drew) HAN.out (.int .i64 0) (.int .i64 0) (.int .u32 r) (.slice a5 l c5)); have h8 : ((((w5.setCell ⟨w.heap.size + 1, 0, none⟩ (.int .i64 0)).setCell ⟨w.heap.size + 1, 1, none⟩ (.int .i64 0)).setCell ⟨w.heap.size + 1, 2, none⟩ (.int .u32 r)).setCell ⟨w.heap.size + 1, 3, none⟩ (.slice a5 l c5)).cell? ⟨w.heap.size, 2, none⟩ = some (.int .u32 r) ∧ ((((w5.setCell ⟨w.heap.size + 1, 0, none⟩ (.int .i64 0)).setCell ⟨w.heap.size + 1, 1, none⟩ (.int .i64 0)).setCell ⟨w.heap.size + 1, 2, none⟩ (.int .u32 r)).setCell ⟨w.heap.size + 1, 3, none⟩ (.slice a5 l c5)).cell? ⟨w.heap.size, 3, none⟩ = some (.slice pa l pc) := ⟨cell_of_heap (keptBut H5.1 ((((But.setCell _ _ _ _).trans (But.setCell _ _ _ _)).trans (But.setCell _ _ _ _)).trans (But.setCell (w.heap.size + 1) _ _ _)) (by omega)) 2, cell_of_heap (keptBut H5.1 ((((But.setCell _ _ _ _).trans (But.setCell _ _ _ _)).trans (But.setCell _ _ _ _)).trans (But.setCell (w.heap.size + 1) _ _ _)) (by omega)) 3⟩; clear HAN H5)
    | fail)
  go_wp2
  refine bodyPost_ret (v := .tuple #[.agg #[.int .i64 0, .int .i64 0, .int .u32 r, .slice a5 l c5], .bool true]) ?_ (by rfl) ⟨a5, l, c5, rfl, HE.out.2⟩
  exact results_row2 Try.results21 _ _ (w.heap.size + 1) 26 _ (0, 0) _ _ rfl rfl HE.out.1 Try.underlying26 rfl (by kernel_rfl)

theorem refAnswer_u (k c r : Int) (pt : Part) (w : World) (hok : pt.ok w) (hl : pt.zs.length ≤ 140737488355328) :
    Calls Try.prog 21 #[.agg #[.int .i64 k, .int .i64 c, .int .u32 r, pt.val]] w fun e w' => ∃ a n c', e = .returned (.tuple #[.agg #[.int .i64 0, .int .i64 0, .int .u32 (ansR k c r), .slice a n c'], .bool (askB k c)]) ∧ Ans w w' (ansD k c pt.zs) a n c' := by
  unfold ansR ansD
  by_cases h : askB k c = true
  · simp only [h, if_true]
    obtain ⟨rfl, rfl⟩ : k = 8 ∧ c = 0 := by simpa [askB] using h
    exact refAnswer_yes r pt w hok hl
  · have h' : askB k c = false := by simpa using h
    simp only [h']
    exact (refAnswer_no k c _ _ w h').mono fun e w' h => ⟨_, _, _, h.1, ans_nil h.2⟩
set_option maxRecDepth 20000 in
set_option maxHeartbeats 2000000 in
theorem refRefuse_u (code : Int) (pt : Part) (w : World) (hok : pt.ok w) (hl : pt.zs.length ≤ 140737488355328) :
    Calls Try.prog 22 #[.int .i64 code, pt.val] w fun e w' => ∃ a n c, e = .returned (.agg #[.int .i64 3, .int .i64 code, .int .u32 0, .slice a n c]) ∧ Ans w w' (pt.zs.take 28) a n c := by
  obtain ⟨n, hn⟩ : ∃ n, n = min pt.zs.length 28 := ⟨_, rfl⟩
  have hnl : n ≤ pt.zs.length := by omega
  have e28 : pt.zs.take 28 = pt.zs.take n := by
    by_cases h : pt.zs.length < 28
    · rw [List.take_of_length_le (by omega), List.take_of_length_le (by omega)]
    · rw [show n = 28 by omega]
  rw [e28]
  have len : (pt.zs.take n).length = n := by simp; omega
  have hcap := hok.2.1
  have KC : Hid (∀ V : World, Below w.heap.size w V → Calls Try.prog 32 #[.slice none 0 0, .slice pt.a n pt.c] V fun e w' => ∃ a c, e = .returned (.slice a n c) ∧ Hid (Ans V w' (pt.zs.take n) a n c)) := fun V hb => by
    have h := refAdd_part _ V (Part.first_ok (Part.ok_below hok hb) n hnl) (by simp only [len]; omega)
    simp only [Part.val, len] at h
    exact h
  have hno : pt.a = none → n = 0 := fun e => by
    rcases hok.2.2 with he | ⟨b, o, ha, _⟩
    · rw [he] at hnl; simpa using hnl
    · rw [ha] at e; simp at e
  have H0 : Hid ((w.alloc (.cells #[.int .i64 0, .int .i64 0, .int .u32 0, .slice none 0 0] 26)).heap[w.heap.size]? = some (.cells #[.int .i64 0, .int .i64 0, .int .u32 0, .slice none 0 0] 26 (0, 0)) ∧ Below w.heap.size w (w.alloc (.cells #[.int .i64 0, .int .i64 0, .int .u32 0, .slice none 0 0] 26))) := ⟨heap_new w _, bpush (Below.refl _ _) _⟩
  unfold Part.val
  clear hok e28 len
  generalize pt.zs.take n = D at *
  generalize pt.zs.length = l at *
  generalize pt.c = pc at *
  have q1 : (n : Int) ≤ (pc : Int) := by omega
  have q2 : (0 : Int) ≤ (n : Int) := by omega
  have q3 : n ≤ pc := by omega
  rcases (show (n = l ∧ l ≤ 28) ∨ (n = 28 ∧ 28 < l) by omega) with ⟨rfl, hm⟩ | ⟨rfl, hm⟩
  case' inl => have hm2 : (n : Int) ≤ 28 := by omega
  case' inr => have hm2 : ¬ (l : Int) ≤ 28 := by omega
  all_goals
    cases hpa : pt.a
    case' none =>
      have h0 := hno hpa
      first | (subst h0) | (exact absurd h0 (by omega))
  all_goals
    rw [hpa] at KC
    clear hn hpa hno
    go_enter Try.func22, Try.ntmps22
    go_wp2_with fail
    refine (KC.out _ H0.out.2).mono ?_
    rintro e w5 ⟨a5, c5, rfl, HAN⟩
    have hg5 := kept H0.out.1 HAN.out.2.2
    have q0 := cell_of_heap hg5 0
    have q1' := cell_of_heap hg5 1
    have q2' := cell_of_heap hg5 2
    have q3' := cell_of_heap hg5 3
    have f0 := frozen_of_heap hg5 0
    have f1 := frozen_of_heap hg5 1
    have f2 := frozen_of_heap hg5 2
    have f3 := frozen_of_heap hg5 3
    have HE := hid (fun x => four_done H0.out.2 H0.out.1 (Nat.le_refl _) HAN.out (.int .i64 3) (.int .i64 code) (.int .u32 0) x)
    clear hg5 HAN
    go_wp2
    refine bodyPost_ret (v := .agg #[.int .i64 3, .int .i64 code, .int .u32 0, .slice a5 _ c5]) ?_ (by rfl) ⟨a5, _, c5, rfl, (HE.out _).2⟩
    exact results_row0 Try.results22 _ _ w.heap.size 26 _ (0, 0) _ rfl (HE.out _).1 Try.underlying26 rfl (by kernel_rfl)

set_option maxRecDepth 20000 in
set_option maxHeartbeats 1000000 in
theorem same_parts (k s d : Int) (pt qt : Part) (w : World) (h1 : pt.ok w) (h2 : qt.ok w) (he : pt.zs = qt.zs) :
    Calls Try.prog 18 #[.agg #[.int .i64 k, .int .i64 s, .int .u32 d, pt.val], .agg #[.int .i64 k, .int .i64 s, .int .u32 d, qt.val]] w fun e w' => e = .returned (.bool true) ∧ Below w.heap.size w w' := by
  have bb := bpush (bpush (Below.refl w.heap.size w) (.cells #[.int .i64 k, .int .i64 s, .int .u32 d, pt.val] 26)) (.cells #[.int .i64 k, .int .i64 s, .int .u32 d, qt.val] 26)
  have v1 := conv_part pt _ (Part.ok_below h1 bb)
  have v2 := conv_part qt _ (Part.ok_below h2 bb)
  rw [he] at v1
  have HB := hid bb
  clear h1 h2 he bb
  have e0 : (k == k) = true := by simp
  have e1 : (s == s) = true := by simp
  have e2 : (d == d) = true := by simp
  generalize strOfNums qt.zs = X at *
  have e3 : (X.toList == X.toList) = true := by simp
  unfold Part.val at *
  generalize pt.zs.length = l at *
  generalize qt.zs.length = m at *
  generalize pt.a = pa at *
  generalize qt.a = qa at *
  generalize pt.c = pc at *
  generalize qt.c = qc at *
  go_enter Try.func18, Try.ntmps18
  go_wp2
  go_ret
  exact ⟨rfl, HB.out⟩
theorem same_rows (k s d : Int) (Y : List Int) (hY : ∀ z, z ∈ Y → 0 ≤ z ∧ z ≤ 255) (a1 a2 : Option Addr) (n1 c1 n2 c2 : Nat) (w : World) (h1 : Row w 5 (.slice a1 n1 c1) (u8s Y)) (h2 : Row w 5 (.slice a2 n2 c2) (u8s Y)) :
    Calls Try.prog 18 #[.agg #[.int .i64 k, .int .i64 s, .int .u32 d, .slice a1 n1 c1], .agg #[.int .i64 k, .int .i64 s, .int .u32 d, .slice a2 n2 c2]] w fun e w' => e = .returned (.bool true) ∧ Below w.heap.size w w' := by
  obtain ⟨p, e1, e2, o1⟩ := h1.part hY
  obtain ⟨q, e3, e4, o2⟩ := h2.part hY
  rw [e1, e3]
  exact same_parts k s d p q w o1 o2 (by rw [e2, e4])
theorem same_row (k s d : Int) (pt : Part) (a1 : Option Addr) (n1 c1 : Nat) (w : World) (hp : pt.ok w) (h1 : Row w 5 (.slice a1 n1 c1) (u8s pt.zs)) :
    Calls Try.prog 18 #[.agg #[.int .i64 k, .int .i64 s, .int .u32 d, .slice a1 n1 c1], .agg #[.int .i64 k, .int .i64 s, .int .u32 d, pt.val]] w fun e w' => e = .returned (.bool true) ∧ Below w.heap.size w w' := by
  obtain ⟨p, e1, e2, o1⟩ := h1.part hp.1
  rw [e1]
  exact same_parts k s d p pt w o1 hp e2
end Go.Proofs.Ythmfappindbjnaa
