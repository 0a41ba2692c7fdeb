/-
  The document's Encode.
-/
import Derived.Test.YtdfmnjoodjpibaaUDecX
namespace Go.Proofs.Ytdfmnjoodjpibaa
open Go.RowKit
set_option linter.all false

/-- words laid behind one another. -/
def words (l : List Int) : List Int := l.flatMap op2
theorem words_len (l : List Int) : (words l).length = 2 * l.length := by
  induction l with
  | nil => rfl
  | cons x l ih => simp only [words, List.flatMap_cons, List.length_append, List.length_cons] at *; rw [ih]; simp [op2]; omega
theorem words_next (l : List Int) (k : Nat) (h : k < l.length) : words (l.take (k + 1)) = words (l.take k) ++ op2 (l.getD k 0) := by
  unfold words
  rw [List.take_succ_eq_append_getElem h, List.flatMap_append]
  simp [List.getD_eq_getElem?_getD, h]
/-- a laid under way. -/
def LdI (w : World) (F N : Array Value) (zs : List Int) (a : Option Addr) (n c : Nat) (W : World) : Prop :=
  W.heap[w.heap.size]? = some (.cells F 26 (0, 0)) ∧ W.heap[w.heap.size + 1]? = some (.cells N 3 (0, 0)) ∧ OwnB (w.heap.size + 2) zs a n c W ∧ Below w.heap.size w W
theorem LdI.first (w : World) (F N : Array Value) : LdI w F N [] none 0 0 ((w.alloc (.cells F 26)).alloc (.cells N 3)) := by
  have h := ((Holds.nil w).push (.cells F 26)).push (.cells N 3)
  simp only [World.size_alloc] at h
  exact ⟨h.at 1 _ _ rfl, h.at 0 _ _ rfl, ⟨Row.nil _ _, by simp [Value.ownBlock], by simp⟩, bpush (bpush (Below.refl _ _) _) _⟩
theorem LdI.put {w W : World} {F N : Array Value} {zs : List Int} {a : Option Addr} {n c : Nat} (h : LdI w F N zs a n c W) (x : Int) (hl : zs.length ≤ 1000) :
    ∃ a' n' c' w', (Builtin.append_ #[24, 24] 24 #[.slice a n c, .slice (some ⟨W.heap.size, 0, none⟩) 2 2]).run Try.prog (W.alloc (.cells (u8s (op2 x)).toArray 5)) = .ok (.slice a' n' c') w' ∧ LdI w F N (zs ++ op2 x) a' n' c' w' := by
  have bl := bpush (Below.refl W.heap.size W) (.cells (u8s (op2 x)).toArray 5)
  obtain ⟨a', n', c', w', h1, h2, h3⟩ := (h.2.2.1.below bl).app ⟨some ⟨W.heap.size, 0, none⟩, 2, op2 x⟩ (Part.of_row (heap_new W _) (by simp [op2]) (op2_bd _)) (by simp [op2]; omega) 24
  have hb : Below (w.heap.size + 2) W w' := (bl.mono h.2.2.1.2.2).trans h3
  exact ⟨a', n', c', w', h1, (hb.block _ (by omega)).trans h.1, (hb.block _ (by omega)).trans h.2.1, h2, h.2.2.2.trans (hb.mono (by omega))⟩
theorem LdI.data {w W : World} {F N : Array Value} {zs : List Int} {a : Option Addr} {n c : Nat} (h : LdI w F N zs a n c W) (pt : Part) (hok : pt.ok w) (hl : zs.length + pt.zs.length ≤ 140737488355328) :
    ∃ a' n' c' w', (Builtin.append_ #[24, 24] 24 #[.slice a n c, pt.val]).run Try.prog W = .ok (.slice a' n' c') w' ∧ Ans w w' (zs ++ pt.zs) a' n' c' := by
  obtain ⟨a', n', c', w', h1, h2, h3⟩ := h.2.2.1.app pt (Part.ok_below hok h.2.2.2) hl 24
  exact ⟨a', n', c', w', h1, h2.1, fun b hb => by have := h2.2.1 b hb; omega, h.2.2.2.trans (h3.mono (by omega))⟩

set_option maxRecDepth 20000 in
set_option maxHeartbeats 2000000 in
theorem refLaid_any (s d su : Int) (pt : Part) (w : World) (hs : 0 ≤ s ∧ s ≤ 65535) (hd : 0 ≤ d ∧ d ≤ 65535) (hu : 0 ≤ su ∧ su ≤ 65535) (hok : pt.ok w) (hl : pt.zs.length ≤ 1472) :
    Calls Try.prog 17 #[.agg #[.int .i64 s, .int .i64 d, pt.val], .int .i64 su] w fun e w' => ∃ a n c, e = .returned (.slice a n c) ∧ Ans w w' (datL s d su pt.zs) a n c := by
  have hk : IntKind.i64.wrap (8 + (pt.zs.length : Int)) = 8 + (pt.zs.length : Int) := by simp only [IntKind.wrap_i64]; omega
  obtain ⟨nums, hnums⟩ : ∃ nums : List Int, nums = [s, d, 8 + (pt.zs.length : Int), su] := ⟨_, rfl⟩
  have HLN : Hid (nums.length = 4) := by rw [hnums]; exact (rfl : _ = _)
  have HB : Hid (∀ k, k < 4 → 0 ≤ nums.getD k 0 ∧ nums.getD k 0 ≤ 65535) := fun k hk => by
    rw [hnums]
    obtain rfl | rfl | rfl | rfl : k = 0 ∨ k = 1 ∨ k = 2 ∨ k = 3 := by omega
    · exact hs
    · exact hd
    · simp; omega
    · exact hu
  have HC : Hid (∀ k, k < 4 → (#[.int .i64 s, .int .i64 d, .int .i64 (8 + (pt.zs.length : Int)), .int .i64 su] : Array Value)[k]? = some (.int .i64 (nums.getD k 0))) := fun k hk => by
    rw [hnums]
    obtain rfl | rfl | rfl | rfl : k = 0 ∨ k = 1 ∨ k = 2 ∨ k = 3 := by omega
    all_goals rfl
  have HD : Hid (∀ (W : World) (F N : Array Value) (a : Option Addr) (n c : Nat), LdI w F N (words (nums.take 4)) a n c W → ∃ a' n' c' w', (Builtin.append_ #[24, 24] 24 #[.slice a n c, pt.val]).run Try.prog W = .ok (.slice a' n' c') w' ∧ Ans w w' (datL s d su pt.zs) a' n' c') := fun W F N a n c h => by
    have := h.data pt hok (by rw [words_len]; simp; omega)
    rw [List.take_of_length_le (by rw [HLN.out]; omega), hnums] at this
    have e : words [s, d, 8 + (pt.zs.length : Int), su] ++ pt.zs = datL s d su pt.zs := by simp [words, datL]
    rw [e] at this
    exact this
  have H0 := hid (LdI.first w #[.int .i64 s, .int .i64 d, pt.val] #[.int .i64 s, .int .i64 d, .int .i64 (8 + (pt.zs.length : Int)), .int .i64 su])
  clear hnums hs hd hu hok
  unfold Part.val at *
  generalize datL s d su pt.zs = DL at *
  generalize pt.zs.length = l at *
  generalize pt.a = pa at *
  generalize pt.c = pc at *
  go_enter Try.func17, Try.ntmps17
  go_wp2
  go_loopw [5, 7] (fun v i wr => ∃ (k : Nat) (a : Option Addr) (n c : Nat), k ≤ 4 ∧ i = .int .i64 k ∧ v = .slice a n c ∧ Hid (LdI w #[.int .i64 s, .int .i64 d, .slice pa l pc] #[.int .i64 s, .int .i64 d, .int .i64 (8 + (l : Int)), .int .i64 su] (words (nums.take k)) a n c wr)) (fun _ i _ => 4 - (intOf i).toNat)
  case atStart => exact ⟨0, none, 0, 0, Nat.zero_le _, rfl, rfl, H0.out⟩
  case round =>
    obtain ⟨k, a, n, c, hk, rfl, rfl, HR⟩ := hrel
    by_cases hlt : k < 4
    · have hcell : wr.cell? ⟨w.heap.size + 1, k, none⟩ = some (.int .i64 (nums.getD k 0)) := by rw [cell_of_heap HR.out.2.1]; exact HC.out k hlt
      obtain ⟨hx0, hx1⟩ := HB.out k hlt
      have HW := hid (words_next nums k (by rw [HLN.out]; exact hlt))
      obtain ⟨a', n', c', w', h1, h2⟩ := HR.out.put (nums.getD k 0) (by rw [words_len]; simp; omega)
      rw [← HW.out] at h2
      have HRUN := hid h1
      have HE := hid h2
      have HP : Hid (∀ w, _) := fun w => refPut2_any (nums.getD k 0) w hx0 (by omega)
      have hw : IntKind.u64.wrap (nums.getD k 0) = nums.getD k 0 := by simp only [IntKind.wrap_u64]; omega
      clear h1 h2 HW HR
      generalize nums.getD k 0 = x at *
      generalize op2 x = X at *
      have hk4 : (k : Int) < 4 := by omega
      go_wp2_with fail
      refine (HP.out _).mono ?_
      rintro e w1 ⟨rfl, hw1⟩
      subst w1
      go_wp2_with (first | (at_builtin; refine wpList_append_run _ rfl _ _ 24 24 rfl _ _ rfl rfl HRUN.out ?_) | fail)
      go_roundw
      case rel => exact ⟨k + 1, a', n', c', by omega, by go_num, rfl, HE⟩
      case measure => simp [intOf]; omega
    · have hk4 : k = 4 := by omega
      subst hk4
      have hc2 : wr.cell? ⟨w.heap.size, 2, none⟩ = some (.slice pa l pc) := cell_of_heap HR.out.1 2
      obtain ⟨a', n', c', w', h1, h2⟩ := HD.out _ _ _ _ _ _ HR.out
      have HRUN := hid h1
      have HE := hid h2
      clear h1 h2 HD HR
      go_wp2_with (first | (at_builtin; refine wpList_append_run _ rfl _ _ 24 24 rfl _ _ rfl rfl HRUN.out ?_) | fail)
      go_ret
      exact ⟨_, _, _, rfl, HE.out⟩
end Go.Proofs.Ytdfmnjoodjpibaa
