/-
  Tftp: the document's add, word, text, as its Encode sees them.
-/
import Derived.Test.YtdcppiknomoigaaDoorTfE
import Derived.Test.YtdcppiknomoigaaDoorBConv
import Derived.Test.YtdcppiknomoigaaDoorBNum
import Derived.Test.YtdcppiknomoigaaDoorBApp
namespace Go.Proofs.YtdcppiknomoigaaDoor
open Go.RowKit
set_option linter.all false

/-- what is laid by the document's Encode: from block B on; what lies below it stays. -/
structure OutE (B : Nat) (w : World) (zs : List Int) (v : Value) (W : World) : Prop where
  row : Row W 5 v (u8s zs)
  low : ∀ b, v.ownBlock = some b → B ≤ b
  below : Below B w W
theorem OutE.keep {B : Nat} {w W W' : World} {zs : List Int} {v : Value} (h : OutE B w zs v W) (hB : B ≤ W.heap.size) (hb : Below W.heap.size W W') : OutE B w zs v W' := ⟨h.row.below hb, h.low, h.below.trans (hb.mono hB)⟩
theorem OutE.own {B : Nat} {w W : World} {zs : List Int} {a : Option Addr} {n c : Nat} {pt : Part} (h : OutE B w zs (.slice a n c) W) (hok : pt.ok W) (ho : ∀ b, (Value.slice a n c).ownBlock = some b → pt.off b) : Own (Value.slice a n c).ownBlock W pt zs (.slice a n c) W := ⟨h.row, Or.inl rfl, ho, hok, grown_refl _ _⟩
theorem OutE.of {B : Nat} {w W W' : World} {zs zs' : List Int} {v v' : Value} {pt : Part} (h : OutE B w zs v W) (hB : B ≤ W.heap.size) (h' : Own v.ownBlock W pt zs' v' W') : OutE B w zs' v' W' := by
  refine ⟨h'.row, fun b hb => ?_, h.below.trans (grown_from h'.grown h.low hB)⟩
  rcases h'.loc with e | e
  · rw [e] at hb
    exact h.low b hb
  · exact Nat.le_trans hB (e b hb)
theorem outAdd_any {B : Nat} {w W : World} {zs : List Int} {a : Option Addr} {n c : Nat} (pt : Part) (h : OutE B w zs (.slice a n c) W) (hB : B ≤ W.heap.size) (hok : pt.ok W) (ho : ∀ b, (Value.slice a n c).ownBlock = some b → pt.off b) (hl : zs.length + pt.zs.length ≤ 140737488355328) :
    Calls Tryd.prog 36 #[.slice a n c, pt.val] W fun e w' => ∃ a' n' c', e = .returned (.slice a' n' c') ∧ Hid (OutE B w (zs ++ pt.zs) (.slice a' n' c') w' ∧ B ≤ w'.heap.size) := by
  refine (refAdd_any _ pt zs a n c W (h.own hok ho) hl).mono ?_
  rintro e w' ⟨a', n', c', rfl, h'⟩
  exact ⟨a', n', c', rfl, h.of hB h', Nat.le_trans hB h'.grown.size⟩
set_option maxHeartbeats 1000000 in
/-- a number of two bytes behind them. -/
theorem outWord_any {B : Nat} {w W : World} {zs : List Int} {a : Option Addr} {n c : Nat} (x : Int) (hx : 0 ≤ x ∧ x ≤ 65535) (h : OutE B w zs (.slice a n c) W) (hB : B ≤ W.heap.size) (hl : zs.length ≤ 100000) :
    Calls Tryd.prog 34 #[.slice a n c, .int .i64 x] W fun e w' => ∃ a' n' c', e = .returned (.slice a' n' c') ∧ Hid (OutE B w (zs ++ op2 x) (.slice a' n' c') w' ∧ B ≤ w'.heap.size) := by
  have HP := hid (refPut2_any x W hx.1 (by omega))
  obtain ⟨w1, hw1⟩ : ∃ w1, w1 = W.alloc (.cells (u8s (op2 x)).toArray 5) := ⟨_, rfl⟩
  have hb1 : Below W.heap.size W w1 := by rw [hw1]; exact bpush (Below.refl _ _) _
  have hr1 : w1.heap[W.heap.size]? = some (.cells (u8s (op2 x)).toArray 5 (0, 0)) := by rw [hw1]; exact heap_new _ _
  have hp1 : Part.ok w1 ⟨some ⟨W.heap.size, 0, none⟩, 2, op2 x⟩ := Part.of_row hr1 (by simp [op2]) (op2_bd x)
  have HA := hid (outAdd_any ⟨some ⟨W.heap.size, 0, none⟩, 2, op2 x⟩ (h.keep hB hb1) (Nat.le_trans hB hb1.size) hp1 (fun b hb => Or.inr fun b' o e => by
    simp only [Option.some.injEq, Addr.mk.injEq] at e
    have := h.row.lt hb
    omega) (by simp only [op2, List.length_cons, List.length_nil]; omega))
  have hl2 : (op2 x).length = 2 := rfl
  simp only [Part.val, hl2] at HA
  rw [← hw1] at HP
  have hwx : IntKind.u64.wrap x = x := by simp only [IntKind.wrap_u64]; omega
  clear hw1 hb1 hr1 hp1 hl2
  go_enter Tryd.func34, Tryd.ntmps34
  go_wp2_with (first
    | (go_at_call 65; refine HP.out.mono ?_; rintro e w2 ⟨rfl, rfl⟩)
    | (go_at_call 36; refine HA.out.mono ?_; rintro e w3 ⟨a', n', c', rfl, HO⟩)
    | fail)
  go_ret
  exact ⟨a', n', c', rfl, HO⟩
set_option maxHeartbeats 1000000 in
/-- a text and its zero behind them. -/
theorem outText_any {B : Nat} {w W : World} {zs : List Int} {a : Option Addr} {n c : Nat} (s : ByteArray) (h : OutE B w zs (.slice a n c) W) (hB : B ≤ W.heap.size) (hl : zs.length + s.size ≤ 200000) :
    Calls Tryd.prog 35 #[.slice a n c, .string s] W fun e w' => ∃ a' n' c', e = .returned (.slice a' n' c') ∧ Hid (OutE B w (zs ++ nums s ++ [0]) (.slice a' n' c') w' ∧ B ≤ w'.heap.size) := by
  have hns := nums_len s
  obtain ⟨cap, w1, hcv, hr1, hb1, hz1⟩ := conv_row W (nums s) (nums_bd s) (by unfold maxLen; omega)
  rw [str_nums] at hcv
  obtain ⟨pt, e1, e2, ok⟩ := hr1.part (nums_bd s)
  have HA0 := outAdd_any pt (h.keep hB hb1) (Nat.le_trans hB hb1.size) ok (fun b hb => by
    by_cases he : pt.zs = []
    · exact Or.inl he
    · refine Or.inr fun b' o e => ?_
      obtain ⟨pa, pc, pz⟩ := pt
      simp only [Part.val, Value.slice.injEq] at e1 e
      rw [e] at e1
      simp only [Option.some.injEq, Addr.mk.injEq] at e1
      have := h.row.lt hb
      omega) (by rw [e2]; omega)
  rw [← e1, e2] at HA0
  have HA := hid HA0
  have HONE : Hid (∀ (w3 : World) (a' : Option Addr) (n' c' : Nat), OutE B w (zs ++ nums s) (.slice a' n' c') w3 ∧ B ≤ w3.heap.size → ∃ gg nn cc w', (Builtin.append_ #[24, 24] 24 #[.slice a' n' c', .slice (some ⟨w3.heap.size, 0, none⟩) 1 1]).run Tryd.prog (w3.alloc (.cells #[.int .u8 0] 5)) = .ok (.slice (some ⟨gg, 0, none⟩) nn cc) w' ∧ OutE B w (zs ++ nums s ++ [0]) (.slice (some ⟨gg, 0, none⟩) nn cc) w' ∧ B ≤ w'.heap.size) := fun w3 a' n' c' ho => by
    obtain ⟨gg, nn, cc, w', hrun, hO⟩ := Own.one (ho.1.own (Part.nil_ok w3) (fun b hb => Or.inl rfl)) 0 (by simp only [List.length_append]; omega)
    exact ⟨gg, nn, cc, w', hrun, ho.1.of ho.2 hO, Nat.le_trans ho.2 hO.grown.size⟩
  rw [hns] at HA hcv
  clear e1 e2 ok hr1 hb1 hz1 HA0 h hns
  go_enter Tryd.func35, Tryd.ntmps35
  go_wp2_with (first
    | (go_at_call 36; with_reducible refine HA.out.mono ?_; rintro e w3 ⟨a', n', c', rfl, HO⟩)
    | (at_builtin; obtain ⟨gg, nn, cc, w4, hrun, HO4⟩ := HONE.out w3 a' n' c' HO.out; refine wpList_append_run _ rfl _ _ _ _ rfl _ _ rfl rfl hrun ?_)
    | fail)
  go_ret
  exact ⟨_, nn, cc, rfl, HO4⟩
end Go.Proofs.YtdcppiknomoigaaDoor
