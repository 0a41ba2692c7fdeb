/-
  The contracts of option.Numbered, option.Byte, and of the document's.
-/
import Derived.Test.YtgcpoanjjgbfjaaOMem
import Derived.Test.YtgcpoanjjgbfjaaBNum
namespace Go.Proofs.Ytgcpoanjjgbfjaa
open Go.RowKit
set_option linter.all false

/-- an option that was made: its bytes lie in the block g. -/
def MadeO (w w' : World) (g : Nat) (zs : List Int) : Prop := w.heap.size ≤ g ∧ w'.heap[g]? = some (.cells (u8s zs).toArray 5 (0, 0)) ∧ Below w.heap.size w w'
theorem put1_any (n : Int) (w : World) (h3 : 0 ≤ n) (h4 : n ≤ 18446744073709551615) :
    Calls Try.prog 80 #[.int .u64 n, .int .i64 1] w fun e w' => e = .returned (.slice (some ⟨w.heap.size, 0, none⟩) 1 1) ∧ w' = w.alloc (.cells (u8s (op1 n)).toArray 5) := by
  have h := put_yes n 1 w (by omega) (by omega) h3 (by omega)
  rw [putTo1 n] at h
  exact h
theorem results_o1 {P : Program} {fn : Func} {p : Tmp} {ty : TypeId} (h : fn.results = #[.cell p ty]) (tmps : Array Value) (w : World) (g : Nat) (t : TypeId) (cs : Array Value) (fr : Nat × Nat) (d : TypeDesc)
    (hp : tmps.getD p undef = .pointer (some ⟨g, 0, none⟩)) (hg : w.heap[g]? = some (.cells cs t fr))
    (hu : P.underlying ty = some d) (hd : (match d with | .struct _ | .array _ _ => true | _ => false) = true) (hi : (P.info? ty).map (·.size) = some cs.size) :
    (results fn tmps).run P w = .ok (.agg cs) w := by
  have hp' : tmps[p]?.getD undef = .pointer (some ⟨g, 0, none⟩) := by simpa using hp
  simp [results, h, hp', asAddr, run_loadVar_row w g t ty cs fr d hg hu hd hi]
set_option maxHeartbeats 1000000 in
theorem numbered_any (code n : Int) (w : World) (h0 : 0 ≤ n) (h1 : n ≤ 4294967295) :
    Calls Try.prog 74 #[.int .i64 code, .int .u32 n] w fun e w' => ∃ g, e = .returned (.agg #[.int .i64 code, .slice (some ⟨g, 0, none⟩) 4 4]) ∧ Hid (MadeO w w' g (ip4 n)) := by
  obtain ⟨w0, hw0⟩ : ∃ w0, w0 = w.alloc (.cells #[.int .i64 0, .slice none 0 0] 38) := ⟨_, rfl⟩
  have HB0 : Hid (Below w.heap.size w w0) := by rw [hw0]; exact bpush (Below.refl _ _) _
  have HS0 : Hid (w0.heap.size = w.heap.size + 1) := hid (by rw [hw0]; simp)
  have HG0 : Hid (w0.heap[w.heap.size]? = some (.cells #[.int .i64 0, .slice none 0 0] 38 (0, 0))) := by rw [hw0]; exact heap_new w _
  have C0 := put4_any n w0 h0 (by omega)
  obtain ⟨w1, hw1⟩ : ∃ w1, w1 = w0.alloc (.cells (u8s (ip4 n)).toArray 5) := ⟨_, rfl⟩
  have HG1 : Hid (w1.heap[w.heap.size]? = some (.cells #[.int .i64 0, .slice none 0 0] 38 (0, 0))) := by rw [hw1]; exact (heap_old _ _ (heap_lt HG0.out)).trans HG0.out
  have HD1 : Hid (w1.heap[w.heap.size + 1]? = some (.cells (u8s (ip4 n)).toArray 5 (0, 0))) := by rw [hw1, ← HS0.out]; exact heap_new _ _
  have HB1 : Hid (Below w.heap.size w w1) := by rw [hw1]; exact bpush HB0.out _
  rw [← hw1, HS0.out] at C0
  clear hw1
  go_enter Try.func74, Try.ntmps74
  go_wp2_with (first
    | (go_at_call 80; first | rw [← hw0] | skip; refine C0.mono ?_; rintro e wx ⟨rfl, rfl⟩)
    | (refine wpList_store_row rfl 38 _ _ rfl w.heap.size #[.int .i64 code, .slice (some ⟨w.heap.size + 1, 0, none⟩) 4 4] rfl rfl 38 _ HG1.out (by kernel_rfl) rfl (by first | kernel_rfl | simp [Value.oneCell']) ?_))
  refine bodyPost_ret (v := .agg #[.int .i64 code, .slice (some ⟨w.heap.size + 1, 0, none⟩) 4 4]) ?_ (by rfl) ⟨_, rfl, ?_⟩
  · exact results_o1 Try.results74 _ _ w.heap.size 38 _ (0, 0) _ rfl (setRow_heap _ _ _ _ _ _ HG1.out) Try.underlying38 rfl (by kernel_rfl)
  · refine ⟨by omega, ?_, ?_⟩
    · rw [setRow_other _ _ _ _ (by omega)]
      exact HD1.out
    · exact bbut HB1.out (But.setRow _ _ _) (Nat.le_refl _)
set_option maxHeartbeats 1000000 in
theorem byte_any (code n : Int) (w : World) (h0 : -9223372036854775808 ≤ n) (h1 : n ≤ 9223372036854775807) :
    Calls Try.prog 78 #[.int .i64 code, .int .i64 n] w fun e w' => ∃ g, e = .returned (.agg #[.int .i64 code, .slice (some ⟨g, 0, none⟩) 1 1]) ∧ Hid (MadeO w w' g (op1 n)) := by
  obtain ⟨w0, hw0⟩ : ∃ w0, w0 = w.alloc (.cells #[.int .i64 0, .slice none 0 0] 38) := ⟨_, rfl⟩
  have HB0 : Hid (Below w.heap.size w w0) := by rw [hw0]; exact bpush (Below.refl _ _) _
  have HS0 : Hid (w0.heap.size = w.heap.size + 1) := hid (by rw [hw0]; simp)
  have HG0 : Hid (w0.heap[w.heap.size]? = some (.cells #[.int .i64 0, .slice none 0 0] 38 (0, 0))) := by rw [hw0]; exact heap_new w _
  have hm : op1 (n % 18446744073709551616) = op1 n := by simp only [op1]; congr 1; omega
  have C0 := put1_any (n % 18446744073709551616) w0 (by omega) (by omega)
  obtain ⟨w1, hw1⟩ : ∃ w1, w1 = w0.alloc (.cells (u8s (op1 (n % 18446744073709551616))).toArray 5) := ⟨_, rfl⟩
  have HG1 : Hid (w1.heap[w.heap.size]? = some (.cells #[.int .i64 0, .slice none 0 0] 38 (0, 0))) := by rw [hw1]; exact (heap_old _ _ (heap_lt HG0.out)).trans HG0.out
  have HD1 : Hid (w1.heap[w.heap.size + 1]? = some (.cells (u8s (op1 n)).toArray 5 (0, 0))) := by rw [hw1, ← HS0.out, ← hm]; exact heap_new _ _
  have HB1 : Hid (Below w.heap.size w w1) := by rw [hw1]; exact bpush HB0.out _
  rw [← hw1, HS0.out] at C0
  clear hw1 hm
  go_enter Try.func78, Try.ntmps78
  go_wp2_with (first
    | (go_at_call 80; first | rw [← hw0] | skip; try simp only [IntKind.wrap_u64]; refine C0.mono ?_; rintro e wx ⟨rfl, rfl⟩)
    | (refine wpList_store_row rfl 38 _ _ rfl w.heap.size #[.int .i64 code, .slice (some ⟨w.heap.size + 1, 0, none⟩) 1 1] rfl rfl 38 _ HG1.out (by kernel_rfl) rfl (by first | kernel_rfl | simp [Value.oneCell']) ?_))
  refine bodyPost_ret (v := .agg #[.int .i64 code, .slice (some ⟨w.heap.size + 1, 0, none⟩) 1 1]) ?_ (by rfl) ⟨_, rfl, ?_⟩
  · exact results_o1 Try.results78 _ _ w.heap.size 38 _ (0, 0) _ rfl (setRow_heap _ _ _ _ _ _ HG1.out) Try.underlying38 rfl (by kernel_rfl)
  · refine ⟨by omega, ?_, ?_⟩
    · rw [setRow_other _ _ _ _ (by omega)]
      exact HD1.out
    · exact bbut HB1.out (But.setRow _ _ _) (Nat.le_refl _)

end Go.Proofs.Ytgcpoanjjgbfjaa
