/-
  NeighWaits: no cache is made; and any arguments.
-/
import Derived.Test.YtaaoelhmanahpaaNwW
namespace Go.Proofs.Ytaaoelhmanahpaa
open Go.RowKit
set_option linter.all false

set_option maxRecDepth 40000 in
set_option maxHeartbeats 4000000 in
theorem waits_no (m0 m1 m2 m3 m4 m5 n : Int) (v : Value) (w : World) (hn : n < 1 ∨ 64 < n) :
    Calls Try.prog 5 #[.agg #[.int .u8 m0, .int .u8 m1, .int .u8 m2, .int .u8 m3, .int .u8 m4, .int .u8 m5], .int .i64 n, v] w fun e w' => e = .returned (.bool true) ∧ Below w.heap.size w w' := by
  have HL := hid (live_any (w.alloc (.cells #[.int .u8 m0, .int .u8 m1, .int .u8 m2, .int .u8 m3, .int .u8 m4, .int .u8 m5] 24)))
  have HN1 : Hid (∀ W, Calls Try.prog 7 #[.agg #[.int .u8 m0, .int .u8 m1, .int .u8 m2, .int .u8 m3, .int .u8 m4, .int .u8 m5], .int .i64 n] W fun e w' => e = .returned (.pointer none) ∧ Hid (Below W.heap.size W w')) := fun W => new_no ⟨m0, m1, m2, m3, m4, m5⟩ n W hn
  have HCC : Hid (∀ w1, Below (w.alloc (.cells #[.int .u8 m0, .int .u8 m1, .int .u8 m2, .int .u8 m3, .int .u8 m4, .int .u8 m5] 24)).heap.size (w.alloc (.cells #[.int .u8 m0, .int .u8 m1, .int .u8 m2, .int .u8 m3, .int .u8 m4, .int .u8 m5] 24)) w1 → ∀ q, w1.cell? ⟨w.heap.size, q, none⟩ = (#[.int .u8 m0, .int .u8 m1, .int .u8 m2, .int .u8 m3, .int .u8 m4, .int .u8 m5] : Array Value)[q]?) := fun w1 hb q => cell_of_heap (kept (heap_new _ _) hb) q
  have HBW : Hid (∀ w1, Below (w.alloc (.cells #[.int .u8 m0, .int .u8 m1, .int .u8 m2, .int .u8 m3, .int .u8 m4, .int .u8 m5] 24)).heap.size (w.alloc (.cells #[.int .u8 m0, .int .u8 m1, .int .u8 m2, .int .u8 m3, .int .u8 m4, .int .u8 m5] 24)) w1 → Below w.heap.size w w1) := fun w1 hb => bstep (bpush (Below.refl _ _) _) hb
  go_enter Try.func5, Try.ntmps5
  go_upto_region 2 with (first
    | (go_at_call 6; refine HL.out.mono ?_; go_loud (rintro e w1 ⟨rfl, HB1⟩)))
  have hc1 := HCC.out w1 HB1
  have HBX := hid (HBW.out w1 HB1)
  clear HCC HL HBW HB1
  by_cases h1 : n < 1
  · clear hn
    go_wp2_with (first
      | (go_at_call 7; refine (HN1.out _).mono ?_; go_loud (rintro e w2 ⟨rfl, HB2⟩))
      | fail)
    go_ret
    exact ⟨rfl, bstep HBX.out HB2.out⟩
  · have h2 : 64 < n := by omega
    clear hn
    go_wp2_with (first
      | (go_at_call 7; refine (HN1.out _).mono ?_; go_loud (rintro e w2 ⟨rfl, HB2⟩))
      | fail)
    go_ret
    exact ⟨rfl, bstep HBX.out HB2.out⟩
theorem neighWaits_walk (m : Mac) (n : Int) (xs : List OpG) (a : Option Addr) (c : Nat) (W : World) (hm : m.ok) (hops : OpsG W a xs) (hsz : xs.length ≤ 2000000000000) :
    Calls Try.prog 5 #[m.val, .int .i64 n, .slice a xs.length c] W fun e w' => e = .returned (.bool true) ∧ Below W.heap.size W w' := by
  obtain ⟨m0, m1, m2, m3, m4, m5⟩ := m
  by_cases h : 1 ≤ n ∧ n ≤ 64
  · exact waits_yes m0 m1 m2 m3 m4 m5 n a c xs W hm h.1 h.2 hops hsz
  · exact waits_no m0 m1 m2 m3 m4 m5 n _ W (by omega)
end Go.Proofs.Ytaaoelhmanahpaa
