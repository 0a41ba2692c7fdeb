/-
  slices.Sort at uint32: which place the parting goes round.
-/
import Derived.Test.YtaaoelhmanahpaaBSrtE
namespace Go.Proofs.Ytaaoelhmanahpaa
open Go.RowKit
open Go.Sort (swp ltInt PermIn SortedIn SWO)
set_option linter.all false

/-- the row, and a count in a box of its own. -/
structure SX (w0 w : World) (g off : Nat) (d : Array Int) (sb : Nat) : Prop where
  row : SW w0 w g off d
  far : w0.heap.size ≤ sb
  ne : g ≠ sb
  box : ∃ s, w.heap[sb]? = some (.cells #[.int .i64 s] 3 (0, 0))
section
variable {w0 w w' : World} {g off sb : Nat} {d : Array Int}
theorem SX.drewN (x : SX w0 w g off d sb) (n : Nat) : SX w0 (w.drewN n) g off d sb := ⟨x.row.drewN n, x.far, x.ne, x.box⟩
theorem SX.cells (x : SX w0 w g off d sb) : ∃ s, w.cell? ⟨sb, 0, none⟩ = some (.int .i64 s) ∧ w.frozen? ⟨sb, 0, none⟩ = false ∧ ∀ v, SX w0 (w.setCell ⟨sb, 0, none⟩ (.int .i64 v)) g off d sb := by
  obtain ⟨s, hs⟩ := x.box
  refine ⟨s, by rw [cell_of_heap hs]; rfl, by simp [World.frozen?, hs], fun v => ⟨⟨fun t ht => ?_, fun t ht => ?_, ?_⟩, x.far, x.ne, v, ?_⟩⟩
  · rw [World.cell?_setCell_other (h := by intro h; injection h with h; exact x.ne h.symm)]; exact x.row.cell t ht
  · rw [World.frozen?_setCell]; exact x.row.free t ht
  · have := x.row.but
    refine ⟨this.os, this.tape, this.output, by simpa [World.setCell] using this.size, fun k hk hl => ?_⟩
    rw [Below.heap_setCell _ _ _ _ (by have := x.far; simp only; omega)]
    exact this.block k hk hl
  · simp [World.setCell, hs, Array.getElem?_modify]
end
theorem order2_any (w0 : World) (g off cap a b sb : Nat) (d : Array Int) (w : World) (x : SX w0 w g off d sb) (ha : a < d.size) (hb : b < d.size) :
    Calls Try.prog 98 #[.slice (some ⟨g, off, none⟩) d.size cap, .int .i64 a, .int .i64 b, .pointer (some ⟨sb, 0, none⟩)] w fun e w' => ∃ (u v : Nat), e = .returned (.tuple #[.int .i64 u, .int .i64 v]) ∧ ((u = a ∧ v = b) ∨ (u = b ∧ v = a)) ∧ Hid (SX w0 w' g off d sb) := by
  have HX := hid x
  clear x
  obtain ⟨G, HG, hcw, hfw⟩ := HX.out.row.fam (n := d.size) rfl
  clear HG
  go_enter Try.func98, Try.ntmps98
  go_wp2
  go_quiet (first | (go_at_call 87; refine Calls.quiet_of_same (less_any _ _ _)))
  have HXq := hid (HX.out.drewN nq)
  generalize w.drewN nq = wq at HXq ⊢
  clear HX hcw hfw
  obtain ⟨s, c0, f0, hset⟩ := HXq.out.cells
  have HSET := hid hset
  clear hset
  go_wp2
  · go_ret2
    exact ⟨b, a, rfl, Or.inr ⟨rfl, rfl⟩, HSET.out _⟩
  · go_ret2
    exact ⟨a, b, rfl, Or.inl ⟨rfl, rfl⟩, HXq⟩
set_option maxHeartbeats 1000000 in
set_option maxRecDepth 20000 in
theorem median_any (w0 : World) (g off cap a b c sb : Nat) (d : Array Int) (w : World) (x : SX w0 w g off d sb) (ha : a < d.size) (hb : b < d.size) (hc : c < d.size) :
    Calls Try.prog 96 #[.slice (some ⟨g, off, none⟩) d.size cap, .int .i64 a, .int .i64 b, .int .i64 c, .pointer (some ⟨sb, 0, none⟩)] w fun e w' => ∃ (u : Nat), e = .returned (.int .i64 u) ∧ (u = a ∨ u = b ∨ u = c) ∧ Hid (SX w0 w' g off d sb) := by
  have HX := hid x
  clear x
  have HC := hid (fun u v w1 (y : SX w0 w1 g off d sb) hu hv => order2_any w0 g off cap u v sb d w1 y hu hv)
  go_enter Try.func96, Try.ntmps96
  go_wp2_with (go_at_call 98; with_reducible refine (HC.out a b _ HX.out ha hb).mono ?_; rintro e w1 ⟨u1, v1, rfl, h1, HX1⟩)
  have hu1 : u1 < d.size := by omega
  have hv1 : v1 < d.size := by omega
  go_wp2_with (go_at_call 98; with_reducible refine (HC.out v1 c _ HX1.out hv1 hc).mono ?_; rintro e w2 ⟨u2, v2, rfl, h2, HX2⟩)
  have hu2 : u2 < d.size := by omega
  go_wp2_with (go_at_call 98; with_reducible refine (HC.out u1 u2 _ HX2.out hu1 hu2).mono ?_; rintro e w3 ⟨u3, v3, rfl, h3, HX3⟩)
  go_ret
  exact ⟨v3, rfl, by omega, HX3⟩
theorem adjacent_any (w0 : World) (g off cap a sb : Nat) (d : Array Int) (w : World) (x : SX w0 w g off d sb) (ha : 1 ≤ a) (hb : a + 1 < d.size) (hsz : d.size < 1152921504606846976) :
    Calls Try.prog 95 #[.slice (some ⟨g, off, none⟩) d.size cap, .int .i64 a, .pointer (some ⟨sb, 0, none⟩)] w fun e w' => ∃ (u : Nat), e = .returned (.int .i64 u) ∧ (a ≤ u + 1 ∧ u ≤ a + 1) ∧ Hid (SX w0 w' g off d sb) := by
  have HX := hid x
  have hm := median_any w0 g off cap (a - 1) a (a + 1) sb d w x (by omega) (by omega) hb
  rw [show ((a - 1 : Nat) : Int) = (a : Int) - 1 from by omega, show ((a + 1 : Nat) : Int) = (a : Int) + 1 from by omega] at hm
  have HM := hid hm
  clear hm x
  go_enter Try.func95, Try.ntmps95
  go_wp2_with (go_at_call 96; refine HM.out.mono ?_; rintro e w1 ⟨u1, rfl, h1, HX1⟩)
  go_ret
  exact ⟨u1, rfl, by omega, HX1⟩
set_option maxHeartbeats 4000000 in
theorem choose_any (w0 : World) (g off cap a b : Nat) (d : Array Int) (w : World) (x : SW w0 w g off d) (hab : a + 12 < b) (hb : b ≤ d.size) (hsz : d.size < 1152921504606846976) :
    Calls Try.prog 84 #[.slice (some ⟨g, off, none⟩) d.size cap, .int .i64 a, .int .i64 b] w fun e w' => ∃ (u : Nat) (h : Int), e = .returned (.tuple #[.int .i64 u, .int .i64 h]) ∧ a ≤ u ∧ u < b ∧ (h = 0 ∨ h = 1 ∨ h = 2) ∧ Hid (SW w0 w' g off d) := by
  have HX : Hid (SX w0 (w.alloc (.cells #[.int .i64 0] 3)) g off d w.heap.size) := by
    have hl := x.lt (by omega)
    exact ⟨x.below (by omega) (bpush (Below.refl _ _) _), x.but.size, by omega, 0, heap_new _ _⟩
  clear x
  obtain ⟨q, hq⟩ : ∃ q, q = (b - a) / 4 := ⟨_, rfl⟩
  have hqi : ((b : Int) - a) / 4 = q := by omega
  have hq1 : 3 ≤ q := by omega
  have hq2 : a + q * 3 + 1 < b := by omega
  clear hq
  have HA : Hid (∀ (u : Nat) (iv : Int) (w1 : World), iv = u → SX w0 w1 g off d w.heap.size → 1 ≤ u → u + 1 < d.size → Calls Try.prog 95 #[.slice (some ⟨g, off, none⟩) d.size cap, .int .i64 iv, .pointer (some ⟨w.heap.size, 0, none⟩)] w1 fun e w' => ∃ (u' : Nat), e = .returned (.int .i64 u') ∧ (u ≤ u' + 1 ∧ u' ≤ u + 1) ∧ Hid (SX w0 w' g off d w.heap.size)) := fun u iv w1 hu y h1 h2 => by
    subst hu; exact adjacent_any w0 g off cap u w.heap.size d w1 y h1 h2 hsz
  have HM : Hid (∀ (u v t : Nat) (ui vi ti : Int) (w1 : World), ui = u → vi = v → ti = t → SX w0 w1 g off d w.heap.size → u < d.size → v < d.size → t < d.size → Calls Try.prog 96 #[.slice (some ⟨g, off, none⟩) d.size cap, .int .i64 ui, .int .i64 vi, .int .i64 ti, .pointer (some ⟨w.heap.size, 0, none⟩)] w1 fun e w' => ∃ (u' : Nat), e = .returned (.int .i64 u') ∧ (u' = u ∨ u' = v ∨ u' = t) ∧ Hid (SX w0 w' g off d w.heap.size)) := fun u v t ui vi ti w1 hu hv ht y h1 h2 h3 => by
    subst hu hv ht; exact median_any w0 g off cap u v t w.heap.size d w1 y h1 h2 h3
  have fin : ∀ (w' : World), SX w0 w' g off d w.heap.size → Hid (SW w0 w' g off d) := fun w' y => y.row
  have FIN := hid fin
  clear fin
  by_cases h50 : 50 ≤ b - a
  · go_enter Try.func84, Try.ntmps84
    go_wp2_with (go_at_call 95; with_reducible refine (HA.out (a + q) _ _ (by omega) HX.out (by omega) (by omega)).mono ?_; rintro e w1 ⟨u1, rfl, h1, HX1⟩)
    clear HX
    go_wp2_with (go_at_call 95; with_reducible refine (HA.out (a + q * 2) _ _ (by omega) HX1.out (by omega) (by omega)).mono ?_; rintro e w2 ⟨u2, rfl, h2, HX2⟩)
    clear HX1
    go_wp2_with (go_at_call 95; with_reducible refine (HA.out (a + q * 3) _ _ (by omega) HX2.out (by omega) (by omega)).mono ?_; rintro e w3 ⟨u3, rfl, h3, HX3⟩)
    clear HX2
    go_wp2_with (go_at_call 96; with_reducible refine (HM.out u1 u2 u3 _ _ _ _ rfl rfl rfl HX3.out (by omega) (by omega) (by omega)).mono ?_; rintro e w4 ⟨u4, rfl, h4, HX4⟩; obtain ⟨s, c0, f0, hset⟩ := HX4.out.cells; clear hset f0)
    all_goals clear HX3
    all_goals have hlo : a ≤ u4 := by omega
    all_goals have hhi : u4 < b := by omega
    all_goals go_ret2
    · exact ⟨u4, _, rfl, hlo, hhi, by omega, FIN.out _ HX4.out⟩
    · exact ⟨u4, _, rfl, hlo, hhi, by omega, FIN.out _ HX4.out⟩
    · exact ⟨u4, _, rfl, hlo, hhi, by omega, FIN.out _ HX4.out⟩
  · go_enter Try.func84, Try.ntmps84
    go_wp2_with (go_at_call 96; with_reducible refine (HM.out (a + q) (a + q * 2) (a + q * 3) _ _ _ _ (by omega) (by omega) (by omega) HX.out (by omega) (by omega) (by omega)).mono ?_; rintro e w4 ⟨u4, rfl, h4, HX4⟩; obtain ⟨s, c0, f0, hset⟩ := HX4.out.cells; clear hset f0)
    all_goals clear HX
    all_goals have hlo : a ≤ u4 := by omega
    all_goals have hhi : u4 < b := by omega
    all_goals go_ret2
    · exact ⟨u4, _, rfl, hlo, hhi, by omega, FIN.out _ HX4.out⟩
    · exact ⟨u4, _, rfl, hlo, hhi, by omega, FIN.out _ HX4.out⟩
    · exact ⟨u4, _, rfl, hlo, hhi, by omega, FIN.out _ HX4.out⟩
end Go.Proofs.Ytaaoelhmanahpaa
