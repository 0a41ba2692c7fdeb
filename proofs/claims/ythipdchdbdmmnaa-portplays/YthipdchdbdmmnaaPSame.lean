/-
  The document's SameStates, of two rows that are the same.
-/
import Derived.Test.YthipdchdbdmmnaaPLook2
import Derived.DeepKeys4
import Derived.Deep.QuietTactic
import Derived.BigQuiet
namespace Go.Proofs.Ythipdchdbdmmnaa
open Go.RowKit
set_option linter.all false

theorem cellsPs : Try.prog.cellsOf 72 = 3 := by kernel_rfl
theorem cellsInt : Try.prog.cellsOf 3 = 1 := by kernel_rfl
theorem keyPs : Try.prog.keyTypeAt 3 72 = true := by kernel_rfl
def stIn (a b c : Int) : Prop := ipOk a ∧ ipOk b ∧ ipOk c
set_option maxRecDepth 20000 in
set_option maxHeartbeats 1000000 in
theorem ps_same (a b c : Int) (h : stIn a b c) (w : World) : (Op.equalIn 10000 72 (.agg #[.int .i64 a, .int .i64 b, .int .i64 c]) (.agg #[.int .i64 a, .int .i64 b, .int .i64 c])).run Try.prog w = .ok true w := by
  obtain ⟨h0, h1, h2⟩ := h
  have hk : Try.prog.keyLits 4 72 (Value.cells (.agg #[.int .i64 a, .int .i64 b, .int .i64 c])).toList = some [.int .i64 a, .int .i64 b, .int .i64 c] := by
    simp [Program.keyLits, Try.underlying72, Try.underlying3, cellsPs, cellsInt, Value.cells, List.range_succ, wf_i64 _ h0, wf_i64 _ h1, wf_i64 _ h2]
  have hf : (Value.formed Try.prog 72 (.agg #[.int .i64 a, .int .i64 b, .int .i64 c])) = true := by
    simp [Value.formed, Try.underlying72, cellsPs]
  obtain ⟨r, hr, hi⟩ := run_equalIn_deep (P := Try.prog) 9997 3 72 keyPs w 4 4 _ _ _ _ hf hf hk hk
  rw [hr, hi.2 rfl]
theorem ps_get : ∀ (l : List Pa) (k j : Nat) (p : Pa), l[k]? = some p → j < 3 → (pst l)[k * 3 + j]? = (stC p)[j]?
  | [], k, j, p, h, _ => by simp at h
  | x :: l, 0, j, p, h, hj => by
    simp at h; subst h
    simp only [pst, List.flatMap_cons, Nat.zero_mul, Nat.zero_add]
    rw [List.getElem?_append_left (by simp [stC]; omega)]
  | x :: l, k + 1, j, p, h, hj => by
    simp at h
    have ih := ps_get l k j p h hj
    simp only [pst, List.flatMap_cons] at ih ⊢
    rw [List.getElem?_append_right (by simp [stC]; omega)]
    rw [show (k + 1) * 3 + j - (stC x).length = k * 3 + j from by simp [stC]; omega]
    exact ih
theorem ps_ent {w : World} {a : Option Addr} {cp : Nat} {l : List Pa} (h : RowS w 72 3 (.slice a l.length cp) l.length (pst l)) {k : Nat} {p : Pa} (hp : l[k]? = some p) : ∃ g, a = some ⟨g, 0, none⟩ ∧ ∀ j, j < 3 → w.cell? ⟨g, k * 3 + j, none⟩ = (stC p)[j]? := by
  have hk : k < l.length := (List.getElem?_eq_some_iff.1 hp).1
  obtain ⟨g, cap, h1, h2, h3⟩ := h.some_of (by omega)
  simp only [Value.slice.injEq] at h1
  obtain ⟨rfl, _, rfl⟩ := h1
  refine ⟨g, rfl, fun j hj => ?_⟩
  have h4 := ps_get l k j p hp hj
  have h5 : j < (stC p).length := by simp [stC]; omega
  rw [List.getElem?_eq_getElem h5] at h4 ⊢
  exact RowS.cell h h4
def Pa.in64 (x : Pa) : Prop := stIn x.n x.ds.length x.dr
set_option maxRecDepth 40000 in
set_option maxHeartbeats 4000000 in
theorem same_states (w : World) (a b : Option Addr) (cp cq : Nat) (l : List Pa) (h1 : RowS w 72 3 (.slice a l.length cp) l.length (pst l)) (h2 : RowS w 72 3 (.slice b l.length cq) l.length (pst l)) (hz : ∀ y ∈ l, y.in64) (hb : l.length ≤ 64) :
    Calls Try.prog 23 #[.slice a l.length cp, .slice b l.length cq] w fun e w' => e = .returned (.bool true) ∧ ∃ k, w' = w.drewN k := by
  have H1 := hid h1
  have H2 := hid h2
  have HZ := hid hz
  clear h1 h2 hz
  go_enter Try.func23, Try.ntmps23
  go_wp2_with fail
  go_loopw [5] (fun v wr => ∃ (k q : Nat), v = .int .i64 k ∧ k ≤ l.length ∧ wr = w.drewN q) (fun v _ => l.length - (intOf3 v).toNat)
  case atStart => exact ⟨0, 0, rfl, Nat.zero_le _, rfl⟩
  case round =>
    obtain ⟨k, q, rfl, hk, hwr⟩ := hrel
    have HW := hid hwr
    clear hwr
    by_cases hkl : k < l.length
    · obtain ⟨y, hp⟩ : ∃ p, l[k]? = some p := ⟨_, List.getElem?_eq_getElem hkl⟩
      have hbel : Below w.heap.size w wr := by rw [HW.out]; exact below_drewN w q
      obtain ⟨g, rfl, hc⟩ := ps_ent (H1.out.below hbel) hp
      obtain ⟨g', rfl, hc'⟩ := ps_ent (H2.out.below hbel) hp
      have eM := fun W => ps_same y.n y.ds.length y.dr (HZ.out y (List.mem_of_getElem? hp)) W
      have c0 : wr.cell? ⟨g, k * 3, none⟩ = some (.int .i64 y.n) := hc 0 (by omega)
      have c1 : wr.cell? ⟨g, k * 3 + 1, none⟩ = some (.int .i64 y.ds.length) := hc 1 (by omega)
      have c2 : wr.cell? ⟨g, k * 3 + 2, none⟩ = some (.int .i64 y.dr) := hc 2 (by omega)
      have d0 : wr.cell? ⟨g', k * 3, none⟩ = some (.int .i64 y.n) := hc' 0 (by omega)
      have d1 : wr.cell? ⟨g', k * 3 + 1, none⟩ = some (.int .i64 y.ds.length) := hc' 1 (by omega)
      have d2 : wr.cell? ⟨g', k * 3 + 2, none⟩ = some (.int .i64 y.dr) := hc' 2 (by omega)
      clear hc hc' hbel hp H1 H2
      generalize (y.ds.length : Int) = yl at *
      have hk0 : (0 : Int) ≤ (k : Int) := by omega
      have hkm : (k : Int) < (l.length : Int) := by omega
      go_wp2_with fail
      go_quiet (fail)
      go_wp2_with fail
      go_roundw
      case rel => exact ⟨k + 1, q + nq, by first | rfl | (congr 1; omega), by omega, by rw [HW.out]; simp [World.drewN, Nat.add_assoc]⟩
      case measure => simp only [intOf3]; omega
    · have hkk : k = l.length := by omega
      clear hkl
      go_wp2_with fail
      go_ret
      exact ⟨rfl, q, HW.out⟩
end Go.Proofs.Ythipdchdbdmmnaa
