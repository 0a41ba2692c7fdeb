/-
  Port: Look, walked.
-/
import Derived.Test.YthipdchdbdmmnaaPLook
import Derived.Deep.RegionHeld3
namespace Go.Proofs.Ythipdchdbdmmnaa
open Go.RowKit
set_option linter.all false

def intOf3 : Value → Int | .int _ q => q | _ => 0
theorem entV_at {L : List Ab} (hr : Rise L) {y : Ab} (hy : y ∈ L) : entV L y.ip = .pointer (some ⟨y.b, 0, none⟩) := entV_some (look_of hr hy)
theorem cell_later {w w' : World} {g t : Nat} {v : Value} (hb : Below w.heap.size w w') (h : w.cell? ⟨g, t, none⟩ = some v) : w'.cell? ⟨g, t, none⟩ = some v := by
  rw [hb.cell (World.block_lt_of_cell? w _ h)]; exact h
set_option maxRecDepth 40000 in
set_option maxHeartbeats 4000000 in
theorem plook_any (c m : Nat) (M D : Int) (L : List Ab) (w : World) (x : PoW w c m M D L) :
    Calls Try.prog 9 #[.pointer (some ⟨c, 0, none⟩)] w fun e w' => ∃ a cp, e = .returned (.slice a (abs L).length cp) ∧ Hid (PLk w w' a (abs L).length cp (abs L)) := by
  obtain ⟨N, hN⟩ : ∃ n, n = L.length := ⟨_, rfl⟩
  have hl16 : L.length ≤ 16 := by have := x.len; have := x.most; omega
  have HK := hid (keys_any m w)
  have HS := hid (sorted_any m L w x.map hl16)
  have HC := hid (fun (w1 : World) (h : Below w.heap.size w w1) => x.below h)
  obtain ⟨c0, c1, c2⟩ := x.cells
  have HR := hid x.map.rise
  have HIP := hid x.map.ips
  rw [abs_len, ← hN]
  rw [← hN] at hl16 HS
  have HN := hid hN
  clear x hN
  go_enter Try.func9, Try.ntmps9
  go_wp2_with (first
    | (go_at_call 25; refine HK.out.mono ?_; rintro e w0 ⟨rfl, rfl⟩)
    | (go_at_call 24; refine HS.out.mono ?_; rintro e w1 ⟨ka, kc, rfl, HCE, HB1⟩))
  go_loopw [3, 14] (fun v3 vi wr => ∃ (a : Option Addr) (k cp : Nat), v3 = .slice a k cp ∧ vi = .int .i64 k ∧ k ≤ N ∧ Hid (PLk w1 wr a k cp ((abs L).take k))) (fun _ vi _ => N - (intOf3 vi).toNat)
  case atStart => exact ⟨none, 0, 0, rfl, rfl, Nat.zero_le _, PLk.void _⟩
  case round =>
    obtain ⟨a, k, cp, rfl, rfl, hk, HL⟩ := hrel
    by_cases hkN : k < N
    · obtain ⟨y, hy⟩ : ∃ y, L[k]? = some y := ⟨_, List.getElem?_eq_getElem (by have := HN.out; omega)⟩
      have hyL : y ∈ L := List.mem_of_getElem? hy
      have htk : (abs L).take (k + 1) = (abs L).take k ++ [y.abs] := by rw [List.take_add_one]; simp [abs, hy]
      obtain ⟨g, rfl, hck⟩ := HCE.out k y hy
      have hck := cell_later HL.out.below hck
      have hbw := bstep HB1.out HL.out.below
      have hx := HC.out wr hbw
      have hc2 := hx.cells.2.2
      have hlk := hx.map.look (HIP.out y hyL)
      rw [entV_at HR.out hyL] at hlk
      have ey := hx.ents y hyL
      obtain ⟨qa, qc, hq, _⟩ := ey.row.form
      have s0 := ey.cells.1
      have s1 := ey.cells.2.1
      rw [hq] at s0
      obtain ⟨a', cp', w7, hrun, HL7, HKP⟩ := HL.out.one (w5 := wr.drew) (Below.refl _ _).drew y.abs (by omega)
      rw [← htk] at HL7
      have hbx := ey.box
      rw [hq] at hbx
      have t0 : w7.cell? ⟨y.b, 0, none⟩ = some (.slice qa y.ds.length qc) := cell_of_heap (HKP.out _ _ _ _ (show wr.drew.heap[y.b]? = _ from hbx) (by decide)) 0
      have t1 : w7.cell? ⟨y.b, 1, none⟩ = some (.int .i64 y.dr) := cell_of_heap (HKP.out _ _ _ _ (show wr.drew.heap[y.b]? = _ from hbx) (by decide)) 1
      have u0 : wr.drew.cell? ⟨y.b, 0, none⟩ = some (.slice qa y.ds.length qc) := s0
      have u1 : wr.drew.cell? ⟨y.b, 1, none⟩ = some (.int .i64 y.dr) := s1
      have v0 : (wr.drew.alloc (.cells #[.int .i64 y.abs.n, .int .i64 y.abs.ds.length, .int .i64 y.abs.dr] 72)).cell? ⟨y.b, 0, none⟩ = some (.slice qa y.ds.length qc) := cell_later (balloc _ _) u0
      have v1 : (wr.drew.alloc (.cells #[.int .i64 y.abs.n, .int .i64 y.abs.ds.length, .int .i64 y.abs.dr] 72)).cell? ⟨y.b, 1, none⟩ = some (.int .i64 y.dr) := cell_later (balloc _ _) u1
      have HRUN := hid hrun
      have e1 : y.abs.n = y.ip := rfl
      have e2 : y.abs.ds.length = y.ds.length := by simp [Ab.abs]
      have e3 : y.abs.dr = y.dr := rfl
      rw [e1, e2, e3] at HRUN v0 v1
      clear hx hbw ey hq hbx hrun htk hy hyL HKP HCE HL e1 e2 e3
      generalize y.ds.length = qn at *
      generalize y.b = yb at *
      generalize y.dr = ydr at *
      generalize y.ip = yip at *
      have hkN' : (k : Int) < N := by omega
      have e4 : IntKind.i64.wrap ((k : Int) + 1) = (k : Int) + 1 := by simp only [IntKind.wrap_i64]; omega
      go_wp2
      go_region_held3 (fun s => s.cell? ⟨yb, 0, none⟩ = some (.slice qa qn qc) ∧ s.cell? ⟨yb, 1, none⟩ = some (.int .i64 ydr)) (first | assumption | (refine ⟨?_, ?_⟩ <;> assumption)) (first
        | (refine step_append_run rfl _ _ _ _ rfl _ _ rfl rfl HRUN.out ?_)
        | (go_at_call 26; refine (qsize_any yb qa qn qc _ (by first | assumption | exact (by assumption : _ ∧ _).1)).mono ?_; rintro e w2 ⟨rfl, rfl⟩))
      all_goals
        go_wp2_with fail
        go_roundw
        case rel => exact ⟨a', k + 1, cp', rfl, by first | rfl | (congr 1; omega), by omega, HL7⟩
        case measure => simp only [intOf3]; omega
    · have hkk : k = N := by omega
      subst hkk
      have hge : ¬ (k : Int) < (k : Int) := by omega
      go_wp2
      go_ret
      refine ⟨a, cp, rfl, ?_⟩
      have h := HL.out
      rw [List.take_of_length_le (by rw [abs_len]; have := HN.out; omega)] at h
      exact h.start HB1.out
end Go.Proofs.Ythipdchdbdmmnaa
