/-
  Port: the document's table: Look; Same of two datagrams.
-/
import Derived.Test.YthipdchdbdmmnaaPRi
import Derived.Test.YthipdchdbdmmnaaPLook2
namespace Go.Proofs.Ythipdchdbdmmnaa
open Go.RowKit
set_option linter.all false

set_option maxRecDepth 40000 in
set_option maxHeartbeats 4000000 in
theorem rlook_any (c : Nat) (v : Value) (M D : Int) (L : List Ab) (w : World) (x : RPoW w c v M D L) :
    Calls Try.prog 40 #[.pointer (some ⟨c, 0, none⟩)] w fun e w' => ∃ a cp, e = .returned (.slice a (abs L).length cp) ∧ Hid (PLk w w' a (abs L).length cp (abs L)) := by
  obtain ⟨va, vcp, hv, _, _, _⟩ := x.cells
  subst hv
  obtain ⟨N, hN⟩ : ∃ n, n = L.length := ⟨_, rfl⟩
  have hl16 : N ≤ 16 := by have := x.len; have := x.most; omega
  have HC := hid (fun (w1 : World) (h : Below w.heap.size w w1) => x.below h)
  rw [abs_len, ← hN]
  rw [← hN] at HC
  have HN := hid hN
  clear x hN
  go_enter Try.func40, Try.ntmps40
  go_wp2
  go_loopw [3, 4] (fun v3 vi wr => ∃ (a : Option Addr) (k cp : Nat), v3 = .slice a k cp ∧ vi = .int .i64 k ∧ k ≤ N ∧ Hid (PLk w wr a k cp ((abs L).take k))) (fun _ vi _ => N - (intOf vi).toNat)
  case atStart => exact ⟨none, 0, 0, rfl, rfl, Nat.zero_le _, PLk.void _⟩
  case round =>
    obtain ⟨a, k, cp, rfl, rfl, hk, HL⟩ := hrel
    have hx := HC.out wr HL.out.below
    have hb0 : wr.cell? ⟨c, 0, none⟩ = some (.slice va N vcp) := cell_of_heap hx.box 0
    by_cases hkN : k < N
    · have hkN' : (k : Int) < N := by omega
      obtain ⟨y, hy⟩ : ∃ y, L[k]? = some y := ⟨_, List.getElem?_eq_getElem (by have := HN.out; omega)⟩
      have hyL : y ∈ L := List.mem_of_getElem? hy
      have htk : (abs L).take (k + 1) = (abs L).take k ++ [y.abs] := by rw [List.take_add_one]; simp [abs, hy]
      obtain ⟨g, hga, hcp⟩ := hx.ptr hy
      subst hga
      have ey := hx.ents y hyL
      obtain ⟨qa, qc, hq⟩ := ey.row.form
      have y0 : wr.cell? ⟨y.b, 0, none⟩ = some (.int .i64 y.ip) := by rw [cell_of_heap ey.box]; rfl
      have y1 : wr.cell? ⟨y.b, 1, none⟩ = some (.int .i64 y.dr) := by rw [cell_of_heap ey.box]; rfl
      have y2 : wr.cell? ⟨y.b, 2, none⟩ = some (.slice qa y.ds.length qc) := by rw [cell_of_heap ey.box, ← hq]; rfl
      obtain ⟨a', cp', w7, hrun, HL7, HKP⟩ := HL.out.one (w5 := wr.drew) (Below.refl _ _).drew y.abs (by omega)
      rw [← htk] at HL7
      have HRUN := hid hrun
      have t0 : w7.cell? ⟨c, 0, none⟩ = some (.slice (some ⟨g, 0, none⟩) N vcp) := cell_of_heap (HKP.out _ _ _ _ (show wr.drew.heap[c]? = _ from hx.box) (by decide)) 0
      have t1 : w7.cell? ⟨g, k, none⟩ = some (.pointer (some ⟨y.b, 0, none⟩)) := by
        obtain ⟨cur, f, hg⟩ := hx.row.obj (g := g) rfl
        rw [cell_of_heap (HKP.out _ _ _ _ (show wr.drew.heap[g]? = _ from hg) (by decide)), ← cell_of_heap hg]
        exact hcp
      have hby := ey.box
      have t2 : w7.cell? ⟨y.b, 0, none⟩ = some (.int .i64 y.ip) := cell_of_heap (HKP.out _ _ _ _ (show wr.drew.heap[y.b]? = _ from hby) (by decide)) 0
      have t3 : w7.cell? ⟨y.b, 1, none⟩ = some (.int .i64 y.dr) := cell_of_heap (HKP.out _ _ _ _ (show wr.drew.heap[y.b]? = _ from hby) (by decide)) 1
      have t4 : w7.cell? ⟨y.b, 2, none⟩ = some (.slice qa y.ds.length qc) := by rw [cell_of_heap (HKP.out _ _ _ _ (show wr.drew.heap[y.b]? = _ from hby) (by decide)), ← hq]; rfl
      clear hby
      have e1 : y.abs.n = y.ip := rfl
      have e2 : y.abs.ds.length = y.ds.length := by simp [Ab.abs]
      have e3 : y.abs.dr = y.dr := rfl
      rw [e1, e2, e3] at HRUN
      clear hrun htk hy hyL HKP HL e1 e2 e3 ey hq hx HC HN
      generalize y.ds.length = qn at *
      generalize y.b = yb at *
      generalize y.dr = ydr at *
      generalize y.ip = yip at *
      go_wp2
      go_region_held3 (fun s => s.cell? ⟨c, 0, none⟩ = some (.slice (some ⟨g, 0, none⟩) N vcp) ∧ s.cell? ⟨g, k, none⟩ = some (.pointer (some ⟨yb, 0, none⟩)) ∧ s.cell? ⟨yb, 0, none⟩ = some (.int .i64 yip) ∧ s.cell? ⟨yb, 1, none⟩ = some (.int .i64 ydr) ∧ s.cell? ⟨yb, 2, none⟩ = some (.slice qa qn qc)) (first | exact ⟨hb0, hcp, y0, y1, y2⟩ | exact ⟨t0, t1, t2, t3, t4⟩ | go_keep) (first
        | (refine step_append_run rfl _ _ _ _ rfl _ _ rfl rfl HRUN.out ?_)
        | fail)
      all_goals
        go_wp2_with fail
        go_roundw
        case rel => exact ⟨a', k + 1, cp', rfl, by go_num, by omega, HL7⟩
        case measure => simp [intOf]; omega
    · have hkk : k = N := by omega
      have hge : ¬ (k : Int) < (N : Int) := by omega
      have HE : Hid (PLk w wr a N cp (abs L)) := hid (by
        have h := HL.out
        rw [hkk, List.take_of_length_le (by rw [abs_len]; have := HN.out; omega)] at h
        exact h)
      clear HL hx
      subst hkk
      go_wp2
      go_ret
      exact ⟨a, cp, rfl, HE.out⟩
set_option maxHeartbeats 1000000 in
theorem rsame_yes (si di sp dp : Int) (zs : List Int) (pa pb : Option Addr) (ca cb : Nat) (w : World) (h1 : Part.ok w ⟨pa, ca, zs⟩) (h2 : Part.ok w ⟨pb, cb, zs⟩) :
    Calls Try.prog 38 #[.agg #[.int .u32 si, .int .u32 di, .int .i64 sp, .int .i64 dp, .slice pa zs.length ca], .agg #[.int .u32 si, .int .u32 di, .int .i64 sp, .int .i64 dp, .slice pb zs.length cb]] w fun e w' => e = .returned (.bool true) ∧ Hid (Below w.heap.size w w') := by
  have hB := bpush (bpush (Below.refl w.heap.size w) (.cells #[.int .u32 si, .int .u32 di, .int .i64 sp, .int .i64 dp, .slice pa zs.length ca] 53)) (.cells #[.int .u32 si, .int .u32 di, .int .i64 sp, .int .i64 dp, .slice pb zs.length cb] 53)
  have v1 := conv_part ⟨pa, ca, zs⟩ _ (Part.ok_below h1 hB)
  have v2 := conv_part ⟨pb, cb, zs⟩ _ (Part.ok_below h2 hB)
  have HB := hid hB
  simp only [Part.val] at v1 v2
  clear h1 h2 hB
  generalize strOfNums zs = S at *
  generalize zs.length = n at *
  go_enter Try.func38, Try.ntmps38
  go_wp2
  go_ret
  exact ⟨rfl, HB.out⟩
end Go.Proofs.Ythipdchdbdmmnaa
