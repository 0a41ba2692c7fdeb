/-
  The document's Parse: what it has in memory.
-/
import Derived.Test.YtmdkanbfpmdimaaOPar
import Derived.Test.YtmdkanbfpmdimaaOPlc
import Derived.Test.YtmdkanbfpmdimaaOCop
namespace Go.Proofs.Ytmdkanbfpmdimaa
open Go.RowKit
set_option linter.all false

theorem plI_plc (E : List (Opt × Value)) (c : Int) : plI (E.map ptOf) c = if plc (codes E) c < (codes E).length then (plc (codes E) c : Int) else -1 := by
  have h1 : plI (E.map ptOf) c = match (codes E).findIdx? (fun o => o.1 == c) with | some i => (i : Int) | none => -1 := by
    unfold plI
    rw [List.findIdx?_map, codes, List.findIdx?_map]
    congr 1
  rw [h1]
  unfold plc
  cases h : (codes E).findIdx? (fun o => o.1 == c) with
  | none =>
    rw [List.findIdx?_eq_none_iff_findIdx_eq] at h
    rw [if_neg (by omega)]
  | some i =>
    rw [List.findIdx?_eq_some_iff_findIdx_eq] at h
    rw [if_pos (by omega), h.2]
/-- bytes are laid behind those of option K. -/
theorem OwnO.lay {B : Nat} {w : World} {v : Value} {M : List (Opt × Value)} {K : Nat} {p : Opt × Value} (h : OwnO B w v M) (hB : B ≤ w.heap.size) (hp : M[K]? = some p) (pt : Part) (hok : pt.ok w) (hbd : p.1.2.length + pt.zs.length ≤ 140737488355328) :
    ∃ g1 c1 da dc a2 n2 c2 w2 u, v = .slice (some ⟨g1, 0, none⟩) M.length c1 ∧ w.cell? ⟨g1, K * 2 + 1, none⟩ = some (.slice da p.1.2.length dc) ∧ (Builtin.append_ #[41, 41] 41 #[.slice da p.1.2.length dc, pt.val]).run Try.prog w = .ok (.slice a2 n2 c2) w2 ∧
      w2.cell? ⟨g1, K * 2 + 1, none⟩ = some u ∧ w2.frozen? ⟨g1, K * 2 + 1, none⟩ = false ∧ OwnO B (w2.setCell ⟨g1, K * 2 + 1, none⟩ (.slice a2 n2 c2)) v (M.set K ((p.1.1, p.1.2 ++ pt.zs), .slice a2 n2 c2)) ∧ Below B w (w2.setCell ⟨g1, K * 2 + 1, none⟩ (.slice a2 n2 c2)) := by
  have hKl : K < M.length := (List.getElem?_eq_some_iff.1 hp).1
  obtain ⟨g1, c1, e1, _, _⟩ := h.row.some_of (by omega)
  subst e1
  have hpm := List.mem_of_getElem? hp
  obtain ⟨da, dc, e2, _⟩ := (h.data p hpm).form
  rw [u8s_len] at e2
  obtain ⟨v2, w2, r2, row2, gr2, loc2⟩ := append_part (h.data p hpm) pt hok hbd 41
  obtain ⟨a2, c2, e3, _⟩ := row2.form
  rw [u8s_len] at e3
  obtain ⟨⟨u, hu⟩, hfz, O2, B2⟩ := h.turn (w1 := w2) (zs := p.1.2 ++ pt.zs) (d := v2) hB hp (fun z hz => by
    rcases List.mem_append.1 hz with hz | hz
    · exact h.oks p hpm z hz
    · exact hok.1 z hz) row2 gr2 loc2
  rw [e3] at r2 O2 B2
  rw [e2] at r2
  exact ⟨g1, c1, da, dc, a2, _, c2, w2, u, rfl, by rw [← e2]; exact h.row.cell (flatE_at _ K p hp).2, r2, hu, hfz, O2, B2⟩
end Go.Proofs.Ytmdkanbfpmdimaa
