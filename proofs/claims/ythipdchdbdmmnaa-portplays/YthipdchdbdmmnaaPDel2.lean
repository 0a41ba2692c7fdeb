/-
  Port: slices.Delete of the first datagram, walked.
-/
import Derived.Test.YthipdchdbdmmnaaPDel
namespace Go.Proofs.Ythipdchdbdmmnaa
open Go.RowKit
set_option linter.all false

set_option maxRecDepth 20000 in
set_option maxHeartbeats 400000 in
theorem delete_any (g n cp : Nat) (x5 rest : List Value) (w : World) (h : RowS w 53 5 (.slice (some ⟨g, 0, none⟩) (n + 1) cp) (n + 1) (x5 ++ rest)) (h5 : x5.length = 5) (h1 : ∀ u ∈ rest, u.oneCell' = true) (hn : n ≤ 64) :
    Calls Try.prog 59 #[.slice (some ⟨g, 0, none⟩) ((n + 1 : Nat)) cp, .int .i64 0, .int .i64 1] w fun e w' => e = .returned (.slice (some ⟨g, 0, none⟩) n cp) ∧ Hid (RowS w' 53 5 (.slice (some ⟨g, 0, none⟩) n cp) n rest) ∧ Hid (But g w w') := by
  obtain ⟨hlen, hnews, hcs, hfz, hncp, hcm, hrow, hcs1, hfz1⟩ := h.shift h5
  obtain ⟨i, hi, hz0, hz1, hz2⟩ := info_sz infoDg
  have hap : ∀ (a : Addr) (c : Nat), (∀ j u, rest[j]? = some u → w.cell? (a.add j) = some u) → (Builtin.append_ #[81, 81] 81 #[.slice (some ⟨g, 0, none⟩) 0 cp, .slice (some a) n c]).run Try.prog w.drew = .ok (.slice (some ⟨g, 0, none⟩) n cp) (w.setCells g 0 rest).drew := fun a c hn => by
    have := run_append_room_cells (P := Try.prog) w.drew 81 81 53 i Try.underlying81 hi g 0 0 cp a n c rest (by rw [hz1]; exact hlen) hn h1 (by omega)
      (fun j hj => by rw [Nat.zero_mul, Nat.zero_add]; exact hcs j (by omega)) (fun j hj => hfz _)
    rw [Nat.zero_mul, Nat.zero_add, drew_setCells] at this
    exact this
  have hcl : ∀ c, (Builtin.clear_ #[81] 0 #[.slice (some ⟨g, n * 5, none⟩) 1 c]).run Try.prog (w.setCells g 0 rest).drew = .ok (.tuple #[]) ((w.setCells g 0 rest).setCells g (n * 5) dzL).drew := fun c => by
    have := clear_one (w.setCells g 0 rest).drew 0 g (n * 5) c hcs1 (fun j _ => hfz1 _)
    rw [drew_setCells] at this
    exact this
  have HR : Hid (RowS ((w.setCells g 0 rest).setCells g (n * 5) dzL).drew 53 5 (.slice (some ⟨g, 0, none⟩) n cp) n rest) := hrow.below (Below.refl _ _).drew
  have hgr := grown_trans (grown_setCells rest w g 0) (grown_setCells dzL _ g (n * 5)) (Or.inl rfl)
  have hb0 : But g w ((w.setCells g 0 rest).setCells g (n * 5) dzL) := ⟨hgr.os, hgr.tape, hgr.output, hgr.size, fun k hk hl => hgr.block k hl (by simpa using hk)⟩
  have HB : Hid (But g w ((w.setCells g 0 rest).setCells g (n * 5) dzL).drew) := hb0.trans (But.drew _ _)
  clear hb0
  have c1 : ((n : Int) + 1) ≤ cp := by omega
  have c2 : (cp : Int) ≤ 9223372036854775807 := by unfold maxLen at hcm; omega
  have c3 : (1 : Int) ≤ (n : Int) + 1 := by omega
  have c4 : n + 1 ≤ cp := hncp
  have c5 : (0 : Int) ≤ n := by omega
  have c6 : ((n + 1 : Nat) : Int) = (n : Int) + 1 := by omega
  clear hrow hgr hcs hcs1 hfz hfz1 h
  generalize (w.setCells g 0 rest).setCells g (n * 5) dzL = w2 at hcl HR HB
  generalize w.setCells g 0 rest = w1 at hap hcl
  by_cases h0 : cp = 1
  · have hn0 : n = 0 := by omega
    subst hn0
    subst h0
    have hr0 : rest = [] := List.eq_nil_of_length_eq_zero (by omega)
    subst hr0
    have HAP := hid (hap ⟨g, 0, none⟩ 0 (by simp))
    have hcl1 := hcl 1
    simp only [Nat.zero_mul] at hcl1
    clear hap hcl hnews hlen
    go_enter Try.func59, Try.ntmps59
    go_wp2
    go_region_law (refine step_append_run rfl (.tmp 22) (.tmp 25) 81 81 rfl (.slice (some ⟨g, 0, none⟩) 0 1) (.slice (some ⟨g, 0, none⟩) 0 0) (by simp [Act.put, Act.eval]) (by simp [Act.put, Act.eval]) HAP.out ?_)
    all_goals go_wp2
    all_goals go_ret
    all_goals exact ⟨rfl, HR, HB⟩
  · have HAP := hid (hap ⟨g, 5, none⟩ (cp - 1) (fun j u hj => by
      rw [addr_add]; exact hnews j u hj))
    have hcl1 := hcl (cp - n)
    have h01 : ¬ (cp : Int) = 1 := by omega
    clear hap hcl hnews hlen
    go_enter Try.func59, Try.ntmps59
    go_wp2
    go_region_law (refine step_append_run rfl (.tmp 22) (.tmp 25) 81 81 rfl (.slice (some ⟨g, 0, none⟩) 0 cp) (.slice (some ⟨g, 5, none⟩) n (cp - 1)) (by simp [Act.put, Act.eval]) (by simp [Act.put, Act.eval]) HAP.out ?_)
    all_goals go_wp2
    all_goals go_ret
    all_goals exact ⟨rfl, HR, HB⟩
end Go.Proofs.Ythipdchdbdmmnaa
