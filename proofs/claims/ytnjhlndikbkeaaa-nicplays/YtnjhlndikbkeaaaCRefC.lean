/-
  The document's card: bytes copied; its card in memory.
-/
import Derived.Test.YtnjhlndikbkeaaaCRefN
namespace Go.Proofs.Ytnjhlndikbkeaaa
open Go.RowKit
set_option linter.all false

/-- bytes copied one by one: at which place k. -/
structure CopI (w wr : World) (v : Value) (zs : List Int) (k : Nat) : Prop where
  row : Row wr 5 v (u8s (zs.take k))
  own : ∀ b, v.ownBlock = some b → w.heap.size ≤ b
  bel : Below w.heap.size w wr
theorem CopI.step {w wr : World} {v : Value} {zs : List Int} {k : Nat} (h : CopI w wr v zs k) (hk : k < zs.length) (hl : zs.length ≤ 140737488351232) :
    ∃ g cap w', (Builtin.append_ #[43, 43] 43 #[v, .slice (some ⟨wr.heap.size, 0, none⟩) 1 1]).run Try.prog (wr.alloc (.cells #[.int .u8 (zs.getD k 0)] 5)) = .ok (.slice (some ⟨g, 0, none⟩) (k + 1) cap) w' ∧ CopI w w' (.slice (some ⟨g, 0, none⟩) (k + 1) cap) zs (k + 1) := by
  have hlen : (zs.take k).length = k := by simp; omega
  obtain ⟨v', w', hrun, hrow, hgr, hform⟩ := append_one 43 43 5 _ 1 Try.underlying43 infoU8 rfl (h.row.below (balloc wr (.cells #[.int .u8 (zs.getD k 0)] 5))) (.int .u8 (zs.getD k 0)) rfl wr.heap.size _ (heap_new wr _) (by rw [u8s_len, hlen]; unfold maxLen; omega) (by rw [u8s_len, hlen]; omega)
  rw [u8s_len, hlen] at hform
  have hnew : ∀ b, v'.ownBlock = some b → w.heap.size ≤ b := fun b hb => by
    rcases hform with ⟨g1, cap, rfl, rfl⟩ | ⟨g1, cap, rfl, h1, _⟩
    · exact h.own b hb
    · simp [Value.ownBlock] at hb; subst hb; have := h.bel.size; simp at h1; omega
  have hv : ∃ gv cap, v' = .slice (some ⟨gv, 0, none⟩) (k + 1) cap := by
    rcases hform with ⟨g1, cap, _, rfl⟩ | ⟨g1, cap, rfl, _⟩
    · exact ⟨g1, cap, rfl⟩
    · exact ⟨g1, cap, rfl⟩
  obtain ⟨gv, cap, rfl⟩ := hv
  refine ⟨gv, cap, w', hrun, ?_, hnew, ?_⟩
  · rw [List.take_succ_eq_append_getElem hk, u8s_app]
    have e : u8s [zs[k]] = [.int .u8 (zs.getD k 0)] := by simp [u8s, List.getD_eq_getElem?_getD, hk]
    rw [e]
    exact hrow
  · have b1 : Below w.heap.size wr (wr.alloc (.cells #[.int .u8 (zs.getD k 0)] 5)) := (Below.refl _ _).alloc h.bel.size _
    exact (h.bel.trans b1).trans (grown_but hgr (by have := h.bel.size; simp; omega) (fun b hb => h.own b hb))
set_option maxRecDepth 20000 in
set_option maxHeartbeats 1000000 in
theorem copied_any (pt : Part) (w : World) (hok : pt.ok w) (hl : pt.zs.length ≤ 140737488351232) :
    Calls Try.prog 53 #[pt.val] w fun e w' => ∃ a c, e = .returned (.slice a pt.zs.length c) ∧ Hid (CopI w w' (.slice a pt.zs.length c) pt.zs pt.zs.length) := by
  have HOK := hid hok
  obtain ⟨pa, pc, zs⟩ := pt
  simp only [Part.val] at *
  have HB0 : Hid (CopI w w (.slice none 0 0) zs 0) := ⟨Row.nil _ _, by simp [Value.ownBlock], Below.refl _ _⟩
  obtain ⟨n, hn⟩ : ∃ n, n = zs.length := ⟨_, rfl⟩
  have HN := hid hn
  rw [← hn] at hl ⊢
  clear hok hn
  go_enter Try.func53, Try.ntmps53
  go_wp2
  go_loopw [3, 4] (fun v i wr => ∃ (k : Nat) (a : Option Addr) (c : Nat), k ≤ n ∧ i = .int .i64 k ∧ v = .slice a k c ∧ Hid (CopI w wr (.slice a k c) zs k)) (fun _ i _ => n - (intOf i).toNat)
  case atStart => exact ⟨0, none, 0, by omega, rfl, rfl, HB0⟩
  case round =>
    obtain ⟨k, a, c, hk, rfl, rfl, HI⟩ := hrel
    by_cases hlt : k < n
    · have hlt2 : (k : Int) < n := by omega
      have hlz : k < zs.length := by rw [← HN.out]; exact hlt
      obtain ⟨g, cap, w', hrun, hnx⟩ := HI.out.step hlz (by rw [← HN.out]; exact hl)
      have HRUN := hid hrun
      have HNX := hid hnx
      clear hrun hnx
      rcases HOK.out.2.2 with he | ⟨b, o, ha, hc⟩
      · simp only at he; rw [he] at hlz; simp at hlz
      · simp only at ha hc
        have hcell := cell_below HI.out.bel (hc k hlz)
        subst ha
        clear hc
        generalize zs.getD k 0 = zk at hcell HRUN
        go_wp2_with (first | (at_builtin; refine wpList_append_run _ rfl (.tmp 11) (.tmp 16) 43 43 rfl _ _ rfl rfl HRUN.out ?_))
        go_roundw
        case rel => exact ⟨k + 1, _, cap, by omega, by go_num, rfl, HNX⟩
        case measure => simp [intOf]; omega
    · have hge : ¬ (k : Int) < n := by omega
      have hkn : k = n := by omega
      subst hkn
      go_wp2
      go_ret
      exact ⟨a, c, rfl, HI⟩
end Go.Proofs.Ytnjhlndikbkeaaa
