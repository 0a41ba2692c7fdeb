/-
  The contract of slipwayref15.Copied.
-/
import Derived.Test.YtmdkanbfpmdimaaOMem
namespace Go.Proofs.Ytmdkanbfpmdimaa
open Go.RowKit
set_option linter.all false

/-- one more option behind those of the call's own. -/
theorem OwnO.app {B : Nat} {w : World} {v : Value} {E : List (Opt × Value)} (h : OwnO B w v E) (hB : B ≤ w.heap.size) (hn : E.length < 4398046511104) (c : Int) (zs : List Int) (d : Value) (hd : Row w 5 d (u8s zs)) (hz : ∀ z ∈ zs, 0 ≤ z ∧ z ≤ 255) (hl : ∀ b, d.ownBlock = some b → B ≤ b ∧ ∀ p ∈ E, p.2.ownBlock ≠ some b) :
    ∃ a n cp w', (Builtin.append_ #[25, 25] 25 #[v, .slice (some ⟨w.heap.size, 0, none⟩) 1 1]).run Try.prog (w.alloc (.cells #[.int .i64 c, d] 45)) = .ok (.slice a n cp) w' ∧ OwnO B w' (.slice a n cp) (E ++ [((c, zs), d)]) ∧ Below B w w' := by
  have ha := h.below (bpush (Below.refl _ w) (.cells #[.int .i64 c, d] 45))
  obtain ⟨v', w1, h1, h2, h3, h4⟩ := append_s 25 25 45 _ 2 32 Try.underlying25 infoOpt rfl (by decide) ha.row ⟨w.heap.size, 0, none⟩ 1 1 [.int .i64 c, d] rfl (fun j u hj => by
    have e : (⟨w.heap.size, 0, none⟩ : Addr).add j = ⟨w.heap.size, j, none⟩ := by unfold Addr.add; split <;> simp_all
    rw [e, cell_of_heap (heap_new w _)]
    simpa using hj) (by
      intro u hu
      simp only [List.mem_cons, List.not_mem_nil, or_false] at hu
      rcases hu with rfl | rfl
      · rfl
      · obtain ⟨a, c, e, _⟩ := hd.form
        rw [e]
        rfl) (by unfold maxLen; omega) (by omega)
  obtain ⟨o1, o2⟩ := ha.push (c := c) (zs := zs) (d := d) (Nat.le_trans hB (by simp)) (hd.below (bpush (Below.refl _ _) _)) hz hl h2 h3 h4
  obtain ⟨a, cp, e, _⟩ := o1.form
  rw [e] at h1 o1
  exact ⟨a, _, cp, w1, h1, o1, ((bpush (Below.refl _ w) _).mono hB).trans o2⟩
set_option maxRecDepth 20000 in
set_option maxHeartbeats 2000000 in
theorem copied_any (a : Option Addr) (c : Nat) (os : List OP) (w : World) (h : OV w a os) :
    Calls Try.prog 25 #[.slice a os.length c] w fun e w' => ∃ ax n cx, e = .returned (.slice ax n cx) ∧ Hid (∃ E, OwnO w.heap.size w' (.slice ax n cx) E ∧ E.map Prod.fst = absO os ∧ Below w.heap.size w w') := by
  obtain ⟨n, hn⟩ : ∃ n, n = os.length := ⟨_, rfl⟩
  have HN := hid hn
  have hf := h.few
  rw [← hn] at hf ⊢
  have HV := hid h
  clear h hn
  go_enter Try.func25, Try.ntmps25
  go_wp2
  go_loopw [3, 4] (fun v i wr => ∃ (k : Nat) (a' : Option Addr) (n' c' : Nat) (E : List (Opt × Value)), k ≤ n ∧ i = .int .i64 k ∧ v = .slice a' n' c' ∧ Hid (OwnO w.heap.size wr (.slice a' n' c') E ∧ E.map Prod.fst = absO (os.take k) ∧ Below w.heap.size w wr)) (fun _ i _ => n - (intOf i).toNat)
  case atStart => exact ⟨0, none, 0, 0, [], Nat.zero_le _, rfl, rfl, OwnO.nil _ _, by simp [absO], Below.refl _ _⟩
  case round =>
    obtain ⟨k, a1, n1, c1, E, hk, rfl, rfl, HI⟩ := hrel
    by_cases hlt : k < n
    · have hlt' : (k : Int) < n := by omega
      obtain ⟨⟨cd, ad, cp, zs⟩, ho⟩ : ∃ o, os[k]? = some o := ⟨os[k]'(by rw [← HN.out]; exact hlt), List.getElem?_eq_getElem _⟩
      obtain ⟨b, off, ea, e0, e1⟩ := (HV.out.below HI.out.2.2).cell k _ ho
      simp only [Part.val] at e0 e1
      subst ea
      have hok := HV.out.oks _ (List.mem_of_getElem? ho)
      have HT : Hid (absO (os.take (k + 1)) = absO (os.take k) ++ [(cd, zs)]) := absO_take ho
      obtain ⟨a2, c2, w2, r2, R2, B2, F2⟩ := append_nil_part ⟨ad, cp, zs⟩ wr (Part.ok_below hok.1 HI.out.2.2) (by have := hok.2; simp only at this ⊢; omega) 41
      have hel : E.length = k := by
        have := congrArg List.length HI.out.2.1
        rw [List.length_map, absO_len, List.length_take] at this
        have := HN.out
        omega
      obtain ⟨a3, n3, c3, w3, r3, O3, B3⟩ := (HI.out.1.below B2).app (Nat.le_trans HI.out.2.2.size B2.size) (by omega) cd zs (.slice a2 zs.length c2) R2 hok.1.1 (fun b hb => ⟨Nat.le_trans HI.out.2.2.size (F2 b hb), fun p hp e => by
        have := F2 b hb
        have := (HI.out.1.data p hp).lt e
        omega⟩)
      simp only [Part.val] at r2 r3
      have HR2 := hid r2
      have HR3 := hid r3
      have HF : Hid (OwnO w.heap.size w3 (.slice a3 n3 c3) (E ++ [((cd, zs), .slice a2 zs.length c2)]) ∧ (E ++ [((cd, zs), Value.slice a2 zs.length c2)]).map Prod.fst = absO (os.take (k + 1)) ∧ Below w.heap.size w w3) := by
        refine ⟨O3, ?_, (bstep HI.out.2.2 B2).trans B3⟩
        rw [HT.out, List.map_append, HI.out.2.1]
        rfl
      have g0 : w2.cell? ⟨b, off + k * 2, none⟩ = some (.int .i64 cd) := by
        rw [B2.cell (p := ⟨b, off + k * 2, none⟩) (World.block_lt_of_cell? wr _ e0)]
        exact e0
      clear ho hok r2 R2 B2 F2 r3 O3 B3 hel e0
      generalize zs.length = lz at *
      go_wp2_with (first
        | (at_builtin; refine wpList_append_run _ rfl _ _ _ _ rfl _ _ rfl rfl HR2.out ?_; clear HR2)
        | (at_builtin; refine wpList_append_run _ rfl _ _ _ _ rfl _ _ rfl rfl HR3.out ?_; clear HR3))
      go_roundw
      case rel => exact ⟨k + 1, a3, n3, c3, _, by omega, by go_num, rfl, HF⟩
      case measure => simp [intOf]; omega
    · have hge : ¬ (k : Int) < n := by omega
      have hkn : k = n := by omega
      have HF : Hid (∃ E, OwnO w.heap.size wr (.slice a1 n1 c1) E ∧ E.map Prod.fst = absO os ∧ Below w.heap.size w wr) := by
        have e : os.take k = os := by rw [hkn, HN.out]; simp
        have h := HI.out
        rw [e] at h
        exact ⟨E, h⟩
      go_wp2
      go_ret
      exact ⟨a1, n1, c1, rfl, HF.out⟩
end Go.Proofs.Ytmdkanbfpmdimaa
