/-
  The statements' lent and kept, walked.
-/
import Derived.Test.YtlephdpplfpliaaDLent
import Derived.Deep.QuietTactic
import Derived.BigQuiet
namespace Go.Proofs.Ytlephdpplfpliaa
open Go.RowKit
set_option linter.all false

set_option maxRecDepth 20000 in
set_option maxHeartbeats 2000000 in
theorem lentD_any (a : Option Addr) (cap : Nat) (ps : List Part) (w : World) (hp : PartsAt w a ps) (hn : ps.length ≤ 2147483647) (hl : ∀ i, i < ps.length → (ps.getD i Part.nil).zs.length ≤ 2147483647) :
    Calls Try.prog 7 #[.slice a ps.length cap] w fun e w' => ∃ va vc, e = .returned (.slice va ps.length vc) ∧ ∃ ls, Hid (LentI w w' (.slice va ps.length vc) ls ps ps.length) := by
  have HP := Bk.hid hp
  have HL := Bk.hid hl
  obtain ⟨N, hN⟩ : ∃ N, N = ps.length := ⟨_, rfl⟩
  have HN := Bk.hid hN
  have HST := Bk.hid (LentI.start w ps)
  rw [← hN] at hn ⊢
  clear hN hp hl
  go_enter Try.func7, Try.ntmps7
  go_wp2
  go_loopw [3, 4] (fun v i wr => ∃ (k : Nat) (va : Option Addr) (vc : Nat) (ls : List (Nat × Nat)), k ≤ N ∧ i = .int .i64 k ∧ v = .slice va k vc ∧ Hid (LentI w wr (.slice va k vc) ls ps k)) (fun _ i _ => N - (intOf i).toNat)
  case atStart => exact ⟨0, none, 0, [], Nat.zero_le _, rfl, rfl, HST⟩
  case round =>
    clear HST
    obtain ⟨k, va, vc, ls, hk, rfl, rfl, HI⟩ := hrel
    by_cases hlt : k < N
    · have hlt2 : (k : Int) < N := by omega
      have hkp : k < ps.length := by rw [← HN.out]; exact hlt
      obtain ⟨b, o, ha, hc⟩ := HP.out.1 k hkp
      have hpk : ps.getD k Part.nil ∈ ps := by rw [List.getD_eq_getElem?_getD, List.getElem?_eq_getElem hkp]; exact List.getElem_mem hkp
      have hlk := HL.out k hkp
      obtain ⟨a1, l1, c1, w1, g, c, w2, gv, cv, w3, r1, r2, hcc, r3, hb2, hnx⟩ := HI.out.next (HP.out.2 _ hpk) (by omega) (by omega)
      have hcr : wr.cell? ⟨b, o + k, none⟩ = some (ps.getD k Part.nil).val := by
        rw [HI.out.bel.cell (p := ⟨b, o + k, none⟩) (World.block_lt_of_cell? w _ hc)]; exact hc
      have hc2 : w2.cell? ⟨b, o + k, none⟩ = some (ps.getD k Part.nil).val := by
        rw [hb2.cell (p := ⟨b, o + k, none⟩) (World.block_lt_of_cell? w _ hc)]; exact hc
      subst ha
      have HNX := Bk.hid hnx
      clear hnx hb2 hc hpk
      generalize ps.getD k Part.nil = pq at r1 r2 r3 hcc hcr hc2 hlk
      obtain ⟨pa, pc, zs⟩ := pq
      simp only [Part.val] at r1 r2 r3 hcc hcr hc2 hlk
      generalize zs.length = l at r1 r2 r3 hcc hcr hc2 hlk
      have R1 := Bk.hid r1
      have R2 := Bk.hid r2
      have R3 := Bk.hid r3
      have hcl : l ≤ c := by omega
      have hcl2 : (l : Int) ≤ c := by omega
      clear r1 r2 r3
      go_wp2_with (first
        | (at_builtin; refine Bk.wpList_append_run _ rfl (.const (.slice none 0 0)) (.tmp 15) 37 37 rfl _ _ rfl rfl R1.out ?_)
        | (at_builtin; refine Bk.wpList_append_run _ rfl (.tmp 17) (.tmp 18) 37 37 rfl _ _ rfl rfl R2.out ?_)
        | (at_builtin; refine Bk.wpList_append_run _ rfl (.tmp 20) (.tmp 28) 22 22 rfl _ _ rfl rfl R3.out ?_))
      go_roundw
      case rel => exact ⟨k + 1, _, cv, _, by omega, by go_num, rfl, HNX⟩
      case measure => simp [intOf]; omega
    · have hge : ¬ (k : Int) < N := by omega
      have hkn : k = N := by omega
      subst hkn
      go_wp2
      go_ret
      exact ⟨va, vc, rfl, ls, HI⟩
/-- kept under way: the first k were written over. -/
structure KeptI (w0 wk wr : World) (va : Option Addr) (vc N : Nat) (ls : List (Nat × Nat)) (ps : List Part) (k : Nat) : Prop where
  row : Bk.Row wr 37 (.slice va N vc) (lvals ls ps N)
  all : ∀ i, k ≤ i → i < N → Bk.Row wr 5 (.slice (some ⟨(ls.getD i (0, 0)).1, 0, none⟩) ((ps.getD i Part.nil).zs.length + 2) (ls.getD i (0, 0)).2) (Bk.u8s ((ps.getD i Part.nil).zs ++ [201, 202]))
  own : ∀ i, i < N → w0.heap.size ≤ (ls.getD i (0, 0)).1 ∧ (Value.slice va N vc).ownBlock ≠ some (ls.getD i (0, 0)).1 ∧ ∀ j, j < N → j ≠ i → (ls.getD j (0, 0)).1 ≠ (ls.getD i (0, 0)).1
  bel : Below w0.heap.size w0 wr
  siz : wk.heap.size ≤ wr.heap.size
  oth : ∀ b, (∀ i, i < N → (ls.getD i (0, 0)).1 ≠ b) → b < wk.heap.size → wr.heap[b]? = wk.heap[b]?
theorem KeptI.next {w0 wk wr w' : World} {va : Option Addr} {vc N : Nat} {ls : List (Nat × Nat)} {ps : List Part} {k : Nat} (h : KeptI w0 wk wr va vc N ls ps k) (hk : k < N) (hb : But (ls.getD k (0, 0)).1 wr w') : KeptI w0 wk w' va vc N ls ps (k + 1) := by
  refine ⟨h.row.keep fun b hb' => hb.block b (fun e => (h.own k hk).2.1 (e ▸ hb')) (h.row.lt hb'), fun i h1 h2 => (h.all i (by omega) h2).keep fun b hb' => ?_, h.own, h.bel.trans (hb.below (h.own k hk).1 h.bel.size), Nat.le_trans h.siz hb.size, fun b h1 h2 => (hb.block b (fun e => h1 k hk e.symm) (Nat.lt_of_lt_of_le h2 h.siz)).trans (h.oth b h1 h2)⟩
  have e : b = (ls.getD i (0, 0)).1 := by simpa [Value.ownBlock] using hb'.symm
  subst e
  exact hb.block _ ((h.own k hk).2.2 i h2 (by omega)) ((h.all i (by omega) h2).lt rfl)
/-- what a lent part reads. -/
theorem lent_reads {wr : World} {g c : Nat} {zs : List Int} (h : Bk.Row wr 5 (.slice (some ⟨g, 0, none⟩) (zs.length + 2) c) (Bk.u8s (zs ++ [201, 202]))) (hz : ∀ z, z ∈ zs → 0 ≤ z ∧ z ≤ 255) :
    ∃ cur f, wr.heap[g]? = some (.cells cur 5 f) ∧ (∀ j, j < zs.length + 2 → wr.frozen? ⟨g, j, none⟩ = false) ∧ zs.length + 2 ≤ cur.size ∧ zs.length + 2 ≤ c ∧ wr.cell? ⟨g, zs.length, none⟩ = some (.int .u8 201) ∧ wr.cell? ⟨g, zs.length + 1, none⟩ = some (.int .u8 202) ∧ Part.ok wr ⟨some ⟨g, 0, none⟩, c, zs⟩ := by
  have hc := fun j hj => h.cell j (by rw [Bk.u8s_len]; simpa using hj)
  have h0 := h
  rcases h with ⟨hv, _⟩ | ⟨g', cap, cur, lo, hi, hv, hg, hf, hl, hm, hs, ht⟩
  · simp at hv
  · simp only [Value.slice.injEq, Option.some.injEq, Addr.mk.injEq, and_true] at hv
    obtain ⟨rfl, _, rfl⟩ := hv
    rw [Bk.u8s_len] at hl
    simp only [List.length_append, List.length_cons, List.length_nil, Nat.zero_add] at hl
    have cells : ∀ j (hj : j < zs.length + 2), wr.cell? ⟨g, j, none⟩ = some (.int .u8 ((zs ++ [201, 202]).getD j 0)) := fun j hj => by
      obtain ⟨g2, c2, e1, e2⟩ := h0.cell j (by rw [Bk.u8s_len]; simpa using hj)
      simp only [Value.slice.injEq, Option.some.injEq, Addr.mk.injEq, and_true] at e1
      obtain ⟨rfl, _⟩ := e1
      rw [e2]
      simp only [Bk.u8s, List.getElem_map, List.getD_eq_getElem?_getD]
      rw [List.getElem?_eq_getElem (show j < (zs ++ [201, 202]).length by simpa using hj)]
      rfl
    refine ⟨cur, (lo, hi), hg, fun j hj => Bk.frozen_of_heap' hg hf j (by omega), by omega, by omega, ?_, ?_, hz, by simp only; omega, Or.inr ⟨g, 0, rfl, fun j hj => ?_⟩⟩
    · rw [cells _ (by omega)]; simp [List.getD_eq_getElem?_getD]
    · rw [cells _ (by omega)]; simp [List.getD_eq_getElem?_getD]
    · simp only at hj
      rw [Nat.zero_add, cells j (by omega)]
      simp [List.getD_eq_getElem?_getD, List.getElem?_append_left hj]
theorem conv_d (w : World) (a : Option Addr) (l c : Nat) (zs : List Int) (h : Part.ok w ⟨a, c, zs⟩) (hl : l = zs.length) : (convert 37 9 (.slice a l c)).run Try.prog w = .ok (.string (strOfNums zs)) w := by
  subst hl
  exact Bk.conv_part ⟨a, c, zs⟩ w (bpart h)
set_option maxRecDepth 20000 in
set_option maxHeartbeats 2000000 in
theorem keptD_any (a : Option Addr) (cap : Nat) (ps : List Part) (va : Option Addr) (vc : Nat) (ls : List (Nat × Nat)) (w0 w : World) (hp : PartsAt w0 a ps) (hn : ps.length ≤ 2147483647) (hl : ∀ i, i < ps.length → (ps.getD i Part.nil).zs.length ≤ 2147483647) (hI : LentI w0 w (.slice va ps.length vc) ls ps ps.length) :
    Calls Try.prog 9 #[.slice va ps.length vc, .slice a ps.length cap] w fun e w' => e = .returned (.bool true) ∧ Below w0.heap.size w0 w' ∧ ∀ b, (∀ i, i < ps.length → (ls.getD i (0, 0)).1 ≠ b) → b < w.heap.size → w'.heap[b]? = w.heap[b]? := by
  have HP := Bk.hid hp
  have HL := Bk.hid hl
  obtain ⟨N, hN⟩ : ∃ N, N = ps.length := ⟨_, rfl⟩
  have HN := Bk.hid hN
  rw [← hN] at hn hI ⊢
  have HST : Hid (KeptI w0 w w va vc N ls ps 0) := ⟨hI.row, fun i _ hi => hI.all i hi, hI.own, hI.bel, Nat.le_refl _, fun _ _ _ => rfl⟩
  clear hN hp hl hI
  go_enter Try.func9, Try.ntmps9
  go_wp2
  go_loopw [5, 6] (fun gd i wr => ∃ k : Nat, k ≤ N ∧ i = .int .i64 k ∧ gd = .bool true ∧ Hid (KeptI w0 w wr va vc N ls ps k)) (fun _ i _ => N - (intOf i).toNat)
  case atStart => exact ⟨0, Nat.zero_le _, rfl, by simp, HST⟩
  case round =>
    clear HST
    obtain ⟨k, hk, rfl, rfl, HI⟩ := hrel
    by_cases hlt : k < N
    · have hlt2 : (k : Int) < N := by omega
      have hkp : k < ps.length := by rw [← HN.out]; exact hlt
      obtain ⟨b, o, ha, hc⟩ := HP.out.1 k hkp
      have hpk : ps.getD k Part.nil ∈ ps := by rw [List.getD_eq_getElem?_getD, List.getElem?_eq_getElem hkp]; exact List.getElem_mem hkp
      have hok := Part.ok_below (HP.out.2 _ hpk) HI.out.bel
      have hlk := HL.out k hkp
      have hcr : wr.cell? ⟨b, o + k, none⟩ = some (ps.getD k Part.nil).val := by
        rw [HI.out.bel.cell (p := ⟨b, o + k, none⟩) (World.block_lt_of_cell? w0 _ hc)]; exact hc
      obtain ⟨gv, cv, ev, hcv⟩ := HI.out.row.cell k (by simp [lvals]; exact hlt)
      have hva : va = some ⟨gv, 0, none⟩ := by simp [Value.slice.injEq] at ev; exact ev.1
      have hcv2 : wr.cell? ⟨gv, k, none⟩ = some (lval ls ps k) := by rw [hcv]; simp [lvals]
      obtain ⟨cur, f, hg, hfz, hcs, hcc, m1, m2, okl⟩ := lent_reads (HI.out.all k (Nat.le_refl _) hlt) hok.1
      have HNX : Hid (∀ w', But (ls.getD k (0, 0)).1 wr w' → KeptI w0 w w' va vc N ls ps (k + 1)) := fun w' hb => HI.out.next hlt hb
      subst ha hva
      unfold lval at hcv2
      clear hcv ev hc hpk
      generalize ps.getD k Part.nil = pq at hok hlk hcr hcv2 hcs hcc m1 m2 okl hfz
      generalize ls.getD k (0, 0) = gc at HNX hcv2 hcc m1 m2 okl hfz hg
      obtain ⟨g, c⟩ := gc
      obtain ⟨pa, pc, zs⟩ := pq
      simp only [Part.val] at hok hlk hcr hcv2 hcs hcc m1 m2 okl hfz hg HNX
      have e1 : ∀ q, (convert 37 9 (.slice (some ⟨g, 0, none⟩) zs.length c)).run Try.prog (wr.drewN q) = .ok (.string (strOfNums zs)) (wr.drewN q) := fun q => conv_d _ _ _ _ _ (by exact okl) rfl
      have e2 : ∀ q, (convert 37 9 (.slice pa zs.length pc)).run Try.prog (wr.drewN q) = .ok (.string (strOfNums zs)) (wr.drewN q) := fun q => conv_d _ _ _ _ _ (by exact hok) rfl
      clear hok okl
      generalize strOfNums zs = SX at e1 e2
      generalize zs.length = l at *
      have i1 : (l : Int) + 2 ≤ c := by omega
      have i2 : (l : Int) < (l : Int) + 2 := by omega
      have i3 : (l : Int) + 1 < (l : Int) + 2 := by omega
      have HG := Bk.hid hg
      have HFZ := Bk.hid hfz
      have HCS := Bk.hid hcs
      clear hg hfz hcs
      go_wp2
      go_quiet (fail)
      revert nq
      intro n1
      go_wp2
      go_quiet (fail)
      go_wp2
      obtain ⟨wy, hwy⟩ : ∃ wy, wy = wr := ⟨_, rfl⟩
      subst hwy
      go_loopw [8] (fun j wz => ∃ (m : Nat) (X : Array Value), m ≤ l + 2 ∧ j = .int .i64 m ∧ Hid (But g wy wz) ∧ Hid (wz.heap[g]? = some (.cells X 5 f)) ∧ X.size = cur.size) (fun j _ => l + 2 - (intOf j).toNat)
      case atStart => exact ⟨0, cur, by omega, rfl, ⟨rfl, rfl, rfl, Nat.le_refl _, fun _ _ _ => rfl⟩, HG.out, rfl⟩
      case round =>
        obtain ⟨m, X, hm, rfl, HB, HX, hXs⟩ := hrel
        by_cases hlt3 : m < l + 2
        · have hlt4 : (m : Int) < (l : Int) + 2 := by omega
          have z1 : wr.cell? ⟨g, m, none⟩ = some (X[m]'(by have := HCS.out; omega)) := by rw [Bk.cell_of_heap HX.out, Array.getElem?_eq_getElem (by have := HCS.out; omega)]
          have z2 : wr.frozen? ⟨g, m, none⟩ = false := by
            have h1 := HFZ.out m hlt3
            simp only [World.frozen?, HG.out] at h1
            simp only [World.frozen?, HX.out]
            exact h1
          generalize X[m]'(by have := HCS.out; omega) = xm at z1
          go_wp2
          go_roundw
          case rel => exact ⟨m + 1, _, by omega, by go_num, HB.out.trans (But.setCell _ _ _ _), Bk.heap_setCell HX.out, by simpa using hXs⟩
          case measure => simp [intOf]; omega
        · have hge4 : ¬ (m : Int) < (l : Int) + 2 := by omega
          go_wp2
          go_roundw
          case rel => exact ⟨k + 1, by omega, by go_num, rfl, HNX.out _ HB.out⟩
          case measure => simp [intOf]; omega
    · have hge : ¬ (k : Int) < N := by omega
      go_wp2
      go_ret
      exact ⟨rfl, HI.out.bel, HI.out.oth⟩
end Go.Proofs.Ytlephdpplfpliaa
