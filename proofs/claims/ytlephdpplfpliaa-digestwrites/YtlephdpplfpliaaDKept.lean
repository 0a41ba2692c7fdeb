/-
  kept, where the parts lie anywhere off what was lent.
-/
import Derived.Test.YtlephdpplfpliaaDLentW
namespace Go.Proofs.Ytlephdpplfpliaa
open Go.RowKit
set_option linter.all false

/-- nothing that was there was written but what S names. -/
structure Off (S : Nat → Prop) (w w' : World) : Prop where
  os : w'.os = w.os
  tape : w'.tape = w.tape
  output : w'.output = w.output
  size : w.heap.size ≤ w'.heap.size
  block : ∀ k, ¬ S k → k < w.heap.size → w'.heap[k]? = w.heap[k]?
theorem Off.step {S : Nat → Prop} {g : Nat} {a b c : World} (h : Off S a b) (hb : But g b c) (hg : S g) : Off S a c :=
  ⟨hb.os.trans h.os, hb.tape.trans h.tape, hb.output.trans h.output, Nat.le_trans h.size hb.size, fun k hk hl => (hb.block k (fun e => hk (e ▸ hg)) (Nat.lt_of_lt_of_le hl h.size)).trans (h.block k hk hl)⟩
structure KeptJ (wk wr : World) (va : Option Addr) (vc N : Nat) (a : Option Addr) (ls : List (Nat × Nat)) (ps : List Part) (k : Nat) : Prop where
  parts : PartsAt wr a ps
  away : ∀ i, i < N → (∀ b o, a = some ⟨b, o, none⟩ → b ≠ (ls.getD i (0, 0)).1) ∧ ∀ p, p ∈ ps → p.off (ls.getD i (0, 0)).1
  row : Bk.Row wr 37 (.slice va N vc) (lvals ls ps N)
  all : ∀ i, k ≤ i → i < N → Bk.Row wr 5 (.slice (some ⟨(ls.getD i (0, 0)).1, 0, none⟩) ((ps.getD i Part.nil).zs.length + 2) (ls.getD i (0, 0)).2) (Bk.u8s ((ps.getD i Part.nil).zs ++ [201, 202]))
  own : ∀ i, i < N → (Value.slice va N vc).ownBlock ≠ some (ls.getD i (0, 0)).1 ∧ ∀ j, j < N → j ≠ i → (ls.getD j (0, 0)).1 ≠ (ls.getD i (0, 0)).1
  off : Off (fun b => ∃ i, i < N ∧ (ls.getD i (0, 0)).1 = b) wk wr
theorem KeptJ.next {wk wr w' : World} {va : Option Addr} {vc N : Nat} {a : Option Addr} {ls : List (Nat × Nat)} {ps : List Part} {k : Nat} (h : KeptJ wk wr va vc N a ls ps k) (hk : k < N) (hb : But (ls.getD k (0, 0)).1 wr w') : KeptJ wk w' va vc N a ls ps (k + 1) := by
  refine ⟨⟨fun i hi => ?_, fun p hp => Part.ok_but (h.parts.2 p hp) ((h.away k hk).2 p hp) hb⟩, h.away, h.row.keep fun b hb' => hb.block b (fun e => (h.own k hk).1 (e ▸ hb')) (h.row.lt hb'), fun i h1 h2 => (h.all i (by omega) h2).keep fun b hb' => ?_, h.own, h.off.step hb ⟨k, hk, rfl⟩⟩
  · obtain ⟨b, o, ha, hc⟩ := h.parts.1 i hi
    exact ⟨b, o, ha, by rw [hb.cell (p := ⟨b, o + i, none⟩) ((h.away k hk).1 b o ha) (World.block_lt_of_cell? wr _ hc), hc]⟩
  · have e : b = (ls.getD i (0, 0)).1 := by simpa [Value.ownBlock] using hb'.symm
    subst e
    exact hb.block _ ((h.own k hk).2 i h2 (by omega)) ((h.all i (by omega) h2).lt rfl)
set_option maxRecDepth 20000 in
set_option maxHeartbeats 2000000 in
theorem keptE_any (a : Option Addr) (cap : Nat) (ps : List Part) (va : Option Addr) (vc : Nat) (ls : List (Nat × Nat)) (w : World) (hn : ps.length ≤ 2147483647) (hl : ∀ i, i < ps.length → (ps.getD i Part.nil).zs.length ≤ 2147483647) (hI : KeptJ w w va vc ps.length a ls ps 0) :
    Calls Try.prog 9 #[.slice va ps.length vc, .slice a ps.length cap] w fun e w' => e = .returned (.bool true) ∧ Off (fun b => ∃ i, i < ps.length ∧ (ls.getD i (0, 0)).1 = b) w w' := by
  have HL := Bk.hid hl
  obtain ⟨N, hN⟩ : ∃ N, N = ps.length := ⟨_, rfl⟩
  have HN := Bk.hid hN
  rw [← hN] at hn hI ⊢
  have HST := Bk.hid hI
  clear hN hl hI
  go_enter Try.func9, Try.ntmps9
  go_wp2
  go_loopw [5, 6] (fun gd i wr => ∃ k : Nat, k ≤ N ∧ i = .int .i64 k ∧ gd = .bool true ∧ Hid (KeptJ w wr va vc N a ls ps k)) (fun _ i _ => N - (intOf i).toNat)
  case atStart => exact ⟨0, Nat.zero_le _, rfl, by simp, HST⟩
  case round =>
    clear HST
    obtain ⟨k, hk, rfl, rfl, HI⟩ := hrel
    by_cases hlt : k < N
    · have hlt2 : (k : Int) < N := by omega
      have hkp : k < ps.length := by rw [← HN.out]; exact hlt
      obtain ⟨b, o, ha, hcr⟩ := HI.out.parts.1 k hkp
      have hpk : ps.getD k Part.nil ∈ ps := by rw [List.getD_eq_getElem?_getD, List.getElem?_eq_getElem hkp]; exact List.getElem_mem hkp
      have hok := HI.out.parts.2 _ hpk
      have hlk := HL.out k hkp
      obtain ⟨gv, cv, ev, hcv⟩ := HI.out.row.cell k (by simp [lvals]; exact hlt)
      have hva : va = some ⟨gv, 0, none⟩ := by simp [Value.slice.injEq] at ev; exact ev.1
      have hcv2 : wr.cell? ⟨gv, k, none⟩ = some (lval ls ps k) := by rw [hcv]; simp [lvals]
      obtain ⟨cur, f, hg, hfz, hcs, hcc, m1, m2, okl⟩ := lent_reads (HI.out.all k (Nat.le_refl _) hlt) hok.1
      have HNX : Hid (∀ w', But (ls.getD k (0, 0)).1 wr w' → KeptJ w w' va vc N a ls ps (k + 1)) := fun w' hb => HI.out.next hlt hb
      subst ha hva
      unfold lval at hcv2
      clear hcv ev hpk
      generalize ps.getD k Part.nil = pq at hok hlk hcr hcv2 hcs hcc m1 m2 okl hfz
      generalize ls.getD k (0, 0) = gc at HNX hcv2 hcc m1 m2 okl hfz hg
      obtain ⟨g, c⟩ := gc
      obtain ⟨pa, pc, zs⟩ := pq
      simp only [Part.val] at hok hlk hcr hcv2 hcs hcc m1 m2 okl hfz hg HNX
      have e1 : ∀ q, (convert 37 9 (.slice (some ⟨g, 0, none⟩) zs.length c)).run Try.prog (wr.drewN q) = .ok (.string (strOfNums zs)) (wr.drewN q) := fun q => conv_d _ _ _ _ _ (by exact okl) rfl
      have e2 : ∀ q, (convert 37 9 (.slice pa zs.length pc)).run Try.prog (wr.drewN q) = .ok (.string (strOfNums zs)) (wr.drewN q) := fun q => conv_d _ _ _ _ _ (by exact hok) rfl
      clear hok okl
      generalize strOfNums zs = SX at e1 e2
      generalize zs.length = l at *
      have i1 : (l : Int) + 2 ≤ c := by omega
      have i2 : (l : Int) < (l : Int) + 2 := by omega
      have i3 : (l : Int) + 1 < (l : Int) + 2 := by omega
      have HG := Bk.hid hg
      have HFZ := Bk.hid hfz
      have HCS := Bk.hid hcs
      clear hg hfz hcs
      go_wp2
      go_quiet (fail)
      revert nq
      intro n1
      go_wp2
      go_quiet (fail)
      go_wp2
      obtain ⟨wy, hwy⟩ : ∃ wy, wy = wr := ⟨_, rfl⟩
      subst hwy
      go_loopw [8] (fun j wz => ∃ (m : Nat) (X : Array Value), m ≤ l + 2 ∧ j = .int .i64 m ∧ Hid (But g wy wz) ∧ Hid (wz.heap[g]? = some (.cells X 5 f)) ∧ X.size = cur.size) (fun j _ => l + 2 - (intOf j).toNat)
      case atStart => exact ⟨0, cur, by omega, rfl, ⟨rfl, rfl, rfl, Nat.le_refl _, fun _ _ _ => rfl⟩, HG.out, rfl⟩
      case round =>
        obtain ⟨m, X, hm, rfl, HB, HX, hXs⟩ := hrel
        by_cases hlt3 : m < l + 2
        · have hlt4 : (m : Int) < (l : Int) + 2 := by omega
          have z1 : wr.cell? ⟨g, m, none⟩ = some (X[m]'(by have := HCS.out; omega)) := by rw [Bk.cell_of_heap HX.out, Array.getElem?_eq_getElem (by have := HCS.out; omega)]
          have z2 : wr.frozen? ⟨g, m, none⟩ = false := by
            have h1 := HFZ.out m hlt3
            simp only [World.frozen?, HG.out] at h1
            simp only [World.frozen?, HX.out]
            exact h1
          generalize X[m]'(by have := HCS.out; omega) = xm at z1
          go_wp2
          go_roundw
          case rel => exact ⟨m + 1, _, by omega, by go_num, HB.out.trans (But.setCell _ _ _ _), Bk.heap_setCell HX.out, by simpa using hXs⟩
          case measure => simp [intOf]; omega
        · have hge4 : ¬ (m : Int) < (l : Int) + 2 := by omega
          go_wp2
          go_roundw
          case rel => exact ⟨k + 1, by omega, by go_num, rfl, HNX.out _ HB.out⟩
          case measure => simp [intOf]; omega
    · have hge : ¬ (k : Int) < N := by omega
      go_wp2
      go_ret
      exact ⟨rfl, HI.out.off⟩
end Go.Proofs.Ytlephdpplfpliaa
