/-
  The statements' own lent and asLent: draws handed in from memory of their own, with two marks behind them.
-/
import Derived.Test.YtdfefhiajleejaaDiLive
namespace Go.Proofs.Ytdfefhiajleejaa
open Go.RowKit
set_option linter.all false

def L0 (zs : List Int) : Array Value := (u32s zs ++ [Value.int .u32 0, Value.int .u32 0]).toArray
def L2 (zs : List Int) : Array Value := (u32s zs ++ [Value.int .u32 71, Value.int .u32 72]).toArray
theorem made_u (n : Nat) : madeCells #[Value.int .u32 0] n = (List.replicate n (Value.int .u32 0)).toArray := by
  apply Array.ext_getElem?
  intro i
  by_cases h : i < n <;> simp [madeCells, h, Nat.mod_one]
theorem copy_lent {w : World} {a : Option Addr} {c : Nat} {zs : List Int} (hp : PartU w a c zs) (ty : TypeId) :
    (Builtin.copy_ #[22, 22] ty #[.slice (some ⟨w.heap.size, 0, none⟩) (zs.length + 2) (zs.length + 2), .slice a zs.length c]).run Try.prog (w.alloc (.cells (madeCells #[.int .u32 0] (zs.length + 2)) 37))
      = .ok (goInt zs.length) (w.alloc (.cells (L0 zs) 37)) := by
  rcases hp.lies with h | ⟨b, o, ha, hc⟩
  · subst h
    rw [List.length_nil, run_copy_none _ _ _ _ 37 _ _ _ _ _ _ Try.underlying22 sizeU32 (by simp)]
    simp [L0, u32s, made_u]
  · subst ha
    have hcell : ∀ j v, (u32s zs)[j]? = some v → (w.alloc (.cells (madeCells #[.int .u32 0] (zs.length + 2)) 37)).cell? ((⟨b, o, none⟩ : Addr).add j) = some v := by
      intro j v hj
      obtain ⟨hl, rfl⟩ := u32s_get hj
      have := hc j hl
      have hb : b < w.heap.size := World.block_lt_of_cell? w _ this
      rw [show (⟨b, o, none⟩ : Addr).add j = ⟨b, o + j, none⟩ from by unfold Addr.add; split <;> simp_all, World.cell?_alloc_past _ _ _ hb, this]
    rw [run_copy_row (P := Try.prog) _ _ _ _ 37 w.heap.size 0 _ _ _ _ _ (madeCells #[.int .u32 0] (zs.length + 2)) 37 (u32s zs) Try.underlying22 sizeU32 (heap_new w _) (by simp [u32s]) hcell (by simp [u32s, size_madeCells]) (u32s_one zs)]
    rw [World.setRow_alloc_new]
    simp only [u32s, List.length_map]
    congr 3
    simp [L0, u32s, made_u]
theorem L0_at (zs : List Int) : (L0 zs)[zs.length]? = some (.int .u32 0) := by simp [L0, u32s]
theorem L1_at (zs : List Int) : ((L0 zs).setIfInBounds zs.length (.int .u32 71))[zs.length + 1]? = some (.int .u32 0) := by
  rw [Array.getElem?_setIfInBounds_ne (by omega)]
  simp [L0, u32s]
theorem L2_eq (zs : List Int) : ((L0 zs).setIfInBounds zs.length (.int .u32 71)).setIfInBounds (zs.length + 1) (.int .u32 72) = L2 zs := by
  simp [L0, L2, u32s]
set_option maxHeartbeats 400000 in
theorem lent_any (a : Option Addr) (c : Nat) (zs : List Int) (w : World) (hp : PartU w a c zs) (hl : zs.length ≤ 1048576) :
    Calls Try.prog 7 #[.slice a zs.length c] w fun e w' => e = .returned (.slice (some ⟨w.heap.size, 0, none⟩) zs.length (zs.length + 2)) ∧ w' = w.alloc (.cells (L2 zs) 37) := by
  have hcp := copy_lent hp
  have hmk := fun wx => Go.run_make_row' (P := Try.prog) 22 37 (.int .u32 0) 4 Try.underlying22 infoU32 rfl .i64 .i64 (zs.length + 2) (by omega) (by omega) wx
  have h0 := L0_at zs
  have h1 := L1_at zs
  have H2 : Hid (((L0 zs).setIfInBounds zs.length (.int .u32 71)).setIfInBounds (zs.length + 1) (.int .u32 72) = L2 zs) := L2_eq zs
  generalize zs.length = n at *
  generalize L0 zs = A0 at *
  have ec : ((n + 2 : Nat) : Int) = (n : Int) + 2 := by omega
  rw [ec] at hmk
  clear hp
  go_enter Try.func7, Try.ntmps7
  go_wp2
  go_ret
  exact ⟨rfl, by rw [H2.out]⟩
theorem L2_lo (zs : List Int) (j : Nat) (h : j < zs.length) : (L2 zs)[j]? = some (.int .u32 (zs.getD j 0)) := by
  simp [L2, u32s, List.getElem?_append, h, List.getD_eq_getElem?_getD]
theorem L2_n (zs : List Int) : (L2 zs)[zs.length]? = some (.int .u32 71) := by simp [L2, u32s]
theorem L2_n1 (zs : List Int) : (L2 zs)[zs.length + 1]? = some (.int .u32 72) := by simp [L2, u32s]
theorem L2_size (zs : List Int) : (L2 zs).size = zs.length + 2 := by simp [L2, u32s]
theorem partL2 {w : World} {g : Nat} {zs : List Int} (h : w.heap[g]? = some (.cells (L2 zs) 37 (0, 0))) (hw : Words zs) : PartU w (some ⟨g, 0, none⟩) (zs.length + 2) zs :=
  PartU.of_heap h (fun j hj => L2_lo zs j hj) hw (by omega)
set_option maxHeartbeats 2000000 in
theorem asLent_any (g : Nat) (a : Option Addr) (c : Nat) (zs : List Int) (w : World) (hp : PartU w a c zs) (hag : zs = [] ∨ blk a ≠ some g) (hl : zs.length ≤ 1048576) (hg : w.heap[g]? = some (.cells (L2 zs) 37 (0, 0))) :
    Calls Try.prog 10 #[.slice (some ⟨g, 0, none⟩) zs.length (zs.length + 2), .slice a zs.length c] w fun e w' => e = .returned (.bool true) ∧ But g w w' := by
  have l1 : w.cell? ⟨g, zs.length, none⟩ = some (.int .u32 71) := by rw [cell_of_heap hg, L2_n]
  have l2 : w.cell? ⟨g, zs.length + 1, none⟩ = some (.int .u32 72) := by rw [cell_of_heap hg, L2_n1]
  have HS : Hid ((L2 zs).size = zs.length + 2) := L2_size zs
  have HG : Hid (w.heap[g]? = some (.cells (L2 zs) 37 (0, 0))) := hg
  have HP := hid hp
  have HLO : Hid (∀ j, j < zs.length → (L2 zs)[j]? = some (.int .u32 (zs.getD j 0))) := fun j hj => L2_lo zs j hj
  obtain ⟨n, hn⟩ : ∃ n, n = zs.length := ⟨_, rfl⟩
  have HN := hid hn
  rw [← hn] at l1 l2 hl HS HLO ⊢
  have b1 : (n : Int) < (n : Int) + 2 := by omega
  have b2 : (n : Int) + 1 < (n : Int) + 2 := by omega
  have b3 : (0 : Int) ≤ (n : Int) := by omega
  have b4 : (0 : Int) ≤ (n : Int) + 1 := by omega
  have HAG := hid hag
  clear hg hp hn hag
  go_enter Try.func10, Try.ntmps10
  go_wp2
  go_loopw [6, 7] (fun b i wr => b = .bool true ∧ ∃ k : Nat, k ≤ n + 2 ∧ i = .int .i64 k ∧ Hid (But g w wr) ∧ ∃ X : Array Value, Hid (wr.heap[g]? = some (.cells X 37 (0, 0))) ∧ Hid (X.size = n + 2) ∧ Hid (∀ j, k ≤ j → X[j]? = (L2 zs)[j]?)) (fun _ i _ => n + 2 - (intOf i).toNat)
  case atStart => exact ⟨rfl, 0, by omega, rfl, But.refl g w, _, HG, HS, fun j _ => rfl⟩
  case round =>
    obtain ⟨rfl, k, hk, rfl, HO, X, HX, HXS, HXL⟩ := hrel
    clear l1 l2
    by_cases hlt : k < n + 2
    · have hlt2 : (k : Int) < (n : Int) + 2 := by omega
      have hf : wr.frozen? ⟨g, k, none⟩ = false := frozen_of_heap HX.out k
      by_cases hkn : k < n
      · have hkn2 : ¬ (n : Int) ≤ k := by omega
        have hkn3 : (k : Int) < n := by omega
        have hv : wr.cell? ⟨g, k, none⟩ = some (.int .u32 (zs.getD k 0)) := by rw [cell_of_heap HX.out, HXL.out k (Nat.le_refl _), HLO.out k hkn]
        obtain ⟨b, o, ha, hc⟩ : ∃ b o, a = some ⟨b, o, none⟩ ∧ wr.cell? ⟨b, o + k, none⟩ = some (.int .u32 (zs.getD k 0)) := by
          rcases HP.out.lies with h | ⟨b, o, ha, hc⟩
          · have := HN.out; rw [h] at this; simp at this; omega
          · refine ⟨b, o, ha, ?_⟩
            have h1 := hc k (by rw [← HN.out]; exact hkn)
            rw [HO.out.cell (p := ⟨b, o + k, none⟩) (fun e => HAG.out.elim (fun h => by have := HN.out; rw [h] at this; simp at this; omega) (fun h => h (by rw [ha]; simp only at e; simp [blk, e]))) (World.block_lt_of_cell? w _ h1), h1]
        subst ha
        generalize zs.getD k 0 = Z at hv hc
        go_wp2
        go_quiet (fail)
        have hv2 : (wr.drewN nq).cell? ⟨g, k, none⟩ = some (.int .u32 Z) := hv
        have hf2 : (wr.drewN nq).frozen? ⟨g, k, none⟩ = false := hf
        have HX2 : Hid ((wr.drewN nq).heap[g]? = some (.cells X 37 (0, 0))) := HX
        have HO2 : Hid (But g w (wr.drewN nq)) := HO.out.trans (But.drewN _ _ _)
        clear hv hf HX HO hc
        generalize wr.drewN nq = W at *
        go_wp2
        go_roundw
        case rel => exact ⟨rfl, k + 1, by omega, by go_num, HO2.out.trans (But.setCell _ _ _ _), _, heap_setCell HX2.out, by unfold Hid; simpa using HXS.out, fun j hj => by rw [Array.getElem?_setIfInBounds_ne (by omega)]; exact HXL.out j (by omega)⟩
        case measure => simp [intOf]; omega
      · have hkn2 : (n : Int) ≤ k := by omega
        obtain ⟨v, hv⟩ : ∃ v, wr.cell? ⟨g, k, none⟩ = some v := ⟨X[k]'(by rw [HXS.out]; exact hlt), by rw [cell_of_heap HX.out]; simp [HXS.out, hlt]⟩
        go_wp2
        go_quiet (fail)
        have hv2 : (wr.drewN nq).cell? ⟨g, k, none⟩ = some v := hv
        have hf2 : (wr.drewN nq).frozen? ⟨g, k, none⟩ = false := hf
        have HX2 : Hid ((wr.drewN nq).heap[g]? = some (.cells X 37 (0, 0))) := HX
        have HO2 : Hid (But g w (wr.drewN nq)) := HO.out.trans (But.drewN _ _ _)
        clear hv hf HX HO
        generalize wr.drewN nq = W at *
        go_wp2
        go_roundw
        case rel => exact ⟨rfl, k + 1, by omega, by go_num, HO2.out.trans (But.setCell _ _ _ _), _, heap_setCell HX2.out, by unfold Hid; simpa using HXS.out, fun j hj => by rw [Array.getElem?_setIfInBounds_ne (by omega)]; exact HXL.out j (by omega)⟩
        case measure => simp [intOf]; omega
    · have hge : ¬ (k : Int) < (n : Int) + 2 := by omega
      go_wp2
      go_ret
      exact ⟨rfl, HO.out⟩
end Go.Proofs.Ytdfefhiajleejaa
