/-
  The contract of digest.Hex: a digest as text.
-/
import Derived.Test.YtlephdpplfpliaaDNew
import Derived.Deep.RegionLaw
import Derived.RegionTactic
import Derived.Laws.BytesArg
import Derived.ArgAppend
namespace Go.Proofs.Ytlephdpplfpliaa
open Go.RowKit
set_option linter.unusedVariables false
set_option linter.unusedSimpArgs false

/-- the sign of a sixteenth. -/
def hexd (y : Int) : Int := if y < 10 then 48 + y else 87 + y
theorem hexd_bd (y : Int) (h0 : 0 ≤ y) (h1 : y < 16) : 0 ≤ hexd y ∧ hexd y ≤ 255 := by unfold hexd; split <;> omega
theorem hex_index (y : Int) (h0 : 0 ≤ y) (h1 : y < 16) (w : World) :
    (Instr.index 9 (.string ⟨#[48, 49, 50, 51, 52, 53, 54, 55, 56, 57, 97, 98, 99, 100, 101, 102]⟩) (.int .u8 y)).run Try.prog w = .ok (.int .u8 (hexd y)) w := by
  have h : y = 0 ∨ y = 1 ∨ y = 2 ∨ y = 3 ∨ y = 4 ∨ y = 5 ∨ y = 6 ∨ y = 7 ∨ y = 8 ∨ y = 9 ∨ y = 10 ∨ y = 11 ∨ y = 12 ∨ y = 13 ∨ y = 14 ∨ y = 15 := by omega
  rcases h with rfl | rfl | rfl | rfl | rfl | rfl | rfl | rfl | rfl | rfl | rfl | rfl | rfl | rfl | rfl | rfl <;> (show _ = _; kernel_rfl)
theorem and_15 (v : Int) (h0 : 0 ≤ v) (h1 : v ≤ 255) : bits BinOp.and IntKind.u8 v 15 = v % 16 := by
  rw [u8_and v 15 h0 (by omega) (by omega) (by omega)]
  rw [show (15 : Int).toNat = 2 ^ 4 - 1 from rfl, Nat.and_two_pow_sub_one_eq_mod]
  omega
def hx2 (z : Int) : List Int := [hexd (z / 16), hexd (z % 16)]
/-- the signs of bytes. -/
def hexL (d : List Int) : List Int := d.flatMap hx2
theorem hexL_len : ∀ d : List Int, (hexL d).length = 2 * d.length
  | [] => rfl
  | z :: r => by have := hexL_len r; simp [hexL, hx2] at this ⊢; omega
theorem hexL_bd : ∀ (d : List Int), (∀ z, z ∈ d → 0 ≤ z ∧ z ≤ 255) → ∀ y, y ∈ hexL d → 0 ≤ y ∧ y ≤ 255 := by
  intro d h y hy
  obtain ⟨z, hz, hy⟩ := List.mem_flatMap.1 hy
  have := h z hz
  simp only [hx2, List.mem_cons, List.not_mem_nil, or_false] at hy
  rcases hy with rfl | rfl
  · exact hexd_bd _ (by omega) (by omega)
  · exact hexd_bd _ (by omega) (by omega)
theorem take_next (d : List Int) (k : Nat) (h : k < d.length) : d.take (k + 1) = d.take k ++ [d.getD k 0] := by
  rw [List.take_succ_eq_append_getElem h]; simp [List.getD_eq_getElem?_getD, h]
/-- the room behind k signs' pairs. -/
def hexK (d : List Int) (k : Nat) : List Int := hexL (d.take k) ++ List.replicate (64 - 2 * k) 0
theorem hexK_len (d : List Int) (k : Nat) (h : k ≤ 32) (hd : d.length = 32) : (hexK d k).length = 64 := by
  simp [hexK, hexL_len, hd]; omega
theorem set2 (A R : List Value) (m : Nat) (hA : A.length = m) (z1 z2 c1 c2 : Value) : ((A ++ z1 :: z2 :: R).toArray.setIfInBounds m c1).setIfInBounds (m + 1) c2 = (A ++ c1 :: c2 :: R).toArray := by
  subst hA
  apply Array.ext'
  simp [List.set_append]
theorem hexK_next (d : List Int) (k : Nat) (h : k < 32) (hd : d.length = 32) : ((u8s (hexK d k)).toArray.setIfInBounds (2 * k) (.int .u8 (hexd (d.getD k 0 / 16)))).setIfInBounds (2 * k + 1) (.int .u8 (hexd (d.getD k 0 % 16))) = (u8s (hexK d (k + 1))).toArray := by
  have hl : (u8s (hexL (d.take k))).length = 2 * k := by rw [u8s_len, hexL_len]; simp; omega
  have e : 64 - 2 * k = (64 - 2 * (k + 1)) + 1 + 1 := by omega
  have e1 : u8s (hexK d k) = u8s (hexL (d.take k)) ++ (.int .u8 0 :: .int .u8 0 :: u8s (List.replicate (64 - 2 * (k + 1)) 0)) := by
    unfold hexK; rw [e, List.replicate_succ, List.replicate_succ]; simp [u8s]
  have e2 : u8s (hexK d (k + 1)) = u8s (hexL (d.take k)) ++ (.int .u8 (hexd (d.getD k 0 / 16)) :: .int .u8 (hexd (d.getD k 0 % 16)) :: u8s (List.replicate (64 - 2 * (k + 1)) 0)) := by
    unfold hexK; rw [take_next d k (by omega)]; simp [u8s, hexL, hx2]
  rw [e1, e2]
  exact set2 _ _ _ hl _ _ _ _
theorem step_append_run {P : Program} {ops : Array Oper} {o : Oper} {a : Act} {w : World} {K : Act → World → Prop} {Q : Exit → Act → World → Prop} {E : Prop} (hgd : o.guard = none) (d s : Operand) (t t' : TypeId)
    (ho : o.op = .call { callee := .builtin .append, args := #[d, s], argTypes := #[t, t'] }) (v u : Value) (hd : a.eval d = v) (hs : a.eval s = u) {v' : Value} {w' : World}
    (hr : (Builtin.append_ #[t, t'] o.type #[v, u]).run P w = .ok v' w') (h : K (a.put o.dst v') w') : if Region.wanted o (yielded ops a.tmps) = true then Oper.wp P o a w K Q else E := by
  have hw : Region.wanted o (yielded ops a.tmps) = true := by simp [Region.wanted, hgd]
  rw [if_pos hw]
  unfold Oper.wp execOp
  simp only [ho, resolve, invoke, builtin, Sem.run_bind, Sem.run_pure, Result.andThen_ok, List.map_toArray, List.map_cons, List.map_nil, hd, hs, hr]
  exact h
/-- two signs behind those that lie there. -/
theorem app_two (g k n : Nat) (cur : Array Value) (c1 c2 : Value) (w : World) (ty : TypeId) (hg : w.heap[g]? = some (.cells cur 5 (0, 0))) (hn : 2 * k + 2 ≤ cur.size) (hc : cur.size = n) (h1 : c1.oneCell' = true) (h2 : c2.oneCell' = true) :
    (Builtin.append_ #[37, 37] ty #[.slice (some ⟨g, 0, none⟩) (2 * k) n, .slice (some ⟨w.heap.size, 0, none⟩) 2 2]).run Try.prog (w.alloc (.cells #[c1, c2] 5)).drew =
      .ok (.slice (some ⟨g, 0, none⟩) (2 * k + 2) n) (((w.alloc (.cells #[c1, c2] 5)).drew.setCell ⟨g, 2 * k, none⟩ c1).setCell ⟨g, 2 * k + 1, none⟩ c2) := by
  have hgl : g < w.heap.size := (Array.getElem?_eq_some_iff.1 hg).1
  have hg2 : (w.alloc (.cells #[c1, c2] 5)).drew.heap[g]? = some (.cells cur 5 (0, 0)) := (heap_alloc_old w _ hgl).trans hg
  cases hq : Try.prog.info? 5 with
  | none => have := sizeU8; rw [hq] at this; simp at this
  | some i =>
    have hs : i.size = 1 := by have := sizeU8; rw [hq] at this; simpa using this
    have := run_append_room_cells (P := Try.prog) (w.alloc (.cells #[c1, c2] 5)).drew 37 ty 5 i Try.underlying37 hq g 0 (2 * k) n ⟨w.heap.size, 0, none⟩ 2 2 [c1, c2] (by rw [hs]; rfl)
      (fun j u hj => by
        rw [Addr.add_mid]
        show (w.alloc _).cell? _ = _
        rw [World.cell?_alloc_at _ _ _ _ rfl, Nat.zero_add]
        have hj2 := (List.getElem?_eq_some_iff.1 hj).1
        simpa using hj)
      (fun u hu => by simp at hu; rcases hu with rfl | rfl <;> assumption)
      (by omega)
      (fun j hj => by
        rw [cell_of_heap hg2, hs]
        simp only [List.length_cons, List.length_nil] at hj
        rw [Array.getElem?_eq_getElem (by omega)]; rfl)
      (fun j hj => frozen_of_heap hg2 _)
    rw [this, hs]
    simp [World.setCells]
set_option maxRecDepth 20000 in
set_option maxHeartbeats 1000000 in
theorem hex_any (d : List Int) (w : World) (hd : d.length = 32) (hb : ∀ z, z ∈ d → 0 ≤ z ∧ z ≤ 255) :
    Calls Try.prog 20 #[.agg (u8s d).toArray] w fun e w' => e = .returned (.string (strOfNums (hexL d))) ∧ Below w.heap.size w w' := by
  have HD : Hid (d.length = 32) := hd
  have HBD : Hid (∀ z, z ∈ d → 0 ≤ z ∧ z ≤ 255) := hb
  have HDL : Hid ((u8s d).length = 32) := by unfold Hid; rw [u8s_len, hd]
  have hmk : ∀ w, (Instr.makeSlice 37 (.int .i64 0) (.int .i64 64)).run Try.prog w = .ok (.slice (some ⟨w.heap.size, 0, none⟩) 0 64) (w.alloc (.cells (u8s (List.replicate 64 0)).toArray 5)) := fun _ => by kernel_rfl
  clear hd hb
  go_enter Try.func20, Try.ntmps20
  go_wp2_with (first
    | (refine wpList_load_row rfl 26 _ rfl w.heap.size rfl 26 (u8s d).toArray (0, 0) _ (by rw [heap_alloc_old (h := by simp)]; exact heap_alloc_last w _) Try.underlying26 rfl (by rw [size32]; simp [HDL.out]) ?_))
  go_loopw [3, 8] (fun b i wr => ∃ k : Nat, k ≤ 32 ∧ i = .int .i64 k ∧ b = .slice (some ⟨w.heap.size + 1, 0, none⟩) (2 * k) 64 ∧ wr.heap[w.heap.size + 1]? = some (.cells (u8s (hexK d k)).toArray 5 (0, 0)) ∧ Below w.heap.size w wr) (fun _ i _ => 32 - (intOf i).toNat)
  case atStart => exact ⟨0, by omega, rfl, rfl, heap_alloc2_new w _ _, ((Below.refl _ _).alloc (Nat.le_refl _) _).alloc (by simp) _⟩
  case round =>
    obtain ⟨k, hk, rfl, rfl, hg, hbl⟩ := hrel
    have HG : Hid (wr.heap[w.heap.size + 1]? = some (.cells (u8s (hexK d k)).toArray 5 (0, 0))) := hg
    have HB : Hid (Below w.heap.size w wr) := hbl
    clear hmk
    by_cases hlt : k < 32
    · have hlt2 : (k : Int) < 32 := by omega
      have hx := index_arr Try.underlying26 sizeU8 aggU8 (u8s d).toArray k hlt _ (u8s_at d k (by rw [HD.out]; exact hlt))
      have bz := getD_bd (by omega) HBD.out k
      have HNX : Hid (((u8s (hexK d k)).toArray.setIfInBounds (2 * k) (.int .u8 (hexd (d.getD k 0 / 16)))).setIfInBounds (2 * k + 1) (.int .u8 (hexd (d.getD k 0 % 16))) = (u8s (hexK d (k + 1))).toArray) := hexK_next d k hlt HD.out
      generalize d.getD k 0 = z at *
      have i1 := hex_index (z / 16) (by omega) (by omega)
      have i2 := hex_index (z % 16) (by omega) (by omega)
      have a15 := and_15 z bz.1 bz.2
      have HAP : Hid (∀ ty, _) := fun ty => app_two (w.heap.size + 1) k 64 (u8s (hexK d k)).toArray (.int .u8 (hexd (z / 16))) (.int .u8 (hexd (z % 16))) wr ty hg (by rw [List.size_toArray, u8s_len, hexK_len d k hk HD.out]; omega) (by rw [List.size_toArray, u8s_len, hexK_len d k hk HD.out]) rfl rfl
      have HFIN : Hid ((((wr.alloc (.cells #[Value.int .u8 (hexd (z / 16)), Value.int .u8 (hexd (z % 16))] 5)).drew.setCell ⟨w.heap.size + 1, 2 * k, none⟩ (.int .u8 (hexd (z / 16)))).setCell ⟨w.heap.size + 1, 2 * k + 1, none⟩ (.int .u8 (hexd (z % 16)))).heap[w.heap.size + 1]? = some (.cells (u8s (hexK d (k + 1))).toArray 5 (0, 0)) ∧ Below w.heap.size w (((wr.alloc (.cells #[Value.int .u8 (hexd (z / 16)), Value.int .u8 (hexd (z % 16))] 5)).drew.setCell ⟨w.heap.size + 1, 2 * k, none⟩ (.int .u8 (hexd (z / 16)))).setCell ⟨w.heap.size + 1, 2 * k + 1, none⟩ (.int .u8 (hexd (z % 16))))) := by
        have hgl := (Array.getElem?_eq_some_iff.1 HG.out).1
        refine ⟨?_, ?_⟩
        · have h2 : (wr.alloc (.cells #[Value.int .u8 (hexd (z / 16)), Value.int .u8 (hexd (z % 16))] 5)).drew.heap[w.heap.size + 1]? = some (.cells (u8s (hexK d k)).toArray 5 (0, 0)) := (heap_alloc_old wr _ hgl).trans HG.out
          have h3 := heap_setCell_at (j := 2 * k + 1) (v := .int .u8 (hexd (z % 16))) (heap_setCell_at (j := 2 * k) (v := .int .u8 (hexd (z / 16))) h2)
          rw [HNX.out] at h3
          exact h3
        · have hs := HB.out.size
          have b1 := (HB.out.alloc (by omega) (.cells #[Value.int .u8 (hexd (z / 16)), Value.int .u8 (hexd (z % 16))] 5)).drew
          exact (b1.trans ((But.setCell (w.heap.size + 1) _ (2 * k) _).below (by omega) b1.size)).trans ((But.setCell (w.heap.size + 1) _ (2 * k + 1) _).below (by omega) (by have := b1.size; simp [World.setCell]; omega))
      clear hg hbl
      go_wp2_with fail
      go_region_law (refine step_append_run rfl _ _ _ _ rfl _ _ rfl rfl (HAP.out _) ?_)
      all_goals go_wp2
      all_goals go_roundw
      all_goals first | (simp [intOf]; omega) | exact ⟨k + 1, by omega, by go_num, by rw [Nat.mul_add], HFIN.out⟩
    · obtain rfl : k = 32 := by omega
      have HCV : Hid ((convert 37 9 (.slice (some ⟨w.heap.size + 1, 0, none⟩) 64 64)).run Try.prog wr = .ok (.string (strOfNums (hexL d))) wr) := by
        have hhl : (hexL d).length = 64 := by rw [hexL_len, HD.out]
        have e : hexK d 32 = hexL d := by
          unfold hexK
          rw [List.take_of_length_le (by rw [HD.out]; omega)]
          simp
        rw [e] at hg
        exact run_convert_bytes_arg wr _ _ Try.underlying37 Try.underlying5 (w.heap.size + 1) 0 64 64 (hexL d) hhl (fun j hj => by rw [cell_of_heap hg, Nat.zero_add, u8s_at _ _ (by rw [hhl]; exact hj)]) _ Try.underlying9
      have hcv := HCV.out
      have hge : ¬ ((32 : Nat) : Int) < 32 := by omega
      have e64 : 2 * 32 = 64 := rfl
      clear hg hbl hlt
      go_wp2
      go_ret
      exact ⟨rfl, HB.out⟩
end Go.Proofs.Ytlephdpplfpliaa
