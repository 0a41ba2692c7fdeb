/-
  The contract of (*digest.Hash).Write: any bytes come.
-/
import Derived.Test.YtlephdpplfpliaaDHash
import Derived.Deep.RegionWith
namespace Go.Proofs.Ytlephdpplfpliaa
open Go.RowKit
set_option linter.unusedVariables false
set_option linter.unusedSimpArgs false

def lenV : Value → Nat
  | .slice _ n _ => n
  | _ => 0
theorem cells_len (x : HS) (h : x.buf.length = 64) : x.cells.length = 73 := by simp [HS.cells, u32s_len, u8s_len, l_len, h]
theorem cells_n (x : HS) (h : x.buf.length = 64) : x.cells.toArray[72]? = some (.int .i64 x.n) := by
  simp [HS.cells, u32s_len, u8s_len, l_len, h]
/-- the cells behind a chunk of bytes, ahead of the count. -/
theorem cells_copy (st : St) (buf : List Int) (n : Nat) (cs : List Int) (hb : buf.length = 64) (hp : n % 64 + cs.length ≤ 64) :
    (HS.cells ⟨st, buf, n⟩).take (8 + n % 64) ++ u8s cs ++ (HS.cells ⟨st, buf, n⟩).drop (8 + n % 64 + (u8s cs).length) = HS.cells ⟨st, splice buf (n % 64) cs, n⟩ := by
  have h8 : (u32s st.l).length = 8 := by rw [u32s_len]; rfl
  have h64 : (u8s buf).length = 64 := by rw [u8s_len, hb]
  have e : u8s (splice buf (n % 64) cs) = splice (u8s buf) (n % 64) (u8s cs) := by simp [u8s, splice, List.map_take, List.map_drop]
  simp only [HS.cells]
  rw [e, List.take_append, List.drop_append, h8]
  simp only [splice]
  rw [List.take_of_length_le (by omega), List.drop_of_length_le (by omega), show 8 + n % 64 - 8 = n % 64 by omega, show 8 + n % 64 + (u8s cs).length - 8 = n % 64 + (u8s cs).length by omega]
  rw [List.take_append_of_le_length (by omega), List.drop_append_of_le_length (by rw [u8s_len]; omega)]
  simp [List.append_assoc]
theorem cells_count (st : St) (buf : List Int) (n m : Nat) (hb : buf.length = 64) : (HS.cells ⟨st, buf, n⟩).set 72 (.int .i64 m) = HS.cells ⟨st, buf, m⟩ := by
  have h8 : (u32s st.l).length = 8 := by rw [u32s_len]; rfl
  have h64 : (u8s buf).length = 64 := by rw [u8s_len, hb]
  simp only [HS.cells]
  rw [List.set_append, if_neg (by omega), h8, List.set_append, if_neg (by omega), h64]
  rfl
theorem splice_bd (buf : List Int) (p : Nat) (cs : List Int) (hb : ∀ z, z ∈ buf → 0 ≤ z ∧ z ≤ 255) (hc : ∀ z, z ∈ cs → 0 ≤ z ∧ z ≤ 255) : ∀ z, z ∈ splice buf p cs → 0 ≤ z ∧ z ≤ 255 := by
  intro z hz
  simp only [splice, List.mem_append] at hz
  rcases hz with h | h | h
  · exact hb z (List.mem_of_mem_take h)
  · exact hc z h
  · exact hb z (List.mem_of_mem_drop h)

theorem cells_words (st st' : St) (buf : List Int) (n : Nat) : (HS.cells ⟨st, buf, n⟩).take 0 ++ u32s st'.l ++ (HS.cells ⟨st, buf, n⟩).drop (0 + (u32s st'.l).length) = HS.cells ⟨st', buf, n⟩ := by
  have h8 : (u32s st.l).length = 8 := by rw [u32s_len]; rfl
  have h8' : (u32s st'.l).length = 8 := by rw [u32s_len]; rfl
  simp only [HS.cells, List.take_zero, List.nil_append, Nat.zero_add, h8']
  rw [List.drop_append, h8, List.drop_of_length_le (by omega)]
  simp
/-- new words are laid. -/
theorem store_words {w : World} {g : Nat} {st R : St} {bf : List Int} {n : Nat} (hb : bf.length = 64) (h : w.heap[g]? = some (.cells (HS.cells ⟨st, bf, n⟩).toArray 51 (0, 0))) :
    (storeCells ⟨g, 0, none⟩ (u32s R.l) 0).run Try.prog w = .ok () (w.setRow g (HS.cells ⟨R, bf, n⟩).toArray) := by
  have := run_storeCells_at Try.prog g 0 51 (u32s R.l) 0 _ w h (by rw [u32s_len, List.size_toArray, cells_len _ hb]; simp [l_len]) (u32s_one _)
  rw [Nat.add_zero, Nat.zero_add] at this
  rw [this]
  have e := cells_words st R bf n
  rw [Nat.zero_add] at e
  rw [← e]
theorem wp_store_run {P : Program} {o : Oper} {a : Act} {w w' : World} {K : Act → World → Prop} {Q : Exit → Act → World → Prop} (ty : TypeId) (x y : Operand) (ho : o.op = .store ty x y) (hr : (Instr.storeAt ty (a.eval x) (a.eval y)).run P w = .ok () w') (h : K (a.put o.dst undef) w') : o.wp P a w K Q := by
  unfold Oper.wp execOp
  simp only [ho, Sem.run_bind, Sem.run_pure, hr, Result.andThen_ok]
  exact h
theorem storeAt_words {w : World} {g : Nat} {st R : St} {bf : List Int} {n : Nat} (hb : bf.length = 64) (h : w.heap[g]? = some (.cells (HS.cells ⟨st, bf, n⟩).toArray 51 (0, 0))) :
    (Instr.storeAt 48 (.pointer (some ⟨g, 0, none⟩)) (.agg (u32s R.l).toArray)).run Try.prog w = .ok () (w.setRow g (HS.cells ⟨R, bf, n⟩).toArray) := by
  have := store_words (R := R) hb h
  have hl : (u32s R.l).length = 8 := by rw [u32s_len]; rfl
  cases hq : Try.prog.info? 48 with
  | none => have e := size8; rw [hq] at e; simp at e
  | some i =>
    have hs : i.size = 8 := by have e := size8; rw [hq] at e; simpa using e
    simp [Instr.storeAt, Instr.sureAddr, storeVar, sizeOf, typeInfo, hq, Value.cells, hs, hl, this]
theorem range_w {w : World} {g : Nat} {st : St} {bf : List Int} {n : Nat} (h : w.heap[g]? = some (.cells (HS.cells ⟨st, bf, n⟩).toArray 51 (0, 0))) : w.rangeAt g 0 (u32s st.l) := fun j v hj => by
  rw [cell_of_heap h, Nat.zero_add]
  have hl := (List.getElem?_eq_some_iff.1 hj).1
  simp only [HS.cells, List.getElem?_toArray]
  rw [List.getElem?_append_left hl, hj]
theorem load_from {w : World} {g o n : Nat} {cs : List Value} (h : w.rangeAt g o cs) (hn : cs.length = n) : (loadCellsFrom ⟨g, o, none⟩ 0 n #[]).run Try.prog w = .ok cs.toArray w := by
  subst hn
  exact run_loadCells_list (P := Try.prog) w ⟨g, o, none⟩ cs (fun j v hv => by rw [Addr.add_mid]; exact h j v hv)
theorem range_b {w : World} {g : Nat} {st : St} {bf : List Int} {n : Nat} (h : w.heap[g]? = some (.cells (HS.cells ⟨st, bf, n⟩).toArray 51 (0, 0))) : w.rangeAt g 8 (u8s bf) := fun j v hj => by
  rw [cell_of_heap h]
  have hl := (List.getElem?_eq_some_iff.1 hj).1
  have h8 : (u32s st.l).length = 8 := by rw [u32s_len]; rfl
  simp only [HS.cells, List.getElem?_toArray]
  rw [List.getElem?_append_right (by omega), h8, show 8 + j - 8 = j by omega, List.getElem?_append_left hl, hj]

theorem write_step (g : Nat) (w wr W' : World) (p pt : Part) (x y0 y : HS) (m : Nat) (hpo : p.ok wr) (hpf : p.off g) (hm : m ≤ p.zs.length) (hb : But g wr W') (hbw : But g w W') (hy : y.ok) (hab0 : absorb y0 p.zs = absorb x pt.zs) (hc : absorb y0 (p.zs.take m) = y) (hn0 : y0.n + p.zs.length = x.n + pt.zs.length) (hyn : y.n = y0.n + m) (hg : W'.heap[g]? = some (.cells y.cells.toArray 51 (0, 0))) :
    ∃ (q : Part) (z : HS), (p.from m).val = q.val ∧ q.ok W' ∧ q.off g ∧ z.ok ∧ absorb z q.zs = absorb x pt.zs ∧ z.n + q.zs.length = x.n + pt.zs.length ∧ W'.heap[g]? = some (.cells z.cells.toArray 51 (0, 0)) ∧ But g w W' := by
  refine ⟨p.from m, y, rfl, Part.from_ok (Part.ok_but hpo hpf hb) m hm, Part.from_off hpf m wr hpo hm, hy, ?_, ?_, hg, hbw⟩
  · rw [← hab0, ← hc, ← absorb_app]
    show absorb y0 (p.zs.take m ++ p.zs.drop m) = _
    rw [List.take_append_drop]
  · have : (p.from m).zs.length = p.zs.length - m := by simp [Part.from]
    omega
theorem from_len (p : Part) (m : Nat) : lenV (p.from m).val = p.zs.length - m := by simp [Part.from, Part.val, lenV]

set_option maxHeartbeats 1000000 in
set_option maxRecDepth 20000 in
theorem write_any (g : Nat) (x : HS) (pt : Part) (w : World) (hx : x.ok) (hg : w.heap[g]? = some (.cells x.cells.toArray 51 (0, 0))) (hp : pt.ok w) (hf : pt.off g) (hn : x.n + pt.zs.length ≤ 4611686018427387904) :
    Calls Try.prog 14 #[.pointer (some ⟨g, 0, none⟩), pt.val] w fun e w' => e = .returned (.tuple #[]) ∧ w'.heap[g]? = some (.cells (absorb x pt.zs).cells.toArray 51 (0, 0)) ∧ But g w w' := by
  have HX : Hid x.ok := hx
  have HG : Hid (w.heap[g]? = some (.cells x.cells.toArray 51 (0, 0))) := hg
  have HP : Hid (pt.ok w) := hp
  have HF : Hid (pt.off g) := hf
  have HNN : Hid (x.n + pt.zs.length ≤ 4611686018427387904) := hn
  obtain ⟨v0, hv0⟩ : ∃ v, v = pt.val := ⟨_, rfl⟩
  have HV0 : Hid (v0 = pt.val) := hv0
  rw [← hv0]
  clear hx hg hp hf hn hv0
  go_enter Try.func14, Try.ntmps14
  go_wp2_with fail
  go_loopw [1] (fun b wr => ∃ (p : Part) (y : HS), b = p.val ∧ p.ok wr ∧ p.off g ∧ y.ok ∧ absorb y p.zs = absorb x pt.zs ∧ y.n + p.zs.length = x.n + pt.zs.length ∧ wr.heap[g]? = some (.cells y.cells.toArray 51 (0, 0)) ∧ But g w wr) (fun b _ => lenV b)
  case atStart => exact ⟨pt, x, HV0.out, HP.out, HF.out, HX.out, rfl, rfl, HG.out, But.refl _ _⟩
  case round =>
    obtain ⟨p, y, rfl, hpo, hpf, hyo, hab, hyn, hyg, hbt⟩ := hrel
    have hnn := HNN.out
    by_cases hz : p.zs = []
    · have HE : Hid (absorb x pt.zs = y) := by unfold Hid; rw [← hab, hz]; rfl
      have HY : Hid (wr.heap[g]? = some (.cells y.cells.toArray 51 (0, 0))) := hyg
      have HB : Hid (But g w wr) := hbt
      have hl0 : p.zs.length = 0 := by rw [hz]; rfl
      unfold Part.val
      rw [hl0]
      clear hpo hpf hyo hab hyn hyg hbt hz hnn
      go_wp2
      go_end0
      exact ⟨rfl, by rw [HE.out]; exact HY.out, HB.out⟩
    · obtain ⟨b, o, hpa, hpc⟩ : ∃ b o, p.a = some ⟨b, o, none⟩ ∧ ∀ j, j < p.zs.length → wr.cell? ⟨b, o + j, none⟩ = some (.int .u8 (p.zs.getD j 0)) := by
        rcases hpo.2.2 with h | h
        · exact absurd h hz
        · exact h
      have hpos : 0 < p.zs.length := List.length_pos_iff.2 hz
      obtain ⟨st, buf, n⟩ := y
      have hb64 : buf.length = 64 := hyo.2.1
      have hnb : n + p.zs.length ≤ 4611686018427387904 := by simp only at hyn; omega
      obtain ⟨q, hq⟩ : ∃ q, q = n % 64 := ⟨_, rfl⟩
      have hq64 : q < 64 := by omega
      obtain ⟨m, hm⟩ : ∃ m, m = Nat.min p.zs.length (64 - q) := ⟨_, rfl⟩
      have hm2 : m ≤ p.zs.length := by rw [hm]; exact Nat.min_le_left _ _
      have hm4 : m ≤ 64 - q := by rw [hm]; exact Nat.min_le_right _ _
      have hm1 : 0 < m := by rw [hm]; exact Nat.lt_min.2 ⟨hpos, by omega⟩
      have hm3 : q + m ≤ 64 := by omega
      have hcl : (p.zs.take m).length = m := by simp; omega
      have hcy := cells_copy st buf n (p.zs.take m) hb64 (by rw [hcl, ← hq]; exact hm3)
      rw [← hq] at hcy
      have hcp : ∀ ty, (Builtin.copy_ #[37, 37] ty #[.slice (some ⟨g, 8 + q, none⟩) (64 - q) (64 - q), p.val]).run Try.prog wr.drew = .ok (goInt m) (wr.drew.setRow g (HS.cells ⟨st, splice buf q (p.zs.take m), n⟩).toArray) := fun ty => by
        unfold Part.val
        rw [hpa, run_copy_row (P := Try.prog) wr.drew _ _ _ 5 g (8 + q) _ _ _ _ _ (HS.cells ⟨st, buf, n⟩).toArray 51 (u8s (p.zs.take m)) Try.underlying37 sizeU8 hyg (by rw [u8s_len, hcl, hm]) (fun j v hj => by
          have hjm : j < m := by
            have := (List.getElem?_eq_some_iff.1 hj).1
            rw [u8s_len, hcl] at this; exact this
          rw [Addr.add_mid]
          show wr.cell? _ = _
          rw [hpc j (by omega), ← hj]
          simp [u8s, hjm, List.getD_eq_getElem?_getD, show j < p.zs.length by omega]) (by rw [u8s_len, hcl, List.size_toArray, cells_len _ hb64]; omega) (u8s_one _)]
        rw [hcy, u8s_len, hcl]
      have hsl := slice_arr Try.underlying49 sizeU8 g 8 q hq64 (q : Int) rfl
      have htm : (n : Int).tmod 64 = (q : Int) := by rw [Int.tmod_eq_emod_of_nonneg (by omega)]; omega
      have c72 : wr.cell? ⟨g, 72, none⟩ = some (.int .i64 n) := by rw [cell_of_heap hyg]; exact cells_n _ hb64
      have hLpos : (0 : Int) < (p.zs.length : Int) := by omega
      have HYG : Hid (wr.heap[g]? = some (.cells (HS.cells ⟨st, buf, n⟩).toArray 51 (0, 0))) := hyg
      have hv : p.val = .slice (some ⟨b, o, none⟩) p.zs.length p.c := by rw [← hpa]; rfl
      have HPS : Hid (∀ w', (Instr.sliceAt 37 (.slice (some ⟨b, o, none⟩) p.zs.length p.c) (some (.int .i64 (m : Int))) none none).run Try.prog w' = .ok (p.from m).val w') := fun w' => by rw [← hv]; exact part_slice p m hm2 w' _ rfl
      rw [hv] at hcp ⊢
      clear hv
      obtain ⟨W5, hW5⟩ : ∃ W5, W5 = wr.drew.setRow g (HS.cells ⟨st, splice buf q (p.zs.take m), n⟩).toArray := ⟨_, rfl⟩
      have HW5 : Hid (W5.heap[g]? = some (.cells (HS.cells ⟨st, splice buf q (p.zs.take m), n⟩).toArray 51 (0, 0))) := by
        rw [hW5]; exact setRow_heap _ _ _ _ _ _ (show wr.drew.heap[g]? = _ from hyg)
      have HB5 : Hid (But g w W5) := by rw [hW5]; exact (hbt.trans (But.drew g wr)).trans (But.setRow g _ _)
      have hsl64 : (splice buf q (p.zs.take m)).length = 64 := by rw [length_splice _ _ _ (by rw [hcl, hb64]; omega), hb64]
      have HSL : Hid _ := hsl64
      have d72 : W5.cell? ⟨g, 72, none⟩ = some (.int .i64 n) := by rw [cell_of_heap HW5.out]; exact cells_n _ hsl64
      have f72 : W5.frozen? ⟨g, 72, none⟩ = false := frozen_of_heap HW5.out 72
      have HW6 : Hid ((W5.setCell ⟨g, 72, none⟩ (.int .i64 ((n : Int) + (m : Int)))).heap[g]? = some (.cells (HS.cells ⟨st, splice buf q (p.zs.take m), n + m⟩).toArray 51 (0, 0))) := by
        have h := heap_setCell_at (j := 72) (v := .int .i64 ((n : Int) + (m : Int))) HW5.out
        have h2 := cells_count st (splice buf q (p.zs.take m)) n (n + m) hsl64
        rw [← h2]
        unfold Hid
        rw [h]
        simp
      obtain ⟨r, hr⟩ : ∃ r, r = (n + m) % 64 := ⟨_, rfl⟩
      have HR : Hid (r = (n + m) % 64) := hr
      have htm2 : ((n : Int) + (m : Int)).tmod 64 = (r : Int) := by rw [Int.tmod_eq_emod_of_nonneg (by omega)]; omega
      have HCH : Hid _ := absorb_chunk (p.zs.take m) ⟨st, buf, n⟩ hb64 (by rw [hcl, ← hq]; exact hm3)
      have HNE : Hid (p.zs.take m ≠ []) := fun e => by rw [e] at hcl; simp at hcl; omega
      have HPO : Hid (p.ok wr) := hpo
      have HPF : Hid (p.off g) := hpf
      have HYO : Hid _ := hyo
      have HAB : Hid _ := hab
      have HYN : Hid (n + p.zs.length = x.n + pt.zs.length) := hyn
      have HCL : Hid _ := hcl
      have HQ : Hid (q = n % 64) := hq
      have HB64 : Hid _ := hb64
      rw [← hW5] at hcp
      have HBW5 : Hid (But g wr W5) := by rw [hW5]; exact (But.drew g wr).trans (But.setRow g _ _)
      obtain ⟨L, hL⟩ : ∃ L, L = p.zs.length := ⟨_, rfl⟩
      have HLL : Hid (L = p.zs.length) := hL
      rw [← hL] at hcp hm2 hnb hLpos HYN HPS ⊢
      generalize p.c = C at *
      clear hpa hpc hyg hpo hpf hyo hab hyn hbt hz hcl hcy hm hq hb64 hW5 hpos hnn hsl64 hr hL
      go_wp2_with fail
      go_region_held3 (fun w' => w'.cell? ⟨g, 72, none⟩ = some (.int .i64 n)) (first | assumption | go_keep) (fail)
      clear hcp c72 hsl htm
      by_cases hr0 : r = 0
      · subst hr0
        go_wp2_with (refine wpList_slice_run rfl 37 _ _ rfl (p.from m).val (HPS.out _) ?_)
        have HBB : Hid (∀ z, z ∈ splice buf q (p.zs.take m) → 0 ≤ z ∧ z ≤ 255) := splice_bd _ _ _ HYO.out.2.2 (fun z hz => HPO.out.1 z (List.mem_of_mem_take hz))
        have HB6 : Hid (But g w (W5.setCell ⟨g, 72, none⟩ (.int .i64 ((n : Int) + (m : Int))))) := HB5.out.trans (But.setCell g _ _ _)
        have HST : Hid st.ok := HYO.out.1
        have HC2 : Hid (absorb ⟨st, buf, n⟩ (p.zs.take m) = ⟨comp st (splice buf q (p.zs.take m)), splice buf q (p.zs.take m), n + m⟩) := by
          unfold Hid
          rw [HCH.out]
          simp only [HCL.out, ← HQ.out]
          rw [if_pos ⟨HNE.out, HR.out.symm⟩]
        have HBW6 : Hid (But g wr (W5.setCell ⟨g, 72, none⟩ (.int .i64 ((n : Int) + (m : Int))))) := HBW5.out.trans (But.setCell g _ _ _)
        generalize splice buf q (p.zs.take m) = bf at *
        have HRO : Hid (comp st bf).ok := comp_ok st bf
        generalize W5.setCell ⟨g, 72, none⟩ (.int .i64 ((n : Int) + (m : Int))) = W6 at *
        have HMX : Hid (∀ w, Calls Try.prog 22 #[.agg (u32s st.l).toArray, .agg (u8s bf).toArray] w fun e w' => e = .returned (.agg (u32s (comp st bf).l).toArray) ∧ Below w.heap.size w w') := fun w => mix_any st bf w HST.out HSL.out HBB.out
        generalize comp st bf = R at *
        have HCALL : Hid (Calls Try.prog 22 #[.agg (u32s st.l).toArray, .agg (u8s bf).toArray] W6.drew fun e w' => e = .returned (.agg (u32s R.l).toArray) ∧ (w'.heap[g]? = some (.cells (HS.cells ⟨st, bf, n + m⟩).toArray 51 (0, 0)) ∧ But g W6 w')) :=
          (HMX.out W6.drew).mono fun e w' ⟨he, hb⟩ => ⟨he, (hb.block g (Array.getElem?_eq_some_iff.1 HW6.out).1).trans HW6.out, (But.drew g W6).trans (But.of_below hb)⟩
        clear d72 f72 HCH htm2 HMX
        have rA : Hid (W6.drew.rangeAt g 0 (u32s st.l)) := range_w (w := W6.drew) (st := st) (bf := bf) (n := n + m) HW6.out
        have rB : Hid (W6.drew.rangeAt g 8 (u8s bf)) := range_b (w := W6.drew) (st := st) (bf := bf) (n := n + m) HW6.out
        have sA : Hid ((Try.prog.info? 48).map (·.size) = some (u32s st.l).length) := by unfold Hid; rw [size8, u32s_len]; rfl
        have sB : Hid ((Try.prog.info? 49).map (·.size) = some (u8s bf).length) := by unfold Hid; rw [sizeB64, u8s_len, HSL.out]
        refine wp_region_noPanic ?_
        refine wp_region_any (by kernel_rfl) ?_
        change wpAny _ _ _ _ _ _ _ (World.drew _)
        refine wpAny_take (i := 0) (oi := { dst := some 36, op := .move (.tmp 0), type := _, pos := _, after := _, guard := none }) (v := .pointer (some ⟨g, 0, none⟩)) rfl (by kernel_rfl) (by kernel_rfl) (by kernel_rfl) (fun _ _ _ h => h) (Or.inl ⟨by rfl, fun w => by go_simp⟩) ?_
        simp only [Act.put, List.setIfInBounds_toArray, List.set_cons_zero, List.set_cons_succ]
        refine wpAny_take (i := 1) (oi := { dst := some 37, op := .move (.tmp 0), type := _, pos := _, after := _, guard := none }) (v := .pointer (some ⟨g, 0, none⟩)) rfl (by kernel_rfl) (by kernel_rfl) (by kernel_rfl) (fun _ _ _ h => h) (Or.inl ⟨by rfl, fun w => by go_simp⟩) ?_
        simp only [Act.put, List.setIfInBounds_toArray, List.set_cons_zero, List.set_cons_succ]
        refine wpAny_take (i := 2) (oi := { dst := some 38, op := .nilCheck (.tmp 37), type := _, pos := _, after := _, guard := none }) (v := .pointer (some ⟨g, 0, none⟩)) rfl (by kernel_rfl) (by kernel_rfl) (by kernel_rfl) (fun _ _ _ h => h) (Or.inl ⟨by rfl, fun w => by go_simp⟩) ?_
        simp only [Act.put, List.setIfInBounds_toArray, List.set_cons_zero, List.set_cons_succ]
        refine wpAny_take (i := 3) (oi := { dst := some 39, op := .fieldAddr 51 (.tmp 38) 0, type := _, pos := _, after := _, guard := none }) (v := .pointer (some ⟨g, 0, none⟩)) rfl (by kernel_rfl) (by kernel_rfl) (by kernel_rfl) (fun _ _ _ h => h) (Or.inl ⟨by rfl, fun w => by go_simp⟩) ?_
        simp only [Act.put, List.setIfInBounds_toArray, List.set_cons_zero, List.set_cons_succ]
        refine wpAny_take (i := 5) (oi := { dst := some 41, op := .move (.tmp 0), type := _, pos := _, after := _, guard := none }) (v := .pointer (some ⟨g, 0, none⟩)) rfl (by kernel_rfl) (by kernel_rfl) (by kernel_rfl) (fun _ _ _ h => h) (Or.inl ⟨by rfl, fun w => by go_simp⟩) ?_
        simp only [Act.put, List.setIfInBounds_toArray, List.set_cons_zero, List.set_cons_succ]
        refine wpAny_take (i := 6) (oi := { dst := some 42, op := .nilCheck (.tmp 41), type := _, pos := _, after := _, guard := none }) (v := .pointer (some ⟨g, 0, none⟩)) rfl (by kernel_rfl) (by kernel_rfl) (by kernel_rfl) (fun _ _ _ h => h) (Or.inl ⟨by rfl, fun w => by go_simp⟩) ?_
        simp only [Act.put, List.setIfInBounds_toArray, List.set_cons_zero, List.set_cons_succ]
        refine wpAny_take (i := 7) (oi := { dst := some 43, op := .fieldAddr 51 (.tmp 42) 1, type := _, pos := _, after := _, guard := none }) (v := .pointer (some ⟨g, 8, none⟩)) rfl (by kernel_rfl) (by kernel_rfl) (by kernel_rfl) (fun _ _ _ h => h) (Or.inl ⟨by rfl, fun w => by go_simp⟩) ?_
        simp only [Act.put, List.setIfInBounds_toArray, List.set_cons_zero, List.set_cons_succ]
        refine wpAny_ready (rs := [4, 8]) (by kernel_rfl) (by simp) ?_
        refine BigFrame.allReady_want (o := { dst := some 40, op := .load 48 (.tmp 39), type := _, pos := _, after := _, guard := none }) rfl (by rfl) (fun K hK => ?_) (BigFrame.allReady_want (o := { dst := some 44, op := .load 49 (.tmp 43), type := _, pos := _, after := _, guard := none }) rfl (by rfl) (fun K hK => ?_) AllReady.nil)
        · refine wp_load_mid 48 _ rfl g 0 rfl (u32s st.l) _ rA.out Try.underlying48 rfl sA.out ?_
          refine hK _ _ ?_
          simp only [Act.put, List.setIfInBounds_toArray, List.set_cons_zero, List.set_cons_succ]
          refine wpAny_ready (rs := [8]) (by kernel_rfl) (by simp) ?_
          refine BigFrame.allReady_want (o := { dst := some 44, op := .load 49 (.tmp 43), type := _, pos := _, after := _, guard := none }) rfl (by rfl) (fun K hK => ?_) AllReady.nil
          refine wp_load_mid 49 _ rfl g 8 rfl (u8s bf) _ rB.out Try.underlying49 rfl sB.out ?_
          refine hK _ _ ?_
          simp only [Act.put, List.setIfInBounds_toArray, List.set_cons_zero, List.set_cons_succ]
          refine wpAny_ready (rs := [9]) (by kernel_rfl) (by simp) ?_
          refine BigFrame.allReady_want (o := { dst := some 45, op := .call { callee := .value (.func 22), args := #[.tmp 40, .tmp 44], argTypes := #[48, 49] }, type := _, pos := _, after := _, guard := none }) rfl (by rfl) (fun K hK => ?_) AllReady.nil
          go_simp
          refine HCALL.out.mono ?_
          rintro en w7 ⟨rfl, hg7, hb7⟩
          refine hK _ _ ?_
          try simp only [Act.put, List.setIfInBounds_toArray, List.set_cons_zero, List.set_cons_succ]
          refine wpAny_take (i := 10) (oi := { dst := some 46, op := .nilCheck (.tmp 36), type := _, pos := _, after := _, guard := none }) (v := .pointer (some ⟨g, 0, none⟩)) rfl (by kernel_rfl) (by kernel_rfl) (by kernel_rfl) (fun _ _ _ h => h) (Or.inl ⟨by rfl, fun w => by go_simp⟩) ?_
          simp only [Act.put, List.setIfInBounds_toArray, List.set_cons_zero, List.set_cons_succ]
          refine wpAny_take (i := 11) (oi := { dst := some 47, op := .fieldAddr 51 (.tmp 46) 0, type := _, pos := _, after := _, guard := none }) (v := .pointer (some ⟨g, 0, none⟩)) rfl (by kernel_rfl) (by kernel_rfl) (by kernel_rfl) (fun _ _ _ h => h) (Or.inl ⟨by rfl, fun w => by go_simp⟩) ?_
          simp only [Act.put, List.setIfInBounds_toArray, List.set_cons_zero, List.set_cons_succ]
          refine wpAny_ready (rs := [12]) (by kernel_rfl) (by simp) ?_
          refine BigFrame.allReady_want (o := { dst := none, op := .store 48 (.tmp 47) (.tmp 45), type := _, pos := _, after := _, guard := none }) rfl (by rfl) (fun K hK => ?_) AllReady.nil
          refine wp_store_run 48 _ _ rfl (storeAt_words (R := R) HSL.out hg7) ?_
          refine hK _ _ ?_
          simp only [Act.put, List.setIfInBounds_toArray, List.set_cons_zero, List.set_cons_succ]
          refine wpAny_done (by kernel_rfl) ?_ _
          refine NoPanic.normal ?_
          have HG7 : Hid (w7.heap[g]? = some (.cells (HS.cells ⟨st, bf, n + m⟩).toArray 51 (0, 0))) := hg7
          have HB7 : Hid (But g W6 w7) := hb7
          clear hg7 hb7
          go_wp2
          refine ⟨write_step g w wr _ p pt x ⟨st, buf, n⟩ ⟨R, bf, n + m⟩ m HPO.out HPF.out (by rw [← HLL.out]; exact hm2) ((HBW6.out.trans HB7.out).trans (But.setRow g _ _)) ((HB6.out.trans HB7.out).trans (But.setRow g _ _)) ⟨HRO.out, HSL.out, HBB.out⟩ HAB.out HC2.out (by rw [← HLL.out]; exact HYN.out) rfl (setRow_heap _ _ _ _ _ _ HG7.out), ?_⟩
          rw [from_len, ← HLL.out]
          simp only [lenV]
          omega
        · refine wp_load_mid 49 _ rfl g 8 rfl (u8s bf) _ rB.out Try.underlying49 rfl sB.out ?_
          refine hK _ _ ?_
          simp only [Act.put, List.setIfInBounds_toArray, List.set_cons_zero, List.set_cons_succ]
          refine wpAny_ready (rs := [4]) (by kernel_rfl) (by simp) ?_
          refine BigFrame.allReady_want (o := { dst := some 40, op := .load 48 (.tmp 39), type := _, pos := _, after := _, guard := none }) rfl (by rfl) (fun K hK => ?_) AllReady.nil
          refine wp_load_mid 48 _ rfl g 0 rfl (u32s st.l) _ rA.out Try.underlying48 rfl sA.out ?_
          refine hK _ _ ?_
          simp only [Act.put, List.setIfInBounds_toArray, List.set_cons_zero, List.set_cons_succ]
          refine wpAny_ready (rs := [9]) (by kernel_rfl) (by simp) ?_
          refine BigFrame.allReady_want (o := { dst := some 45, op := .call { callee := .value (.func 22), args := #[.tmp 40, .tmp 44], argTypes := #[48, 49] }, type := _, pos := _, after := _, guard := none }) rfl (by rfl) (fun K hK => ?_) AllReady.nil
          go_simp
          refine HCALL.out.mono ?_
          rintro en w7 ⟨rfl, hg7, hb7⟩
          refine hK _ _ ?_
          try simp only [Act.put, List.setIfInBounds_toArray, List.set_cons_zero, List.set_cons_succ]
          refine wpAny_take (i := 10) (oi := { dst := some 46, op := .nilCheck (.tmp 36), type := _, pos := _, after := _, guard := none }) (v := .pointer (some ⟨g, 0, none⟩)) rfl (by kernel_rfl) (by kernel_rfl) (by kernel_rfl) (fun _ _ _ h => h) (Or.inl ⟨by rfl, fun w => by go_simp⟩) ?_
          simp only [Act.put, List.setIfInBounds_toArray, List.set_cons_zero, List.set_cons_succ]
          refine wpAny_take (i := 11) (oi := { dst := some 47, op := .fieldAddr 51 (.tmp 46) 0, type := _, pos := _, after := _, guard := none }) (v := .pointer (some ⟨g, 0, none⟩)) rfl (by kernel_rfl) (by kernel_rfl) (by kernel_rfl) (fun _ _ _ h => h) (Or.inl ⟨by rfl, fun w => by go_simp⟩) ?_
          simp only [Act.put, List.setIfInBounds_toArray, List.set_cons_zero, List.set_cons_succ]
          refine wpAny_ready (rs := [12]) (by kernel_rfl) (by simp) ?_
          refine BigFrame.allReady_want (o := { dst := none, op := .store 48 (.tmp 47) (.tmp 45), type := _, pos := _, after := _, guard := none }) rfl (by rfl) (fun K hK => ?_) AllReady.nil
          refine wp_store_run 48 _ _ rfl (storeAt_words (R := R) HSL.out hg7) ?_
          refine hK _ _ ?_
          simp only [Act.put, List.setIfInBounds_toArray, List.set_cons_zero, List.set_cons_succ]
          refine wpAny_done (by kernel_rfl) ?_ _
          refine NoPanic.normal ?_
          have HG7 : Hid (w7.heap[g]? = some (.cells (HS.cells ⟨st, bf, n + m⟩).toArray 51 (0, 0))) := hg7
          have HB7 : Hid (But g W6 w7) := hb7
          clear hg7 hb7
          go_wp2
          refine ⟨write_step g w wr _ p pt x ⟨st, buf, n⟩ ⟨R, bf, n + m⟩ m HPO.out HPF.out (by rw [← HLL.out]; exact hm2) ((HBW6.out.trans HB7.out).trans (But.setRow g _ _)) ((HB6.out.trans HB7.out).trans (But.setRow g _ _)) ⟨HRO.out, HSL.out, HBB.out⟩ HAB.out HC2.out (by rw [← HLL.out]; exact HYN.out) rfl (setRow_heap _ _ _ _ _ _ HG7.out), ?_⟩
          rw [from_len, ← HLL.out]
          simp only [lenV]
          omega
      · -- no new block
        have hr1 : ¬ (r : Int) = 0 := by omega
        have HBB : Hid (∀ z, z ∈ splice buf q (p.zs.take m) → 0 ≤ z ∧ z ≤ 255) := splice_bd _ _ _ HYO.out.2.2 (fun z hz => HPO.out.1 z (List.mem_of_mem_take hz))
        have HB6 : Hid (But g w (W5.setCell ⟨g, 72, none⟩ (.int .i64 ((n : Int) + (m : Int))))) := HB5.out.trans (But.setCell g _ _ _)
        have HST : Hid st.ok := HYO.out.1
        have HC2 : Hid (absorb ⟨st, buf, n⟩ (p.zs.take m) = ⟨st, splice buf q (p.zs.take m), n + m⟩) := by
          unfold Hid
          rw [HCH.out]
          simp only [HCL.out, ← HQ.out]
          rw [if_neg (fun h => hr0 (by rw [HR.out]; exact h.2))]
        have HBW6 : Hid (But g wr (W5.setCell ⟨g, 72, none⟩ (.int .i64 ((n : Int) + (m : Int))))) := HBW5.out.trans (But.setCell g _ _ _)
        clear HCH
        go_wp2_with (refine wpList_slice_run rfl 37 _ _ rfl (p.from m).val (HPS.out _) ?_)
        refine ⟨write_step g w wr _ p pt x ⟨st, buf, n⟩ ⟨st, splice buf q (p.zs.take m), n + m⟩ m HPO.out HPF.out (by rw [← HLL.out]; exact hm2) HBW6.out HB6.out ⟨HST.out, HSL.out, HBB.out⟩ HAB.out HC2.out (by rw [← HLL.out]; exact HYN.out) rfl HW6.out, ?_⟩
        rw [from_len, ← HLL.out]
        simp only [lenV]
        omega
end Go.Proofs.Ytlephdpplfpliaa
