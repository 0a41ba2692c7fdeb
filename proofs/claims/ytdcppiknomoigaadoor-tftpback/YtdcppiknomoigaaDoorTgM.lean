/-
  Tftp: the statement's lent, of choices.
-/
import Derived.Test.YtdcppiknomoigaaDoorTgO
import Derived.Test.YtdcppiknomoigaaDoorBLent
namespace Go.Proofs.YtdcppiknomoigaaDoor
open Go.RowKit
set_option linter.all false

theorem sizeCh : (Tryd.prog.info? 56).map (·.size) = some 2 := by kernel_rfl
/-- copy, of structs of two cells, into a block of the call's own. -/
theorem copy_two {P : Program} (w : World) (dT sT ty elem : TypeId) (g o dLen dCap : Nat) (a : Addr) (sLen sCap n : Nat) (cur : Array Value) (t : TypeId) (cs : List Value)
    (hu : P.underlying dT = some (.slice elem)) (hs : (P.info? elem).map (·.size) = some 2)
    (hg : w.heap[g]? = some (.cells cur t (0, 0))) (hm : n = Nat.min sLen dLen) (hn : cs.length = 2 * n)
    (hsrc : ∀ j v, cs[j]? = some v → w.cell? (a.add j) = some v) (hfit : o + cs.length ≤ cur.size) (h1 : ∀ v ∈ cs, v.oneCell' = true) :
    (Builtin.copy_ #[dT, sT] ty #[.slice (some ⟨g, o, none⟩) dLen dCap, .slice (some a) sLen sCap]).run P w =
      .ok (goInt n) (w.setRow g (cur.toList.take o ++ cs ++ cur.toList.drop (o + cs.length)).toArray) := by
  have hl := run_loadCells_list (P := P) w a cs hsrc
  have hst := run_storeCells_at P g o t cs 0 cur w hg (by simpa using hfit) h1
  rw [hn, Nat.mul_comm] at hl
  cases hq : P.info? elem with
  | none => simp [hq] at hs
  | some i =>
    have hi : i.size = 2 := by simpa [hq] using hs
    simp [Builtin.copy_, run_underlying hu, Builtin.lenOf, Builtin.firstCells, sizeOf, typeInfo, hq, hi, ← hm, hl, hst]
theorem copy_two_none {P : Program} (w : World) (dT sT ty elem : TypeId) (d a : Option Addr) (dLen dCap sLen sCap : Nat) (hu : P.underlying dT = some (.slice elem)) (hs : (P.info? elem).map (·.size) = some 2) (hn : Nat.min sLen dLen = 0) :
    (Builtin.copy_ #[dT, sT] ty #[.slice d dLen dCap, .slice a sLen sCap]).run P w = .ok (goInt 0) w := by
  cases hq : P.info? elem with
  | none => simp [hq] at hs
  | some i =>
    have hl : ∀ (x : Addr), (loadCells x 0).run P w = .ok #[] w := fun x => by simpa using run_loadCells_list (P := P) w x [] (by simp)
    cases d <;> cases a <;> simp [Builtin.copy_, run_underlying hu, Builtin.lenOf, Builtin.firstCells, sizeOf, typeInfo, hq, hn, storeCells, hl]
def bhS : ByteArray := ⟨#[98, 101, 104, 105, 110, 100]⟩
def bhC : Ch := ⟨bhS, -7⟩
def zC : Ch := ⟨emS, 0⟩
/-- the block of a list that is lent. -/
def lentC (l : List Ch) : Array Value := (chs (l ++ [bhC, bhC])).toArray
def lentC0 (l : List Ch) : Array Value := (chs (l ++ [zC, zC])).toArray
theorem made_ch (n : Nat) : madeCells #[Value.string ⟨#[]⟩, .int .i64 0] (n * 2) = (chs (List.replicate n zC)).toArray := by
  apply Array.ext_getElem?
  intro i
  have hl : (chs (List.replicate n zC)).length = n * 2 := by rw [chs_len, List.length_replicate]
  by_cases h : i < n * 2
  · have e : i = i / 2 * 2 + i % 2 := by omega
    have hy : (List.replicate n zC)[i / 2]? = some zC := by rw [List.getElem?_replicate, if_pos (by omega)]
    have e2 : (chs (List.replicate n zC)).toArray[i]? = (chC zC)[i % 2]? := by
      rw [List.getElem?_toArray]
      conv => lhs; rw [e]
      exact chs_get hy (by omega)
    rw [e2]
    have : i % 2 = 0 ∨ i % 2 = 1 := by omega
    rcases this with h2 | h2 <;> rw [h2] <;> simp [madeCells, chC, zC, emS, h2, h]
  · rw [Array.getElem?_eq_none (by simp [madeCells]; omega), Array.getElem?_eq_none (by rw [List.size_toArray, hl]; omega)]
theorem chs_app (a b : List Ch) : chs (a ++ b) = chs a ++ chs b := by simp [chs]
theorem chs_one (l : List Ch) : ∀ v ∈ chs l, v.oneCell' = true := fun v hv => by
  unfold chs at hv
  obtain ⟨x, _, hx⟩ := List.mem_flatMap.1 hv
  simp [chC] at hx
  rcases hx with rfl | rfl <;> rfl
theorem copy_lentC (l : List Ch) (a : Option Addr) (n c : Nat) (w : World) (h : ChV w a l) (hn : n = l.length) (ty : TypeId) :
    (Builtin.copy_ #[23, 23] ty #[.slice (some ⟨w.heap.size, 0, none⟩) (n + 2) (n + 2), .slice a n c]).run Tryd.prog (w.alloc (.cells (madeCells #[Value.string ⟨#[]⟩, .int .i64 0] ((n + 2) * 2)) 56))
      = .ok (goInt n) (w.alloc (.cells (lentC0 l) 56)) := by
  subst hn
  have hrep : (List.replicate (l.length + 2) zC) = List.replicate l.length zC ++ [zC, zC] := by rw [← List.replicate_append_replicate]; rfl
  rcases h with h | ⟨b, o, ha, hc⟩
  · subst h
    rw [copy_two_none _ _ _ _ 56 _ _ _ _ _ _ Tryd.underlying23 sizeCh (by simp)]
    rw [made_ch]
    rfl
  · subst ha
    have hcell : ∀ j v, (chs l)[j]? = some v → (w.alloc (.cells (madeCells #[Value.string ⟨#[]⟩, .int .i64 0] ((l.length + 2) * 2)) 56)).cell? ((⟨b, o, none⟩ : Addr).add j) = some v := by
      intro j v hj
      have hadd : (⟨b, o, none⟩ : Addr).add j = ⟨b, o + j, none⟩ := by unfold Addr.add; split <;> simp_all
      have hjl : j < l.length * 2 := by
        have := (List.getElem?_eq_some_iff.1 hj).1
        rwa [chs_len] at this
      have e : j = j / 2 * 2 + j % 2 := by omega
      obtain ⟨y, hy⟩ : ∃ y, l[j / 2]? = some y := ⟨_, List.getElem?_eq_getElem (by omega)⟩
      obtain ⟨h0, h1⟩ := hc (j / 2) y hy
      rw [e, chs_get hy (by omega)] at hj
      have hb : b < w.heap.size := World.block_lt_of_cell? w _ h0
      rw [hadd, World.cell?_alloc_past _ _ _ hb]
      have h2 : j % 2 = 0 ∨ j % 2 = 1 := by omega
      rcases h2 with h2 | h2
      · rw [h2] at hj
        rw [show o + j = o + j / 2 * 2 from by omega, h0]
        exact hj
      · rw [h2] at hj
        rw [show o + j = o + j / 2 * 2 + 1 from by omega, h1]
        exact hj
    rw [copy_two (P := Tryd.prog) _ _ _ _ 56 w.heap.size 0 _ _ _ _ _ l.length (madeCells #[Value.string ⟨#[]⟩, .int .i64 0] ((l.length + 2) * 2)) 56 (chs l) Tryd.underlying23 sizeCh (heap_new w _) (by simp) (by rw [chs_len]; omega) hcell (by rw [chs_len]; simp [made_ch, chs_len]; omega) (chs_one l)]
    rw [World.setRow_alloc_new]
    congr 3
    rw [made_ch, hrep, chs_app]
    simp only [List.take_zero, List.nil_append, Nat.zero_add, lentC0, chs_app]
    rw [List.drop_append_of_le_length (by rw [chs_len, chs_len, List.length_replicate]; exact Nat.le_refl _), List.drop_of_length_le (by rw [chs_len, chs_len, List.length_replicate]; exact Nat.le_refl _)]
    simp
theorem lentC_at (l : List Ch) {k : Nat} {y : Ch} (h : (l ++ [bhC, bhC])[k]? = some y) {j : Nat} (hj : j < 2) : (lentC l)[k * 2 + j]? = (chC y)[j]? := by
  unfold lentC; rw [List.getElem?_toArray]; exact chs_get h hj
theorem lentC0_at (l : List Ch) {k : Nat} {y : Ch} (h : (l ++ [zC, zC])[k]? = some y) {j : Nat} (hj : j < 2) : (lentC0 l)[k * 2 + j]? = (chC y)[j]? := by
  unfold lentC0; rw [List.getElem?_toArray]; exact chs_get h hj
theorem lentC_eq (l : List Ch) : ((((lentC0 l).setIfInBounds (l.length * 2) (.string bhS)).setIfInBounds (l.length * 2 + 1) (.int .i64 (-7))).setIfInBounds ((l.length + 1) * 2) (.string bhS)).setIfInBounds ((l.length + 1) * 2 + 1) (.int .i64 (-7)) = lentC l := by
  have hl := chs_len l
  have hz : chs [zC, zC] = [.string emS, .int .i64 0, .string emS, .int .i64 0] := rfl
  have hb : chs [bhC, bhC] = [.string bhS, .int .i64 (-7), .string bhS, .int .i64 (-7)] := rfl
  unfold lentC0 lentC
  rw [chs_app, chs_app, hz, hb, show l.length * 2 = (chs l).length from hl.symm, show (l.length + 1) * 2 = (chs l).length + 2 from by rw [hl]; omega]
  generalize chs l = X
  apply Array.ext'
  simp only [Array.toList_setIfInBounds]
  rw [List.set_append_right _ _ (Nat.le_refl _), List.set_append_right _ _ (by omega), List.set_append_right _ _ (by omega), List.set_append_right _ _ (by omega), Nat.sub_self, show X.length + 1 - X.length = 1 from by omega, show X.length + 2 - X.length = 2 from by omega, show X.length + 2 + 1 - X.length = 3 from by omega]
  rfl
set_option maxRecDepth 20000 in
set_option maxHeartbeats 2000000 in
theorem clent_any (l : List Ch) (a : Option Addr) (n c : Nat) (w : World) (h : ChV w a l) (hn : n = l.length) (hbn : n ≤ 5864062014700) :
    Calls Tryd.prog 9 #[.slice a n c] w fun e w' => e = .returned (.slice (some ⟨w.heap.size, 0, none⟩) n (n + 2)) ∧ Hid (w'.heap[w.heap.size]? = some (.cells (lentC l) 56 (0, 0)) ∧ Below w.heap.size w w' ∧ w.heap.size < w'.heap.size) := by
  have hcp := copy_lentC l a n c w h hn
  obtain ⟨ti, hti, hz0, hz1, hz2⟩ := info_sz infoCh
  have hmk : ∀ wx : World, (Instr.makeSlice 23 (.int .i64 ((n : Int) + 2)) (.int .i64 ((n : Int) + 2))).run Tryd.prog wx = .ok (.slice (some ⟨wx.heap.size, 0, none⟩) (n + 2) (n + 2)) (wx.alloc (.cells (madeCells #[.string ⟨#[]⟩, .int .i64 0] ((n + 2) * 2)) 56)) := fun wx => by
    have hr := run_make (P := Tryd.prog) wx 23 56 ti _ Tryd.underlying23 hti hz0 .i64 .i64 ((n + 2 : Nat) : Int) ((n + 2 : Nat) : Int) (by omega) (by omega) (by rw [hz2]; omega) (by omega)
    simp only [Int.toNat_natCast, hz1] at hr
    rw [show (((n + 2 : Nat) : Int)) = (n : Int) + 2 from by omega] at hr
    exact hr
  have HEQ := hid (lentC_eq l)
  have hsz : (lentC0 l).size = n * 2 + 4 := by unfold lentC0; rw [List.size_toArray, chs_len, hn]; simp; omega
  have hx0 : (lentC0 l)[n * 2]? = some (.string ⟨#[]⟩) := (lentC0_at l (k := n) (y := zC) (by rw [hn]; simp) (j := 0) (by omega))
  have hx1 : (lentC0 l)[n * 2 + 1]? = some (.int .i64 0) := (lentC0_at l (k := n) (y := zC) (by rw [hn]; simp) (j := 1) (by omega))
  rw [← hn] at HEQ
  clear h hn hti hz0 hz1 hz2
  generalize lentC0 l = A0 at *
  have HB0 := hid (bpush (Below.refl w.heap.size w) (.cells A0 56))
  have HH0 := hid (heap_new w (.cells A0 56))
  have HSZ := hid hsz
  go_enter Tryd.func9, Tryd.ntmps9
  go_upto_region 4 with fail
  clear hcp hmk
  generalize w.alloc (.cells A0 56) = W0 at *
  obtain ⟨g, hg⟩ : ∃ g, g = w.heap.size := ⟨_, rfl⟩
  rw [← hg] at HH0 ⊢
  have HG := hid hg
  clear hg
  have c0 : W0.cell? ⟨g, n * 2, none⟩ = some (.string ⟨#[]⟩) := (cell_of_heap HH0.out _).trans hx0
  have c1 : W0.cell? ⟨g, n * 2 + 1, none⟩ = some (.int .i64 0) := (cell_of_heap HH0.out _).trans hx1
  have f0 : W0.frozen? ⟨g, n * 2, none⟩ = false := frozen_of_heap HH0.out _
  have f1 : W0.frozen? ⟨g, n * 2 + 1, none⟩ = false := frozen_of_heap HH0.out _
  have HB1 : Hid (But g W0 ((W0.setCell ⟨g, n * 2, none⟩ (.string ⟨#[98, 101, 104, 105, 110, 100]⟩)).setCell ⟨g, n * 2 + 1, none⟩ (.int .i64 (-7)))) := (But.setCell g W0 (n * 2) (.string ⟨#[98, 101, 104, 105, 110, 100]⟩)).trans (But.setCell _ _ _ _)
  have HH1 := hid (heap_setCell (j := n * 2 + 1) (v := .int .i64 (-7)) (heap_setCell (j := n * 2) (v := .string ⟨#[98, 101, 104, 105, 110, 100]⟩) HH0.out))
  go_upto_region 5 with fail
  clear c0 c1 f0 f1 hx0 hx1
  generalize (W0.setCell ⟨g, n * 2, none⟩ (.string ⟨#[98, 101, 104, 105, 110, 100]⟩)).setCell ⟨g, n * 2 + 1, none⟩ (.int .i64 (-7)) = W1 at *
  have c0 : W1.cell? ⟨g, n * 2, none⟩ = some (.string ⟨#[98, 101, 104, 105, 110, 100]⟩) := by
    rw [cell_of_heap HH1.out, Array.getElem?_setIfInBounds_ne (by omega), Array.getElem?_setIfInBounds_self_of_lt (by omega)]
  have c1 : W1.cell? ⟨g, n * 2 + 1, none⟩ = some (.int .i64 (-7)) := by
    rw [cell_of_heap HH1.out, Array.getElem?_setIfInBounds_self_of_lt (by simp; omega)]
  obtain ⟨u, d0⟩ : ∃ u, W1.cell? ⟨g, (n + 1) * 2, none⟩ = some u := ⟨_, by rw [cell_of_heap HH1.out, Array.getElem?_eq_getElem (by simp; omega)]⟩
  obtain ⟨u', d1⟩ : ∃ u, W1.cell? ⟨g, (n + 1) * 2 + 1, none⟩ = some u := ⟨_, by rw [cell_of_heap HH1.out, Array.getElem?_eq_getElem (by simp; omega)]⟩
  have f0 : W1.frozen? ⟨g, (n + 1) * 2, none⟩ = false := frozen_of_heap HH1.out _
  have f1 : W1.frozen? ⟨g, (n + 1) * 2 + 1, none⟩ = false := frozen_of_heap HH1.out _
  have HB2 : Hid (But g W1 ((W1.setCell ⟨g, (n + 1) * 2, none⟩ (.string ⟨#[98, 101, 104, 105, 110, 100]⟩)).setCell ⟨g, (n + 1) * 2 + 1, none⟩ (.int .i64 (-7)))) := (But.setCell g W1 ((n + 1) * 2) (.string ⟨#[98, 101, 104, 105, 110, 100]⟩)).trans (But.setCell _ _ _ _)
  have HH2 := hid (heap_setCell (j := (n + 1) * 2 + 1) (v := .int .i64 (-7)) (heap_setCell (j := (n + 1) * 2) (v := .string ⟨#[98, 101, 104, 105, 110, 100]⟩) HH1.out))
  have q4 : IntKind.i64.wrap ((n : Int) + 1) = (n : Int) + 1 := by simp only [IntKind.wrap_i64]; omega
  have q5 : ((n : Int) + 1).toNat = n + 1 := by omega
  have q6 : (0 : Int) ≤ (n : Int) + 1 := by omega
  have q7 : (n : Int) + 1 < (n : Int) + 2 := by omega
  go_upto_region 6 with fail
  clear c0 c1 f0 f1 d0 d1
  generalize (W1.setCell ⟨g, (n + 1) * 2, none⟩ (.string ⟨#[98, 101, 104, 105, 110, 100]⟩)).setCell ⟨g, (n + 1) * 2 + 1, none⟩ (.int .i64 (-7)) = W2 at *
  have HFIN : Hid (W2.heap[g]? = some (.cells (lentC l) 56 (0, 0)) ∧ Below w.heap.size w W2 ∧ g < W2.heap.size) := by
    have e := HEQ.out
    refine ⟨by rw [← e]; exact HH2.out, bbut (bbut HB0.out HB1.out (by rw [HG.out]; exact Nat.le_refl _)) HB2.out (by rw [HG.out]; exact Nat.le_refl _), heap_lt HH2.out⟩
  clear HB0 HB1 HB2 HH0 HH1 HH2 HEQ HSZ hsz
  go_wp2_with fail
  go_ret
  have e : g = w.heap.size := HG.out
  subst e
  exact ⟨rfl, HFIN⟩
/-- what is lent reads as it was. -/
theorem lentC_chv {w : World} {g : Nat} {l : List Ch} (h : w.heap[g]? = some (.cells (lentC l) 56 (0, 0))) : ChV w (some ⟨g, 0, none⟩) l := by
  refine Or.inr ⟨g, 0, rfl, fun k x hx => ?_⟩
  have hk : (l ++ [bhC, bhC])[k]? = some x := by
    rw [List.getElem?_append_left (List.getElem?_eq_some_iff.1 hx).1]; exact hx
  rw [Nat.zero_add, cell_of_heap h, cell_of_heap h]
  exact ⟨lentC_at l hk (j := 0) (by omega), lentC_at l hk (j := 1) (by omega)⟩
theorem lentC_size (l : List Ch) : (lentC l).size = (l.length + 2) * 2 := by unfold lentC; rw [List.size_toArray, chs_len]; simp
theorem lentC_bh (l : List Ch) {k : Nat} (h1 : l.length ≤ k) (h2 : k < l.length + 2) : (lentC l)[k * 2]? = some (.string bhS) ∧ (lentC l)[k * 2 + 1]? = some (.int .i64 (-7)) := by
  have hk : (l ++ [bhC, bhC])[k]? = some bhC := by
    rw [List.getElem?_append_right h1]
    have : k - l.length = 0 ∨ k - l.length = 1 := by omega
    rcases this with e | e <;> rw [e] <;> rfl
  exact ⟨lentC_at l hk (j := 0) (by omega), lentC_at l hk (j := 1) (by omega)⟩
set_option maxRecDepth 20000 in
set_option maxHeartbeats 8000000 in
theorem ckept_any (g : Nat) (l : List Ch) (a : Option Addr) (n c : Nat) (w : World) (hg : w.heap[g]? = some (.cells (lentC l) 56 (0, 0))) (h : ChV w a l) (hn : n = l.length) (hbn : n ≤ 5864062014700) :
    Calls Tryd.prog 12 #[.slice (some ⟨g, 0, none⟩) n (n + 2), .slice a n c] w fun e w' => e = .returned (.bool true) ∧ Hid (But g w w') := by
  have CS := hid (fun W (hb : Below w.heap.size w W) => same_choices_yes l (some ⟨g, 0, none⟩) a n (n + 2) c W ((lentC_chv hg).below hb) (h.below hb) hn (by omega))
  have HG := hid hg
  have HN := hid hn
  have q1 : ((n : Int) + 2).toNat = n + 2 := by omega
  have q2 : IntKind.i64.wrap ((n : Int) + 2) = (n : Int) + 2 := by simp only [IntKind.wrap_i64]; omega
  clear h hg hn
  go_enter Tryd.func12, Tryd.ntmps12
  have CS0 := hid (CS.out w (Below.refl _ _))
  go_wp2_with (first
    | (go_at_call 27; refine CS0.out.mono ?_; go_loud (rintro e w1 ⟨rfl, q, hw⟩; have HW := hid hw; clear hw))
    | fail)
  have HJ0 : Hid (But g w w1 ∧ ∃ cur : Array Value, w1.heap[g]? = some (.cells cur 56 (0, 0)) ∧ cur.size = (n + 2) * 2 ∧ ∀ j, 0 ≤ j → cur[j]? = (lentC l)[j]?) := by
    unfold Hid
    rw [HW.out]
    exact ⟨But.drewN _ _ _, lentC l, HG.out, by rw [lentC_size, ← HN.out], fun j _ => rfl⟩
  clear CS CS0 HW
  go_loopw [7, 8] (fun vg vi wr => ∃ k : Nat, vg = .bool true ∧ vi = .int .i64 k ∧ k ≤ n + 2 ∧ Hid (But g w wr ∧ ∃ cur : Array Value, wr.heap[g]? = some (.cells cur 56 (0, 0)) ∧ cur.size = (n + 2) * 2 ∧ ∀ j, k * 2 ≤ j → cur[j]? = (lentC l)[j]?)) (fun _ vi _ => n + 2 - (intOfT vi).toNat)
  case atStart => exact ⟨0, rfl, rfl, by omega, by have := HJ0.out; simpa [Hid] using this⟩
  case round =>
    clear HJ0
    obtain ⟨k, rfl, rfl, hk, HJ⟩ := hrel
    obtain ⟨hb, cur, hcur, hcs, hcc⟩ := HJ.out
    by_cases hkl : k < n + 2
    · have hk2 : (k : Int) < (n : Int) + 2 := by omega
      have hkz : (0 : Int) ≤ (k : Int) := by omega
      obtain ⟨u0, c0⟩ : ∃ u, wr.cell? ⟨g, k * 2, none⟩ = some u := ⟨_, by rw [cell_of_heap hcur, Array.getElem?_eq_getElem (by omega)]⟩
      obtain ⟨u1, c1⟩ : ∃ u, wr.cell? ⟨g, k * 2 + 1, none⟩ = some u := ⟨_, by rw [cell_of_heap hcur, Array.getElem?_eq_getElem (by omega)]⟩
      have f0 : wr.frozen? ⟨g, k * 2, none⟩ = false := frozen_of_heap hcur _
      have f1 : wr.frozen? ⟨g, k * 2 + 1, none⟩ = false := frozen_of_heap hcur _
      have HJ2 : Hid (But g w ((wr.setCell ⟨g, k * 2, none⟩ (.string ⟨#[111, 118, 101, 114]⟩)).setCell ⟨g, k * 2 + 1, none⟩ (.int .i64 (-8))) ∧ ∃ cur : Array Value, ((wr.setCell ⟨g, k * 2, none⟩ (.string ⟨#[111, 118, 101, 114]⟩)).setCell ⟨g, k * 2 + 1, none⟩ (.int .i64 (-8))).heap[g]? = some (.cells cur 56 (0, 0)) ∧ cur.size = (n + 2) * 2 ∧ ∀ j, (k + 1) * 2 ≤ j → cur[j]? = (lentC l)[j]?) :=
        ⟨(hb.trans (But.setCell _ _ _ _)).trans (But.setCell _ _ _ _), _, heap_setCell (heap_setCell hcur), by simpa using hcs, fun j hj => by
          rw [Array.getElem?_setIfInBounds_ne (by omega), Array.getElem?_setIfInBounds_ne (by omega)]
          exact hcc j (by omega)⟩
      by_cases hkn : k < n
      · have hkn2 : (k : Int) < (n : Int) := by omega
        clear hcur hcs hcc hb HJ
        go_wp2_with fail
        go_roundw
        case rel => exact ⟨k + 1, rfl, by first | rfl | (congr 1; omega), by omega, HJ2⟩
        case measure => simp only [intOfT]; omega
      · have hkn2 : ¬ (k : Int) < (n : Int) := by omega
        have hkn3 : decide ((k : Int) < (n : Int)) = false := by simp; omega
        obtain ⟨b0, b1⟩ := lentC_bh l (k := k) (by rw [← HN.out]; omega) (by rw [← HN.out]; omega)
        have d0 : wr.cell? ⟨g, k * 2, none⟩ = some (.string ⟨#[98, 101, 104, 105, 110, 100]⟩) := by rw [cell_of_heap hcur, hcc _ (Nat.le_refl _)]; exact b0
        have d1 : wr.cell? ⟨g, k * 2 + 1, none⟩ = some (.int .i64 (-7)) := by rw [cell_of_heap hcur, hcc _ (by omega)]; exact b1
        have hq : ∀ wx, (Op.equalIn 10000 56 (.agg #[.string ⟨#[98, 101, 104, 105, 110, 100]⟩, .int .i64 (-7)]) (.agg #[.string ⟨#[98, 101, 104, 105, 110, 100]⟩, .int .i64 (-7)])).run Tryd.prog wx = .ok true wx := fun wx => choice_same _ _ wx
        clear hcur hcs hcc hb HJ b0 b1 c0 c1
        go_wp2_with fail
        go_roundw
        case rel => exact ⟨k + 1, rfl, by first | rfl | (congr 1; omega), by omega, HJ2⟩
        case measure => simp only [intOfT]; omega
    · have hk2 : ¬ (k : Int) < (n : Int) + 2 := by omega
      have HB := hid hb
      clear hb hcur hcs hcc HJ
      go_wp2_with fail
      go_ret
      exact ⟨rfl, HB⟩
end Go.Proofs.YtdcppiknomoigaaDoor
