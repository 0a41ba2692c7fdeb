/-
  Tftp: the program's small, valueOf.
-/
import Derived.Test.YtdcppiknomoigaaDoorTgS
namespace Go.Proofs.YtdcppiknomoigaaDoor
open Go.RowKit
set_option linter.all false

theorem small_no {z : Int} (h : ¬ (65 ≤ z ∧ z ≤ 90)) : smallZ z = z := if_neg h
theorem nums_get (s : ByteArray) (i : Nat) (h : i < s.size) : (nums s).getD i 0 = (s[i].toNat : Int) := by
  rw [List.getD_eq_getElem?_getD, zero_at h]; rfl
set_option maxRecDepth 20000 in
set_option maxHeartbeats 4000000 in
theorem small_any (s : ByteArray) (w : World) (hl : s.size ≤ 140737488353280) :
    Calls Tryd.prog 68 #[.string s] w fun e w' => e = .returned (.string (smallS (nums s))) ∧ Hid (Below w.heap.size w w') := by
  have HNL : Hid ((nums s).length = s.size) := nums_len s
  obtain ⟨cap, w1, hcv, hr1, hb1, hz1⟩ := conv_row w (nums s) (nums_bd s) (by rw [HNL.out]; unfold maxLen; omega)
  rw [str_nums, HNL.out] at hcv
  rw [HNL.out] at hr1
  obtain ⟨cur0, lo, hi, hg1, hfz, hcz, hct, hcp⟩ : ∃ cur lo hi, w1.heap[w.heap.size]? = some (.cells cur 5 (lo, hi)) ∧ (cur.size ≤ lo ∨ hi = 0) ∧ s.size ≤ cur.size ∧ cur.toList.take s.size = u8s (nums s) ∧ s.size ≤ cap := by
    rcases hr1 with ⟨h, _⟩ | ⟨g, cp, cur, lo, hi, e1, e2, e3, e4, e5, e6, e7⟩
    · cases h
    · simp only [Value.slice.injEq, Option.some.injEq, Addr.mk.injEq] at e1
      obtain ⟨⟨rfl, _⟩, _, e8⟩ := e1
      rw [u8s_len, HNL.out] at e4 e7
      exact ⟨cur, lo, hi, e2, e3, by omega, e7, by omega⟩
  have HCZ := hid hcz
  have HCP := hid hcp
  obtain ⟨g, hg⟩ : ∃ g, g = w.heap.size := ⟨_, rfl⟩
  have hk0 : (w1.iter s 0).heap[g + 1]? = some (.stringIter s 0) := by
    have h5 := World.iter_heap w1 s 0
    rw [hz1, ← hg] at h5
    exact h5
  have hb0 : Below w.heap.size w (w1.iter s 0) := hb1.alloc (by omega) _
  have hg0 : (w1.iter s 0).heap[g]? = some (.cells cur0 5 (lo, hi)) := by rw [hg]; exact heap_old w1 _ (heap_lt hg1) |>.trans hg1
  have HK0 := hid hk0
  have HB0 := hid hb0
  have HG0 := hid hg0
  have HFZ := hid hfz
  have HCT := hid hct
  have HG := hid hg
  have HZ1 : Hid (w1.heap.size = g + 1) := by unfold Hid; rw [hz1, hg]
  clear hr1 hb1 hg1 hk0 hb0 hg0 hfz hct hcz hcp
  rw [← hg] at hcv
  clear hg hz1
  have hzz := HZ1.out
  go_enter Tryd.func68, Tryd.ntmps68
  go_wp2
  go_loopw [10] (fun _ wr => ∃ (pos : Nat) (cur : Array Value), pos ≤ s.size ∧ Hid (wr.heap[g + 1]? = some (.stringIter s pos)) ∧ Hid (wr.heap[g]? = some (.cells cur 5 (lo, hi)) ∧ (cur.size ≤ lo ∨ hi = 0) ∧ s.size ≤ cur.size ∧ cur.toList.take s.size = u8s (zsAt (nums s) pos)) ∧ Hid (Below w.heap.size w wr))
    (fun _ wr => s.size - wr.iterPos (g + 1))
  case atStart => exact ⟨0, cur0, Nat.zero_le _, HK0, ⟨HG0.out, HFZ.out, HCZ.out, by rw [HCT.out]; simp [zsAt, smallL]⟩, HB0⟩
  case round =>
    obtain ⟨pos, cur, hps, HK, HC, HB⟩ := hrel
    clear HK0 HB0 HG0 HFZ HCT HCZ hcv
    have hmu : wr.iterPos (g + 1) = pos := by simp [World.iterPos, HK.out]
    by_cases hp : pos < s.size
    · have hnext : ∀ ty, (Instr.next (.pointer (some ⟨g + 1, 0, none⟩)) true ty).run Tryd.prog wr = _ := fun ty => Lib.run_next_any_at wr (g + 1) s pos ty HK.out hp
      obtain ⟨hn1, hd⟩ := dec_facts s pos hp
      have HK1 := hid (Lib.iterAt_heap wr (g + 1) s pos (pos + (Utf8.decode s pos).2) HK.out)
      have HC1 : Hid ((wr.iterAt (g + 1) s (pos + (Utf8.decode s pos).2)).heap[g]? = some (.cells cur 5 (lo, hi))) := (Lib.iterAt_other wr (g + 1) g s _ (by omega)).trans HC.out.1
      have HB1 := hid (Lib.below_iterAt HB.out (k := g + 1) (by rw [← HG.out]; omega) s (pos + (Utf8.decode s pos).2))
      have HZ := hid (zsAt_one (nums s) pos (by rw [HNL.out]; exact hp))
      have HGET := hid (nums_get s pos hp)
      generalize wr.iterAt (g + 1) s (pos + (Utf8.decode s pos).2) = W1 at *
      generalize (Utf8.decode s pos).1 = r at *
      generalize (Utf8.decode s pos).2 = n at *
      by_cases hlet : 65 ≤ r ∧ r ≤ 90
      · obtain ⟨h128, hr, hn⟩ : s[pos].toNat < 128 ∧ r = s[pos].toNat ∧ n = 1 := by
          rcases hd with h | h
          · exact h
          · exact absurd h.1 (by omega)
        subst hn
        have hz0 : (nums s).getD pos 0 = (r : Int) := by rw [HGET.out, hr]
        have hz1 : smallZ ((r : Nat) : Int) = (r : Int) + 32 := if_pos (by omega)
        obtain ⟨hHC1, hHC2, hHC3⟩ := HC.out.2
        have hcell : W1.cell? ⟨g, pos, none⟩ = some (.int .u8 (r : Int)) := by
          rw [cell_of_heap HC1.out]
          have h1 : (cur.toList.take s.size)[pos]? = (u8s (zsAt (nums s) pos))[pos]? := by rw [hHC3]
          rw [List.getElem?_take, if_pos hp] at h1
          rw [← Array.getElem?_toList, h1]
          have h2 := u8s_at (zsAt (nums s) pos) pos (by rw [zsAt_len, HNL.out]; exact hp)
          rw [HZ.out.2, hz0] at h2
          simpa using h2
        have hfr : W1.frozen? ⟨g, pos, none⟩ = false := frozen_of_heap' HC1.out hHC1 _ (by omega)
        have HC2 := hid (heap_setCell (j := pos) (v := .int .u8 ((r : Int) + 32)) HC1.out)
        have HGS := hid (grown_setCell W1 g pos (.int .u8 ((r : Int) + 32)))
        have HK2 : Hid ((W1.setCell ⟨g, pos, none⟩ (.int .u8 ((r : Int) + 32))).heap[g + 1]? = some (.stringIter s (pos + 1))) := (HGS.out.block (g + 1) (heap_lt HK1.out) (by simp)).trans HK1.out
        have HB2 : Hid (Below w.heap.size w (W1.setCell ⟨g, pos, none⟩ (.int .u8 ((r : Int) + 32)))) := HB1.out.trans (grown_from HGS.out (fun x e => by simp only [Option.some.injEq] at e; have := HG.out; omega) HB1.out.size)
        have HR : Hid (((cur.setIfInBounds pos (.int .u8 ((r : Int) + 32))).toList.take s.size) = u8s (zsAt (nums s) (pos + 1))) := by
          unfold Hid
          rw [HZ.out.1, hz0, hz1, Array.toList_setIfInBounds, List.take_set, hHC3]
          unfold u8s
          rw [List.map_set]
        have HSZ : Hid ((cur.setIfInBounds pos (.int .u8 ((r : Int) + 32))).size ≤ lo ∨ hi = 0) := by unfold Hid; simpa using hHC1
        have HSY : Hid (s.size ≤ (cur.setIfInBounds pos (.int .u8 ((r : Int) + 32))).size) := by unfold Hid; simpa using hHC2
        have hi1 : (65 : Int) ≤ (r : Int) := by omega
        have hi2 : (r : Int) ≤ 90 := by omega
        have hp0 : (0 : Int) ≤ (pos : Int) := by omega
        have hp1 : (pos : Int) < (s.size : Int) := by omega
        have hw : IntKind.u8.wrap ((r : Int) + 32) = (r : Int) + 32 := by simp only [IntKind.wrap_u8]; omega
        clear hd hr hz0 hz1 hHC1 hHC2 hHC3 h128
        go_wp2
        go_roundw
        case rel => exact ⟨pos + 1, _, by omega, HK2, ⟨HC2.out, HSZ.out, HSY.out, HR.out⟩, HB2⟩
        case measure =>
          have hmu2 : (W1.setCell ⟨g, pos, none⟩ (.int .u8 ((r : Int) + 32))).iterPos (g + 1) = pos + 1 := by simp [World.iterPos, HK2.out]
          rw [hmu, hmu2]
          omega
      · have hends : pos + n ≤ s.size := by
          rcases hd with ⟨_, _, h⟩ | ⟨_, h, _⟩
          · omega
          · exact h
        have HZS : Hid (zsAt (nums s) (pos + n) = zsAt (nums s) pos) := zsAt_on (nums s) pos n (fun z hz => by
          obtain ⟨j, hj, e⟩ := List.mem_iff_getElem.1 hz
          rw [List.length_take, List.length_drop, HNL.out] at hj
          have hjs : pos + j < s.size := by omega
          have e2 : z = (s[pos + j].toNat : Int) := by
            rw [← nums_get s (pos + j) hjs, ← e, List.getElem_take, List.getElem_drop, List.getD_eq_getElem?_getD, List.getElem?_eq_getElem (by rw [HNL.out]; exact hjs)]
            rfl
          refine small_no ?_
          rcases hd with ⟨h1, h2, h3⟩ | ⟨h1, h2, h3⟩
          · obtain rfl : j = 0 := by omega
            simp only [Nat.add_zero] at e2
            omega
          · have := h3 (pos + j) hjs (by omega) (by omega)
            omega)
        have hmu2 : W1.iterPos (g + 1) = pos + n := by simp [World.iterPos, HK1.out]
        clear hd
        by_cases hi1 : (65 : Int) ≤ (r : Int)
        · have hi2 : ¬ (r : Int) ≤ 90 := by omega
          go_wp2
          go_roundw
          case rel => exact ⟨pos + n, cur, hends, HK1, ⟨HC1.out, HC.out.2.1, HC.out.2.2.1, by rw [HZS.out]; exact HC.out.2.2.2⟩, HB1⟩
          case measure =>
            rw [hmu, hmu2]
            omega
        · go_wp2
          go_roundw
          case rel => exact ⟨pos + n, cur, hends, HK1, ⟨HC1.out, HC.out.2.1, HC.out.2.2.1, by rw [HZS.out]; exact HC.out.2.2.2⟩, HB1⟩
          case measure =>
            rw [hmu, hmu2]
            omega
    · have hnext : ∀ ty, (Instr.next (.pointer (some ⟨g + 1, 0, none⟩)) true ty).run Tryd.prog wr = _ := fun ty => Lib.run_next_end_at wr (g + 1) s pos ty HK.out hp
      obtain rfl : pos = s.size := by omega
      have HP : Hid (Part.ok wr ⟨some ⟨g, 0, none⟩, s.size, smallL (nums s)⟩) := by
        have h1 := HC.out
        have e1 : zsAt (nums s) s.size = smallL (nums s) := by rw [← HNL.out]; exact zsAt_end _
        have e2 : (smallL (nums s)).length = s.size := by unfold smallL; rw [List.length_map, HNL.out]
        refine ⟨smallL_bd (nums_bd s), by rw [e2]; exact Nat.le_refl _, Or.inr ⟨g, 0, rfl, fun j hj => ?_⟩⟩
        simp only at hj ⊢
        rw [Nat.zero_add, cell_of_heap h1.1]
        have h2 : (cur.toList.take s.size)[j]? = (u8s (smallL (nums s)))[j]? := by rw [h1.2.2.2, e1]
        rw [List.getElem?_take, if_pos (by omega)] at h2
        rw [← Array.getElem?_toList, h2]
        have h3 := u8s_at (smallL (nums s)) j (by omega)
        simpa using h3
      have hcv : (convert 24 9 (.slice (some ⟨g, 0, none⟩) s.size cap)).run Tryd.prog wr = .ok (.string (smallS (nums s))) wr := by
        have e2 : (smallL (nums s)).length = s.size := by unfold smallL; rw [List.length_map, HNL.out]
        have h1 := HP.out
        have := conv_part ⟨some ⟨g, 0, none⟩, cap, smallL (nums s)⟩ wr ⟨h1.1, by rw [e2]; exact HCP.out, h1.2.2⟩
        simp only [Part.val, e2] at this
        exact this
      clear hmu
      go_wp2
      go_ret
      exact ⟨rfl, HB⟩
/-! ### valueOf -/
theorem nums_inj {a b : List UInt8} (h : a.map (fun x => (x.toNat : Int)) = b.map (fun x => (x.toNat : Int))) : a = b := by
  induction a generalizing b with
  | nil => cases b with
    | nil => rfl
    | cons y b => simp at h
  | cons x a ih => cases b with
    | nil => simp at h
    | cons y b =>
      simp only [List.map_cons, List.cons.injEq] at h
      rw [ih h.2]
      congr 1
      apply UInt8.toNat_inj.1
      omega
theorem dec_of_nums {s : ByteArray} {n : Nat} (h : nums s = decB n) : s.data.toList = Lib.decDigits n := by
  rw [← decDigits_nums] at h
  exact nums_inj h
theorem valF_not {s : ByteArray} (h : ∀ v, Lib.atoiAll s.data.toList = .ok v → ¬ (isVal v = true ∧ strOfNums (decB v.toNat) = s)) : valF (nums s) = none := by
  refine valF_none fun n hn e => ?_
  have e1 := dec_of_nums e
  have e2 := atoiAll_dec hn
  rw [← e1] at e2
  refine h _ e2 ⟨isVal_yes (by omega) (by omega), ?_⟩
  have : ((n : Nat) : Int).toNat = n := by omega
  rw [this, ← e, str_nums]
theorem valF_yes {s : ByteArray} {v : Int} (h1 : isVal v = true) (h2 : strOfNums (decB v.toNat) = s) : valF (nums s) = some v.toNat := by
  have h3 : 0 ≤ v ∧ v ≤ 2147483647 := by simpa [isVal] using h1
  rw [← h2, nums_str (fun z hz => by have := decB_bd _ z hz; omega)]
  exact valF_dec (by omega)
def valA (ds : List Int) : Value := match valF ds with | some n => .tuple #[.int .i64 n, .bool true] | none => .tuple #[.int .i64 0, .bool false]
theorem sz_lt {w w' : World} (h : Below w.heap.size w w') : w.heap.size ≤ w'.heap.size := h.size
set_option maxRecDepth 20000 in
set_option maxHeartbeats 4000000 in
theorem valueOf_any (s : ByteArray) (w : World) (hE : Env w) (hl : s.size ≤ 140737488353280) :
    Calls Tryd.prog 69 #[.string s] w fun e w' => e = .returned (valA (nums s)) ∧ Hid (Below w.heap.size w w') := by
  have HE := hid hE
  cases ha : Lib.atoiAll s.data.toList with
  | «syntax» =>
    obtain ⟨tp, p, hs⟩ := hE.syn
    have C := hid (Tryd.strconv_Atoi_syntax_var s (by omega) ha tp p w hs)
    have hv : valF (nums s) = none := valF_not (fun v e => by rw [ha] at e; cases e)
    unfold valA
    rw [hv]
    clear hE hs ha hv
    go_enter Tryd.func69, Tryd.ntmps69
    go_wp2_with (first
      | (go_at_call 78; refine C.out.mono ?_; rintro e w1 ⟨N, rfl, hN, hg, hb⟩; have HB := hid hb; clear hN hg hb)
      | fail)
    go_ret2
    exact ⟨rfl, HB⟩
  | range =>
    obtain ⟨tp, p, hs⟩ := hE.rng
    have C := hid (Tryd.strconv_Atoi_range_var s (by omega) ha tp p w hs)
    have hv : valF (nums s) = none := valF_not (fun v e => by rw [ha] at e; cases e)
    unfold valA
    rw [hv]
    clear hE hs ha hv
    go_enter Tryd.func69, Tryd.ntmps69
    go_wp2_with (first
      | (go_at_call 78; refine C.out.mono ?_; rintro e w1 ⟨N, rfl, hN, hg, hb⟩; have HB := hid hb; clear hN hg hb)
      | fail)
    go_ret2
    exact ⟨rfl, HB⟩
  | ok v =>
    have C0 := Tryd.strconv_Atoi_ok s (by omega) v ha w
    have C : Hid (Calls Tryd.prog 78 #[.string s] w fun e w' => e = .returned (.tuple #[.int .i64 v, .nilIface]) ∧ Hid (Below w.heap.size w w')) := by
      refine C0.mono ?_
      rintro e w' ⟨rfl, h | ⟨t, h⟩⟩
      · subst h; exact ⟨rfl, Below.refl _ _⟩
      · subst h; exact ⟨rfl, Lib.bytesWorld_below _ _ _⟩
    have CV := hid (fun W => pvalue_any v W)
    clear C0 hE
    by_cases hiv : isVal v = true
    · have h3 : 0 ≤ v ∧ v ≤ 2147483647 := by simpa [isVal] using hiv
      have CI := hid (fun W (he : Env W) => itoa_any v h3 W he)
      by_cases hst : strOfNums (decB v.toNat) = s
      · have hv := valF_yes hiv hst
        have hvv : ((v.toNat : Nat) : Int) = v := by omega
        unfold valA
        rw [hv]
        simp only [hvv]
        have hs := sbeq (strOfNums (decB v.toNat)) s
        rw [decide_eq_true hst] at hs
        rw [hiv] at CV
        clear ha hv hvv h3 hiv hst
        generalize strOfNums (decB v.toNat) = S at *
        go_enter Tryd.func69, Tryd.ntmps69
        go_wp2_with (first
          | (go_at_call 78; refine C.out.mono ?_; rintro e w1 ⟨rfl, HB⟩)
          | (go_at_call 75; refine (CV.out _).mono ?_; rintro e w2 ⟨rfl, hw⟩; subst w2)
          | (go_at_call 62; refine (CI.out _ (HE.out.below HB.out)).mono ?_; rintro e w3 ⟨rfl, hb3⟩; have HB3 := hid hb3; clear hb3)
          | fail)
        go_ret2
        exact ⟨rfl, bstep HB.out HB3.out⟩
      · have hv := valF_not (s := s) (fun v' e h => by rw [ha] at e; simp only [Lib.NumEnd.ok.injEq] at e; subst e; exact hst h.2)
        unfold valA
        rw [hv]
        have hs := sbeq (strOfNums (decB v.toNat)) s
        rw [decide_eq_false hst] at hs
        rw [hiv] at CV
        clear ha hv h3 hiv hst
        generalize strOfNums (decB v.toNat) = S at *
        go_enter Tryd.func69, Tryd.ntmps69
        go_wp2_with (first
          | (go_at_call 78; refine C.out.mono ?_; rintro e w1 ⟨rfl, HB⟩)
          | (go_at_call 75; refine (CV.out _).mono ?_; rintro e w2 ⟨rfl, hw⟩; subst w2)
          | (go_at_call 62; refine (CI.out _ (HE.out.below HB.out)).mono ?_; rintro e w3 ⟨rfl, hb3⟩; have HB3 := hid hb3; clear hb3)
          | fail)
        go_ret2
        exact ⟨rfl, bstep HB.out HB3.out⟩
    · have hv := valF_not (s := s) (fun v' e h => by rw [ha] at e; simp only [Lib.NumEnd.ok.injEq] at e; subst e; exact hiv h.1)
      have hiv' : isVal v = false := by simpa using hiv
      unfold valA
      rw [hv]
      rw [hiv'] at CV
      clear ha hv hiv hiv'
      go_enter Tryd.func69, Tryd.ntmps69
      go_wp2_with (first
        | (go_at_call 78; refine C.out.mono ?_; rintro e w1 ⟨rfl, HB⟩)
        | (go_at_call 75; refine (CV.out _).mono ?_; rintro e w2 ⟨rfl, hw⟩; subst w2)
        | fail)
      go_ret2
      exact ⟨rfl, HB⟩
end Go.Proofs.YtdcppiknomoigaaDoor
