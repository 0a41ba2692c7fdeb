/-
  Tftp: the document's Encode.
-/
import Derived.Test.YtdcppiknomoigaaDoorTgG
import Derived.Test.YtdcppiknomoigaaDoorTfW
import Derived.Test.YtdcppiknomoigaaDoorTfY
import Derived.Test.YtdcppiknomoigaaDoorTfD
namespace Go.Proofs.YtdcppiknomoigaaDoor
open Go.RowKit
set_option linter.all false

set_option maxRecDepth 20000 in
set_option maxHeartbeats 16000000 in
theorem refEncode_any (p : Tp) (ca : Option Addr) (cc : Nat) (da : Option Addr) (dc : Nat) (w : World) (h : TpS p ca cc da dc w) :
    Calls Tryd.prog 14 #[.agg (tpC p ca cc da dc)] w fun e w' => ∃ a n c, e = .returned (.tuple #[.slice a n c, .int .i64 p.may]) ∧ Hid (Ans w w' (if p.may = 0 then p.enc else []) a n c) := by
  have hb := bpush (Below.refl w.heap.size w) (.cells (tpC p ca cc da dc) 26)
  obtain ⟨W1, hW1⟩ : ∃ W1, W1 = w.alloc (.cells (tpC p ca cc da dc) 26) := ⟨_, rfl⟩
  have hbx : W1.heap[w.heap.size]? = some (.cells (tpC p ca cc da dc) 26 (0, 0)) := by rw [hW1]; exact heap_new _ _
  rw [← hW1] at hb
  have HB := hid hb
  have h1 := h.below hb
  have HS := hid h1
  have CB := hid (may_any p.op p.fl p.md ca p.ch.length cc p.ch p.bk da p.da.length dc p.cd p.tx W1 h1.ch rfl (by have := h1.cn; omega) h1.fl h1.tx h1.dn)
  have HFIN : Hid (∀ (W : World) (zs : List Int) (a : Option Addr) (n c : Nat), OutE W1.heap.size W1 zs (.slice a n c) W → Ans w W zs a n c) := fun W zs a n c ho => by
    refine ⟨ho.row, fun b hb' => Nat.le_trans hb.size (ho.low b hb'), bstep hb ho.below⟩
  have HCX : Hid (∀ W', Below W1.heap.size W1 W' → ∀ q, W'.cell? ⟨w.heap.size, q, none⟩ = (tpC p ca cc da dc)[q]?) := fun W' hb' q => cell_of_heap (w := W') ((hb'.block _ (heap_lt hbx)).trans hbx) q
  have HST : Hid (∀ W, Below W1.heap.size W1 W → OutE W1.heap.size W1 [] (.slice none 0 0) W) := fun W hb' => ⟨Row.nil _ _, by simp [Value.ownBlock], hb'⟩
  clear hb h1 h
  have HMAY : Hid (p.may = mayE p.op p.fl p.md (chOk p.ch p.ch.length) p.bk p.da.length p.cd p.tx) := rfl
  have HENC : Hid (p.enc = if p.op = 1 then op2 p.op ++ (nums p.fl ++ 0 :: (nums p.md ++ 0 :: chsB p.ch))
    else if p.op = 3 then op2 p.op ++ (op2 p.bk ++ p.da)
    else if p.op = 4 then op2 p.op ++ op2 p.bk
    else if p.op = 5 then op2 p.op ++ (op2 p.cd ++ (nums p.tx ++ [0]))
    else op2 p.op ++ chsB p.ch) := rfl
  rw [← HMAY.out] at CB
  generalize p.may = m at *
  generalize p.enc = en at *
  by_cases hm : m = 0
  · subst hm
    rw [if_pos rfl]
    obtain ⟨op, fl, md, ch, bk, dl, cd, tx⟩ := p
    unfold tpC at *
    simp only at *
    by_cases o1 : op = 1
    · as_aux_lemma =>
        subst o1
        have HF : Hid (fl.size ≤ 64 ∧ md = nOct ∧ chOk ch ch.length = true) := by
          have h1 := HMAY.out
          rw [may_1] at h1
          by_cases hx : fileB fl = false ∨ md ≠ nOct
          · rw [if_pos hx] at h1; cases h1
          · rw [if_neg hx] at h1
            simp only [not_or, Bool.not_eq_false, ne_eq, Classical.not_not] at hx
            refine ⟨?_, hx.2, ?_⟩
            · have := hx.1
              unfold fileB at this
              simp only [Bool.and_eq_true, decide_eq_true_eq] at this
              exact this.1.2
            · unfold okE at h1
              by_cases hk : chOk ch ch.length = true
              · exact hk
              · rw [if_neg hk] at h1; cases h1
        have HEN : Hid (en = op2 1 ++ nums fl ++ [0] ++ nums md ++ [0] ++ chsB ch) := by unfold Hid; rw [HENC.out, if_pos rfl]; simp
        have HMD : Hid (md.size = 5) := by unfold Hid; rw [HF.out.2.1]; rfl
        have HPL : Hid ((op2 1 ++ nums fl ++ [0] ++ nums md ++ [0]).length ≤ 1000) := by
          have h1 := HF.out.1
          have h2 := HMD.out
          unfold Hid
          simp only [op2, List.length_append, nums_len, List.length_cons, List.length_nil]
          omega
        have HOK : Hid (chOk ch ch.length = true) := HF.out.2.2
        have H3 : Hid (ch.length ≤ 3) := chOk_3 HOK.out (Nat.le_refl _)
        have HM : Hid (∀ (k : Nat) (y : Ch), ch[k]? = some y → y.nm.size ≤ 10 ∧ (strOfNums (decB y.v.toNat)).size ≤ 10 ∧ 0 ≤ y.v ∧ y.v ≤ 2147483647) := fun k y hy => by
          have h1 := chOk_mem HOK.out y (List.mem_of_getElem? hy)
          refine ⟨?_, by rw [strOfNums_size]; exact decB_len10 (by omega), h1.2⟩
          have h2 := h1.1
          simp only [knownB, Bool.or_eq_true, decide_eq_true_eq] at h2
          rcases h2 with (h | h) | h <;> rw [h] <;> decide
        clear HENC HMAY
        rw [hW1] at CB
        have CP := hid (fun W (ho : OutE W1.heap.size W1 [] (.slice none 0 0) W) (hb : W1.heap.size ≤ W.heap.size) => outWord_any 1 (by omega) ho hb (by simp))
        simp only [List.nil_append] at CP
        go_enter Tryd.func14, Tryd.ntmps14
        go_upto_region 4 with (first
          | (go_at_call 33; refine CB.out.mono ?_; go_loud (rintro e w2 ⟨rfl, hb2⟩; have HB2 := hid hb2; clear hb2))
          | fail)
        rw [← hW1] at HB2
        have hq2 := HCX.out w2 HB2.out
        have CP2 := hid (CP.out w2 (HST.out w2 HB2.out) HB2.out.size)
        clear CB CP hW1
        go_upto_region 6 with (first
          | (go_at_call 34; refine CP2.out.mono ?_; go_loud (rintro e w3 ⟨a3, n3, c3, rfl, HO3⟩; have hq3 := HCX.out w3 HO3.out.1.below))
          | fail)
        clear CP2 hq2
        have C1 := hid (outText_any fl HO3.out.1 HO3.out.2 (by have := HF.out.1; simp only [op2, List.length_cons, List.length_nil]; omega))
        have C2 := hid (fun W a n c (ho : OutE W1.heap.size W1 (op2 1 ++ nums fl ++ [0]) (.slice a n c) W ∧ W1.heap.size ≤ W.heap.size) => outText_any md ho.1 ho.2 (by have := HF.out.1; have := HMD.out; simp only [op2, List.length_append, nums_len, List.length_cons, List.length_nil]; omega))
        go_upto_region 17 with (first
          | (go_at_call 35; (with_reducible refine C1.out.mono ?_); go_loud (rintro e w4 ⟨a4, n4, c4, rfl, HO4⟩; have hq4 := HCX.out w4 HO4.out.1.below; have C3 := hid (C2.out _ _ _ _ HO4.out); clear C1))
          | (go_at_call 35; (with_reducible refine C3.out.mono ?_); go_loud (rintro e w5 ⟨a5, n5, c5, rfl, HO5⟩; clear C3))
          | fail)
        clear C2 HO3 HO4 hq3 hq4 HF HMD
        have HT : Hid (∀ (k : Nat) (y : Ch), ch[k]? = some y → op2 1 ++ nums fl ++ [0] ++ nums md ++ [0] ++ chsB (ch.take (k + 1)) = ((op2 1 ++ nums fl ++ [0] ++ nums md ++ [0] ++ chsB (ch.take k) ++ nums y.nm ++ [0]) ++ nums (strOfNums (decB y.v.toNat)) ++ [0])) := fun k y hy => by
          rw [List.take_add_one, hy]
          unfold chsB
          rw [List.flatMap_append, nums_str (fun z hz => by have := decB_bd _ z hz; omega)]
          simp [chB]
        have HL : Hid (∀ k, k ≤ ch.length → (op2 1 ++ nums fl ++ [0] ++ nums md ++ [0] ++ chsB (ch.take k)).length ≤ 1000 + k * 22) := fun k hk => by
          have h1 := chsB_len (ch.take k) (fun c hc => chOk_mem HOK.out c (List.mem_of_mem_take hc))
          rw [List.length_take] at h1
          rw [List.length_append]
          have : min k ch.length = k := by omega
          rw [this] at h1
          have := HPL.out
          omega
        obtain ⟨ln, hln⟩ : ∃ ln, ln = ch.length := ⟨_, rfl⟩
        have HLN := hid hln
        rw [← hln] at HCX HL
        clear hln
        generalize op2 1 ++ nums fl ++ [0] ++ nums md ++ [0] = pre at *
        go_upto_region 18 with fail
        go_loopw [5, 6] (fun vo vi wr => ∃ (k n c : Nat) (a : Option Addr), vo = .slice a n c ∧ vi = .int .i64 k ∧ k ≤ ln ∧ Hid (OutE W1.heap.size W1 (pre ++ chsB (ch.take k)) (.slice a n c) wr ∧ W1.heap.size ≤ wr.heap.size)) (fun _ vi _ => ln - (intOfT vi).toNat)
        case atStart => exact ⟨0, n5, c5, a5, rfl, rfl, Nat.zero_le _, by unfold Hid; simpa [chsB] using HO5.out⟩
        case round =>
          clear HO5
          obtain ⟨k, rn, rc, ra, rfl, rfl, hk, HO⟩ := hrel
          have hqr := HCX.out wr HO.out.1.below
          by_cases hkl : k < ln
          · obtain ⟨y, hy⟩ : ∃ y, ch[k]? = some y := ⟨_, List.getElem?_eq_getElem (by rw [← HLN.out]; exact hkl)⟩
            obtain ⟨b, o, rfl, c0, c1⟩ := (HS.out.ch.below HO.out.1.below).ent hy
            have hkz : (0 : Int) ≤ (k : Int) := by omega
            have hkn : (k : Int) < (ln : Int) := by omega
            obtain ⟨m1, m2, m3, m4⟩ := HM.out k y hy
            have HTK := hid (HT.out k y hy)
            have hlk := HL.out k (by omega)
            have hk3 : k ≤ 3 := by have := H3.out; have := HLN.out; omega
            have C1 := hid (outText_any y.nm HO.out.1 HO.out.2 (by omega))
            have CD : Hid (∀ W, Calls Tryd.prog 37 #[.int .i64 y.v] W fun e w' => e = .returned (.string (strOfNums (decB y.v.toNat))) ∧ Hid (Below W.heap.size W w')) := fun W => by
              have h1 := decimal_any y.v.toNat W (by omega)
              rwa [show ((y.v.toNat : Nat) : Int) = y.v from by omega] at h1
            have HENT : Hid (∀ W, Below W1.heap.size W1 W → W.cell? ⟨b, o + k * 2 + 1, none⟩ = some (.int .i64 y.v)) := fun W hb => by
              obtain ⟨b', o', e1, _, e2⟩ := (HS.out.ch.below hb).ent hy
              simp only [Option.some.injEq, Addr.mk.injEq, and_true] at e1
              obtain ⟨rfl, rfl⟩ := e1
              exact e2
            have HC2 : Hid (∀ (a1 : Option Addr) (n1 c1 : Nat) (w1 w2 : World), OutE W1.heap.size W1 (pre ++ chsB (ch.take k) ++ nums y.nm ++ [0]) (.slice a1 n1 c1) w1 ∧ W1.heap.size ≤ w1.heap.size → Below w1.heap.size w1 w2 → Calls Tryd.prog 35 #[.slice a1 n1 c1, .string (strOfNums (decB y.v.toNat))] w2 fun e w' => ∃ a' n' c', e = .returned (.slice a' n' c') ∧ Hid (OutE W1.heap.size W1 (pre ++ chsB (ch.take (k + 1))) (.slice a' n' c') w' ∧ W1.heap.size ≤ w'.heap.size)) := fun a1 n1 c1 w1 w2 ho hb => by
              refine (outText_any (strOfNums (decB y.v.toNat)) (ho.1.keep ho.2 hb) (Nat.le_trans ho.2 hb.size) (by simp only [List.length_append, nums_len, List.length_cons, List.length_nil] at hlk ⊢; omega)).mono ?_
              rintro e w' ⟨a', n', c', rfl, HO2⟩
              refine ⟨a', n', c', rfl, ?_⟩
              rw [HTK.out]
              exact HO2
            clear hy hlk m1 m2 m3 m4 HTK
            generalize strOfNums (decB y.v.toNat) = S at *
            go_wp2_with (first
              | (go_at_call 35; (with_reducible refine C1.out.mono ?_); rintro e w4 ⟨a4, n4, c4, rfl, HO4⟩; have hq4 := HCX.out w4 HO4.out.1.below; have d1 := HENT.out w4 HO4.out.1.below; clear C1)
              | (go_at_call 37; refine (CD.out _).mono ?_; rintro e w5 ⟨rfl, HB5⟩; have C2 := hid (HC2.out _ _ _ _ _ HO4.out HB5.out))
              | (go_at_call 35; (with_reducible refine C2.out.mono ?_); rintro e w6 ⟨a6, n6, c6, rfl, HO6⟩)
              | fail)
            go_roundw
            case rel => exact ⟨k + 1, n6, c6, a6, rfl, by first | rfl | (congr 1; omega), by omega, HO6⟩
            case measure => simp only [intOfT]; omega
          · obtain rfl : k = ln := by omega
            have HTT : Hid (ch.take k = ch) := by unfold Hid; rw [HLN.out, List.take_length]
            clear hkl
            go_wp2_with fail
            go_ret2
            exact ⟨ra, rn, rc, rfl, by unfold Hid; have := HO.out.1; rw [HTT.out] at this; rw [HEN.out]; exact HFIN.out _ _ _ _ _ this⟩
    by_cases o6 : op = 6
    · as_aux_lemma =>
        subst o6
        have HF : Hid (chOk ch ch.length = true) := by
          have h1 := HMAY.out
          rw [may_6] at h1
          unfold okE at h1
          by_cases hk : chOk ch ch.length = true
          · exact hk
          · rw [if_neg hk] at h1; cases h1
        have HEN : Hid (en = op2 6 ++ chsB ch) := by unfold Hid; rw [HENC.out, if_neg (by decide), if_neg (by decide), if_neg (by decide), if_neg (by decide)]
        have HPL : Hid ((op2 6).length ≤ 1000) := by unfold Hid; simp [op2]
        have HOK : Hid (chOk ch ch.length = true) := HF.out
        have H3 : Hid (ch.length ≤ 3) := chOk_3 HOK.out (Nat.le_refl _)
        have HM : Hid (∀ (k : Nat) (y : Ch), ch[k]? = some y → y.nm.size ≤ 10 ∧ (strOfNums (decB y.v.toNat)).size ≤ 10 ∧ 0 ≤ y.v ∧ y.v ≤ 2147483647) := fun k y hy => by
          have h1 := chOk_mem HOK.out y (List.mem_of_getElem? hy)
          refine ⟨?_, by rw [strOfNums_size]; exact decB_len10 (by omega), h1.2⟩
          have h2 := h1.1
          simp only [knownB, Bool.or_eq_true, decide_eq_true_eq] at h2
          rcases h2 with (h | h) | h <;> rw [h] <;> decide
        clear HENC HMAY
        rw [hW1] at CB
        have CP := hid (fun W (ho : OutE W1.heap.size W1 [] (.slice none 0 0) W) (hb : W1.heap.size ≤ W.heap.size) => outWord_any 6 (by omega) ho hb (by simp))
        simp only [List.nil_append] at CP
        go_enter Tryd.func14, Tryd.ntmps14
        go_upto_region 4 with (first
          | (go_at_call 33; refine CB.out.mono ?_; go_loud (rintro e w2 ⟨rfl, hb2⟩; have HB2 := hid hb2; clear hb2))
          | fail)
        rw [← hW1] at HB2
        have hq2 := HCX.out w2 HB2.out
        have CP2 := hid (CP.out w2 (HST.out w2 HB2.out) HB2.out.size)
        clear CB CP hW1
        go_upto_region 6 with (first
          | (go_at_call 34; refine CP2.out.mono ?_; go_loud (rintro e w3 ⟨a3, n3, c3, rfl, HO3⟩; have hq3 := HCX.out w3 HO3.out.1.below))
          | fail)
        clear CP2 hq2
        go_upto_region 17 with fail
        clear hq3 HF
        have HT : Hid (∀ (k : Nat) (y : Ch), ch[k]? = some y → op2 6 ++ chsB (ch.take (k + 1)) = ((op2 6 ++ chsB (ch.take k) ++ nums y.nm ++ [0]) ++ nums (strOfNums (decB y.v.toNat)) ++ [0])) := fun k y hy => by
          rw [List.take_add_one, hy]
          unfold chsB
          rw [List.flatMap_append, nums_str (fun z hz => by have := decB_bd _ z hz; omega)]
          simp [chB]
        have HL : Hid (∀ k, k ≤ ch.length → (op2 6 ++ chsB (ch.take k)).length ≤ 1000 + k * 22) := fun k hk => by
          have h1 := chsB_len (ch.take k) (fun c hc => chOk_mem HOK.out c (List.mem_of_mem_take hc))
          rw [List.length_take] at h1
          rw [List.length_append]
          have : min k ch.length = k := by omega
          rw [this] at h1
          have := HPL.out
          omega
        obtain ⟨ln, hln⟩ : ∃ ln, ln = ch.length := ⟨_, rfl⟩
        have HLN := hid hln
        rw [← hln] at HCX HL
        clear hln
        generalize op2 6 = pre at *
        go_upto_region 18 with fail
        go_loopw [5, 6] (fun vo vi wr => ∃ (k n c : Nat) (a : Option Addr), vo = .slice a n c ∧ vi = .int .i64 k ∧ k ≤ ln ∧ Hid (OutE W1.heap.size W1 (pre ++ chsB (ch.take k)) (.slice a n c) wr ∧ W1.heap.size ≤ wr.heap.size)) (fun _ vi _ => ln - (intOfT vi).toNat)
        case atStart => exact ⟨0, n3, c3, a3, rfl, rfl, Nat.zero_le _, by unfold Hid; simpa [chsB] using HO3.out⟩
        case round =>
          clear HO3
          obtain ⟨k, rn, rc, ra, rfl, rfl, hk, HO⟩ := hrel
          have hqr := HCX.out wr HO.out.1.below
          by_cases hkl : k < ln
          · obtain ⟨y, hy⟩ : ∃ y, ch[k]? = some y := ⟨_, List.getElem?_eq_getElem (by rw [← HLN.out]; exact hkl)⟩
            obtain ⟨b, o, rfl, c0, c1⟩ := (HS.out.ch.below HO.out.1.below).ent hy
            have hkz : (0 : Int) ≤ (k : Int) := by omega
            have hkn : (k : Int) < (ln : Int) := by omega
            obtain ⟨m1, m2, m3, m4⟩ := HM.out k y hy
            have HTK := hid (HT.out k y hy)
            have hlk := HL.out k (by omega)
            have hk3 : k ≤ 3 := by have := H3.out; have := HLN.out; omega
            have C1 := hid (outText_any y.nm HO.out.1 HO.out.2 (by omega))
            have CD : Hid (∀ W, Calls Tryd.prog 37 #[.int .i64 y.v] W fun e w' => e = .returned (.string (strOfNums (decB y.v.toNat))) ∧ Hid (Below W.heap.size W w')) := fun W => by
              have h1 := decimal_any y.v.toNat W (by omega)
              rwa [show ((y.v.toNat : Nat) : Int) = y.v from by omega] at h1
            have HENT : Hid (∀ W, Below W1.heap.size W1 W → W.cell? ⟨b, o + k * 2 + 1, none⟩ = some (.int .i64 y.v)) := fun W hb => by
              obtain ⟨b', o', e1, _, e2⟩ := (HS.out.ch.below hb).ent hy
              simp only [Option.some.injEq, Addr.mk.injEq, and_true] at e1
              obtain ⟨rfl, rfl⟩ := e1
              exact e2
            have HC2 : Hid (∀ (a1 : Option Addr) (n1 c1 : Nat) (w1 w2 : World), OutE W1.heap.size W1 (pre ++ chsB (ch.take k) ++ nums y.nm ++ [0]) (.slice a1 n1 c1) w1 ∧ W1.heap.size ≤ w1.heap.size → Below w1.heap.size w1 w2 → Calls Tryd.prog 35 #[.slice a1 n1 c1, .string (strOfNums (decB y.v.toNat))] w2 fun e w' => ∃ a' n' c', e = .returned (.slice a' n' c') ∧ Hid (OutE W1.heap.size W1 (pre ++ chsB (ch.take (k + 1))) (.slice a' n' c') w' ∧ W1.heap.size ≤ w'.heap.size)) := fun a1 n1 c1 w1 w2 ho hb => by
              refine (outText_any (strOfNums (decB y.v.toNat)) (ho.1.keep ho.2 hb) (Nat.le_trans ho.2 hb.size) (by simp only [List.length_append, nums_len, List.length_cons, List.length_nil] at hlk ⊢; omega)).mono ?_
              rintro e w' ⟨a', n', c', rfl, HO2⟩
              refine ⟨a', n', c', rfl, ?_⟩
              rw [HTK.out]
              exact HO2
            clear hy hlk m1 m2 m3 m4 HTK
            generalize strOfNums (decB y.v.toNat) = S at *
            go_wp2_with (first
              | (go_at_call 35; (with_reducible refine C1.out.mono ?_); rintro e w4 ⟨a4, n4, c4, rfl, HO4⟩; have hq4 := HCX.out w4 HO4.out.1.below; have d1 := HENT.out w4 HO4.out.1.below; clear C1)
              | (go_at_call 37; refine (CD.out _).mono ?_; rintro e w5 ⟨rfl, HB5⟩; have C2 := hid (HC2.out _ _ _ _ _ HO4.out HB5.out))
              | (go_at_call 35; (with_reducible refine C2.out.mono ?_); rintro e w6 ⟨a6, n6, c6, rfl, HO6⟩)
              | fail)
            go_roundw
            case rel => exact ⟨k + 1, n6, c6, a6, rfl, by first | rfl | (congr 1; omega), by omega, HO6⟩
            case measure => simp only [intOfT]; omega
          · obtain rfl : k = ln := by omega
            have HTT : Hid (ch.take k = ch) := by unfold Hid; rw [HLN.out, List.take_length]
            clear hkl
            go_wp2_with fail
            go_ret2
            exact ⟨ra, rn, rc, rfl, by unfold Hid; have := HO.out.1; rw [HTT.out] at this; rw [HEN.out]; exact HFIN.out _ _ _ _ _ this⟩
    by_cases o3 : op = 3
    · as_aux_lemma =>
        subst o3
        have HF : Hid ((0 ≤ bk ∧ bk ≤ 65535) ∧ dl.length ≤ 65464) := by
          have h1 := HMAY.out
          rw [may_3] at h1
          unfold dataE at h1
          split at h1
          · cases h1
          · split at h1
            · cases h1
            · unfold Hid; omega
        have HEN : Hid (en = op2 3 ++ op2 bk ++ dl) := by unfold Hid; rw [HENC.out, if_neg (by decide), if_pos rfl]; simp
        clear HENC HMAY
        rw [hW1] at CB
        have CP := hid (fun W (ho : OutE W1.heap.size W1 [] (.slice none 0 0) W) (hb : W1.heap.size ≤ W.heap.size) => outWord_any 3 (by omega) ho hb (by simp))
        simp only [List.nil_append] at CP
        go_enter Tryd.func14, Tryd.ntmps14
        go_upto_region 4 with (first
          | (go_at_call 33; refine CB.out.mono ?_; go_loud (rintro e w2 ⟨rfl, hb2⟩; have HB2 := hid hb2; clear hb2))
          | fail)
        rw [← hW1] at HB2
        have hq2 := HCX.out w2 HB2.out
        have CP2 := hid (CP.out w2 (HST.out w2 HB2.out) HB2.out.size)
        clear CB CP hW1
        go_upto_region 6 with (first
          | (go_at_call 34; refine CP2.out.mono ?_; go_loud (rintro e w3 ⟨a3, n3, c3, rfl, HO3⟩; have hq3 := HCX.out w3 HO3.out.1.below))
          | fail)
        clear CP2 hq2
        have C1 := hid (outWord_any bk HF.out.1 HO3.out.1 HO3.out.2 (by simp [op2]))
        have HOFF : Hid (∀ (W : World) (v : Value), OutE W1.heap.size W1 (op2 3 ++ op2 bk) v W → ∀ b, v.ownBlock = some b → Part.off b ⟨da, dc, dl⟩) := fun W v ho b hb => Part.ok_new HS.out.da b (ho.low b hb)
        have C2 := hid (fun W a n c (ho : OutE W1.heap.size W1 (op2 3 ++ op2 bk) (.slice a n c) W ∧ W1.heap.size ≤ W.heap.size) => outAdd_any ⟨da, dc, dl⟩ ho.1 ho.2 (Part.ok_below HS.out.da ho.1.below) (HOFF.out W _ ho.1) (by have := HF.out.2; simp only [op2, List.length_append, List.length_cons, List.length_nil]; omega))
        simp only [Part.val] at C2
        go_wp2_with (first
          | (go_at_call 34; (with_reducible refine C1.out.mono ?_); rintro e w4 ⟨a4, n4, c4, rfl, HO4⟩; have hq4 := HCX.out w4 HO4.out.1.below; have C3 := hid (C2.out _ _ _ _ HO4.out); clear C1)
          | (go_at_call 36; (with_reducible refine C3.out.mono ?_); rintro e w5 ⟨a5, n5, c5, rfl, HO5⟩)
          | fail)
        try simp only [Exit.inBlock, Exit.then]
        go_ret2
        exact ⟨a5, n5, c5, rfl, by rw [HEN.out]; exact HFIN.out _ _ _ _ _ HO5.out.1⟩
    by_cases o4 : op = 4
    · as_aux_lemma =>
        subst o4
        have HF : Hid (0 ≤ bk ∧ bk ≤ 65535) := by
          have h1 := HMAY.out
          rw [may_4] at h1
          unfold numE at h1
          split at h1
          · cases h1
          · unfold Hid; omega
        have HEN : Hid (en = op2 4 ++ op2 bk) := by unfold Hid; rw [HENC.out, if_neg (by decide), if_neg (by decide), if_pos rfl]
        clear HENC HMAY
        rw [hW1] at CB
        have CP := hid (fun W (ho : OutE W1.heap.size W1 [] (.slice none 0 0) W) (hb : W1.heap.size ≤ W.heap.size) => outWord_any 4 (by omega) ho hb (by simp))
        simp only [List.nil_append] at CP
        go_enter Tryd.func14, Tryd.ntmps14
        go_upto_region 4 with (first
          | (go_at_call 33; refine CB.out.mono ?_; go_loud (rintro e w2 ⟨rfl, hb2⟩; have HB2 := hid hb2; clear hb2))
          | fail)
        rw [← hW1] at HB2
        have hq2 := HCX.out w2 HB2.out
        have CP2 := hid (CP.out w2 (HST.out w2 HB2.out) HB2.out.size)
        clear CB CP hW1
        go_upto_region 6 with (first
          | (go_at_call 34; refine CP2.out.mono ?_; go_loud (rintro e w3 ⟨a3, n3, c3, rfl, HO3⟩; have hq3 := HCX.out w3 HO3.out.1.below))
          | fail)
        clear CP2 hq2
        have C1 := hid (outWord_any bk HF.out HO3.out.1 HO3.out.2 (by simp [op2]))
        go_wp2_with (first
          | (go_at_call 34; (with_reducible refine C1.out.mono ?_); rintro e w4 ⟨a4, n4, c4, rfl, HO4⟩)
          | fail)
        try simp only [Exit.inBlock, Exit.then]
        go_ret2
        exact ⟨a4, n4, c4, rfl, by rw [HEN.out]; exact HFIN.out _ _ _ _ _ HO4.out.1⟩
    by_cases o5 : op = 5
    · as_aux_lemma =>
        subst o5
        have HF : Hid ((0 ≤ cd ∧ cd ≤ 65535) ∧ tx.size ≤ 255) := by
          have h1 := HMAY.out
          rw [may_5] at h1
          unfold errE at h1
          split at h1
          · cases h1
          · split at h1
            · cases h1
            · split at h1
              · cases h1
              · unfold Hid; omega
        have HEN : Hid (en = op2 5 ++ op2 cd ++ nums tx ++ [0]) := by unfold Hid; rw [HENC.out, if_neg (by decide), if_neg (by decide), if_neg (by decide), if_pos rfl]; simp
        clear HENC HMAY
        rw [hW1] at CB
        have CP := hid (fun W (ho : OutE W1.heap.size W1 [] (.slice none 0 0) W) (hb : W1.heap.size ≤ W.heap.size) => outWord_any 5 (by omega) ho hb (by simp))
        simp only [List.nil_append] at CP
        go_enter Tryd.func14, Tryd.ntmps14
        go_upto_region 4 with (first
          | (go_at_call 33; refine CB.out.mono ?_; go_loud (rintro e w2 ⟨rfl, hb2⟩; have HB2 := hid hb2; clear hb2))
          | fail)
        rw [← hW1] at HB2
        have hq2 := HCX.out w2 HB2.out
        have CP2 := hid (CP.out w2 (HST.out w2 HB2.out) HB2.out.size)
        clear CB CP hW1
        go_upto_region 6 with (first
          | (go_at_call 34; refine CP2.out.mono ?_; go_loud (rintro e w3 ⟨a3, n3, c3, rfl, HO3⟩; have hq3 := HCX.out w3 HO3.out.1.below))
          | fail)
        clear CP2 hq2
        have C1 := hid (outWord_any cd HF.out.1 HO3.out.1 HO3.out.2 (by simp [op2]))
        have C2 := hid (fun W a n c (ho : OutE W1.heap.size W1 (op2 5 ++ op2 cd) (.slice a n c) W ∧ W1.heap.size ≤ W.heap.size) => outText_any tx ho.1 ho.2 (by have := HF.out.2; simp only [op2, List.length_append, List.length_cons, List.length_nil]; omega))
        go_wp2_with (first
          | (go_at_call 34; (with_reducible refine C1.out.mono ?_); rintro e w4 ⟨a4, n4, c4, rfl, HO4⟩; have hq4 := HCX.out w4 HO4.out.1.below; have C3 := hid (C2.out _ _ _ _ HO4.out); clear C1)
          | (go_at_call 35; (with_reducible refine C3.out.mono ?_); rintro e w5 ⟨a5, n5, c5, rfl, HO5⟩)
          | fail)
        try simp only [Exit.inBlock, Exit.then]
        go_ret2
        exact ⟨a5, n5, c5, rfl, by rw [HEN.out]; exact HFIN.out _ _ _ _ _ HO5.out.1⟩
    have := HMAY.out
    rw [may_no ⟨o1, o3, o4, o5, o6⟩] at this
    cases this
  · rw [if_neg hm]
    have hmb : (m == 0) = false := by simpa using hm
    clear hm HENC HMAY HST
    have hcx := HCX.out W1 (Below.refl _ _)
    unfold tpC at *
    go_enter Tryd.func14, Tryd.ntmps14
    rw [hW1] at CB hcx
    go_wp2_with (first
      | (go_at_call 33; refine CB.out.mono ?_; rintro e w2 ⟨rfl, hb2⟩; have HB2 := hid hb2; clear hb2)
      | fail)
    go_ret2
    exact ⟨none, 0, 0, rfl, Row.nil _ _, by simp [Value.ownBlock], by rw [← hW1] at HB2; exact bstep HB.out HB2.out⟩
end Go.Proofs.YtdcppiknomoigaaDoor

