/-
  Tftp: the program's Encode.
-/
import Derived.Test.YtdcppiknomoigaaDoorTgG
namespace Go.Proofs.YtdcppiknomoigaaDoor
open Go.RowKit
set_option linter.all false

set_option maxRecDepth 20000 in
set_option maxHeartbeats 8000000 in
theorem encode_any (p : Tp) (ca : Option Addr) (cc : Nat) (da : Option Addr) (dc : Nat) (w : World) (hE : Env w) (h : TpS p ca cc da dc w) :
    Calls Tryd.prog 11 #[.agg (tpC p ca cc da dc)] w fun e w' => ∃ a n c, e = .returned (.tuple #[.slice a n c, .int .i64 p.may]) ∧ Hid (Ans w w' (if p.may = 0 then p.enc else []) a n c) := by
  have hb := bpush (Below.refl w.heap.size w) (.cells (tpC p ca cc da dc) 26)
  obtain ⟨W1, hW1⟩ : ∃ W1, W1 = w.alloc (.cells (tpC p ca cc da dc) 26) := ⟨_, rfl⟩
  have hbx : W1.heap[w.heap.size]? = some (.cells (tpC p ca cc da dc) 26 (0, 0)) := by rw [hW1]; exact heap_new _ _
  rw [← hW1] at hb
  have HB := hid hb
  have h1 := h.below hb
  have HS := hid h1
  have HE1 := hid (hE.below hb)
  have CB := hid (bad_any p ca cc da dc W1 h1)
  have HFIN : Hid (∀ (W : World) (zs : List Int) (a : Option Addr) (n c : Nat), OutP W1.heap.size W1 zs (.slice a n c) W → Ans w W zs a n c) := fun W zs a n c ho => by
    refine ⟨ho.row, fun b hb' => Nat.le_trans hb.size (ho.own.lt b hb').1, bstep hb ho.below⟩
  have HCX : Hid (∀ W', Below W1.heap.size W1 W' → ∀ q, W'.cell? ⟨w.heap.size, q, none⟩ = (tpC p ca cc da dc)[q]?) := fun W' hb' q => cell_of_heap (w := W') ((hb'.block _ (heap_lt hbx)).trans hbx) q
  have HPUT : Hid (∀ (W : World), Below W1.heap.size W1 W → OutP W1.heap.size W1 (op2 p.op) (.slice (some ⟨W.heap.size, 0, none⟩) 2 2) (W.alloc (.cells (u8s (op2 p.op)).toArray 5))) := fun W hb' => by
    refine ⟨?_, hb'.trans (bpush (Below.refl _ _) _ |>.mono hb'.size), Nat.le_trans hb'.size (by simp)⟩
    have := World.ownsRow_lit (base := W1.heap.size) (e := 5) (size := 1) W (u8s (op2 p.op)).toArray 2 hb'.size (by unfold maxLen; omega) (by simp [u8s, op2])
    simpa [op2] using this
  clear hb h1 h hE
  have HMAY : Hid (p.may = mayE p.op p.fl p.md (chOk p.ch p.ch.length) p.bk p.da.length p.cd p.tx) := rfl
  have HENC : Hid (p.enc = if p.op = 1 then op2 p.op ++ (nums p.fl ++ 0 :: (nums p.md ++ 0 :: chsB p.ch))
    else if p.op = 3 then op2 p.op ++ (op2 p.bk ++ p.da)
    else if p.op = 4 then op2 p.op ++ op2 p.bk
    else if p.op = 5 then op2 p.op ++ (op2 p.cd ++ (nums p.tx ++ [0]))
    else op2 p.op ++ chsB p.ch) := rfl
  generalize p.may = m at *
  generalize p.enc = en at *
  by_cases hm : m = 0
  · subst hm
    rw [if_pos rfl]
    obtain ⟨op, fl, md, ch, bk, dl, cd, tx⟩ := p
    unfold tpC at *
    simp only at *
    by_cases o1 : op = 1
    · subst o1
      have HF : Hid (fl.size ≤ 64 ∧ md = nOct ∧ chOk ch ch.length = true) := by
        have h1 := HMAY.out
        rw [may_1] at h1
        by_cases hx : fileB fl = false ∨ md ≠ nOct
        · rw [if_pos hx] at h1; cases h1
        · rw [if_neg hx] at h1
          simp only [not_or, Bool.not_eq_false, ne_eq, Classical.not_not] at hx
          refine ⟨?_, hx.2, ?_⟩
          · have := hx.1
            unfold fileB at this
            simp only [Bool.and_eq_true, decide_eq_true_eq] at this
            exact this.1.2
          · unfold okE at h1
            by_cases hk : chOk ch ch.length = true
            · exact hk
            · rw [if_neg hk] at h1; cases h1
      have HEN : Hid (en = op2 1 ++ nums fl ++ [0] ++ nums md ++ [0] ++ chsB ch) := by unfold Hid; rw [HENC.out, if_pos rfl]; simp
      have hmd : md.size = 5 := by rw [HF.out.2.1]; rfl
      have HMD := hid hmd
      clear hmd HENC HMAY
      have CP : Hid (∀ W, Below W1.heap.size W1 W → Calls Tryd.prog 29 #[.int .u64 1, .int .i64 2] W fun e w' => e = .returned (.slice (some ⟨W.heap.size, 0, none⟩) 2 2) ∧ Hid (OutP W1.heap.size W1 (op2 1) (.slice (some ⟨W.heap.size, 0, none⟩) 2 2) w')) := fun W hb => by
        refine (put2_any 1 W (by omega) (by omega)).mono ?_
        rintro e w' ⟨rfl, rfl⟩
        exact ⟨rfl, HPUT.out W hb⟩
      rw [hW1] at CB
      go_enter Tryd.func11, Tryd.ntmps11
      go_upto_region 4 with (first
        | (go_at_call 28; refine CB.out.mono ?_; rintro e w2 ⟨rfl, HB2⟩)
        | fail)
      rw [← hW1] at HB2
      have hq2 := HCX.out w2 HB2.out
      clear CB HPUT hW1
      go_wp2_with (first
        | (go_at_call 29; refine (CP.out _ HB2.out).mono ?_; rintro e w3 ⟨rfl, HO3⟩; have hq3 := HCX.out w3 HO3.out.below; have C1 := hid (withText_any fl HO3.out (by have := HF.out.1; simp only [op2, List.length_cons, List.length_nil]; omega)); clear CP hq2)
        | (go_at_call 30; (with_reducible refine C1.out.mono ?_); rintro e w4 ⟨a4, n4, c4, rfl, HO4⟩; have hq4 := HCX.out w4 HO4.out.1.below; have C2 := hid (withText_any md HO4.out.1 (by have := HF.out.1; have := HMD.out; simp only [op2, List.length_append, nums_len, List.length_cons, List.length_nil]; omega)); clear C1 hq3)
        | (go_at_call 30; (with_reducible refine C2.out.mono ?_); rintro e w5 ⟨a5, n5, c5, rfl, HO5⟩; have hq5 := HCX.out w5 HO5.out.1.below; have C3 := hid (withChoices_any ch ca ch.length cc HE1.out HS.out.ch rfl HF.out.2.2 HO5.out.1 (by have := HF.out.1; have := HMD.out; simp only [op2, List.length_append, nums_len, List.length_cons, List.length_nil]; omega)); clear C2 hq4)
        | (go_at_call 31; (with_reducible refine C3.out.mono ?_); rintro e w6 ⟨a6, n6, c6, rfl, HO6⟩)
        | fail)
      go_ret2
      exact ⟨a6, n6, c6, rfl, by rw [HEN.out]; exact HFIN.out _ _ _ _ _ HO6.out⟩
    · by_cases o3 : op = 3
      · subst o3
        have HF : Hid ((0 ≤ bk ∧ bk ≤ 65535) ∧ dl.length ≤ 65464) := by
          have h1 := HMAY.out
          rw [may_3] at h1
          unfold dataE at h1
          split at h1
          · cases h1
          · split at h1
            · cases h1
            · unfold Hid; omega
        have HEN : Hid (en = op2 3 ++ op2 bk ++ dl) := by unfold Hid; rw [HENC.out, if_neg (by decide), if_pos rfl]; simp
        clear HENC HMAY
        have CP : Hid (∀ W, Below W1.heap.size W1 W → Calls Tryd.prog 29 #[.int .u64 3, .int .i64 2] W fun e w' => e = .returned (.slice (some ⟨W.heap.size, 0, none⟩) 2 2) ∧ Hid (OutP W1.heap.size W1 (op2 3) (.slice (some ⟨W.heap.size, 0, none⟩) 2 2) w')) := fun W hb => by
          refine (put2_any 3 W (by omega) (by omega)).mono ?_
          rintro e w' ⟨rfl, rfl⟩
          exact ⟨rfl, HPUT.out W hb⟩
        rw [hW1] at CB
        go_enter Tryd.func11, Tryd.ntmps11
        go_upto_region 4 with (first
          | (go_at_call 28; refine CB.out.mono ?_; rintro e w2 ⟨rfl, HB2⟩)
          | fail)
        rw [← hW1] at HB2
        have hq2 := HCX.out w2 HB2.out
        clear CB HPUT hW1
        go_wp2_with (first
          | (go_at_call 29; refine (CP.out _ HB2.out).mono ?_; rintro e w3 ⟨rfl, HO3⟩; have hq3 := HCX.out w3 HO3.out.below; have C1 := hid (withNumber_any bk HF.out.1 HO3.out (by simp [op2])); clear CP hq2)
          | (go_at_call 32; (with_reducible refine C1.out.mono ?_); rintro e w4 ⟨a4, n4, c4, rfl, HO4⟩; have hq4 := HCX.out w4 HO4.out.1.below; obtain ⟨a5, n5, c5, w5, hrun, HO5, _⟩ := HO4.out.1.part ⟨da, dc, dl⟩ (Part.ok_below HS.out.da HO4.out.1.below) (by have := HF.out.2; simp only [op2, List.length_append, List.length_cons, List.length_nil]; omega) 24; have HR5 := hid hrun; have HO5' := hid HO5; clear C1 hq3 hrun HO5)
          | (at_builtin; refine wpList_append_run _ rfl _ _ _ _ rfl _ _ rfl rfl HR5.out ?_)
          | fail)
        go_ret2
        exact ⟨a5, n5, c5, rfl, by rw [HEN.out]; exact HFIN.out _ _ _ _ _ HO5'.out⟩
      · by_cases o4 : op = 4
        · subst o4
          have HF : Hid (0 ≤ bk ∧ bk ≤ 65535) := by
            have h1 := HMAY.out
            rw [may_4] at h1
            unfold numE at h1
            split at h1
            · cases h1
            · unfold Hid; omega
          have HEN : Hid (en = op2 4 ++ op2 bk) := by unfold Hid; rw [HENC.out, if_neg (by decide), if_neg (by decide), if_pos rfl]
          clear HENC HMAY
          have CP : Hid (∀ W, Below W1.heap.size W1 W → Calls Tryd.prog 29 #[.int .u64 4, .int .i64 2] W fun e w' => e = .returned (.slice (some ⟨W.heap.size, 0, none⟩) 2 2) ∧ Hid (OutP W1.heap.size W1 (op2 4) (.slice (some ⟨W.heap.size, 0, none⟩) 2 2) w')) := fun W hb => by
            refine (put2_any 4 W (by omega) (by omega)).mono ?_
            rintro e w' ⟨rfl, rfl⟩
            exact ⟨rfl, HPUT.out W hb⟩
          rw [hW1] at CB
          go_enter Tryd.func11, Tryd.ntmps11
          go_upto_region 4 with (first
            | (go_at_call 28; refine CB.out.mono ?_; rintro e w2 ⟨rfl, HB2⟩)
            | fail)
          rw [← hW1] at HB2
          have hq2 := HCX.out w2 HB2.out
          clear CB HPUT hW1
          go_wp2_with (first
            | (go_at_call 29; refine (CP.out _ HB2.out).mono ?_; rintro e w3 ⟨rfl, HO3⟩; have hq3 := HCX.out w3 HO3.out.below; have C1 := hid (withNumber_any bk HF.out HO3.out (by simp [op2])); clear CP hq2)
            | (go_at_call 32; (with_reducible refine C1.out.mono ?_); rintro e w4 ⟨a4, n4, c4, rfl, HO4⟩)
            | fail)
          go_ret2
          exact ⟨a4, n4, c4, rfl, by rw [HEN.out]; exact HFIN.out _ _ _ _ _ HO4.out.1⟩
        · by_cases o5 : op = 5
          · subst o5
            have HF : Hid ((0 ≤ cd ∧ cd ≤ 65535) ∧ tx.size ≤ 255) := by
              have h1 := HMAY.out
              rw [may_5] at h1
              unfold errE at h1
              split at h1
              · cases h1
              · split at h1
                · cases h1
                · split at h1
                  · cases h1
                  · unfold Hid; omega
            have HEN : Hid (en = op2 5 ++ op2 cd ++ nums tx ++ [0]) := by unfold Hid; rw [HENC.out, if_neg (by decide), if_neg (by decide), if_neg (by decide), if_pos rfl]; simp
            clear HENC HMAY
            have CP : Hid (∀ W, Below W1.heap.size W1 W → Calls Tryd.prog 29 #[.int .u64 5, .int .i64 2] W fun e w' => e = .returned (.slice (some ⟨W.heap.size, 0, none⟩) 2 2) ∧ Hid (OutP W1.heap.size W1 (op2 5) (.slice (some ⟨W.heap.size, 0, none⟩) 2 2) w')) := fun W hb => by
              refine (put2_any 5 W (by omega) (by omega)).mono ?_
              rintro e w' ⟨rfl, rfl⟩
              exact ⟨rfl, HPUT.out W hb⟩
            rw [hW1] at CB
            go_enter Tryd.func11, Tryd.ntmps11
            go_upto_region 4 with (first
              | (go_at_call 28; refine CB.out.mono ?_; rintro e w2 ⟨rfl, HB2⟩)
              | fail)
            rw [← hW1] at HB2
            have hq2 := HCX.out w2 HB2.out
            clear CB HPUT hW1
            go_wp2_with (first
              | (go_at_call 29; refine (CP.out _ HB2.out).mono ?_; rintro e w3 ⟨rfl, HO3⟩; have hq3 := HCX.out w3 HO3.out.below; have C1 := hid (withNumber_any cd HF.out.1 HO3.out (by simp [op2])); clear CP hq2)
              | (go_at_call 32; (with_reducible refine C1.out.mono ?_); rintro e w4 ⟨a4, n4, c4, rfl, HO4⟩; have hq4 := HCX.out w4 HO4.out.1.below; have C2 := hid (withText_any tx HO4.out.1 (by have := HF.out.2; simp only [op2, List.length_append, List.length_cons, List.length_nil]; omega)); clear C1 hq3)
              | (go_at_call 30; (with_reducible refine C2.out.mono ?_); rintro e w5 ⟨a5, n5, c5, rfl, HO5⟩)
              | fail)
            go_ret2
            exact ⟨a5, n5, c5, rfl, by rw [HEN.out]; exact HFIN.out _ _ _ _ _ HO5.out.1⟩
          · by_cases o6 : op = 6
            · subst o6
              have HF : Hid (chOk ch ch.length = true) := by
                have h1 := HMAY.out
                rw [may_6] at h1
                unfold okE at h1
                by_cases hk : chOk ch ch.length = true
                · exact hk
                · rw [if_neg hk] at h1; cases h1
              have HEN : Hid (en = op2 6 ++ chsB ch) := by unfold Hid; rw [HENC.out, if_neg (by decide), if_neg (by decide), if_neg (by decide), if_neg (by decide)]
              clear HENC HMAY
              have CP : Hid (∀ W, Below W1.heap.size W1 W → Calls Tryd.prog 29 #[.int .u64 6, .int .i64 2] W fun e w' => e = .returned (.slice (some ⟨W.heap.size, 0, none⟩) 2 2) ∧ Hid (OutP W1.heap.size W1 (op2 6) (.slice (some ⟨W.heap.size, 0, none⟩) 2 2) w')) := fun W hb => by
                refine (put2_any 6 W (by omega) (by omega)).mono ?_
                rintro e w' ⟨rfl, rfl⟩
                exact ⟨rfl, HPUT.out W hb⟩
              rw [hW1] at CB
              go_enter Tryd.func11, Tryd.ntmps11
              go_upto_region 4 with (first
                | (go_at_call 28; refine CB.out.mono ?_; rintro e w2 ⟨rfl, HB2⟩)
                | fail)
              rw [← hW1] at HB2
              have hq2 := HCX.out w2 HB2.out
              clear CB HPUT hW1
              go_wp2_with (first
                | (go_at_call 29; refine (CP.out _ HB2.out).mono ?_; rintro e w3 ⟨rfl, HO3⟩; have hq3 := HCX.out w3 HO3.out.below; have C1 := hid (withChoices_any ch ca ch.length cc HE1.out HS.out.ch rfl HF.out HO3.out (by simp [op2])); clear CP hq2)
                | (go_at_call 31; (with_reducible refine C1.out.mono ?_); rintro e w4 ⟨a4, n4, c4, rfl, HO4⟩)
                | fail)
              go_ret2
              exact ⟨a4, n4, c4, rfl, by rw [HEN.out]; exact HFIN.out _ _ _ _ _ HO4.out⟩
            · have := HMAY.out
              rw [may_no ⟨o1, o3, o4, o5, o6⟩] at this
              cases this
  · rw [if_neg hm]
    have hmb : (m == 0) = false := by simpa using hm
    clear hm HENC HMAY HPUT
    have hcx := HCX.out W1 (Below.refl _ _)
    unfold tpC at *
    go_enter Tryd.func11, Tryd.ntmps11
    rw [hW1] at CB hcx
    go_wp2_with (first
      | (go_at_call 28; refine CB.out.mono ?_; rintro e w2 ⟨rfl, HB2⟩)
      | fail)
    go_ret2
    exact ⟨none, 0, 0, rfl, Row.nil _ _, by simp [Value.ownBlock], by rw [← hW1] at HB2; exact bstep HB.out HB2.out⟩
end Go.Proofs.YtdcppiknomoigaaDoor
