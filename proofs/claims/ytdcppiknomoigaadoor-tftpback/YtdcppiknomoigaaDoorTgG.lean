/-
  Tftp: the program's unlayable.
-/
import Derived.Test.YtdcppiknomoigaaDoorTgF
namespace Go.Proofs.YtdcppiknomoigaaDoor
open Go.RowKit
set_option linter.all false

theorem may_1 (fl md : ByteArray) (ck : Bool) (bk : Int) (dn : Nat) (cd : Int) (tx : ByteArray) : mayE 1 fl md ck bk dn cd tx = if fileB fl = false ∨ md ≠ nOct then 171 else okE ck := by
  unfold mayE fileB okE
  rw [if_pos rfl]
  by_cases h : fl.size < 1 ∨ 64 < fl.size ∨ zeroIn fl = true ∨ md ≠ nOct
  · rw [if_pos h, if_pos]
    rcases h with h | h | h | h
    · left; simp; omega
    · left; simp; omega
    · left; simp [h]
    · exact Or.inr h
  · rw [if_neg h]
    symm
    apply if_neg
    simp only [not_or, Nat.not_lt] at h
    obtain ⟨h1, h2, h3, h4⟩ := h
    rintro (h | h)
    · rw [decide_eq_true (by omega), decide_eq_true h2] at h
      simp at h3
      rw [h3] at h
      cases h
    · exact h4 h
theorem may_6 (fl md : ByteArray) (ck : Bool) (bk : Int) (dn : Nat) (cd : Int) (tx : ByteArray) : mayE 6 fl md ck bk dn cd tx = okE ck := by
  unfold mayE okE; rw [if_neg (by decide), if_pos rfl]
theorem may_3 (fl md : ByteArray) (ck : Bool) (bk : Int) (dn : Nat) (cd : Int) (tx : ByteArray) : mayE 3 fl md ck bk dn cd tx = dataE bk dn := by
  unfold mayE dataE; rw [if_neg (by decide), if_neg (by decide), if_pos (Or.inl rfl)]; simp
theorem may_4 (fl md : ByteArray) (ck : Bool) (bk : Int) (dn : Nat) (cd : Int) (tx : ByteArray) : mayE 4 fl md ck bk dn cd tx = numE bk := by
  unfold mayE numE; rw [if_neg (by decide), if_neg (by decide), if_pos (Or.inr rfl)]; simp
theorem may_5 (fl md : ByteArray) (ck : Bool) (bk : Int) (dn : Nat) (cd : Int) (tx : ByteArray) : mayE 5 fl md ck bk dn cd tx = errE cd (zeroIn tx) tx.size := by
  unfold mayE errE; rw [if_neg (by decide), if_neg (by decide), if_neg (by decide), if_pos rfl]
theorem may_no {op : Int} (h : op ≠ 1 ∧ op ≠ 3 ∧ op ≠ 4 ∧ op ≠ 5 ∧ op ≠ 6) (fl md : ByteArray) (ck : Bool) (bk : Int) (dn : Nat) (cd : Int) (tx : ByteArray) : mayE op fl md ck bk dn cd tx = 170 := by
  unfold mayE; rw [if_neg h.1, if_neg h.2.2.2.2, if_neg (by omega), if_neg h.2.2.2.1]
set_option maxRecDepth 20000 in
set_option maxHeartbeats 4000000 in
theorem bad_any (p : Tp) (ca : Option Addr) (cc : Nat) (da : Option Addr) (dc : Nat) (w : World) (h : TpS p ca cc da dc w) :
    Calls Tryd.prog 28 #[.agg (tpC p ca cc da dc)] w fun e w' => e = .returned (.int .i64 p.may) ∧ Hid (Below w.heap.size w w') := by
  have hb := bpush (Below.refl w.heap.size w) (.cells (tpC p ca cc da dc) 26)
  have HB := hid hb
  have CD := hid (badData_any p ca cc da dc (w.alloc (.cells (tpC p ca cc da dc) 26)))
  have CE := hid (badError_any p ca cc da dc (w.alloc (.cells (tpC p ca cc da dc) 26)))
  have CC := hid (badChoices_any p.ch ca p.ch.length cc (w.alloc (.cells (tpC p ca cc da dc) 26)) (h.ch.below hb) rfl h.cc (by have := h.cn; omega))
  have CF := hid (fun W => isFile_any p.fl W)
  have CN := hid (fun W => badNumber_any p.bk W)
  clear h hb
  unfold Tp.may
  unfold tpC at *
  obtain ⟨op, fl, md, ch, bk, dl, cd, tx⟩ := p
  simp only at *
  have hsm := sOct md
  generalize chOk ch ch.length = ck at *
  generalize ch.length = cn at *
  generalize dl.length = dn at *
  by_cases o1 : op = 1
  · subst o1
    rw [may_1]
    generalize fileB fl = fb at *
    cases fb
    · rw [if_pos (Or.inl rfl)]
      go_enter Tryd.func28, Tryd.ntmps28
      go_wp2_with (first
        | (go_at_call 56; refine (CF.out _).mono ?_; rintro e w1 ⟨rfl, hw⟩; subst w1)
        | fail)
      go_ret
      exact ⟨rfl, HB⟩
    · by_cases hm : md = nOct
      · rw [if_neg (by rintro (h | h); cases h; exact h hm)]
        rw [decide_eq_true hm] at hsm
        clear hm
        go_enter Tryd.func28, Tryd.ntmps28
        go_wp2_with (first
          | (go_at_call 56; refine (CF.out _).mono ?_; rintro e w1 ⟨rfl, hw⟩; subst w1)
          | (go_at_call 57; refine CC.out.mono ?_; rintro e w2 ⟨rfl, HB2⟩)
          | fail)
        go_ret
        exact ⟨rfl, bstep HB.out HB2.out⟩
      · rw [if_pos (Or.inr hm)]
        rw [decide_eq_false hm] at hsm
        clear hm
        go_enter Tryd.func28, Tryd.ntmps28
        go_wp2_with (first
          | (go_at_call 56; refine (CF.out _).mono ?_; rintro e w1 ⟨rfl, hw⟩; subst w1)
          | fail)
        go_ret
        exact ⟨rfl, HB⟩
  · by_cases o3 : op = 3
    · subst o3
      rw [may_3]
      go_enter Tryd.func28, Tryd.ntmps28
      go_wp2_with (first
        | (go_at_call 58; refine CD.out.mono ?_; rintro e w2 ⟨rfl, HB2⟩)
        | fail)
      go_ret
      exact ⟨rfl, bstep HB.out HB2.out⟩
    · by_cases o4 : op = 4
      · subst o4
        rw [may_4]
        go_enter Tryd.func28, Tryd.ntmps28
        go_wp2_with (first
          | (go_at_call 59; refine (CN.out _).mono ?_; rintro e w1 ⟨rfl, hw⟩; subst w1)
          | fail)
        go_ret
        exact ⟨rfl, HB⟩
      · by_cases o5 : op = 5
        · subst o5
          rw [may_5]
          go_enter Tryd.func28, Tryd.ntmps28
          go_wp2_with (first
            | (go_at_call 60; refine CE.out.mono ?_; rintro e w2 ⟨rfl, HB2⟩)
            | fail)
          go_ret
          exact ⟨rfl, bstep HB.out HB2.out⟩
        · by_cases o6 : op = 6
          · subst o6
            rw [may_6]
            go_enter Tryd.func28, Tryd.ntmps28
            go_wp2_with (first
              | (go_at_call 57; refine CC.out.mono ?_; rintro e w2 ⟨rfl, HB2⟩)
              | fail)
            go_ret
            exact ⟨rfl, bstep HB.out HB2.out⟩
          · rw [may_no ⟨o1, o3, o4, o5, o6⟩]
            go_enter Tryd.func28, Tryd.ntmps28
            go_wp2_with fail
            go_ret
            exact ⟨rfl, HB⟩
end Go.Proofs.YtdcppiknomoigaaDoor
