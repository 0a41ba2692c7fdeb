/-
  Tftp: the document's may. Written by mktfy.py.
-/
import Derived.Test.YtdcppiknomoigaaDoorTfW
namespace Go.Proofs.YtdcppiknomoigaaDoor
open Go.RowKit
set_option linter.all false

def nOct : ByteArray := ⟨#[111, 99, 116, 101, 116]⟩
theorem sOct (s : ByteArray) : (s.toList == ([111, 99, 116, 101, 116] : List UInt8)) = decide (s = nOct) := by
  rw [← sbeq, show nOct.toList = [111, 99, 116, 101, 116] from by rw [ByteArray.toList_eq]; rfl]
/-- why a packet may not be written; ck: may its choices be; dn: how many bytes its data has. -/
def mayE (op : Int) (fl md : ByteArray) (ck : Bool) (bk : Int) (dn : Nat) (cd : Int) (tx : ByteArray) : Int :=
  if op = 1 then (if fl.size < 1 ∨ 64 < fl.size ∨ zeroIn fl = true ∨ md ≠ nOct then 171 else if ck = true then 0 else 172)
  else if op = 6 then (if ck = true then 0 else 172)
  else if op = 3 ∨ op = 4 then (if bk < 0 ∨ 65535 < bk then 1 else if op = 3 ∧ 65464 < dn then 2 else 0)
  else if op = 5 then (if cd < 0 ∨ 65535 < cd then 1 else if zeroIn tx = true then 171 else if 255 < tx.size then 2 else 0)
  else 170
set_option maxRecDepth 20000 in
set_option maxHeartbeats 16000000 in
theorem may_any (op : Int) (fl md : ByteArray) (ca : Option Addr) (cn cc : Nat) (l : List Ch) (bk : Int) (da : Option Addr) (dn dc : Nat) (cd : Int) (tx : ByteArray) (w : World) (h : ChV w ca l) (hn : cn = l.length) (hbn : cn ≤ 9223372036854775807) (hf : fl.size ≤ 140737488353280) (ht : tx.size ≤ 140737488353280) (hdn : dn ≤ 140737488353280) :
    Calls Tryd.prog 33 #[.agg #[.int .i64 op, .string fl, .string md, .slice ca cn cc, .int .i64 bk, .slice da dn dc, .int .i64 cd, .string tx]] w fun e w' => e = .returned (.int .i64 (mayE op fl md (chOk l cn) bk dn cd tx)) ∧ Below w.heap.size w w' := by
  have hb1 := bpush (Below.refl w.heap.size w) (.cells #[.int .i64 op, .string fl, .string md, .slice ca cn cc, .int .i64 bk, .slice da dn dc, .int .i64 cd, .string tx] 26)
  have HB1 := hid hb1
  have HBX := hid (heap_new w (.cells #[.int .i64 op, .string fl, .string md, .slice ca cn cc, .int .i64 bk, .slice da dn dc, .int .i64 cd, .string tx] 26))
  have HFZ0 := hid (fun W => refZero_any fl W hf)
  have HTZ0 := hid (fun W => refZero_any tx W ht)
  have HCK := hid (choices_any l ca cn cc _ (h.below hb1) hn hbn)
  obtain ⟨ck, hck⟩ : ∃ b, b = chOk l cn := ⟨_, rfl⟩
  rw [← hck] at HCK
  have HX : Hid (mayE op fl md (chOk l cn) bk dn cd tx = mayE op fl md ck bk dn cd tx) := by rw [hck]; exact rfl
  obtain ⟨fz, hfz⟩ : ∃ b, b = zeroIn fl := ⟨_, rfl⟩
  obtain ⟨tz, htz⟩ : ∃ b, b = zeroIn tx := ⟨_, rfl⟩
  rw [← hfz] at HFZ0
  rw [← htz] at HTZ0
  have HFZ := hid hfz
  have HTZ := hid htz
  have HM : Hid True := trivial
  clear h hn hbn hck hfz htz hb1
  have hsm := sOct md
  go_enter Tryd.func33, Tryd.ntmps33
  have hcx : ∀ q, (w.alloc (.cells #[.int .i64 op, .string fl, .string md, .slice ca cn cc, .int .i64 bk, .slice da dn dc, .int .i64 cd, .string tx] 26)).cell? ⟨w.heap.size, q, none⟩ = (#[.int .i64 op, .string fl, .string md, .slice ca cn cc, .int .i64 bk, .slice da dn dc, .int .i64 cd, .string tx] : Array Value)[q]? := fun q => cell_of_heap HBX.out q
  go_upto_region 4 with (first
    | (go_at_call 63; first | (with_reducible refine (HFZ0.out _).mono ?_; go_loud (rintro e w1 ⟨rfl, hw1⟩; subst w1)) | (with_reducible refine (HTZ0.out _).mono ?_; go_loud (rintro e w1 ⟨rfl, hw1⟩; subst w1)))
    | (go_at_call 64; refine HCK.out.mono ?_; go_loud (rintro e w2 ⟨rfl, q2, hw2⟩; have HW2 := hid hw2; clear hw2))
    | fail)
  have hcy : ∀ q, w2.cell? ⟨w.heap.size, q, none⟩ = (#[.int .i64 op, .string fl, .string md, .slice ca cn cc, .int .i64 bk, .slice da dn dc, .int .i64 cd, .string tx] : Array Value)[q]? := fun q => by rw [HW2.out]; exact hcx q
  have HB : Hid (Below w.heap.size w w2) := hid (by rw [HW2.out]; exact bstep HB1.out (bdrewT _ q2))
  clear hcx HCK HFZ0 HTZ0 HW2 HBX HB1
  by_cases o1 : op = 1
  · subst o1
    by_cases f1 : fl.size < 1
    · have HF : Hid (mayE 1 fl md ck bk dn cd tx = 171) := by unfold Hid mayE; rw [if_pos rfl, if_pos (Or.inl f1)]
      clear HM
      go_wp2_with fail
      go_ret
      exact ⟨by rw [HX.out, HF.out]; rfl, HB.out⟩
    · by_cases f2 : 64 < fl.size
      · have HF : Hid (mayE 1 fl md ck bk dn cd tx = 171) := by unfold Hid mayE; rw [if_pos rfl, if_pos (Or.inr (Or.inl f2))]
        clear HM
        go_wp2_with fail
        go_ret
        exact ⟨by rw [HX.out, HF.out]; rfl, HB.out⟩
      · cases fz
        · by_cases m1 : md = nOct
          · rw [decide_eq_true m1] at hsm
            have HMD := hid m1
            clear m1
            cases ck
            · have HF : Hid (mayE 1 fl md false bk dn cd tx = 172) := by unfold Hid mayE; rw [if_pos rfl, if_neg (fun h => h.elim f1 (fun h => h.elim f2 (fun h => h.elim (fun h => by rw [← HFZ.out] at h; cases h) (fun h => h HMD.out)))), if_neg (by simp)]
              clear HM
              go_wp2_with fail
              go_ret
              exact ⟨by rw [HX.out, HF.out]; rfl, HB.out⟩
            · have HF : Hid (mayE 1 fl md true bk dn cd tx = 0) := by unfold Hid mayE; rw [if_pos rfl, if_neg (fun h => h.elim f1 (fun h => h.elim f2 (fun h => h.elim (fun h => by rw [← HFZ.out] at h; cases h) (fun h => h HMD.out)))), if_pos rfl]
              clear HM
              go_wp2_with fail
              go_ret
              exact ⟨by rw [HX.out, HF.out]; rfl, HB.out⟩
          · rw [decide_eq_false m1] at hsm
            have HMD := hid m1
            clear m1
            have HF : Hid (mayE 1 fl md ck bk dn cd tx = 171) := by unfold Hid mayE; rw [if_pos rfl, if_pos (Or.inr (Or.inr (Or.inr HMD.out)))]
            clear HM
            go_wp2_with fail
            go_ret
            exact ⟨by rw [HX.out, HF.out]; rfl, HB.out⟩
        · have HF : Hid (mayE 1 fl md ck bk dn cd tx = 171) := by unfold Hid mayE; rw [if_pos rfl, if_pos (Or.inr (Or.inr (Or.inl HFZ.out.symm)))]
          clear HM
          go_wp2_with fail
          go_ret
          exact ⟨by rw [HX.out, HF.out]; rfl, HB.out⟩
  · have q1 : (op == 1) = false := by simpa using o1
    have O1 := hid o1
    clear o1
    by_cases o6 : op = 6
    · subst o6
      clear q1
      cases ck
      · have HF : Hid (mayE 6 fl md false bk dn cd tx = 172) := by unfold Hid mayE; rw [if_neg O1.out, if_pos rfl, if_neg (by simp)]
        clear HM
        go_wp2_with fail
        go_ret
        exact ⟨by rw [HX.out, HF.out]; rfl, HB.out⟩
      · have HF : Hid (mayE 6 fl md true bk dn cd tx = 0) := by unfold Hid mayE; rw [if_neg O1.out, if_pos rfl, if_pos rfl]
        clear HM
        go_wp2_with fail
        go_ret
        exact ⟨by rw [HX.out, HF.out]; rfl, HB.out⟩
    · have q6 : (op == 6) = false := by simpa using o6
      have O6 := hid o6
      clear o6
      by_cases o3 : op = 3
      · subst o3
        clear q1 q6
        by_cases b1 : bk < 0
        · have HF : Hid (mayE 3 fl md ck bk dn cd tx = 1) := by unfold Hid mayE; rw [if_neg O1.out, if_neg O6.out, if_pos (Or.inl rfl), if_pos (Or.inl b1)]
          clear HM
          go_wp2_with fail
          go_ret
          exact ⟨by rw [HX.out, HF.out]; rfl, HB.out⟩
        · by_cases b2 : 65535 < bk
          · have HF : Hid (mayE 3 fl md ck bk dn cd tx = 1) := by unfold Hid mayE; rw [if_neg O1.out, if_neg O6.out, if_pos (Or.inl rfl), if_pos (Or.inr b2)]
            clear HM
            go_wp2_with fail
            go_ret
            exact ⟨by rw [HX.out, HF.out]; rfl, HB.out⟩
          · by_cases d1 : 65464 < dn
            · have d1i : (65464 : Int) < (dn : Int) := by omega
              have HF : Hid (mayE 3 fl md ck bk dn cd tx = 2) := by unfold Hid mayE; rw [if_neg O1.out, if_neg O6.out, if_pos (Or.inl rfl), if_neg (by omega), if_pos ⟨rfl, d1⟩]
              clear HM
              go_wp2_with fail
              go_ret
              exact ⟨by rw [HX.out, HF.out]; rfl, HB.out⟩
            · have d1i : ¬ (65464 : Int) < (dn : Int) := by omega
              have HF : Hid (mayE 3 fl md ck bk dn cd tx = 0) := by unfold Hid mayE; rw [if_neg O1.out, if_neg O6.out, if_pos (Or.inl rfl), if_neg (by omega), if_neg (fun h => d1 h.2)]
              clear HM
              go_wp2_with fail
              go_ret
              exact ⟨by rw [HX.out, HF.out]; rfl, HB.out⟩
      · have q3 : (op == 3) = false := by simpa using o3
        have O3 := hid o3
        clear o3
        by_cases o4 : op = 4
        · subst o4
          clear q1 q6 q3
          by_cases b1 : bk < 0
          · have HF : Hid (mayE 4 fl md ck bk dn cd tx = 1) := by unfold Hid mayE; rw [if_neg O1.out, if_neg O6.out, if_pos (Or.inr rfl), if_pos (Or.inl b1)]
            clear HM
            go_wp2_with fail
            go_ret
            exact ⟨by rw [HX.out, HF.out]; rfl, HB.out⟩
          · by_cases b2 : 65535 < bk
            · have HF : Hid (mayE 4 fl md ck bk dn cd tx = 1) := by unfold Hid mayE; rw [if_neg O1.out, if_neg O6.out, if_pos (Or.inr rfl), if_pos (Or.inr b2)]
              clear HM
              go_wp2_with fail
              go_ret
              exact ⟨by rw [HX.out, HF.out]; rfl, HB.out⟩
            · have HF : Hid (mayE 4 fl md ck bk dn cd tx = 0) := by unfold Hid mayE; rw [if_neg O1.out, if_neg O6.out, if_pos (Or.inr rfl), if_neg (by omega), if_neg (fun h => O3.out h.1)]
              clear HM
              go_wp2_with fail
              go_ret
              exact ⟨by rw [HX.out, HF.out]; rfl, HB.out⟩
        · have q4 : (op == 4) = false := by simpa using o4
          have O4 := hid o4
          clear o4
          by_cases o5 : op = 5
          · subst o5
            clear q1 q6 q3 q4
            by_cases b1 : cd < 0
            · have HF : Hid (mayE 5 fl md ck bk dn cd tx = 1) := by unfold Hid mayE; rw [if_neg O1.out, if_neg O6.out, if_neg (by decide), if_pos rfl, if_pos (Or.inl b1)]
              clear HM
              go_wp2_with fail
              go_ret
              exact ⟨by rw [HX.out, HF.out]; rfl, HB.out⟩
            · by_cases b2 : 65535 < cd
              · have HF : Hid (mayE 5 fl md ck bk dn cd tx = 1) := by unfold Hid mayE; rw [if_neg O1.out, if_neg O6.out, if_neg (by decide), if_pos rfl, if_pos (Or.inr b2)]
                clear HM
                go_wp2_with fail
                go_ret
                exact ⟨by rw [HX.out, HF.out]; rfl, HB.out⟩
              · cases tz
                · by_cases t1 : 255 < tx.size
                  · have HF : Hid (mayE 5 fl md ck bk dn cd tx = 2) := by unfold Hid mayE; rw [if_neg O1.out, if_neg O6.out, if_neg (by decide), if_pos rfl, if_neg (by omega), if_neg (by rw [← HTZ.out]; simp), if_pos t1]
                    clear HM
                    go_wp2_with fail
                    go_ret
                    exact ⟨by rw [HX.out, HF.out]; rfl, HB.out⟩
                  · have HF : Hid (mayE 5 fl md ck bk dn cd tx = 0) := by unfold Hid mayE; rw [if_neg O1.out, if_neg O6.out, if_neg (by decide), if_pos rfl, if_neg (by omega), if_neg (by rw [← HTZ.out]; simp), if_neg t1]
                    clear HM
                    go_wp2_with fail
                    go_ret
                    exact ⟨by rw [HX.out, HF.out]; rfl, HB.out⟩
                · have HF : Hid (mayE 5 fl md ck bk dn cd tx = 171) := by unfold Hid mayE; rw [if_neg O1.out, if_neg O6.out, if_neg (by decide), if_pos rfl, if_neg (by omega), if_pos HTZ.out.symm]
                  clear HM
                  go_wp2_with fail
                  go_ret
                  exact ⟨by rw [HX.out, HF.out]; rfl, HB.out⟩
          · have q5 : (op == 5) = false := by simpa using o5
            have O5 := hid o5
            clear o5
            have HF : Hid (mayE op fl md ck bk dn cd tx = 170) := by unfold Hid mayE; rw [if_neg O1.out, if_neg O6.out, if_neg (fun h => h.elim O3.out O4.out), if_neg O5.out]
            clear HM
            go_wp2_with fail
            go_ret
            exact ⟨by rw [HX.out, HF.out]; rfl, HB.out⟩
end Go.Proofs.YtdcppiknomoigaaDoor
