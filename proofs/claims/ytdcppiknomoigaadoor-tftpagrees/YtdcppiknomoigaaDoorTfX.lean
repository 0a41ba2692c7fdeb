/-
  Tftp: the document's decodeRead, Decode.
-/
import Derived.Test.YtdcppiknomoigaaDoorTfCJ
import Derived.Test.YtdcppiknomoigaaDoorTfW
namespace Go.Proofs.YtdcppiknomoigaaDoor
open Go.RowKit
set_option linter.all false

def rdQ (r : List Int) : Tp := match decRd r with | .ok q => q | .error _ => Tp.nil
def rdR (r : List Int) : Int := match decRd r with | .ok _ => 0 | .error e => e
theorem rd_ok_of {r : List Int} {q : Tp} (h : decRd r = .ok q) : rdQ r = q ∧ rdR r = 0 := by unfold rdQ rdR; rw [h]; exact ⟨rfl, rfl⟩
theorem rd_er_of {r : List Int} {e : Int} (h : decRd r = .error e) : rdQ r = Tp.nil ∧ rdR r = e := by unfold rdQ rdR; rw [h]; exact ⟨rfl, rfl⟩
theorem bdT {W0 W W' : World} {q : Nat} (h : Below W0.heap.size W0 W) (e : W' = W.drewN q) : Below W0.heap.size W0 W' := by subst e; exact bstep h (bdrewT W q)
set_option maxRecDepth 20000 in
set_option maxHeartbeats 8000000 in
theorem decodeRead_any (pt : Part) (w : World) (hok : pt.ok w) (hl : pt.zs.length ≤ 140737488353280) :
    Calls Tryd.prog 46 #[pt.val] w fun e w' => ∃ ca cc da dc, e = .returned (.tuple #[.agg (tpC (rdQ pt.zs) ca cc da dc), .int .i64 (rdR pt.zs)]) ∧ Hid (DcO w w' (rdQ pt.zs) ca cc da dc) := by
  obtain ⟨a, c, r⟩ := pt
  simp only [Part.val] at *
  obtain ⟨W0, hW0⟩ : ∃ W0, W0 = w.alloc (.cells #[.int .i64 0, .string ⟨#[]⟩, .string ⟨#[]⟩, .slice none 0 0, .int .i64 0, .slice none 0 0, .int .i64 0, .string ⟨#[]⟩] 26) := ⟨_, rfl⟩
  have HR0 : Hid (W0.heap[w.heap.size]? = some (.cells #[.int .i64 0, .string ⟨#[]⟩, .string ⟨#[]⟩, .slice none 0 0, .int .i64 0, .slice none 0 0, .int .i64 0, .string ⟨#[]⟩] 26 (0, 0))) := by unfold Hid; rw [hW0]; exact heap_new _ _
  have HW0 : Hid (Below w.heap.size w W0) := by unfold Hid; rw [hW0]; exact bpush (Below.refl _ _) _
  have HS0 : Hid (w.heap.size < W0.heap.size) := heap_lt HR0.out
  have HOK := hid (Part.ok_below hok HW0.out)
  have hbd := hok.1
  have HBD := hid hbd
  clear hok
  go_enter Tryd.func46, Tryd.ntmps46
  go_upto_region 1 with fail
  rw [← hW0]
  clear hW0
  cases h1 : cutG r with
  | none =>
    have HQ := hid (rd_er_of (r := r) (e := 5) (by unfold decRd; rw [h1]))
    have C1 := hid (rcut_no ⟨a, c, r⟩ W0 HOK.out hl h1)
    simp only [Part.val] at C1
    clear h1 HOK HBD hbd
    go_upto_region 2 with (first
      | (go_at_call 48; refine C1.out.mono ?_; go_loud (rintro e W ⟨rfl, q1, hW⟩; have HB := hid (bdT (Below.refl _ _) hW); clear hW C1))
      | fail)
    have HRES := hid (kept HR0.out HB.out)
    go_wp2_with (first
      | (refine wpList_store_row rfl 26 _ _ rfl w.heap.size #[.int .i64 0, .string ⟨#[]⟩, .string ⟨#[]⟩, .slice none 0 0, .int .i64 0, .slice none 0 0, .int .i64 0, .string ⟨#[]⟩] rfl rfl 26 _ HRES.out (by kernel_rfl) rfl (by first | kernel_rfl | simp [Value.oneCell']) ?_)
      | fail)
    try simp only [Exit.inBlock, Exit.then]
    refine bodyPost_ret (v := .tuple #[.agg #[.int .i64 0, .string ⟨#[]⟩, .string ⟨#[]⟩, .slice none 0 0, .int .i64 0, .slice none 0 0, .int .i64 0, .string ⟨#[]⟩], .int .i64 (5)]) ?_ (by rfl) ?_
    · exact results_row2 Tryd.results46 _ _ w.heap.size 26 _ (0, 0) _ _ rfl rfl (setRow_heap _ _ _ _ _ _ HRES.out) Tryd.underlying26 rfl (by kernel_rfl)
    · refine ⟨none, 0, none, 0, ?_, ?_⟩
      · rw [HQ.out.1, HQ.out.2]; rfl
      · rw [HQ.out.1]
        have hbt : But w.heap.size W (W.setRow w.heap.size #[.int .i64 0, .string ⟨#[]⟩, .string ⟨#[]⟩, .slice none 0 0, .int .i64 0, .slice none 0 0, .int .i64 0, .string ⟨#[]⟩]) := But.setRow _ _ _
        have hbl := bbut (HW0.out.trans (HB.out.mono HW0.out.size)) hbt (Nat.le_refl _)
        exact dcO_nil hbl
  | some x =>
    obtain ⟨f, r1⟩ := x
    have C1 := hid (rcut_yes ⟨a, c, r⟩ W0 W0 HOK.out (Below.refl _ _) hl h1)
    simp only [Part.val] at C1
    have hl1 := (cutG_len h1).1
    have HFS : Hid ((strOfNums f).size = f.length) := strOfNums_size f
    have HB1 := hid (cutG_bd hbd h1)
    have hfs : (strOfNums f).size = f.length := strOfNums_size f
    go_upto_region 2 with (first
      | (go_at_call 48; refine C1.out.mono ?_; go_loud (rintro e W1 ⟨a1, c1, rfl, H1⟩; clear C1))
      | fail)
    by_cases hx : f.length < 1 ∨ 64 < f.length
    · have HQ := hid (rd_er_of (r := r) (e := 171) (by unfold decRd; rw [h1]; simp only; rw [if_pos hx]))
      have HB := hid H1.out.2
      clear h1 HOK HBD hbd HB1 hl1
      generalize strOfNums f = S at *
      rcases hx with hx | hx
      · have q1 : (S.size : Int) < 1 := by omega
        clear hfs HFS hx
        have HRES := hid (kept HR0.out HB.out)
        go_wp2_with (first
          | (refine wpList_store_row rfl 26 _ _ rfl w.heap.size #[.int .i64 0, .string ⟨#[]⟩, .string ⟨#[]⟩, .slice none 0 0, .int .i64 0, .slice none 0 0, .int .i64 0, .string ⟨#[]⟩] rfl rfl 26 _ HRES.out (by kernel_rfl) rfl (by first | kernel_rfl | simp [Value.oneCell']) ?_)
          | fail)
        try simp only [Exit.inBlock, Exit.then]
        refine bodyPost_ret (v := .tuple #[.agg #[.int .i64 0, .string ⟨#[]⟩, .string ⟨#[]⟩, .slice none 0 0, .int .i64 0, .slice none 0 0, .int .i64 0, .string ⟨#[]⟩], .int .i64 (171)]) ?_ (by rfl) ?_
        · exact results_row2 Tryd.results46 _ _ w.heap.size 26 _ (0, 0) _ _ rfl rfl (setRow_heap _ _ _ _ _ _ HRES.out) Tryd.underlying26 rfl (by kernel_rfl)
        · refine ⟨none, 0, none, 0, ?_, ?_⟩
          · rw [HQ.out.1, HQ.out.2]; rfl
          · rw [HQ.out.1]
            have hbt : But w.heap.size W1 (W1.setRow w.heap.size #[.int .i64 0, .string ⟨#[]⟩, .string ⟨#[]⟩, .slice none 0 0, .int .i64 0, .slice none 0 0, .int .i64 0, .string ⟨#[]⟩]) := But.setRow _ _ _
            have hbl := bbut (HW0.out.trans (HB.out.mono HW0.out.size)) hbt (Nat.le_refl _)
            exact dcO_nil hbl
      · have q1 : ¬ (S.size : Int) < 1 := by omega
        have q2 : (64 : Int) < (S.size : Int) := by omega
        clear hfs HFS hx
        have HRES := hid (kept HR0.out HB.out)
        go_wp2_with (first
          | (refine wpList_store_row rfl 26 _ _ rfl w.heap.size #[.int .i64 0, .string ⟨#[]⟩, .string ⟨#[]⟩, .slice none 0 0, .int .i64 0, .slice none 0 0, .int .i64 0, .string ⟨#[]⟩] rfl rfl 26 _ HRES.out (by kernel_rfl) rfl (by first | kernel_rfl | simp [Value.oneCell']) ?_)
          | fail)
        try simp only [Exit.inBlock, Exit.then]
        refine bodyPost_ret (v := .tuple #[.agg #[.int .i64 0, .string ⟨#[]⟩, .string ⟨#[]⟩, .slice none 0 0, .int .i64 0, .slice none 0 0, .int .i64 0, .string ⟨#[]⟩], .int .i64 (171)]) ?_ (by rfl) ?_
        · exact results_row2 Tryd.results46 _ _ w.heap.size 26 _ (0, 0) _ _ rfl rfl (setRow_heap _ _ _ _ _ _ HRES.out) Tryd.underlying26 rfl (by kernel_rfl)
        · refine ⟨none, 0, none, 0, ?_, ?_⟩
          · rw [HQ.out.1, HQ.out.2]; rfl
          · rw [HQ.out.1]
            have hbt : But w.heap.size W1 (W1.setRow w.heap.size #[.int .i64 0, .string ⟨#[]⟩, .string ⟨#[]⟩, .slice none 0 0, .int .i64 0, .slice none 0 0, .int .i64 0, .string ⟨#[]⟩]) := But.setRow _ _ _
            have hbl := bbut (HW0.out.trans (HB.out.mono HW0.out.size)) hbt (Nat.le_refl _)
            exact dcO_nil hbl
    · have q1 : ¬ ((strOfNums f).size : Int) < 1 := by omega
      have q2 : ¬ (64 : Int) < ((strOfNums f).size : Int) := by omega
      clear hfs HFS
      cases h2 : cutG r1 with
      | none =>
        have HQ := hid (rd_er_of (r := r) (e := 5) (by unfold decRd; rw [h1]; simp only; rw [if_neg hx, h2]))
        have C2 := hid (rcut_no ⟨a1, c1, r1⟩ W1 (Part.ok_below H1.out.1 H1.out.2) (by simp only; omega) h2)
        simp only [Part.val] at C2
        clear h1 h2 HOK HBD hbd HB1 hl1 hx
        generalize strOfNums f = S at *
        go_upto_region 7 with (first
          | (go_at_call 48; refine C2.out.mono ?_; go_loud (rintro e W ⟨rfl, q1, hW⟩; have HB := hid (bdT H1.out.2 hW); clear hW C2))
          | fail)
        have HRES := hid (kept HR0.out HB.out)
        go_wp2_with (first
          | (refine wpList_store_row rfl 26 _ _ rfl w.heap.size #[.int .i64 0, .string ⟨#[]⟩, .string ⟨#[]⟩, .slice none 0 0, .int .i64 0, .slice none 0 0, .int .i64 0, .string ⟨#[]⟩] rfl rfl 26 _ HRES.out (by kernel_rfl) rfl (by first | kernel_rfl | simp [Value.oneCell']) ?_)
          | fail)
        try simp only [Exit.inBlock, Exit.then]
        refine bodyPost_ret (v := .tuple #[.agg #[.int .i64 0, .string ⟨#[]⟩, .string ⟨#[]⟩, .slice none 0 0, .int .i64 0, .slice none 0 0, .int .i64 0, .string ⟨#[]⟩], .int .i64 (5)]) ?_ (by rfl) ?_
        · exact results_row2 Tryd.results46 _ _ w.heap.size 26 _ (0, 0) _ _ rfl rfl (setRow_heap _ _ _ _ _ _ HRES.out) Tryd.underlying26 rfl (by kernel_rfl)
        · refine ⟨none, 0, none, 0, ?_, ?_⟩
          · rw [HQ.out.1, HQ.out.2]; rfl
          · rw [HQ.out.1]
            have hbt : But w.heap.size W (W.setRow w.heap.size #[.int .i64 0, .string ⟨#[]⟩, .string ⟨#[]⟩, .slice none 0 0, .int .i64 0, .slice none 0 0, .int .i64 0, .string ⟨#[]⟩]) := But.setRow _ _ _
            have hbl := bbut (HW0.out.trans (HB.out.mono HW0.out.size)) hbt (Nat.le_refl _)
            exact dcO_nil hbl
      | some y =>
        obtain ⟨m, r2⟩ := y
        have C2 := hid (rcut_yes ⟨a1, c1, r1⟩ W0 W1 H1.out.1 H1.out.2 (by simp only; omega) h2)
        simp only [Part.val] at C2
        have hl2 := (cutG_len h2).1
        have hml := (cutG_len h2).2
        have hbm := (cutG_bd HB1.out.2 h2).1
        have CS := hid (fun W => rsmall_any (strOfNums m) W (by rw [strOfNums_size]; omega))
        simp only [nums_str hbm] at CS
        have CR := hid (fun W a' c' (h' : Part.ok W ⟨a', c', r2⟩) => read_any ⟨a', c', r2⟩ W h' (by simp only; omega))
        simp only [Part.val] at CR
        have hso := sOct (smallS m)
        clear hbm hml
        by_cases hm : smallS m = nOct
        · rw [decide_eq_true hm] at hso
          have HDR : Hid (decRd r = match readG [] r2 with | .error e => .error e | .ok l => .ok { Tp.nil with op := 1, fl := strOfNums f, md := nOct, ch := l }) := by
            unfold Hid decRd; rw [h1]; simp only; rw [if_neg hx, h2]; simp only; rw [if_neg (by simpa using hm)]; rfl
          clear h1 h2 HOK HBD hbd HB1 hl1 hx hm
          generalize strOfNums f = S at *
          generalize smallS m = M at *
          go_upto_region 12 with (first
            | (go_at_call 48; refine C2.out.mono ?_; go_loud (rintro e W2 ⟨a2, c2, rfl, H2⟩; clear C2))
            | (go_at_call 72; refine (CS.out _).mono ?_; go_loud (rintro e W3 ⟨rfl, H3⟩; have CR3 := hid (CR.out _ _ _ (Part.ok_below H2.out.1 (bstep (bstep H1.out.2 H2.out.2) H3.out)))))
            | (go_at_call 47; refine CR3.out.mono ?_; go_loud (rintro e W ⟨a3, n3, c3, rfl, H4⟩))
            | fail)
          have HB := hid (bstep (bstep (bstep H1.out.2 H2.out.2) H3.out) H4.out.below)
          have HSZ3 : Hid (W0.heap.size ≤ W3.heap.size) := (bstep (bstep H1.out.2 H2.out.2) H3.out).size
          clear CR CR3 CS H1 H2 H3
          rcases ch_two 0 r2 with ⟨h0, _, l, hl'⟩ | ⟨hne, hdec, _⟩
          · have HQ : Hid (rdQ r = { Tp.nil with op := 1, fl := S, md := nOct, ch := l } ∧ rdR r = 0) := rd_ok_of (HDR.out.trans (by rw [hl']))
            rw [chL_ok hl'] at H4
            obtain rfl := H4.out.chv.1
            have HRB : Hid (RowB 56 2 W0 W a3 l.length c3 (chs l)) := ⟨H4.out.row, fun b hb => Nat.le_trans HSZ3.out (H4.out.new b hb), HB.out⟩
            rw [h0]
            clear HDR hl' H4 HSZ3
            have HRES := hid (kept HR0.out HB.out)
            go_wp2_with (first
              | (refine wpList_store_row rfl 26 _ _ rfl w.heap.size #[.int .i64 1, .string S, .string ⟨#[111, 99, 116, 101, 116]⟩, .slice a3 l.length c3, .int .i64 0, .slice none 0 0, .int .i64 0, .string ⟨#[]⟩] rfl rfl 26 _ HRES.out (by kernel_rfl) rfl (by first | kernel_rfl | simp [Value.oneCell']) ?_)
              | fail)
            try simp only [Exit.inBlock, Exit.then]
            refine bodyPost_ret (v := .tuple #[.agg #[.int .i64 1, .string S, .string ⟨#[111, 99, 116, 101, 116]⟩, .slice a3 l.length c3, .int .i64 0, .slice none 0 0, .int .i64 0, .string ⟨#[]⟩], .int .i64 (0)]) ?_ (by rfl) ?_
            · exact results_row2 Tryd.results46 _ _ w.heap.size 26 _ (0, 0) _ _ rfl rfl (setRow_heap _ _ _ _ _ _ HRES.out) Tryd.underlying26 rfl (by kernel_rfl)
            · refine ⟨a3, c3, none, 0, ?_, ?_⟩
              · rw [HQ.out.1, HQ.out.2]; rfl
              · rw [HQ.out.1]
                have hbt : But w.heap.size W (W.setRow w.heap.size #[.int .i64 1, .string S, .string ⟨#[111, 99, 116, 101, 116]⟩, .slice a3 l.length c3, .int .i64 0, .slice none 0 0, .int .i64 0, .string ⟨#[]⟩]) := But.setRow _ _ _
                have hbl := bbut (HW0.out.trans (HB.out.mono HW0.out.size)) hbt (Nat.le_refl _)
                exact ⟨HRB.out.row.keep fun b hb => hbt.block b (by have := HRB.out.new b hb; have := HS0.out; omega) (HRB.out.row.lt hb), fun b hb => by have := HRB.out.new b hb; have := HS0.out; omega, Row.nil _ _, fun b hb => by simp [Tp.nil, Value.ownBlock] at hb, hbl⟩
          · have HQ : Hid (rdQ r = Tp.nil ∧ rdR r = chE 0 r2) := rd_er_of (HDR.out.trans (by rw [hdec rfl]))
            clear HDR hdec H4 HSZ3
            generalize chE 0 r2 = er at *
            have hbn : (er != 0) = true := by simpa using hne
            have HRES := hid (kept HR0.out HB.out)
            go_wp2_with (first
              | (refine wpList_store_row rfl 26 _ _ rfl w.heap.size #[.int .i64 0, .string ⟨#[]⟩, .string ⟨#[]⟩, .slice none 0 0, .int .i64 0, .slice none 0 0, .int .i64 0, .string ⟨#[]⟩] rfl rfl 26 _ HRES.out (by kernel_rfl) rfl (by first | kernel_rfl | simp [Value.oneCell']) ?_)
              | fail)
            try simp only [Exit.inBlock, Exit.then]
            refine bodyPost_ret (v := .tuple #[.agg #[.int .i64 0, .string ⟨#[]⟩, .string ⟨#[]⟩, .slice none 0 0, .int .i64 0, .slice none 0 0, .int .i64 0, .string ⟨#[]⟩], .int .i64 (er)]) ?_ (by rfl) ?_
            · exact results_row2 Tryd.results46 _ _ w.heap.size 26 _ (0, 0) _ _ rfl rfl (setRow_heap _ _ _ _ _ _ HRES.out) Tryd.underlying26 rfl (by kernel_rfl)
            · refine ⟨none, 0, none, 0, ?_, ?_⟩
              · rw [HQ.out.1, HQ.out.2]; rfl
              · rw [HQ.out.1]
                have hbt : But w.heap.size W (W.setRow w.heap.size #[.int .i64 0, .string ⟨#[]⟩, .string ⟨#[]⟩, .slice none 0 0, .int .i64 0, .slice none 0 0, .int .i64 0, .string ⟨#[]⟩]) := But.setRow _ _ _
                have hbl := bbut (HW0.out.trans (HB.out.mono HW0.out.size)) hbt (Nat.le_refl _)
                exact dcO_nil hbl
        · rw [decide_eq_false hm] at hso
          have HQ := hid (rd_er_of (r := r) (e := 171) (by unfold decRd; rw [h1]; simp only; rw [if_neg hx, h2]; simp only; rw [if_pos (by simpa using hm)]))
          clear h1 h2 HOK HBD hbd HB1 hl1 hx hm CR
          generalize strOfNums f = S at *
          generalize smallS m = M at *
          go_upto_region 10 with (first
            | (go_at_call 48; refine C2.out.mono ?_; go_loud (rintro e W2 ⟨a2, c2, rfl, H2⟩; clear C2))
            | (go_at_call 72; refine (CS.out _).mono ?_; go_loud (rintro e W ⟨rfl, H3⟩))
            | fail)
          have HB := hid (bstep (bstep H1.out.2 H2.out.2) H3.out)
          clear CS H1 H2 H3
          have HRES := hid (kept HR0.out HB.out)
          go_wp2_with (first
            | (refine wpList_store_row rfl 26 _ _ rfl w.heap.size #[.int .i64 0, .string ⟨#[]⟩, .string ⟨#[]⟩, .slice none 0 0, .int .i64 0, .slice none 0 0, .int .i64 0, .string ⟨#[]⟩] rfl rfl 26 _ HRES.out (by kernel_rfl) rfl (by first | kernel_rfl | simp [Value.oneCell']) ?_)
            | fail)
          try simp only [Exit.inBlock, Exit.then]
          refine bodyPost_ret (v := .tuple #[.agg #[.int .i64 0, .string ⟨#[]⟩, .string ⟨#[]⟩, .slice none 0 0, .int .i64 0, .slice none 0 0, .int .i64 0, .string ⟨#[]⟩], .int .i64 (171)]) ?_ (by rfl) ?_
          · exact results_row2 Tryd.results46 _ _ w.heap.size 26 _ (0, 0) _ _ rfl rfl (setRow_heap _ _ _ _ _ _ HRES.out) Tryd.underlying26 rfl (by kernel_rfl)
          · refine ⟨none, 0, none, 0, ?_, ?_⟩
            · rw [HQ.out.1, HQ.out.2]; rfl
            · rw [HQ.out.1]
              have hbt : But w.heap.size W (W.setRow w.heap.size #[.int .i64 0, .string ⟨#[]⟩, .string ⟨#[]⟩, .slice none 0 0, .int .i64 0, .slice none 0 0, .int .i64 0, .string ⟨#[]⟩]) := But.setRow _ _ _
              have hbl := bbut (HW0.out.trans (HB.out.mono HW0.out.size)) hbt (Nat.le_refl _)
              exact dcO_nil hbl
/-- 'b[2:]'. -/
theorem from_two (pt : Part) (hl : 2 ≤ pt.zs.length) : ∃ a' c', (∀ w, (Instr.sliceAt 24 pt.val (some (.int .i64 2)) none none).run Tryd.prog w = .ok (.slice a' (pt.zs.length - 2) c') w) ∧ ∀ w, pt.ok w → Part.ok w ⟨a', c', pt.zs.drop 2⟩ := by
  obtain ⟨a, c, zs⟩ := pt
  simp only at hl ⊢
  have he : Tryd.prog.info? 5 ≠ none := by intro h; have := sizeU8; rw [h] at this; simp at this
  cases hq : Tryd.prog.info? 5 with
  | none => exact absurd hq he
  | some i =>
    have hs : i.size = 1 := by have := sizeU8; rw [hq] at this; simpa using this
    have h1 : ¬ zs.length < 2 := by omega
    have h1i : ¬ (zs.length : Int) < 2 := by omega
    refine ⟨if c = 2 then a else a.map (·.add 2), c - 2, fun w => ?_, fun w hok => ?_⟩
    · simp [Instr.sliceAt, Instr.slice, run_underlying Tryd.underlying24, Instr.sliceBounds, Instr.sliceBound, asIntOf, sizeOf, typeInfo, hq, hs, Part.val, h1, h1i]
      try (intro hh; omega)
    · obtain ⟨b, o, rfl⟩ : ∃ b o, a = some ⟨b, o, none⟩ := by
        rcases hok.2.2 with e | ⟨b, o, e, _⟩
        · simp only at e; rw [e] at hl; simp at hl
        · exact ⟨b, o, e⟩
      have h2 := cut_ok hok 2 (zs.length - 2) (by omega)
      rw [List.take_of_length_le (by simp)] at h2
      by_cases hc : c = 2
      · rw [if_pos hc] at h2 ⊢; exact h2
      · rw [if_neg hc] at h2 ⊢
        rw [show (some (⟨b, o, none⟩ : Addr)).map (·.add 2) = some ⟨b, o + 2, none⟩ from by simp [Addr.add]]
        exact h2
/-- the first two bytes. -/
theorem two_cells {pt : Part} {w : World} (hok : pt.ok w) (hl : 2 ≤ pt.zs.length) : ∃ b o, pt.a = some ⟨b, o, none⟩ ∧ w.cell? ⟨b, o, none⟩ = some (.int .u8 (pt.zs.getD 0 0)) ∧ w.cell? ⟨b, o + 1, none⟩ = some (.int .u8 (pt.zs.getD 1 0)) := by
  rcases hok.2.2 with e | ⟨b, o, e, h⟩
  · rw [e] at hl; simp at hl
  · exact ⟨b, o, e, h 0 (by omega), h 1 (by omega)⟩
set_option maxRecDepth 20000 in
set_option maxHeartbeats 16000000 in
theorem refDecode_any (pt : Part) (w : World) (hok : pt.ok w) (hl : pt.zs.length ≤ 140737488353280) :
    Calls Tryd.prog 18 #[pt.val] w fun e w' => ∃ ca cc da dc, e = .returned (.tuple #[.agg (tpC (decQ pt.zs) ca cc da dc), .int .i64 (decE pt.zs)]) ∧ Hid (DcO w w' (decQ pt.zs) ca cc da dc) := by
  have HF2 := hid (from_two pt)
  obtain ⟨a, c, zs⟩ := pt
  simp only [Part.val] at *
  obtain ⟨W0, hW0⟩ : ∃ W0, W0 = w.alloc (.cells #[.int .i64 0, .string ⟨#[]⟩, .string ⟨#[]⟩, .slice none 0 0, .int .i64 0, .slice none 0 0, .int .i64 0, .string ⟨#[]⟩] 26) := ⟨_, rfl⟩
  have HR0 : Hid (W0.heap[w.heap.size]? = some (.cells #[.int .i64 0, .string ⟨#[]⟩, .string ⟨#[]⟩, .slice none 0 0, .int .i64 0, .slice none 0 0, .int .i64 0, .string ⟨#[]⟩] 26 (0, 0))) := by unfold Hid; rw [hW0]; exact heap_new _ _
  have HW0 : Hid (Below w.heap.size w W0) := by unfold Hid; rw [hW0]; exact bpush (Below.refl _ _) _
  have HS0 : Hid (w.heap.size < W0.heap.size) := heap_lt HR0.out
  have HPA := hid (Part.ok_below hok HW0.out)
  clear hok
  obtain ⟨n, hn⟩ : ∃ n, n = zs.length := ⟨_, rfl⟩
  go_enter Tryd.func18, Tryd.ntmps18
  go_upto_region 1 with fail
  rw [← hW0]
  clear hW0
  by_cases hs : zs.length < 2
  · have HQ := hid (dec_er_of (zs := zs) (e := 5) (by unfold decT; rw [if_pos hs]))
    have hs' : (zs.length : Int) < 2 := by omega
    have HB : Hid (Below W0.heap.size W0 W0) := Below.refl _ _
    clear HPA HF2
    generalize zs.length = l at *
    have HRES := hid (kept HR0.out HB.out)
    go_wp2_with (first
      | (refine wpList_store_row rfl 26 _ _ rfl w.heap.size #[.int .i64 0, .string ⟨#[]⟩, .string ⟨#[]⟩, .slice none 0 0, .int .i64 0, .slice none 0 0, .int .i64 0, .string ⟨#[]⟩] rfl rfl 26 _ HRES.out (by kernel_rfl) rfl (by first | kernel_rfl | simp [Value.oneCell']) ?_)
      | fail)
    try simp only [Exit.inBlock, Exit.then]
    refine bodyPost_ret (v := .tuple #[.agg #[.int .i64 0, .string ⟨#[]⟩, .string ⟨#[]⟩, .slice none 0 0, .int .i64 0, .slice none 0 0, .int .i64 0, .string ⟨#[]⟩], .int .i64 (5)]) ?_ (by rfl) ?_
    · exact results_row2 Tryd.results18 _ _ w.heap.size 26 _ (0, 0) _ _ rfl rfl (setRow_heap _ _ _ _ _ _ HRES.out) Tryd.underlying26 rfl (by kernel_rfl)
    · refine ⟨none, 0, none, 0, ?_, ?_⟩
      · rw [HQ.out.1, HQ.out.2]; rfl
      · rw [HQ.out.1]
        have hbt : But w.heap.size W0 (W0.setRow w.heap.size #[.int .i64 0, .string ⟨#[]⟩, .string ⟨#[]⟩, .slice none 0 0, .int .i64 0, .slice none 0 0, .int .i64 0, .string ⟨#[]⟩]) := But.setRow _ _ _
        have hbl := bbut (HW0.out.trans (HB.out.mono HW0.out.size)) hbt (Nat.le_refl _)
        exact dcO_nil hbl
  have HDEC : Hid (decT zs = if be2 zs = 1 then decRd (zs.drop 2) else if be2 zs = 6 then (match readG [] (zs.drop 2) with | .error e => .error e | .ok l => .ok { Tp.nil with op := 6, ch := l }) else if be2 zs = 3 ∨ be2 zs = 4 ∨ be2 zs = 5 then decNu (be2 zs) (zs.drop 2) else .error 170) := by
    unfold Hid decT; rw [if_neg hs]; rfl
  obtain ⟨a2, c2, hsl, hp2⟩ := HF2.out (by omega)
  have HP2 := hid (hp2 W0 HPA.out)
  have hrl : (zs.drop 2).length = zs.length - 2 := by simp
  have hbr := drop_bd HPA.out.1 2
  have HBR := hid hbr
  rw [← hrl] at hsl
  clear HF2 hp2 hbr
  obtain ⟨r, hr⟩ : ∃ r, r = zs.drop 2 := ⟨_, rfl⟩
  rw [← hr] at hsl HP2 HDEC HBR hrl
  have hrb : r.length ≤ 140737488353280 := by omega
  rw [← hn] at hsl hrl hl hs ⊢
  clear hr hrl
  obtain ⟨bA, oA, haA, k0, k1⟩ := two_cells HPA.out (by simp only; rw [← hn]; omega)
  simp only at haA k0 k1
  subst haA
  have z0 := getD_mem_bd HPA.out.1 0
  have z1 := getD_mem_bd HPA.out.1 1
  have HOPA : Hid (be2 zs = (zs).getD 0 0 * 256 + (zs).getD 1 0) := rfl
  generalize (zs).getD 0 0 = y0 at *
  generalize (zs).getD 1 0 = y1 at *
  have i0 : (0 : Int) < (n : Int) := by omega
  have i0n : 0 < n := by omega
  have i0m : ¬ n = 0 := by omega
  have i1 : (1 : Int) < (n : Int) := by omega
  have i2 : (2 : Int) ≤ (n : Int) := by omega
  have e4 : IntKind.i64.wrap (IntKind.i64.wrap (IntKind.i64.wrap y0 * 256) + IntKind.i64.wrap y1) = y0 * 256 + y1 := by simp only [IntKind.wrap_i64]; omega
  have f4 : IntKind.i64.wrap y0 = y0 := by simp only [IntKind.wrap_i64]; omega
  have f5 : IntKind.i64.wrap y1 = y1 := by simp only [IntKind.wrap_i64]; omega
  have g4 : IntKind.i64.wrap (y0 * 256) = y0 * 256 := by simp only [IntKind.wrap_i64]; omega
  have g45 : IntKind.i64.wrap (y0 * 256 + y1) = y0 * 256 + y1 := by simp only [IntKind.wrap_i64]; omega
  have hs' : ¬ (n : Int) < 2 := by omega
  clear hn
  go_upto_region 3 with fail
  go_quiet (fail)
  rw [HOPA.out] at HDEC
  have HB : Hid (Below W0.heap.size W0 (W0.drewN nq)) := bdrewT W0 nq
  have HPR := hid (Part.ok_below HP2.out HB.out)
  clear k0 k1 e4 f4 f5 g4 g45 i0 i0n i0m i1 i2 HPA HP2 HOPA
  generalize y0 * 256 + y1 = op at *
  generalize W0.drewN nq = W1 at *
  clear z0 z1
  go_upto_region 5 with fail
  clear hsl hs'
  by_cases o1 : op = 1
  · as_aux_lemma =>
      subst o1
      rw [if_pos rfl] at HDEC
      have HQ : Hid (decQ zs = rdQ r ∧ decE zs = rdR r) := by
        unfold Hid decQ decE rdQ rdR; rw [HDEC.out]; exact ⟨rfl, rfl⟩
      have CDR := hid (decodeRead_any ⟨a2, c2, r⟩ W1 HPR.out hrb)
      simp only [Part.val, tpC] at CDR
      have HS1 : Hid (W0.heap.size ≤ W1.heap.size) := HB.out.size
      go_upto_region 8 with fail
      go_wp2_with (first
        | (go_at_call 46; refine CDR.out.mono ?_; rintro e W ⟨ca, cc, da, dc, rfl, HDO⟩; have HB9 := hid (bstep HB.out HDO.out.below); have HRES := hid (kept HR0.out HB9.out))
        | (refine wpList_store_row rfl 26 _ _ rfl w.heap.size #[.int .i64 (rdQ r).op, .string (rdQ r).fl, .string (rdQ r).md, .slice ca (rdQ r).ch.length cc, .int .i64 (rdQ r).bk, .slice da (rdQ r).da.length dc, .int .i64 (rdQ r).cd, .string (rdQ r).tx] rfl rfl 26 _ HRES.out (by kernel_rfl) rfl (by first | kernel_rfl | simp [Value.oneCell'] | rfl) ?_)
        | fail)
      try simp only [Exit.inBlock, Exit.then]
      refine bodyPost_ret (v := .tuple #[.agg #[.int .i64 (rdQ r).op, .string (rdQ r).fl, .string (rdQ r).md, .slice ca (rdQ r).ch.length cc, .int .i64 (rdQ r).bk, .slice da (rdQ r).da.length dc, .int .i64 (rdQ r).cd, .string (rdQ r).tx], .int .i64 (rdR r)]) ?_ (by rfl) ?_
      · exact results_row2 Tryd.results18 _ _ w.heap.size 26 _ (0, 0) _ _ rfl rfl (setRow_heap _ _ _ _ _ _ HRES.out) Tryd.underlying26 rfl (by kernel_rfl)
      · refine ⟨ca, cc, da, dc, ?_, ?_⟩
        · rw [HQ.out.1, HQ.out.2]; rfl
        · rw [HQ.out.1]
          have hbt : But w.heap.size W (W.setRow w.heap.size #[.int .i64 (rdQ r).op, .string (rdQ r).fl, .string (rdQ r).md, .slice ca (rdQ r).ch.length cc, .int .i64 (rdQ r).bk, .slice da (rdQ r).da.length dc, .int .i64 (rdQ r).cd, .string (rdQ r).tx]) := But.setRow _ _ _
          have hbl := bbut (HW0.out.trans (HB9.out.mono HW0.out.size)) hbt (Nat.le_refl _)
          have h01 := HS0.out
          have h02 := HS1.out
          exact ⟨HDO.out.rch.keep fun b hb => hbt.block b (by have := HDO.out.rchn b hb; omega) (HDO.out.rch.lt hb), fun b hb => by have := HDO.out.rchn b hb; omega,
            HDO.out.rda.but hbt fun b hb => by have := HDO.out.rdan b hb; omega, fun b hb => by have := HDO.out.rdan b hb; omega, hbl⟩
  by_cases o6 : op = 6
  · as_aux_lemma =>
      subst o6
      rw [if_neg (by omega), if_pos rfl] at HDEC
      have CR := hid (read_any ⟨a2, c2, r⟩ W1 HPR.out hrb)
      simp only [Part.val] at CR
      have HSZ3 : Hid (W0.heap.size ≤ W1.heap.size) := HB.out.size
      have HB1 := HB
      clear HB
      go_upto_region 11 with (first
        | (go_at_call 47; refine CR.out.mono ?_; go_loud (rintro e W ⟨a3, n3, c3, rfl, H4⟩))
        | fail)
      have HB := hid (bstep HB1.out H4.out.below)
      clear CR HB1 HPR
      rcases ch_two 0 r with ⟨h0, _, l, hl'⟩ | ⟨hne, hdec, _⟩
      · have HQ : Hid (decQ zs = { Tp.nil with op := 6, ch := l } ∧ decE zs = 0) := dec_ok_of (HDEC.out.trans (by rw [hl']))
        rw [chL_ok hl'] at H4
        obtain rfl := H4.out.chv.1
        have HRB : Hid (RowB 56 2 W0 W a3 l.length c3 (chs l)) := ⟨H4.out.row, fun b hb => Nat.le_trans HSZ3.out (H4.out.new b hb), HB.out⟩
        rw [h0]
        clear HDEC hl' H4 HSZ3
        have HRES := hid (kept HR0.out HB.out)
        go_wp2_with (first
          | (refine wpList_store_row rfl 26 _ _ rfl w.heap.size #[.int .i64 6, .string ⟨#[]⟩, .string ⟨#[]⟩, .slice a3 l.length c3, .int .i64 0, .slice none 0 0, .int .i64 0, .string ⟨#[]⟩] rfl rfl 26 _ HRES.out (by kernel_rfl) rfl (by first | kernel_rfl | simp [Value.oneCell']) ?_)
          | fail)
        try simp only [Exit.inBlock, Exit.then]
        refine bodyPost_ret (v := .tuple #[.agg #[.int .i64 6, .string ⟨#[]⟩, .string ⟨#[]⟩, .slice a3 l.length c3, .int .i64 0, .slice none 0 0, .int .i64 0, .string ⟨#[]⟩], .int .i64 (0)]) ?_ (by rfl) ?_
        · exact results_row2 Tryd.results18 _ _ w.heap.size 26 _ (0, 0) _ _ rfl rfl (setRow_heap _ _ _ _ _ _ HRES.out) Tryd.underlying26 rfl (by kernel_rfl)
        · refine ⟨a3, c3, none, 0, ?_, ?_⟩
          · rw [HQ.out.1, HQ.out.2]; rfl
          · rw [HQ.out.1]
            have hbt : But w.heap.size W (W.setRow w.heap.size #[.int .i64 6, .string ⟨#[]⟩, .string ⟨#[]⟩, .slice a3 l.length c3, .int .i64 0, .slice none 0 0, .int .i64 0, .string ⟨#[]⟩]) := But.setRow _ _ _
            have hbl := bbut (HW0.out.trans (HB.out.mono HW0.out.size)) hbt (Nat.le_refl _)
            exact ⟨HRB.out.row.keep fun b hb => hbt.block b (by have := HRB.out.new b hb; have := HS0.out; omega) (HRB.out.row.lt hb), fun b hb => by have := HRB.out.new b hb; have := HS0.out; omega, Row.nil _ _, fun b hb => by simp [Tp.nil, Value.ownBlock] at hb, hbl⟩
      · have HQ : Hid (decQ zs = Tp.nil ∧ decE zs = chE 0 r) := dec_er_of (HDEC.out.trans (by rw [hdec rfl]))
        clear HDEC hdec H4 HSZ3
        generalize chE 0 r = er at *
        have hbn : (er != 0) = true := by simpa using hne
        have HRES := hid (kept HR0.out HB.out)
        go_wp2_with (first
          | (refine wpList_store_row rfl 26 _ _ rfl w.heap.size #[.int .i64 0, .string ⟨#[]⟩, .string ⟨#[]⟩, .slice none 0 0, .int .i64 0, .slice none 0 0, .int .i64 0, .string ⟨#[]⟩] rfl rfl 26 _ HRES.out (by kernel_rfl) rfl (by first | kernel_rfl | simp [Value.oneCell']) ?_)
          | fail)
        try simp only [Exit.inBlock, Exit.then]
        refine bodyPost_ret (v := .tuple #[.agg #[.int .i64 0, .string ⟨#[]⟩, .string ⟨#[]⟩, .slice none 0 0, .int .i64 0, .slice none 0 0, .int .i64 0, .string ⟨#[]⟩], .int .i64 (er)]) ?_ (by rfl) ?_
        · exact results_row2 Tryd.results18 _ _ w.heap.size 26 _ (0, 0) _ _ rfl rfl (setRow_heap _ _ _ _ _ _ HRES.out) Tryd.underlying26 rfl (by kernel_rfl)
        · refine ⟨none, 0, none, 0, ?_, ?_⟩
          · rw [HQ.out.1, HQ.out.2]; rfl
          · rw [HQ.out.1]
            have hbt : But w.heap.size W (W.setRow w.heap.size #[.int .i64 0, .string ⟨#[]⟩, .string ⟨#[]⟩, .slice none 0 0, .int .i64 0, .slice none 0 0, .int .i64 0, .string ⟨#[]⟩]) := But.setRow _ _ _
            have hbl := bbut (HW0.out.trans (HB.out.mono HW0.out.size)) hbt (Nat.le_refl _)
            exact dcO_nil hbl
  by_cases o4 : op = 4
  · as_aux_lemma =>
      subst o4
      rw [if_neg (by omega), if_neg (by omega), if_pos (by omega)] at HDEC
      by_cases hs2 : r.length < 2
      · have HQ := hid (dec_er_of (HDEC.out.trans (show decNu 4 r = .error 5 from by unfold decNu; rw [if_pos hs2])))
        have hs' : (r.length : Int) < 2 := by omega
        clear HDEC HPR HBR
        generalize r.length = nr at *
        have HRES := hid (kept HR0.out HB.out)
        go_wp2_with (first
          | (refine wpList_store_row rfl 26 _ _ rfl w.heap.size #[.int .i64 0, .string ⟨#[]⟩, .string ⟨#[]⟩, .slice none 0 0, .int .i64 0, .slice none 0 0, .int .i64 0, .string ⟨#[]⟩] rfl rfl 26 _ HRES.out (by kernel_rfl) rfl (by first | kernel_rfl | simp [Value.oneCell']) ?_)
          | fail)
        try simp only [Exit.inBlock, Exit.then]
        refine bodyPost_ret (v := .tuple #[.agg #[.int .i64 0, .string ⟨#[]⟩, .string ⟨#[]⟩, .slice none 0 0, .int .i64 0, .slice none 0 0, .int .i64 0, .string ⟨#[]⟩], .int .i64 (5)]) ?_ (by rfl) ?_
        · exact results_row2 Tryd.results18 _ _ w.heap.size 26 _ (0, 0) _ _ rfl rfl (setRow_heap _ _ _ _ _ _ HRES.out) Tryd.underlying26 rfl (by kernel_rfl)
        · refine ⟨none, 0, none, 0, ?_, ?_⟩
          · rw [HQ.out.1, HQ.out.2]; rfl
          · rw [HQ.out.1]
            have hbt : But w.heap.size W1 (W1.setRow w.heap.size #[.int .i64 0, .string ⟨#[]⟩, .string ⟨#[]⟩, .slice none 0 0, .int .i64 0, .slice none 0 0, .int .i64 0, .string ⟨#[]⟩]) := But.setRow _ _ _
            have hbl := bbut (HW0.out.trans (HB.out.mono HW0.out.size)) hbt (Nat.le_refl _)
            exact dcO_nil hbl
      obtain ⟨a3, c3, hsl, hp3⟩ := from_two ⟨a2, c2, r⟩ (by simp only; omega)
      have HP3 := hid (hp3 W1 HPR.out)
      have hrl : (r.drop 2).length = r.length - 2 := by simp
      simp only [Part.val] at hsl
      rw [← hrl] at hsl
      have HPB := HPR
      clear HPR hp3
      have HNU : Hid (decNu 4 r = if 4 = 4 then .ok { Tp.nil with op := 4, bk := be2 r } else if 4 = 3 then (if 65464 < (r.drop 2).length then .error 2 else .ok { Tp.nil with op := 3, bk := be2 r, da := r.drop 2 }) else match cutG (r.drop 2) with | none => .error 5 | some (s, _) => if 255 < s.length then .error 2 else .ok { Tp.nil with op := 5, cd := be2 r, tx := strOfNums s }) := by
        unfold Hid decNu; rw [if_neg hs2]; rfl
      have HNU := hid (HDEC.out.trans HNU.out)
      have HBD3 := hid (drop_bd HBR.out 2)
      obtain ⟨nr, hnr⟩ : ∃ nr, nr = r.length := ⟨_, rfl⟩
      obtain ⟨r2, hr2⟩ : ∃ r2, r2 = r.drop 2 := ⟨_, rfl⟩
      rw [← hr2] at hsl HP3 HNU hrl HBD3
      rw [← hnr] at hsl hrl hs2 hrb ⊢
      have hr2b : r2.length ≤ 140737488353280 := by omega
      clear HDEC HBR hr2 hrl
      obtain ⟨bB, oB, haB, k0, k1⟩ := two_cells HPB.out (by simp only; rw [← hnr]; omega)
      simp only at haB k0 k1
      subst haB
      have z0 := getD_mem_bd HPB.out.1 0
      have z1 := getD_mem_bd HPB.out.1 1
      have HOPB : Hid (be2 r = (r).getD 0 0 * 256 + (r).getD 1 0) := rfl
      generalize (r).getD 0 0 = y0 at *
      generalize (r).getD 1 0 = y1 at *
      have i0 : (0 : Int) < (nr : Int) := by omega
      have i0n : 0 < nr := by omega
      have i0m : ¬ nr = 0 := by omega
      have i1 : (1 : Int) < (nr : Int) := by omega
      have i2 : (2 : Int) ≤ (nr : Int) := by omega
      have e4 : IntKind.i64.wrap (IntKind.i64.wrap (IntKind.i64.wrap y0 * 256) + IntKind.i64.wrap y1) = y0 * 256 + y1 := by simp only [IntKind.wrap_i64]; omega
      have f4 : IntKind.i64.wrap y0 = y0 := by simp only [IntKind.wrap_i64]; omega
      have f5 : IntKind.i64.wrap y1 = y1 := by simp only [IntKind.wrap_i64]; omega
      have g4 : IntKind.i64.wrap (y0 * 256) = y0 * 256 := by simp only [IntKind.wrap_i64]; omega
      have g45 : IntKind.i64.wrap (y0 * 256 + y1) = y0 * 256 + y1 := by simp only [IntKind.wrap_i64]; omega
      have hs' : ¬ (nr : Int) < 2 := by omega
      clear hnr
      go_upto_region 19 with fail
      go_quiet (fail)
      rw [HOPB.out] at HNU
      have HBQ : Hid (Below W0.heap.size W0 (W1.drewN nq)) := bstep HB.out (bdrewT W1 nq)
      have HPQ := hid (Part.ok_below HP3.out (bdrewT W1 nq))
      clear k0 k1 e4 f4 f5 g4 g45 i0 i0n i0m i1 i2 HP3 HPB HOPB HB
      have HB := HBQ
      clear HBQ
      generalize y0 * 256 + y1 = nb at *
      generalize W1.drewN nq = W2 at *
      clear z0 z1
      go_upto_region 21 with fail
      clear hsl hs'
      have HQ := hid (dec_ok_of (HNU.out.trans (if_pos rfl)))
      clear HNU HPQ HBD3
      have HRES := hid (kept HR0.out HB.out)
      go_wp2_with (first
        | (refine wpList_store_row rfl 26 _ _ rfl w.heap.size #[.int .i64 4, .string ⟨#[]⟩, .string ⟨#[]⟩, .slice none 0 0, .int .i64 nb, .slice none 0 0, .int .i64 0, .string ⟨#[]⟩] rfl rfl 26 _ HRES.out (by kernel_rfl) rfl (by first | kernel_rfl | simp [Value.oneCell']) ?_)
        | fail)
      try simp only [Exit.inBlock, Exit.then]
      refine bodyPost_ret (v := .tuple #[.agg #[.int .i64 4, .string ⟨#[]⟩, .string ⟨#[]⟩, .slice none 0 0, .int .i64 nb, .slice none 0 0, .int .i64 0, .string ⟨#[]⟩], .int .i64 (0)]) ?_ (by rfl) ?_
      · exact results_row2 Tryd.results18 _ _ w.heap.size 26 _ (0, 0) _ _ rfl rfl (setRow_heap _ _ _ _ _ _ HRES.out) Tryd.underlying26 rfl (by kernel_rfl)
      · refine ⟨none, 0, none, 0, ?_, ?_⟩
        · rw [HQ.out.1, HQ.out.2]; rfl
        · rw [HQ.out.1]
          have hbt : But w.heap.size W2 (W2.setRow w.heap.size #[.int .i64 4, .string ⟨#[]⟩, .string ⟨#[]⟩, .slice none 0 0, .int .i64 nb, .slice none 0 0, .int .i64 0, .string ⟨#[]⟩]) := But.setRow _ _ _
          have hbl := bbut (HW0.out.trans (HB.out.mono HW0.out.size)) hbt (Nat.le_refl _)
          exact ⟨RowS.nil _ _ _, fun b hb => by simp [Tp.nil, Value.ownBlock] at hb, Row.nil _ _, fun b hb => by simp [Tp.nil, Value.ownBlock] at hb, hbl⟩
  by_cases o3 : op = 3
  · as_aux_lemma =>
      subst o3
      rw [if_neg (by omega), if_neg (by omega), if_pos (by omega)] at HDEC
      by_cases hs2 : r.length < 2
      · have HQ := hid (dec_er_of (HDEC.out.trans (show decNu 3 r = .error 5 from by unfold decNu; rw [if_pos hs2])))
        have hs' : (r.length : Int) < 2 := by omega
        clear HDEC HPR HBR
        generalize r.length = nr at *
        have HRES := hid (kept HR0.out HB.out)
        go_wp2_with (first
          | (refine wpList_store_row rfl 26 _ _ rfl w.heap.size #[.int .i64 0, .string ⟨#[]⟩, .string ⟨#[]⟩, .slice none 0 0, .int .i64 0, .slice none 0 0, .int .i64 0, .string ⟨#[]⟩] rfl rfl 26 _ HRES.out (by kernel_rfl) rfl (by first | kernel_rfl | simp [Value.oneCell']) ?_)
          | fail)
        try simp only [Exit.inBlock, Exit.then]
        refine bodyPost_ret (v := .tuple #[.agg #[.int .i64 0, .string ⟨#[]⟩, .string ⟨#[]⟩, .slice none 0 0, .int .i64 0, .slice none 0 0, .int .i64 0, .string ⟨#[]⟩], .int .i64 (5)]) ?_ (by rfl) ?_
        · exact results_row2 Tryd.results18 _ _ w.heap.size 26 _ (0, 0) _ _ rfl rfl (setRow_heap _ _ _ _ _ _ HRES.out) Tryd.underlying26 rfl (by kernel_rfl)
        · refine ⟨none, 0, none, 0, ?_, ?_⟩
          · rw [HQ.out.1, HQ.out.2]; rfl
          · rw [HQ.out.1]
            have hbt : But w.heap.size W1 (W1.setRow w.heap.size #[.int .i64 0, .string ⟨#[]⟩, .string ⟨#[]⟩, .slice none 0 0, .int .i64 0, .slice none 0 0, .int .i64 0, .string ⟨#[]⟩]) := But.setRow _ _ _
            have hbl := bbut (HW0.out.trans (HB.out.mono HW0.out.size)) hbt (Nat.le_refl _)
            exact dcO_nil hbl
      obtain ⟨a3, c3, hsl, hp3⟩ := from_two ⟨a2, c2, r⟩ (by simp only; omega)
      have HP3 := hid (hp3 W1 HPR.out)
      have hrl : (r.drop 2).length = r.length - 2 := by simp
      simp only [Part.val] at hsl
      rw [← hrl] at hsl
      have HPB := HPR
      clear HPR hp3
      have HNU : Hid (decNu 3 r = if 3 = 4 then .ok { Tp.nil with op := 4, bk := be2 r } else if 3 = 3 then (if 65464 < (r.drop 2).length then .error 2 else .ok { Tp.nil with op := 3, bk := be2 r, da := r.drop 2 }) else match cutG (r.drop 2) with | none => .error 5 | some (s, _) => if 255 < s.length then .error 2 else .ok { Tp.nil with op := 5, cd := be2 r, tx := strOfNums s }) := by
        unfold Hid decNu; rw [if_neg hs2]; rfl
      have HNU := hid (HDEC.out.trans HNU.out)
      have HBD3 := hid (drop_bd HBR.out 2)
      obtain ⟨nr, hnr⟩ : ∃ nr, nr = r.length := ⟨_, rfl⟩
      obtain ⟨r2, hr2⟩ : ∃ r2, r2 = r.drop 2 := ⟨_, rfl⟩
      rw [← hr2] at hsl HP3 HNU hrl HBD3
      rw [← hnr] at hsl hrl hs2 hrb ⊢
      have hr2b : r2.length ≤ 140737488353280 := by omega
      clear HDEC HBR hr2 hrl
      obtain ⟨bB, oB, haB, k0, k1⟩ := two_cells HPB.out (by simp only; rw [← hnr]; omega)
      simp only at haB k0 k1
      subst haB
      have z0 := getD_mem_bd HPB.out.1 0
      have z1 := getD_mem_bd HPB.out.1 1
      have HOPB : Hid (be2 r = (r).getD 0 0 * 256 + (r).getD 1 0) := rfl
      generalize (r).getD 0 0 = y0 at *
      generalize (r).getD 1 0 = y1 at *
      have i0 : (0 : Int) < (nr : Int) := by omega
      have i0n : 0 < nr := by omega
      have i0m : ¬ nr = 0 := by omega
      have i1 : (1 : Int) < (nr : Int) := by omega
      have i2 : (2 : Int) ≤ (nr : Int) := by omega
      have e4 : IntKind.i64.wrap (IntKind.i64.wrap (IntKind.i64.wrap y0 * 256) + IntKind.i64.wrap y1) = y0 * 256 + y1 := by simp only [IntKind.wrap_i64]; omega
      have f4 : IntKind.i64.wrap y0 = y0 := by simp only [IntKind.wrap_i64]; omega
      have f5 : IntKind.i64.wrap y1 = y1 := by simp only [IntKind.wrap_i64]; omega
      have g4 : IntKind.i64.wrap (y0 * 256) = y0 * 256 := by simp only [IntKind.wrap_i64]; omega
      have g45 : IntKind.i64.wrap (y0 * 256 + y1) = y0 * 256 + y1 := by simp only [IntKind.wrap_i64]; omega
      have hs' : ¬ (nr : Int) < 2 := by omega
      clear hnr
      go_upto_region 19 with fail
      go_quiet (fail)
      rw [HOPB.out] at HNU
      have HBQ : Hid (Below W0.heap.size W0 (W1.drewN nq)) := bstep HB.out (bdrewT W1 nq)
      have HPQ := hid (Part.ok_below HP3.out (bdrewT W1 nq))
      clear k0 k1 e4 f4 f5 g4 g45 i0 i0n i0m i1 i2 HP3 HPB HOPB HB
      have HB := HBQ
      clear HBQ
      generalize y0 * 256 + y1 = nb at *
      generalize W1.drewN nq = W2 at *
      clear z0 z1
      go_upto_region 21 with fail
      clear hsl hs'
      by_cases hx : 65464 < r2.length
      · have HQ := hid (dec_er_of (HNU.out.trans (by rw [if_neg (by omega), if_pos rfl, if_pos hx])))
        have q1 : (65464 : Int) < (r2.length : Int) := by omega
        clear HNU HPQ HBD3
        generalize r2.length = n2 at *
        have HRES := hid (kept HR0.out HB.out)
        go_wp2_with (first
          | (refine wpList_store_row rfl 26 _ _ rfl w.heap.size #[.int .i64 0, .string ⟨#[]⟩, .string ⟨#[]⟩, .slice none 0 0, .int .i64 0, .slice none 0 0, .int .i64 0, .string ⟨#[]⟩] rfl rfl 26 _ HRES.out (by kernel_rfl) rfl (by first | kernel_rfl | simp [Value.oneCell']) ?_)
          | fail)
        try simp only [Exit.inBlock, Exit.then]
        refine bodyPost_ret (v := .tuple #[.agg #[.int .i64 0, .string ⟨#[]⟩, .string ⟨#[]⟩, .slice none 0 0, .int .i64 0, .slice none 0 0, .int .i64 0, .string ⟨#[]⟩], .int .i64 (2)]) ?_ (by rfl) ?_
        · exact results_row2 Tryd.results18 _ _ w.heap.size 26 _ (0, 0) _ _ rfl rfl (setRow_heap _ _ _ _ _ _ HRES.out) Tryd.underlying26 rfl (by kernel_rfl)
        · refine ⟨none, 0, none, 0, ?_, ?_⟩
          · rw [HQ.out.1, HQ.out.2]; rfl
          · rw [HQ.out.1]
            have hbt : But w.heap.size W2 (W2.setRow w.heap.size #[.int .i64 0, .string ⟨#[]⟩, .string ⟨#[]⟩, .slice none 0 0, .int .i64 0, .slice none 0 0, .int .i64 0, .string ⟨#[]⟩]) := But.setRow _ _ _
            have hbl := bbut (HW0.out.trans (HB.out.mono HW0.out.size)) hbt (Nat.le_refl _)
            exact dcO_nil hbl
      have HQ := hid (dec_ok_of (HNU.out.trans (by rw [if_neg (by omega), if_pos rfl, if_neg hx])))
      have q1 : ¬ (65464 : Int) < (r2.length : Int) := by omega
      have CA := hid (refAdd_nil ⟨a3, c3, r2⟩ W2 HPQ.out (by simp only; omega))
      simp only [Part.val] at CA
      have HSZ : Hid (W0.heap.size ≤ W2.heap.size) := HB.out.size
      have HB2 := HB
      clear HNU HPQ HBD3 HB
      obtain ⟨n2, hn2⟩ : ∃ n2, n2 = r2.length := ⟨_, rfl⟩
      have HN2 := hid hn2
      rw [← hn2] at CA q1 hx hr2b ⊢
      clear hn2
      have CA2 : Hid (Calls Tryd.prog 36 #[.slice none 0 0, .slice a3 n2 c3] W2 fun e w' => ∃ a c, e = .returned (.slice a n2 c) ∧ Hid (Row w' 5 (.slice a n2 c) (u8s r2) ∧ (∀ b, (Value.slice a n2 c).ownBlock = some b → W0.heap.size ≤ b) ∧ Below W2.heap.size W2 w')) := by
        refine CA.out.mono ?_
        rintro e w' ⟨a, n, c, rfl, h1⟩
        obtain ⟨h2, h3, h4⟩ := h1.out
        obtain ⟨a', c', e, _⟩ := h2.form
        rw [u8s_len, ← HN2.out] at e
        simp only [Value.slice.injEq] at e
        obtain ⟨rfl, rfl, rfl⟩ := e
        exact ⟨_, _, rfl, h2, fun b hb => Nat.le_trans HSZ.out (h3 b hb), h4⟩
      clear CA
      go_upto_region 27 with fail
      go_wp2_with (first
        | (go_at_call 36; refine CA2.out.mono ?_; rintro e W ⟨a9, c9, rfl, HDA⟩; have HB := hid (bstep HB2.out HDA.out.2.2); have HRES := hid (kept HR0.out HB.out))
        | (refine wpList_store_row rfl 26 _ _ rfl w.heap.size #[.int .i64 3, .string ⟨#[]⟩, .string ⟨#[]⟩, .slice none 0 0, .int .i64 nb, .slice a9 n2 c9, .int .i64 0, .string ⟨#[]⟩] rfl rfl 26 _ HRES.out (by kernel_rfl) rfl (by first | kernel_rfl | simp [Value.oneCell']) ?_)
        | fail)
      try simp only [Exit.inBlock, Exit.then]
      refine bodyPost_ret (v := .tuple #[.agg #[.int .i64 3, .string ⟨#[]⟩, .string ⟨#[]⟩, .slice none 0 0, .int .i64 nb, .slice a9 n2 c9, .int .i64 0, .string ⟨#[]⟩], .int .i64 (0)]) ?_ (by rfl) ?_
      · exact results_row2 Tryd.results18 _ _ w.heap.size 26 _ (0, 0) _ _ rfl rfl (setRow_heap _ _ _ _ _ _ HRES.out) Tryd.underlying26 rfl (by kernel_rfl)
      · refine ⟨none, 0, a9, c9, ?_, ?_⟩
        · rw [HQ.out.1, HQ.out.2, HN2.out]; rfl
        · rw [HQ.out.1]
          have hbt : But w.heap.size W (W.setRow w.heap.size #[.int .i64 3, .string ⟨#[]⟩, .string ⟨#[]⟩, .slice none 0 0, .int .i64 nb, .slice a9 n2 c9, .int .i64 0, .string ⟨#[]⟩]) := But.setRow _ _ _
          have hbl := bbut (HW0.out.trans (HB.out.mono HW0.out.size)) hbt (Nat.le_refl _)
          have hh := HN2.out
          subst hh
          exact ⟨RowS.nil _ _ _, fun b hb => by simp [Tp.nil, Value.ownBlock] at hb, HDA.out.1.but hbt fun b hb => by have := HDA.out.2.1 b hb; have := HS0.out; omega, fun b hb => by have := HDA.out.2.1 b hb; have := HS0.out; omega, hbl⟩
  by_cases o5 : op = 5
  · as_aux_lemma =>
      subst o5
      rw [if_neg (by omega), if_neg (by omega), if_pos (by omega)] at HDEC
      by_cases hs2 : r.length < 2
      · have HQ := hid (dec_er_of (HDEC.out.trans (show decNu 5 r = .error 5 from by unfold decNu; rw [if_pos hs2])))
        have hs' : (r.length : Int) < 2 := by omega
        clear HDEC HPR HBR
        generalize r.length = nr at *
        have HRES := hid (kept HR0.out HB.out)
        go_wp2_with (first
          | (refine wpList_store_row rfl 26 _ _ rfl w.heap.size #[.int .i64 0, .string ⟨#[]⟩, .string ⟨#[]⟩, .slice none 0 0, .int .i64 0, .slice none 0 0, .int .i64 0, .string ⟨#[]⟩] rfl rfl 26 _ HRES.out (by kernel_rfl) rfl (by first | kernel_rfl | simp [Value.oneCell']) ?_)
          | fail)
        try simp only [Exit.inBlock, Exit.then]
        refine bodyPost_ret (v := .tuple #[.agg #[.int .i64 0, .string ⟨#[]⟩, .string ⟨#[]⟩, .slice none 0 0, .int .i64 0, .slice none 0 0, .int .i64 0, .string ⟨#[]⟩], .int .i64 (5)]) ?_ (by rfl) ?_
        · exact results_row2 Tryd.results18 _ _ w.heap.size 26 _ (0, 0) _ _ rfl rfl (setRow_heap _ _ _ _ _ _ HRES.out) Tryd.underlying26 rfl (by kernel_rfl)
        · refine ⟨none, 0, none, 0, ?_, ?_⟩
          · rw [HQ.out.1, HQ.out.2]; rfl
          · rw [HQ.out.1]
            have hbt : But w.heap.size W1 (W1.setRow w.heap.size #[.int .i64 0, .string ⟨#[]⟩, .string ⟨#[]⟩, .slice none 0 0, .int .i64 0, .slice none 0 0, .int .i64 0, .string ⟨#[]⟩]) := But.setRow _ _ _
            have hbl := bbut (HW0.out.trans (HB.out.mono HW0.out.size)) hbt (Nat.le_refl _)
            exact dcO_nil hbl
      obtain ⟨a3, c3, hsl, hp3⟩ := from_two ⟨a2, c2, r⟩ (by simp only; omega)
      have HP3 := hid (hp3 W1 HPR.out)
      have hrl : (r.drop 2).length = r.length - 2 := by simp
      simp only [Part.val] at hsl
      rw [← hrl] at hsl
      have HPB := HPR
      clear HPR hp3
      have HNU : Hid (decNu 5 r = if 5 = 4 then .ok { Tp.nil with op := 4, bk := be2 r } else if 5 = 3 then (if 65464 < (r.drop 2).length then .error 2 else .ok { Tp.nil with op := 3, bk := be2 r, da := r.drop 2 }) else match cutG (r.drop 2) with | none => .error 5 | some (s, _) => if 255 < s.length then .error 2 else .ok { Tp.nil with op := 5, cd := be2 r, tx := strOfNums s }) := by
        unfold Hid decNu; rw [if_neg hs2]; rfl
      have HNU := hid (HDEC.out.trans HNU.out)
      have HBD3 := hid (drop_bd HBR.out 2)
      obtain ⟨nr, hnr⟩ : ∃ nr, nr = r.length := ⟨_, rfl⟩
      obtain ⟨r2, hr2⟩ : ∃ r2, r2 = r.drop 2 := ⟨_, rfl⟩
      rw [← hr2] at hsl HP3 HNU hrl HBD3
      rw [← hnr] at hsl hrl hs2 hrb ⊢
      have hr2b : r2.length ≤ 140737488353280 := by omega
      clear HDEC HBR hr2 hrl
      obtain ⟨bB, oB, haB, k0, k1⟩ := two_cells HPB.out (by simp only; rw [← hnr]; omega)
      simp only at haB k0 k1
      subst haB
      have z0 := getD_mem_bd HPB.out.1 0
      have z1 := getD_mem_bd HPB.out.1 1
      have HOPB : Hid (be2 r = (r).getD 0 0 * 256 + (r).getD 1 0) := rfl
      generalize (r).getD 0 0 = y0 at *
      generalize (r).getD 1 0 = y1 at *
      have i0 : (0 : Int) < (nr : Int) := by omega
      have i0n : 0 < nr := by omega
      have i0m : ¬ nr = 0 := by omega
      have i1 : (1 : Int) < (nr : Int) := by omega
      have i2 : (2 : Int) ≤ (nr : Int) := by omega
      have e4 : IntKind.i64.wrap (IntKind.i64.wrap (IntKind.i64.wrap y0 * 256) + IntKind.i64.wrap y1) = y0 * 256 + y1 := by simp only [IntKind.wrap_i64]; omega
      have f4 : IntKind.i64.wrap y0 = y0 := by simp only [IntKind.wrap_i64]; omega
      have f5 : IntKind.i64.wrap y1 = y1 := by simp only [IntKind.wrap_i64]; omega
      have g4 : IntKind.i64.wrap (y0 * 256) = y0 * 256 := by simp only [IntKind.wrap_i64]; omega
      have g45 : IntKind.i64.wrap (y0 * 256 + y1) = y0 * 256 + y1 := by simp only [IntKind.wrap_i64]; omega
      have hs' : ¬ (nr : Int) < 2 := by omega
      clear hnr
      go_upto_region 19 with fail
      go_quiet (fail)
      rw [HOPB.out] at HNU
      have HBQ : Hid (Below W0.heap.size W0 (W1.drewN nq)) := bstep HB.out (bdrewT W1 nq)
      have HPQ := hid (Part.ok_below HP3.out (bdrewT W1 nq))
      clear k0 k1 e4 f4 f5 g4 g45 i0 i0n i0m i1 i2 HP3 HPB HOPB HB
      have HB := HBQ
      clear HBQ
      generalize y0 * 256 + y1 = nb at *
      generalize W1.drewN nq = W2 at *
      clear z0 z1
      go_upto_region 21 with fail
      clear hsl hs'
      have HB2 := HB
      clear HB
      cases hcg : cutG r2 with
      | none =>
        have HQ := hid (dec_er_of (HNU.out.trans (by rw [if_neg (by omega), if_neg (by omega), hcg])))
        have CC := hid (rcut_no ⟨a3, c3, r2⟩ W2 HPQ.out (by simp only; omega) hcg)
        simp only [Part.val] at CC
        clear HNU HPQ HBD3 hcg
        generalize r2.length = n2 at *
        go_upto_region 29 with (first
          | (go_at_call 48; refine CC.out.mono ?_; go_loud (rintro e W ⟨rfl, q1, hW⟩; have HB := hid (bdT HB2.out hW); clear hW CC))
          | fail)
        have HRES := hid (kept HR0.out HB.out)
        go_wp2_with (first
          | (refine wpList_store_row rfl 26 _ _ rfl w.heap.size #[.int .i64 0, .string ⟨#[]⟩, .string ⟨#[]⟩, .slice none 0 0, .int .i64 0, .slice none 0 0, .int .i64 0, .string ⟨#[]⟩] rfl rfl 26 _ HRES.out (by kernel_rfl) rfl (by first | kernel_rfl | simp [Value.oneCell']) ?_)
          | fail)
        try simp only [Exit.inBlock, Exit.then]
        refine bodyPost_ret (v := .tuple #[.agg #[.int .i64 0, .string ⟨#[]⟩, .string ⟨#[]⟩, .slice none 0 0, .int .i64 0, .slice none 0 0, .int .i64 0, .string ⟨#[]⟩], .int .i64 (5)]) ?_ (by rfl) ?_
        · exact results_row2 Tryd.results18 _ _ w.heap.size 26 _ (0, 0) _ _ rfl rfl (setRow_heap _ _ _ _ _ _ HRES.out) Tryd.underlying26 rfl (by kernel_rfl)
        · refine ⟨none, 0, none, 0, ?_, ?_⟩
          · rw [HQ.out.1, HQ.out.2]; rfl
          · rw [HQ.out.1]
            have hbt : But w.heap.size W (W.setRow w.heap.size #[.int .i64 0, .string ⟨#[]⟩, .string ⟨#[]⟩, .slice none 0 0, .int .i64 0, .slice none 0 0, .int .i64 0, .string ⟨#[]⟩]) := But.setRow _ _ _
            have hbl := bbut (HW0.out.trans (HB.out.mono HW0.out.size)) hbt (Nat.le_refl _)
            exact dcO_nil hbl
      | some x =>
        obtain ⟨t, u⟩ := x
        have CC := hid (rcut_yes ⟨a3, c3, r2⟩ W2 W2 HPQ.out (Below.refl _ _) (by simp only; omega) hcg)
        simp only [Part.val] at CC
        have hts : (strOfNums t).size = t.length := strOfNums_size t
        by_cases hx : 255 < t.length
        · have HQ := hid (dec_er_of (HNU.out.trans (by rw [if_neg (by omega), if_neg (by omega), hcg]; simp only; rw [if_pos hx])))
          have q1 : (255 : Int) < ((strOfNums t).size : Int) := by omega
          clear HNU HPQ HBD3 hcg hts
          generalize strOfNums t = S at *
          generalize r2.length = n2 at *
          go_upto_region 31 with (first
            | (go_at_call 48; refine CC.out.mono ?_; go_loud (rintro e W ⟨a9, c9, rfl, H9⟩; have HB := hid (bstep HB2.out H9.out.2); clear CC))
            | fail)
          have HRES := hid (kept HR0.out HB.out)
          go_wp2_with (first
            | (refine wpList_store_row rfl 26 _ _ rfl w.heap.size #[.int .i64 0, .string ⟨#[]⟩, .string ⟨#[]⟩, .slice none 0 0, .int .i64 0, .slice none 0 0, .int .i64 0, .string ⟨#[]⟩] rfl rfl 26 _ HRES.out (by kernel_rfl) rfl (by first | kernel_rfl | simp [Value.oneCell']) ?_)
            | fail)
          try simp only [Exit.inBlock, Exit.then]
          refine bodyPost_ret (v := .tuple #[.agg #[.int .i64 0, .string ⟨#[]⟩, .string ⟨#[]⟩, .slice none 0 0, .int .i64 0, .slice none 0 0, .int .i64 0, .string ⟨#[]⟩], .int .i64 (2)]) ?_ (by rfl) ?_
          · exact results_row2 Tryd.results18 _ _ w.heap.size 26 _ (0, 0) _ _ rfl rfl (setRow_heap _ _ _ _ _ _ HRES.out) Tryd.underlying26 rfl (by kernel_rfl)
          · refine ⟨none, 0, none, 0, ?_, ?_⟩
            · rw [HQ.out.1, HQ.out.2]; rfl
            · rw [HQ.out.1]
              have hbt : But w.heap.size W (W.setRow w.heap.size #[.int .i64 0, .string ⟨#[]⟩, .string ⟨#[]⟩, .slice none 0 0, .int .i64 0, .slice none 0 0, .int .i64 0, .string ⟨#[]⟩]) := But.setRow _ _ _
              have hbl := bbut (HW0.out.trans (HB.out.mono HW0.out.size)) hbt (Nat.le_refl _)
              exact dcO_nil hbl
        · have HQ := hid (dec_ok_of (HNU.out.trans (by rw [if_neg (by omega), if_neg (by omega), hcg]; simp only; rw [if_neg hx])))
          have q1 : ¬ (255 : Int) < ((strOfNums t).size : Int) := by omega
          clear HNU HPQ HBD3 hcg hts
          generalize strOfNums t = S at *
          generalize r2.length = n2 at *
          go_upto_region 31 with (first
            | (go_at_call 48; refine CC.out.mono ?_; go_loud (rintro e W ⟨a9, c9, rfl, H9⟩; have HB := hid (bstep HB2.out H9.out.2); clear CC))
            | fail)
          have HRES := hid (kept HR0.out HB.out)
          go_wp2_with (first
            | (refine wpList_store_row rfl 26 _ _ rfl w.heap.size #[.int .i64 5, .string ⟨#[]⟩, .string ⟨#[]⟩, .slice none 0 0, .int .i64 0, .slice none 0 0, .int .i64 nb, .string S] rfl rfl 26 _ HRES.out (by kernel_rfl) rfl (by first | kernel_rfl | simp [Value.oneCell']) ?_)
            | fail)
          try simp only [Exit.inBlock, Exit.then]
          refine bodyPost_ret (v := .tuple #[.agg #[.int .i64 5, .string ⟨#[]⟩, .string ⟨#[]⟩, .slice none 0 0, .int .i64 0, .slice none 0 0, .int .i64 nb, .string S], .int .i64 (0)]) ?_ (by rfl) ?_
          · exact results_row2 Tryd.results18 _ _ w.heap.size 26 _ (0, 0) _ _ rfl rfl (setRow_heap _ _ _ _ _ _ HRES.out) Tryd.underlying26 rfl (by kernel_rfl)
          · refine ⟨none, 0, none, 0, ?_, ?_⟩
            · rw [HQ.out.1, HQ.out.2]; rfl
            · rw [HQ.out.1]
              have hbt : But w.heap.size W (W.setRow w.heap.size #[.int .i64 5, .string ⟨#[]⟩, .string ⟨#[]⟩, .slice none 0 0, .int .i64 0, .slice none 0 0, .int .i64 nb, .string S]) := But.setRow _ _ _
              have hbl := bbut (HW0.out.trans (HB.out.mono HW0.out.size)) hbt (Nat.le_refl _)
              exact ⟨RowS.nil _ _ _, fun b hb => by simp [Tp.nil, Value.ownBlock] at hb, Row.nil _ _, fun b hb => by simp [Tp.nil, Value.ownBlock] at hb, hbl⟩
  rw [if_neg o1, if_neg o6, if_neg (by omega)] at HDEC
  have HQ := hid (dec_er_of HDEC.out)
  have b1 : (op == 1) = false := by simpa using o1
  have b3 : (op == 3) = false := by simpa using o3
  have b4 : (op == 4) = false := by simpa using o4
  have b5 : (op == 5) = false := by simpa using o5
  have b6 : (op == 6) = false := by simpa using o6
  clear o1 o3 o4 o5 o6 HDEC HPR HBR
  have HRES := hid (kept HR0.out HB.out)
  go_wp2_with (first
    | (refine wpList_store_row rfl 26 _ _ rfl w.heap.size #[.int .i64 0, .string ⟨#[]⟩, .string ⟨#[]⟩, .slice none 0 0, .int .i64 0, .slice none 0 0, .int .i64 0, .string ⟨#[]⟩] rfl rfl 26 _ HRES.out (by kernel_rfl) rfl (by first | kernel_rfl | simp [Value.oneCell']) ?_)
    | fail)
  try simp only [Exit.inBlock, Exit.then]
  refine bodyPost_ret (v := .tuple #[.agg #[.int .i64 0, .string ⟨#[]⟩, .string ⟨#[]⟩, .slice none 0 0, .int .i64 0, .slice none 0 0, .int .i64 0, .string ⟨#[]⟩], .int .i64 (170)]) ?_ (by rfl) ?_
  · exact results_row2 Tryd.results18 _ _ w.heap.size 26 _ (0, 0) _ _ rfl rfl (setRow_heap _ _ _ _ _ _ HRES.out) Tryd.underlying26 rfl (by kernel_rfl)
  · refine ⟨none, 0, none, 0, ?_, ?_⟩
    · rw [HQ.out.1, HQ.out.2]; rfl
    · rw [HQ.out.1]
      have hbt : But w.heap.size W1 (W1.setRow w.heap.size #[.int .i64 0, .string ⟨#[]⟩, .string ⟨#[]⟩, .slice none 0 0, .int .i64 0, .slice none 0 0, .int .i64 0, .string ⟨#[]⟩]) := But.setRow _ _ _
      have hbl := bbut (HW0.out.trans (HB.out.mono HW0.out.size)) hbt (Nat.le_refl _)
      exact dcO_nil hbl
end Go.Proofs.YtdcppiknomoigaaDoor

