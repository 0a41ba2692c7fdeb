import Derived.Test.YtgcpoanjjgbfjaaLzJg
/-
  Lease: what the options of a message say.
-/
namespace Go.Proofs.Ytgcpoanjjgbfjaa
open Go.RowKit
set_option linter.all false

theorem dat_abs (os : List OP) (code : Int) : (fstP os code).zs = datG (absO os) code := by
  unfold datG
  rw [find_abs]
  unfold fstP
  cases fst? os code <;> rfl
theorem is_abs (os : List OP) (code : Int) : fstB os code = (findO (absO os) code).isSome := by
  rw [find_abs]
  unfold fstB
  cases fst? os code <;> rfl
theorem datG_bd {w : World} {a : Option Addr} {os : List OP} (h : OV w a os) (code : Int) : (∀ z ∈ datG (absO os) code, 0 ≤ z ∧ z ≤ 255) ∧ (datG (absO os) code).length ≤ 140737488353280 := by
  rw [← dat_abs]
  obtain ⟨h1, h2⟩ := fstP_ok h code
  exact ⟨h1.1, h2⟩
theorem exN_bd {zs : List Int} (h : ∀ z ∈ zs, 0 ≤ z ∧ z ≤ 255) : U32 (exN zs 4) := by
  unfold exN U32
  split
  · have := getTo_bd zs (getD_mem_bd h) 0 4
    omega
  · omega
theorem numG_bd {w : World} {a : Option Addr} {os : List OP} (h : OV w a os) (code : Int) : U32 (numG (absO os) code) := exN_bd (datG_bd h code).1
theorem num_c (a : Option Addr) (c : Nat) (os : List OP) (code : Int) (w : World) (h : OV w a os) :
    Calls Try.prog 38 #[.slice a os.length c, .int .i64 code] w fun e w' => e = .returned (.tuple #[.int .u32 (numG (absO os) code), .bool (okG (absO os) code)]) ∧ Hid (Below w.heap.size w w') := by
  unfold numG okG
  rw [← dat_abs]
  exact number_any a c os code w h
/-- bytes that came out, to be read. -/
theorem find_c (a : Option Addr) (c : Nat) (os : List OP) (code : Int) (w : World) (h : OV w a os) :
    Calls Try.prog 69 #[.slice a os.length c, .int .i64 code] w fun e w' => ∃ pt : Part, e = .returned (.tuple #[pt.val, .bool (findO (absO os) code).isSome]) ∧ Hid (pt.ok w' ∧ pt.zs = datG (absO os) code ∧ Below w.heap.size w w') := by
  have hb := datG_bd h code
  rw [← is_abs, ← dat_abs] at *
  refine (ofind_any a c os code w h).mono ?_
  rintro e w' ⟨ax, cx, rfl, HA⟩
  obtain ⟨pt, e1, e2, ok⟩ := HA.out.1.part hb.1
  exact ⟨pt, by rw [← e1], ok, e2, HA.out.2.2⟩
set_option maxHeartbeats 1000000 in
theorem canHave_any (ip m r : Int) (w : World) (h1 : U32 ip) (h2 : U32 m) (h3 : U32 r) :
    Calls Try.prog 52 #[.int .u32 ip, .int .u32 m, .int .u32 r] w fun e w' => e = .returned (.bool (canB ip m r)) ∧ Hid (Below w.heap.size w w') := by
  have HN : Hid (Calls Try.prog 70 #[] w fun e w' => ∃ g, e = .returned (.pointer (some ⟨g, 0, none⟩)) ∧ TabW w' g Pl.zero ∧ w.heap.size ≤ g ∧ Below w.heap.size w w') := rtnew_any w
  have HS : Hid (∀ (W : World) (g : Nat), TabW W g Pl.zero → Calls Try.prog 71 #[.pointer (some ⟨g, 0, none⟩), .int .u32 ip, .int .u32 m, .int .u32 r] W fun e w' => e = .returned (.int .i64 (faultV ⟨ip, m, r⟩)) ∧ TabW w' g (if faultV ⟨ip, m, r⟩ = 0 then ⟨ip, m, r⟩ else Pl.zero) ∧ But g W w') := fun W g ht => rtset_any g Pl.zero ip m r W ht ⟨h1, h2, h3⟩
  have HC : Hid (canB ip m r = (faultV ⟨ip, m, r⟩ == 0)) := rfl
  clear h1 h2 h3
  generalize canB ip m r = B at *
  generalize faultV ⟨ip, m, r⟩ = F at *
  go_enter Try.func52, Try.ntmps52
  go_wp2_with (first
    | (go_at_call 70; refine HN.out.mono ?_; rintro e w2 ⟨g, rfl, ht, hg, hb⟩; have HT := hid ht; have HG := hid hg; have HB := hid hb; clear ht hg hb)
    | (go_at_call 71; refine (HS.out _ _ HT.out).mono ?_; rintro e w3 ⟨rfl, ht3, hb3⟩; have HB3 := hid hb3; clear ht3 hb3)
    | fail)
  go_ret
  exact ⟨ret_bool HC.out.symm, bbut HB.out HB3.out HG.out⟩
set_option maxHeartbeats 1000000 in
theorem maskOf_any (a : Option Addr) (c : Nat) (os : List OP) (w : World) (h : OV w a os) :
    Calls Try.prog 49 #[.slice a os.length c] w fun e w' => e = .returned (.int .u32 (maskG (absO os))) ∧ Hid (Below w.heap.size w w') := by
  have HF := hid (find_c a c os 1 w h)
  have HN : Hid (∀ W, Below w.heap.size w W → Calls Try.prog 38 #[.slice a os.length c, .int .i64 1] W fun e w' => e = .returned (.tuple #[.int .u32 (numG (absO os) 1), .bool (okG (absO os) 1)]) ∧ Hid (Below W.heap.size W w')) := fun W hW => num_c a c os 1 W (h.below hW)
  have HM : Hid (maskG (absO os) = if (findO (absO os) 1).isSome = true then numG (absO os) 1 else 4294967295) := rfl
  clear h
  generalize maskG (absO os) = M at *
  generalize numG (absO os) 1 = N at *
  generalize okG (absO os) 1 = K at *
  generalize (findO (absO os) 1).isSome = B at *
  generalize datG (absO os) 1 = D at *
  generalize os.length = n at *
  cases B
  · go_enter Try.func49, Try.ntmps49
    go_wp2_with (first
      | (go_at_call 69; refine HF.out.mono ?_; rintro e w2 ⟨pt, rfl, H2⟩)
      | fail)
    go_ret
    exact ⟨ret_int (by rw [HM.out]; rfl), H2.out.2.2⟩
  · go_enter Try.func49, Try.ntmps49
    go_wp2_with (first
      | (go_at_call 69; refine HF.out.mono ?_; rintro e w2 ⟨pt, rfl, H2⟩)
      | (go_at_call 38; refine (HN.out _ H2.out.2.2).mono ?_; rintro e w3 ⟨rfl, H3⟩)
      | fail)
    go_ret
    exact ⟨ret_int (by rw [HM.out]; rfl), bstep H2.out.2.2 H3.out⟩
set_option maxHeartbeats 1000000 in
theorem routerOf_any (a : Option Addr) (c : Nat) (os : List OP) (w : World) (h : OV w a os) :
    Calls Try.prog 54 #[.slice a os.length c] w fun e w' => e = .returned (.int .u32 (routerG (absO os))) ∧ Hid (Below w.heap.size w w') := by
  have HF := hid (find_c a c os 3 w h)
  have hbd := datG_bd h 3
  have hr : U32 (routerG (absO os)) := by
    unfold routerG U32 getAns
    rw [if_neg (by omega)]
    split
    · simp
    · have := getTo_bd (datG (absO os) 3) (getD_mem_bd hbd.1) 0 4
      show 0 ≤ getTo _ 0 4 ∧ getTo _ 0 4 ≤ _
      omega
  have HG : Hid (∀ (W : World) (pt : Part), pt.ok W → pt.zs = datG (absO os) 3 → Calls Try.prog 68 #[pt.val, .int .i64 0, .int .i64 4] W fun e w' => e = .returned (.tuple #[.int .u64 (routerG (absO os)), .int .i64 (getAns (datG (absO os) 3) 0 4).2]) ∧ w' = W) := fun W pt hok he => by
    have := get_part pt 0 4 W hok (by rw [he]; omega)
    rw [he] at this
    exact this
  obtain ⟨r1, r2⟩ := hr
  clear h hbd
  generalize routerG (absO os) = R at *
  generalize (getAns (datG (absO os) 3) 0 4).2 = E at *
  generalize (findO (absO os) 3).isSome = B at *
  generalize datG (absO os) 3 = D at *
  generalize os.length = n at *
  have e1 : IntKind.u32.wrap R = R := by simp only [IntKind.wrap_u32]; omega
  go_enter Try.func54, Try.ntmps54
  go_wp2_with (first
    | (go_at_call 69; refine HF.out.mono ?_; rintro e w2 ⟨pt, rfl, H2⟩)
    | (go_at_call 68; refine (HG.out _ pt H2.out.1 H2.out.2.1).mono ?_; rintro e w3 ⟨rfl, rfl⟩)
    | fail)
  go_ret
  exact ⟨rfl, H2.out.2.2⟩
set_option maxHeartbeats 1000000 in
theorem lspan_any (a : Option Addr) (c : Nat) (os : List OP) (code without : Int) (w : World) (h : OV w a os) :
    Calls Try.prog 72 #[.slice a os.length c, .int .i64 code, .int .i64 without] w fun e w' => e = .returned (.int .i64 (lspanI (absO os) code without)) ∧ Hid (Below w.heap.size w w') := by
  have HN := hid (num_c a c os code w h)
  obtain ⟨b1, b2⟩ := numG_bd h code
  have HS : Hid (lspanI (absO os) code without = if okG (absO os) code = true then numG (absO os) code * 10 else without) := rfl
  clear h
  generalize lspanI (absO os) code without = R at *
  generalize numG (absO os) code = N at *
  generalize okG (absO os) code = K at *
  generalize os.length = n at *
  have e1 : IntKind.i64.wrap N = N := by simp only [IntKind.wrap_i64]; omega
  have e2 : IntKind.i64.wrap (N * 10) = N * 10 := by simp only [IntKind.wrap_i64]; omega
  cases K
  · go_enter Try.func72, Try.ntmps72
    go_wp2_with (first
      | (go_at_call 38; refine HN.out.mono ?_; rintro e w2 ⟨rfl, H2⟩)
      | fail)
    go_ret
    exact ⟨ret_int (by rw [HS.out]; rfl), H2.out⟩
  · go_enter Try.func72, Try.ntmps72
    go_wp2_with (first
      | (go_at_call 38; refine HN.out.mono ?_; rintro e w2 ⟨rfl, H2⟩)
      | fail)
    go_ret
    exact ⟨ret_int (by rw [HS.out]; rfl), H2.out⟩
end Go.Proofs.Ytgcpoanjjgbfjaa

/-
  Lease: seconds, fileOf, spans, timed. Written by mklzfit2.py.
-/
namespace Go.Proofs.Ytgcpoanjjgbfjaa
open Go.RowKit
set_option linter.all false

set_option maxRecDepth 20000 in
set_option maxHeartbeats 1000000 in
theorem seconds_any (m : Bp) (a : Option Addr) (c : Nat) (os : List OP) (w : World) (h : OV w a os) :
    Calls Try.prog 51 #[.agg (m.cells (.slice a os.length c))] w fun e w' => e = .returned (.int .u32 (numG (absO os) 51)) ∧ Hid (Below w.heap.size w w') := by
  have HN := hid (fun (W : World) (hW : Below w.heap.size w W) => num_c a c os 51 W (h.below hW))
  clear h
  unfold Bp.cells
  generalize numG (absO os) 51 = N at *
  generalize okG (absO os) 51 = K at *
  generalize os.length = n at *
  obtain ⟨wt, hwt⟩ : ∃ W, W = w.alloc (.cells #[.int .i64 m.op, .int .i64 m.hops, .int .u32 m.xid, .int .i64 m.secs, .bool m.all, .int .u32 m.ci, .int .u32 m.yi, .int .u32 m.si, .int .u32 m.gi, .int .u8 m.mac.b0, .int .u8 m.mac.b1, .int .u8 m.mac.b2, .int .u8 m.mac.b3, .int .u8 m.mac.b4, .int .u8 m.mac.b5, .string m.sname, .string m.file, .slice a n c] 41) := ⟨_, rfl⟩
  obtain ⟨mb, hmb⟩ : ∃ g, g = w.heap.size := ⟨_, rfl⟩
  have HB := hid (show Below w.heap.size w wt by rw [hwt]; exact bpush (Below.refl _ _) _)
  have hm : wt.heap[mb]? = some (.cells #[.int .i64 m.op, .int .i64 m.hops, .int .u32 m.xid, .int .i64 m.secs, .bool m.all, .int .u32 m.ci, .int .u32 m.yi, .int .u32 m.si, .int .u32 m.gi, .int .u8 m.mac.b0, .int .u8 m.mac.b1, .int .u8 m.mac.b2, .int .u8 m.mac.b3, .int .u8 m.mac.b4, .int .u8 m.mac.b5, .string m.sname, .string m.file, .slice a n c] 41 (0, 0)) := by rw [hwt, hmb]; exact heap_new _ _
  have cm : ∀ q, wt.cell? ⟨mb, q, none⟩ = (#[.int .i64 m.op, .int .i64 m.hops, .int .u32 m.xid, .int .i64 m.secs, .bool m.all, .int .u32 m.ci, .int .u32 m.yi, .int .u32 m.si, .int .u32 m.gi, .int .u8 m.mac.b0, .int .u8 m.mac.b1, .int .u8 m.mac.b2, .int .u8 m.mac.b3, .int .u8 m.mac.b4, .int .u8 m.mac.b5, .string m.sname, .string m.file, .slice a n c] : Array Value)[q]? := fun q => cell_of_heap hm q
  go_enter Try.func51, Try.ntmps51
  go_upto_region 1 with (fail)
  rw [← hwt, ← hmb]
  clear hwt hmb hm
  go_wp2_with (first
    | (go_at_call 38; refine (HN.out _ HB.out).mono ?_; rintro e w2 ⟨rfl, H2⟩)
    | fail)
  go_ret
  exact ⟨rfl, bstep HB.out H2.out⟩
set_option maxRecDepth 20000 in
set_option maxHeartbeats 1000000 in
theorem fileOf_any (m : Bp) (a : Option Addr) (c : Nat) (os : List OP) (w : World) (h : OV w a os) :
    Calls Try.prog 53 #[.agg (m.cells (.slice a os.length c))] w fun e w' => e = .returned (.string (fileG m (absO os))) ∧ Hid (Below w.heap.size w w') := by
  have HN := hid (fun (W : World) (hW : Below w.heap.size w W) => find_c a c os 67 W (h.below hW))
  have HFI : Hid (fileG m (absO os) = if (findO (absO os) 67).isSome = true then strOfNums (datG (absO os) 67) else m.file) := rfl
  have HCV : Hid (∀ (W : World) (pt : Part), pt.ok W → pt.zs = datG (absO os) 67 → (convert 36 9 pt.val).run Try.prog W = .ok (.string (strOfNums (datG (absO os) 67))) W) := fun W pt hok he => by rw [← he]; exact conv_part pt W hok
  clear h
  unfold Bp.cells
  generalize fileG m (absO os) = R at *
  generalize (findO (absO os) 67).isSome = B at *
  generalize strOfNums (datG (absO os) 67) = Z at *
  generalize datG (absO os) 67 = D at *
  generalize os.length = n at *
  obtain ⟨wt, hwt⟩ : ∃ W, W = w.alloc (.cells #[.int .i64 m.op, .int .i64 m.hops, .int .u32 m.xid, .int .i64 m.secs, .bool m.all, .int .u32 m.ci, .int .u32 m.yi, .int .u32 m.si, .int .u32 m.gi, .int .u8 m.mac.b0, .int .u8 m.mac.b1, .int .u8 m.mac.b2, .int .u8 m.mac.b3, .int .u8 m.mac.b4, .int .u8 m.mac.b5, .string m.sname, .string m.file, .slice a n c] 41) := ⟨_, rfl⟩
  obtain ⟨mb, hmb⟩ : ∃ g, g = w.heap.size := ⟨_, rfl⟩
  have HB := hid (show Below w.heap.size w wt by rw [hwt]; exact bpush (Below.refl _ _) _)
  have hm : wt.heap[mb]? = some (.cells #[.int .i64 m.op, .int .i64 m.hops, .int .u32 m.xid, .int .i64 m.secs, .bool m.all, .int .u32 m.ci, .int .u32 m.yi, .int .u32 m.si, .int .u32 m.gi, .int .u8 m.mac.b0, .int .u8 m.mac.b1, .int .u8 m.mac.b2, .int .u8 m.mac.b3, .int .u8 m.mac.b4, .int .u8 m.mac.b5, .string m.sname, .string m.file, .slice a n c] 41 (0, 0)) := by rw [hwt, hmb]; exact heap_new _ _
  have cm : ∀ q, wt.cell? ⟨mb, q, none⟩ = (#[.int .i64 m.op, .int .i64 m.hops, .int .u32 m.xid, .int .i64 m.secs, .bool m.all, .int .u32 m.ci, .int .u32 m.yi, .int .u32 m.si, .int .u32 m.gi, .int .u8 m.mac.b0, .int .u8 m.mac.b1, .int .u8 m.mac.b2, .int .u8 m.mac.b3, .int .u8 m.mac.b4, .int .u8 m.mac.b5, .string m.sname, .string m.file, .slice a n c] : Array Value)[q]? := fun q => cell_of_heap hm q
  cases B
  · go_enter Try.func53, Try.ntmps53
    go_upto_region 1 with (fail)
    rw [← hwt, ← hmb]
    clear hwt hmb
    have HM := hid hm
    clear hm
    go_wp2_with (first
      | (go_at_call 69; refine (HN.out _ HB.out).mono ?_; rintro e w2 ⟨pt, rfl, H2⟩; have cm2 : ∀ q, w2.cell? ⟨mb, q, none⟩ = (#[.int .i64 m.op, .int .i64 m.hops, .int .u32 m.xid, .int .i64 m.secs, .bool m.all, .int .u32 m.ci, .int .u32 m.yi, .int .u32 m.si, .int .u32 m.gi, .int .u8 m.mac.b0, .int .u8 m.mac.b1, .int .u8 m.mac.b2, .int .u8 m.mac.b3, .int .u8 m.mac.b4, .int .u8 m.mac.b5, .string m.sname, .string m.file, .slice a n c] : Array Value)[q]? := fun q => cell_of_heap (kept HM.out H2.out.2.2) q; clear cm)
      | fail)
    go_ret
    exact ⟨by rw [HFI.out]; rfl, bstep HB.out H2.out.2.2⟩
  · go_enter Try.func53, Try.ntmps53
    go_upto_region 1 with (fail)
    rw [← hwt, ← hmb]
    clear hwt hmb hm
    go_wp2_with (first
      | (go_at_call 69; refine (HN.out _ HB.out).mono ?_; rintro e w2 ⟨pt, rfl, H2⟩; have hcv := HCV.out _ pt H2.out.1 H2.out.2.1; clear cm)
      | fail)
    go_ret
    exact ⟨by rw [HFI.out]; rfl, bstep HB.out H2.out.2.2⟩
theorem lspanI_bd {w : World} {a : Option Addr} {os : List OP} (h : OV w a os) (code without : Int) (hw : 0 ≤ without ∧ without ≤ 42949672950) : 0 ≤ lspanI (absO os) code without ∧ lspanI (absO os) code without ≤ 42949672950 := by
  have := numG_bd h code
  unfold U32 at this
  unfold lspanI
  split <;> omega
set_option maxHeartbeats 1000000 in
theorem spans_any (a : Option Addr) (c : Nat) (os : List OP) (all : Int) (w : World) (h : OV w a os) (ha : 0 ≤ all ∧ all ≤ 42949672950) :
    Calls Try.prog 55 #[.slice a os.length c, .int .i64 all] w fun e w' => e = .returned (.tuple #[.int .i64 (spansP (absO os) all).1, .int .i64 (spansP (absO os) all).2]) ∧ Hid (Below w.heap.size w w') := by
  obtain ⟨a1, a2⟩ := ha
  have t1 : all.tdiv 2 = all / 2 := Int.tdiv_eq_ediv_of_nonneg a1
  have t2 : (all * 7).tdiv 8 = all * 7 / 8 := Int.tdiv_eq_ediv_of_nonneg (by omega)
  have w1 : IntKind.i64.wrap (all / 2) = all / 2 := by simp only [IntKind.wrap_i64]; omega
  have w2 : IntKind.i64.wrap (all * 7) = all * 7 := by simp only [IntKind.wrap_i64]; omega
  have w3 : IntKind.i64.wrap (all * 7 / 8) = all * 7 / 8 := by simp only [IntKind.wrap_i64]; omega
  have HSP : Hid (∀ (W : World) (code without : Int), Below w.heap.size w W → Calls Try.prog 72 #[.slice a os.length c, .int .i64 code, .int .i64 without] W fun e w' => e = .returned (.int .i64 (lspanI (absO os) code without)) ∧ Hid (Below w.heap.size w w')) := fun W code without hW => (lspan_any a c os code without W (h.below hW)).mono fun e w' ⟨k1, k2⟩ => ⟨k1, bstep hW k2.out⟩
  obtain ⟨A, hA⟩ : ∃ x, x = lspanI (absO os) 58 (all / 2) := ⟨_, rfl⟩
  obtain ⟨B, hB⟩ : ∃ x, x = lspanI (absO os) 59 (all * 7 / 8) := ⟨_, rfl⟩
  have HA := hid hA
  have HBB := hid hB
  have HD : Hid (spansP (absO os) all = if A ≤ 0 ∨ B ≤ A ∨ all ≤ B then (all / 2, all * 7 / 8) else (A, B)) := by rw [hA, hB]; rfl
  clear h hA hB
  generalize spansP (absO os) all = R at *
  generalize os.length = n at *
  obtain ⟨H, hH⟩ : ∃ x, x = all / 2 := ⟨_, rfl⟩
  obtain ⟨E, hE⟩ : ∃ x, x = all * 7 / 8 := ⟨_, rfl⟩
  rw [← hH] at t1 w1 HA HD
  rw [← hE] at t2 w3 HBB HD
  have hH' := hH.symm
  have hE' := hE.symm
  clear hH hE
  by_cases k1 : A ≤ 0
  · go_enter Try.func55, Try.ntmps55
    go_wp2_with (first
      | (have hgate := HQ; clear hgate; go_at_call 72; refine (HSP.out _ _ _ HQ.out).mono ?_; rintro e w5 ⟨rfl, H5⟩; rw [← HBB.out])
      | (go_at_call 72; refine (HSP.out _ _ _ (Below.refl _ _)).mono ?_; rintro e w4 ⟨rfl, H4⟩; rw [← HA.out]; have HQ := H4)
      | fail)
    go_ret2
    exact ⟨by rw [HD.out, if_pos (Or.inl k1)]; rfl, H5.out⟩
  by_cases k2 : B ≤ A
  · go_enter Try.func55, Try.ntmps55
    go_wp2_with (first
      | (have hgate := HQ; clear hgate; go_at_call 72; refine (HSP.out _ _ _ HQ.out).mono ?_; rintro e w5 ⟨rfl, H5⟩; rw [← HBB.out])
      | (go_at_call 72; refine (HSP.out _ _ _ (Below.refl _ _)).mono ?_; rintro e w4 ⟨rfl, H4⟩; rw [← HA.out]; have HQ := H4)
      | fail)
    go_ret2
    exact ⟨by rw [HD.out, if_pos (Or.inr (Or.inl k2))]; rfl, H5.out⟩
  by_cases k3 : all ≤ B
  · go_enter Try.func55, Try.ntmps55
    go_wp2_with (first
      | (have hgate := HQ; clear hgate; go_at_call 72; refine (HSP.out _ _ _ HQ.out).mono ?_; rintro e w5 ⟨rfl, H5⟩; rw [← HBB.out])
      | (go_at_call 72; refine (HSP.out _ _ _ (Below.refl _ _)).mono ?_; rintro e w4 ⟨rfl, H4⟩; rw [← HA.out]; have HQ := H4)
      | fail)
    go_ret2
    exact ⟨by rw [HD.out, if_pos (Or.inr (Or.inr k3))]; rfl, H5.out⟩
  · go_enter Try.func55, Try.ntmps55
    go_wp2_with (first
      | (have hgate := HQ; clear hgate; go_at_call 72; refine (HSP.out _ _ _ HQ.out).mono ?_; rintro e w5 ⟨rfl, H5⟩; rw [← HBB.out])
      | (go_at_call 72; refine (HSP.out _ _ _ (Below.refl _ _)).mono ?_; rintro e w4 ⟨rfl, H4⟩; rw [← HA.out]; have HQ := H4)
      | fail)
    go_ret2
    exact ⟨by rw [HD.out, if_neg (by omega)]; rfl, H5.out⟩
end Go.Proofs.Ytgcpoanjjgbfjaa

/-
  Lease: timed. Written by mklzfit2.py.
-/
namespace Go.Proofs.Ytgcpoanjjgbfjaa
open Go.RowKit
set_option linter.all false

theorem zeroLs : (Try.prog.info? 44).map (·.zero) = some (some (.agg #[.int .u32 0, .int .u32 0, .int .u32 0, .int .u32 0, .int .u32 0, .string noText, .int .i64 0, .int .i64 0, .int .i64 0, .int .i64 0])) := by kernel_rfl
/-- the boxes of timed. -/
structure TimS (w : World) (lb mb gr : Nat) (X L : Array Value) (W : World) : Prop where
  l : W.heap[lb]? = some (.cells L 44 (0, 0))
  m : W.heap[mb]? = some (.cells X 41 (0, 0))
  r : W.heap[gr]? = some (.cells #[.int .u32 0, .int .u32 0, .int .u32 0, .int .u32 0, .int .u32 0, .string noText, .int .i64 0, .int .i64 0, .int .i64 0, .int .i64 0] 44 (0, 0))
  bel : Below w.heap.size w W
  lo : w.heap.size ≤ lb ∧ w.heap.size ≤ gr ∧ lb ≠ gr ∧ lb ≠ mb
theorem TimS.below {w W W' : World} {lb mb gr : Nat} {X L : Array Value} (h : TimS w lb mb gr X L W) (hb : Below W.heap.size W W') : TimS w lb mb gr X L W' := ⟨kept h.l hb, kept h.m hb, kept h.r hb, bstep h.bel hb, h.lo⟩
theorem TimS.set {w W W' : World} {lb mb gr : Nat} {X L L' : Array Value} (h : TimS w lb mb gr X L W) (hb : But lb W W') (hl : W'.heap[lb]? = some (.cells L' 44 (0, 0))) : TimS w lb mb gr X L' W' := ⟨hl, keptBut h.m hb (Ne.symm h.lo.2.2.2), keptBut h.r hb (Ne.symm h.lo.2.2.1), bbut h.bel hb h.lo.1, h.lo⟩
theorem TimS.set3 {w W : World} {lb mb gr : Nat} {X : Array Value} {l : Ls} {frm : Int} (h : TimS w lb mb gr X #[.int .u32 l.ip, .int .u32 l.m, .int .u32 l.r, .int .u32 l.sv, .int .u32 l.nx, .string l.file, .int .i64 frm, .int .i64 l.t1, .int .i64 l.t2, .int .i64 l.un] W) (x y z : Int) : TimS w lb mb gr X #[.int .u32 l.ip, .int .u32 l.m, .int .u32 l.r, .int .u32 l.sv, .int .u32 l.nx, .string l.file, .int .i64 frm, .int .i64 x, .int .i64 y, .int .i64 z] (((W.setCell ⟨lb, 7, none⟩ (.int .i64 x)).setCell ⟨lb, 8, none⟩ (.int .i64 y)).setCell ⟨lb, 9, none⟩ (.int .i64 z)) := by
  have h1 : TimS w lb mb gr X #[.int .u32 l.ip, .int .u32 l.m, .int .u32 l.r, .int .u32 l.sv, .int .u32 l.nx, .string l.file, .int .i64 frm, .int .i64 x, .int .i64 l.t2, .int .i64 l.un] (W.setCell ⟨lb, 7, none⟩ (.int .i64 x)) := h.set (But.setCell _ _ _ _) ((heap_setCell (j := 7) h.l).trans rfl)
  have h2 : TimS w lb mb gr X #[.int .u32 l.ip, .int .u32 l.m, .int .u32 l.r, .int .u32 l.sv, .int .u32 l.nx, .string l.file, .int .i64 frm, .int .i64 x, .int .i64 y, .int .i64 l.un] ((W.setCell ⟨lb, 7, none⟩ (.int .i64 x)).setCell ⟨lb, 8, none⟩ (.int .i64 y)) := h1.set (But.setCell _ _ _ _) ((heap_setCell (j := 8) h1.l).trans rfl)
  exact h2.set (But.setCell _ _ _ _) ((heap_setCell (j := 9) h2.l).trans rfl)
set_option maxRecDepth 20000 in
set_option maxHeartbeats 1000000 in
theorem timed_any (l : Ls) (m : Bp) (a : Option Addr) (c : Nat) (os : List OP) (frm : Int) (w : World) (h : OV w a os) (hf : 0 ≤ frm ∧ frm ≤ 1125899906842624) :
    Calls Try.prog 36 #[l.val, .agg (m.cells (.slice a os.length c)), .int .i64 frm] w fun e w' => e = .returned ((timedF l (absO os) frm).val) ∧ Hid (Below w.heap.size w w') := by
  have hsec := numG_bd h 51
  have HSE : Hid (∀ W, Below w.heap.size w W → Calls Try.prog 51 #[.agg (m.cells (.slice a os.length c))] W fun e w' => e = .returned (.int .u32 (numG (absO os) 51)) ∧ Hid (Below W.heap.size W w')) := fun W hW => seconds_any m a c os W (h.below hW)
  have HSP : Hid (∀ W, Below w.heap.size w W → Calls Try.prog 55 #[.slice a os.length c, .int .i64 (numG (absO os) 51 * 10)] W fun e w' => e = .returned (.tuple #[.int .i64 (spansP (absO os) (numG (absO os) 51 * 10)).1, .int .i64 (spansP (absO os) (numG (absO os) 51 * 10)).2]) ∧ Hid (Below W.heap.size W w')) := fun W hW => spans_any a c os _ W (h.below hW) (by unfold U32 at hsec; omega)
  have hsp : (0 ≤ (spansP (absO os) (numG (absO os) 51 * 10)).1 ∧ (spansP (absO os) (numG (absO os) 51 * 10)).1 ≤ 42949672950) ∧ 0 ≤ (spansP (absO os) (numG (absO os) 51 * 10)).2 ∧ (spansP (absO os) (numG (absO os) 51 * 10)).2 ≤ 42949672950 := by
    unfold U32 at hsec
    have h1 := lspanI_bd h 58 (numG (absO os) 51 * 10 / 2) (by omega)
    have h2 := lspanI_bd h 59 (numG (absO os) 51 * 10 * 7 / 8) (by omega)
    unfold spansP
    split <;> simp only <;> omega
  have HTF : Hid (timedF l (absO os) frm = if numG (absO os) 51 = 4294967295 then { l with frm := frm, t1 := -1, t2 := -1, un := -1 } else { l with frm := frm, t1 := bhd frm (spansP (absO os) (numG (absO os) 51 * 10)).1, t2 := bhd frm (spansP (absO os) (numG (absO os) 51 * 10)).2, un := bhd frm (numG (absO os) 51 * 10) }) := rfl
  clear h
  unfold Bp.cells at *
  generalize timedF l (absO os) frm = R at *
  generalize (spansP (absO os) (numG (absO os) 51 * 10)).1 = A at *
  generalize (spansP (absO os) (numG (absO os) 51 * 10)).2 = B at *
  generalize numG (absO os) 51 = N at *
  generalize os.length = n at *
  unfold U32 at hsec
  have HBH : Hid (∀ W t, 0 ≤ t ∧ t ≤ 42949672950 → Calls Try.prog 56 #[.int .i64 frm, .int .i64 t] W fun e w' => e = .returned (.int .i64 (bhd frm t)) ∧ w' = W) := fun W t ht => behind_any frm t W (by omega) (by omega)
  have e1 : IntKind.i64.wrap N = N := by simp only [IntKind.wrap_i64]; omega
  have e2 : IntKind.i64.wrap (N * 10) = N * 10 := by simp only [IntKind.wrap_i64]; omega
  have HBX : Hid (∀ W t, (t = A ∨ t = B ∨ t = N * 10) → Calls Try.prog 56 #[.int .i64 frm, .int .i64 t] W fun e w' => e = .returned (.int .i64 (bhd frm t)) ∧ w' = W) := fun W t ht => HBH.out W t (by rcases ht with rfl | rfl | rfl <;> omega)
  obtain ⟨wa, hwa⟩ : ∃ W, W = w.alloc (.cells #[.int .u32 l.ip, .int .u32 l.m, .int .u32 l.r, .int .u32 l.sv, .int .u32 l.nx, .string l.file, .int .i64 l.frm, .int .i64 l.t1, .int .i64 l.t2, .int .i64 l.un] 44) := ⟨_, rfl⟩
  obtain ⟨lb, hlb⟩ : ∃ g, g = w.heap.size := ⟨_, rfl⟩
  obtain ⟨wb, hwb⟩ : ∃ W, W = wa.alloc (.cells #[.int .i64 m.op, .int .i64 m.hops, .int .u32 m.xid, .int .i64 m.secs, .bool m.all, .int .u32 m.ci, .int .u32 m.yi, .int .u32 m.si, .int .u32 m.gi, .int .u8 m.mac.b0, .int .u8 m.mac.b1, .int .u8 m.mac.b2, .int .u8 m.mac.b3, .int .u8 m.mac.b4, .int .u8 m.mac.b5, .string m.sname, .string m.file, .slice a n c] 41) := ⟨_, rfl⟩
  obtain ⟨mb, hmb⟩ : ∃ g, g = lb + 1 := ⟨_, rfl⟩
  obtain ⟨wt, hwt⟩ : ∃ W, W = wb.alloc (.cells #[.int .u32 0, .int .u32 0, .int .u32 0, .int .u32 0, .int .u32 0, .string noText, .int .i64 0, .int .i64 0, .int .i64 0, .int .i64 0] 44) := ⟨_, rfl⟩
  obtain ⟨gr, hgr⟩ : ∃ g, g = lb + 1 + 1 := ⟨_, rfl⟩
  have sa : wa.heap.size = mb := by rw [hwa, hmb, hlb]; simp
  have sb : wb.heap.size = gr := by rw [hwb, hgr]; simp; rw [sa, hmb]
  have HTS : Hid (TimS w lb mb gr #[.int .i64 m.op, .int .i64 m.hops, .int .u32 m.xid, .int .i64 m.secs, .bool m.all, .int .u32 m.ci, .int .u32 m.yi, .int .u32 m.si, .int .u32 m.gi, .int .u8 m.mac.b0, .int .u8 m.mac.b1, .int .u8 m.mac.b2, .int .u8 m.mac.b3, .int .u8 m.mac.b4, .int .u8 m.mac.b5, .string m.sname, .string m.file, .slice a n c] #[.int .u32 l.ip, .int .u32 l.m, .int .u32 l.r, .int .u32 l.sv, .int .u32 l.nx, .string l.file, .int .i64 l.frm, .int .i64 l.t1, .int .i64 l.t2, .int .i64 l.un] wt) := by
    have b1 : Below wa.heap.size wa wb := by rw [hwb]; exact bpush (Below.refl _ _) _
    have b2 : Below wb.heap.size wb wt := by rw [hwt]; exact bpush (Below.refl _ _) _
    have b0 : Below w.heap.size w wa := by rw [hwa]; exact bpush (Below.refl _ _) _
    refine ⟨kept (kept (by rw [hwa, hlb]; exact heap_new _ _) b1) b2, kept (by rw [hwb, ← sa]; exact heap_new _ _) b2, by rw [hwt, ← sb]; exact heap_new _ _, bstep (bstep b0 b1) b2, by omega, by omega, by omega, by omega⟩
  have T1 : TimS w lb mb gr #[.int .i64 m.op, .int .i64 m.hops, .int .u32 m.xid, .int .i64 m.secs, .bool m.all, .int .u32 m.ci, .int .u32 m.yi, .int .u32 m.si, .int .u32 m.gi, .int .u8 m.mac.b0, .int .u8 m.mac.b1, .int .u8 m.mac.b2, .int .u8 m.mac.b3, .int .u8 m.mac.b4, .int .u8 m.mac.b5, .string m.sname, .string m.file, .slice a n c] #[.int .u32 l.ip, .int .u32 l.m, .int .u32 l.r, .int .u32 l.sv, .int .u32 l.nx, .string l.file, .int .i64 frm, .int .i64 l.t1, .int .i64 l.t2, .int .i64 l.un] (wt.setCell ⟨lb, 6, none⟩ (.int .i64 frm)) := HTS.out.set (But.setCell _ _ _ _) ((heap_setCell (j := 6) HTS.out.l).trans rfl)
  have HT1 := hid T1
  have c6 : wt.cell? ⟨lb, 6, none⟩ = some (.int .i64 l.frm) := (cell_of_heap HTS.out.l 6).trans rfl
  have f6 := frozen_of_heap HTS.out.l 6
  obtain ⟨w1, hw1⟩ : ∃ W, W = wt.setCell ⟨lb, 6, none⟩ (.int .i64 frm) := ⟨_, rfl⟩
  have HW1 := hid hw1
  rw [← hw1] at HT1 T1
  clear T1 hsp hf hw1 sa HBH hsec
  unfold Ls.val Ls.cells
  by_cases hN : N = 4294967295
  · subst hN
    have HR : R = { l with frm := frm, t1 := -1, t2 := -1, un := -1 } := by rw [HTF.out, if_pos rfl]
    clear HTF HBX HSP e1 e2
    go_enter Try.func36, Try.ntmps36
    go_upto_region 1 with (first
      | (refine wpList_alloc_to rfl 44 rfl #[.int .u32 0, .int .u32 0, .int .u32 0, .int .u32 0, .int .u32 0, .string noText, .int .i64 0, .int .i64 0, .int .i64 0, .int .i64 0] zeroLs ?_)
      | fail)
    rw [← hwa, ← hlb, ← hwb, ← hmb, ← hwt, sb]
    try simp only [Act.put, List.setIfInBounds_toArray, List.set_cons_zero, List.set_cons_succ]
    clear hwa hlb hwb hmb hwt hgr sb
    go_upto_region 2 with (fail)
    rw [← HW1.out]
    clear c6 f6 HW1 HTS
    go_upto_region 4 with (first
      | (go_at_call 51; refine (HSE.out _ HT1.out.bel).mono ?_; rintro e w2 ⟨rfl, H2⟩; have T2 := hid (HT1.out.below H2.out); have c7 : w2.cell? ⟨lb, 7, none⟩ = some (.int .i64 l.t1) := (cell_of_heap T2.out.l 7).trans rfl; have c8 : w2.cell? ⟨lb, 8, none⟩ = some (.int .i64 l.t2) := (cell_of_heap T2.out.l 8).trans rfl; have c9 : w2.cell? ⟨lb, 9, none⟩ = some (.int .i64 l.un) := (cell_of_heap T2.out.l 9).trans rfl; have f7 := frozen_of_heap T2.out.l 7; have f8 := frozen_of_heap T2.out.l 8; have f9 := frozen_of_heap T2.out.l 9)
      | (refine wpList_load_row rfl 41 _ rfl mb rfl 41 #[.int .i64 m.op, .int .i64 m.hops, .int .u32 m.xid, .int .i64 m.secs, .bool m.all, .int .u32 m.ci, .int .u32 m.yi, .int .u32 m.si, .int .u32 m.gi, .int .u8 m.mac.b0, .int .u8 m.mac.b1, .int .u8 m.mac.b2, .int .u8 m.mac.b3, .int .u8 m.mac.b4, .int .u8 m.mac.b5, .string m.sname, .string m.file, .slice a n c] (0, 0) _ (by first | exact HT1.out.m | exact T2.out.m) Try.underlying41 rfl sizeBp ?_)
      | fail)
    obtain ⟨w3x, hw3⟩ : ∃ W, W = (((w2.setCell ⟨lb, 7, none⟩ (.int .i64 (-1))).setCell ⟨lb, 8, none⟩ (.int .i64 (-1))).setCell ⟨lb, 9, none⟩ (.int .i64 (-1))) := ⟨_, rfl⟩
    have T3 := hid (T2.out.set3 (-1) (-1) (-1))
    rw [← hw3] at T3 ⊢
    clear hw3 c7 c8 c9 f7 f8 f9
    go_wp2_with (first
      | (refine wpList_load_row rfl 44 _ rfl lb rfl 44 #[.int .u32 l.ip, .int .u32 l.m, .int .u32 l.r, .int .u32 l.sv, .int .u32 l.nx, .string l.file, .int .i64 frm, .int .i64 (-1), .int .i64 (-1), .int .i64 (-1)] (0, 0) _ (by exact T3.out.l) Try.underlying44 rfl infoLs ?_)
      | (refine wpList_store_row rfl 44 _ _ rfl gr #[.int .u32 l.ip, .int .u32 l.m, .int .u32 l.r, .int .u32 l.sv, .int .u32 l.nx, .string l.file, .int .i64 frm, .int .i64 (-1), .int .i64 (-1), .int .i64 (-1)] rfl rfl 44 _ T3.out.r infoLs rfl (by simp [Value.oneCell']) ?_)
      | fail)
    refine bodyPost_ret (v := .agg #[.int .u32 l.ip, .int .u32 l.m, .int .u32 l.r, .int .u32 l.sv, .int .u32 l.nx, .string l.file, .int .i64 frm, .int .i64 (-1), .int .i64 (-1), .int .i64 (-1)]) ?_ (by rfl) ⟨by rw [HR], ?_⟩
    · exact results_row1 Try.results36 _ _ gr 44 _ (0, 0) _ rfl (setRow_heap _ _ _ _ _ _ T3.out.r) Try.underlying44 rfl infoLs
    · exact bbut T3.out.bel (But.setRow _ _ _) T3.out.lo.2.1
  · have hN' : (N == 4294967295) = false := by simpa using hN
    have HR : R = { l with frm := frm, t1 := bhd frm A, t2 := bhd frm B, un := bhd frm (N * 10) } := by rw [HTF.out, if_neg hN]
    clear HTF hN
    go_enter Try.func36, Try.ntmps36
    go_upto_region 1 with (first
      | (refine wpList_alloc_to rfl 44 rfl #[.int .u32 0, .int .u32 0, .int .u32 0, .int .u32 0, .int .u32 0, .string noText, .int .i64 0, .int .i64 0, .int .i64 0, .int .i64 0] zeroLs ?_)
      | fail)
    rw [← hwa, ← hlb, ← hwb, ← hmb, ← hwt, sb]
    try simp only [Act.put, List.setIfInBounds_toArray, List.set_cons_zero, List.set_cons_succ]
    clear hwa hlb hwb hmb hwt hgr sb
    go_upto_region 2 with (fail)
    rw [← HW1.out]
    clear c6 f6 HW1 HTS
    go_upto_region 8 with (first
      | (go_at_call 55; refine (HSP.out _ T2b.out.bel).mono ?_; rintro e w4 ⟨rfl, H4⟩; have T5 := hid (T2b.out.below H4.out); have c7 : w4.cell? ⟨lb, 7, none⟩ = some (.int .i64 l.t1) := (cell_of_heap T5.out.l 7).trans rfl; have c8 : w4.cell? ⟨lb, 8, none⟩ = some (.int .i64 l.t2) := (cell_of_heap T5.out.l 8).trans rfl; have c9 : w4.cell? ⟨lb, 9, none⟩ = some (.int .i64 l.un) := (cell_of_heap T5.out.l 9).trans rfl; have f7 := frozen_of_heap T5.out.l 7; have f8 := frozen_of_heap T5.out.l 8; have f9 := frozen_of_heap T5.out.l 9; clear cm3)
      | (refine wpList_load_row rfl 41 _ rfl mb rfl 41 #[.int .i64 m.op, .int .i64 m.hops, .int .u32 m.xid, .int .i64 m.secs, .bool m.all, .int .u32 m.ci, .int .u32 m.yi, .int .u32 m.si, .int .u32 m.gi, .int .u8 m.mac.b0, .int .u8 m.mac.b1, .int .u8 m.mac.b2, .int .u8 m.mac.b3, .int .u8 m.mac.b4, .int .u8 m.mac.b5, .string m.sname, .string m.file, .slice a n c] (0, 0) _ (by first | exact HT1.out.m | exact T2.out.m) Try.underlying41 rfl sizeBp ?_)
      | (have hgate := T2; clear hgate; go_at_call 51; refine (HSE.out _ T2.out.bel).mono ?_; rintro e w3 ⟨rfl, H3⟩; have T2b := hid (T2.out.below H3.out); have cm3 : w3.cell? ⟨mb, 17, none⟩ = some (.slice a n c) := (cell_of_heap T2b.out.m 17).trans rfl)
      | (go_at_call 51; refine (HSE.out _ HT1.out.bel).mono ?_; rintro e w2 ⟨rfl, H2⟩; have T2 := hid (HT1.out.below H2.out); skip)
      | (go_at_call 56; refine (HBX.out _ _ (by first | exact Or.inl rfl | exact Or.inr (Or.inl rfl) | exact Or.inr (Or.inr rfl))).mono ?_; rintro e w6 ⟨rfl, hw⟩; subst w6)
      | fail)
    obtain ⟨w3x, hw3⟩ : ∃ W, W = (((w4.setCell ⟨lb, 7, none⟩ (.int .i64 (bhd frm A))).setCell ⟨lb, 8, none⟩ (.int .i64 (bhd frm B))).setCell ⟨lb, 9, none⟩ (.int .i64 (bhd frm (N * 10)))) := ⟨_, rfl⟩
    have T3 := hid (T5.out.set3 (bhd frm A) (bhd frm B) (bhd frm (N * 10)))
    rw [← hw3] at T3 ⊢
    clear hw3 c7 c8 c9 f7 f8 f9
    go_wp2_with (first
      | (refine wpList_load_row rfl 44 _ rfl lb rfl 44 #[.int .u32 l.ip, .int .u32 l.m, .int .u32 l.r, .int .u32 l.sv, .int .u32 l.nx, .string l.file, .int .i64 frm, .int .i64 (bhd frm A), .int .i64 (bhd frm B), .int .i64 (bhd frm (N * 10))] (0, 0) _ (by exact T3.out.l) Try.underlying44 rfl infoLs ?_)
      | (refine wpList_store_row rfl 44 _ _ rfl gr #[.int .u32 l.ip, .int .u32 l.m, .int .u32 l.r, .int .u32 l.sv, .int .u32 l.nx, .string l.file, .int .i64 frm, .int .i64 (bhd frm A), .int .i64 (bhd frm B), .int .i64 (bhd frm (N * 10))] rfl rfl 44 _ T3.out.r infoLs rfl (by simp [Value.oneCell']) ?_)
      | fail)
    refine bodyPost_ret (v := .agg #[.int .u32 l.ip, .int .u32 l.m, .int .u32 l.r, .int .u32 l.sv, .int .u32 l.nx, .string l.file, .int .i64 frm, .int .i64 (bhd frm A), .int .i64 (bhd frm B), .int .i64 (bhd frm (N * 10))]) ?_ (by rfl) ⟨by rw [HR], ?_⟩
    · exact results_row1 Try.results36 _ _ gr 44 _ (0, 0) _ rfl (setRow_heap _ _ _ _ _ _ T3.out.r) Try.underlying44 rfl infoLs
    · exact bbut T3.out.bel (But.setRow _ _ _) T3.out.lo.2.1
end Go.Proofs.Ytgcpoanjjgbfjaa
