/-
  The walk of the statement InetBack.
-/
import Derived.Test.YtccmkljbedddiaaIBackN
import Derived.Deep.DeepCutAuto
namespace Go.Proofs.Ytccmkljbedddiaa
open Go.RowKit
set_option linter.all false

/-- Encode, of any head and data. -/
theorem encode_c (h : Ip) (pt : Part) (w : World) (hok : h.ok) (hp : pt.ok w) : Calls Try.prog 11 #[h.val, pt.val] w fun e w' => ∃ a n c er, e = .returned (.tuple #[.slice a n c, .int .i64 er]) ∧ Below w.heap.size w w' ∧ ((er == 0) = false ∨ (er = 0 ∧ layB h = true ∧ pt.zs.length ≤ 1480 ∧ ∃ g, a = some ⟨g, 0, none⟩ ∧ n = 20 + pt.zs.length ∧ c = 20 + pt.zs.length ∧ w'.heap[g]? = some (.cells (u8s (encL h pt.zs)).toArray 5 (0, 0)))) := by
  cases hb : layB h
  · exact (encode_arg h pt.val w hb).mono fun e w' ⟨he, hb⟩ => ⟨none, 0, 0, 1, he, hb, Or.inl rfl⟩
  · by_cases hl : pt.zs.length ≤ 1480
    · exact (encode_ok h pt w hok hb hp hl).mono fun e w' ⟨g, he, hg, hh, hb'⟩ => ⟨_, _, _, 0, he, hb', Or.inr ⟨rfl, rfl, hl, g, rfl, rfl, rfl, hh⟩⟩
    · exact (encode_long h pt.a pt.zs.length pt.c w hb (by omega)).mono fun e w' ⟨he, hb⟩ => ⟨none, 0, 0, 2, he, hb, Or.inl rfl⟩
/-- what was laid, with bytes behind it, read again. -/
theorem decode_back (h : Ip) (ps bs : List Int) (a : Option Addr) (n c : Nat) (w : World) (hok : h.ok) (hh : layB h = true) (hl : ps.length ≤ 1480) (hr : Row w 5 (.slice a n c) (u8s (encL h ps ++ bs))) (hb : ∀ z, z ∈ encL h ps ++ bs → 0 ≤ z ∧ z ≤ 255) (hbl : bs.length ≤ 140737488351232) :
    Calls Try.prog 16 #[.slice a n c] w fun e w' => ∃ a' n' c', e = .returned (.tuple #[h.val, .slice a' n' c', .int .i64 0]) ∧ Ans w w' ps a' n' c' := by
  obtain ⟨pt, e1, e2, ok⟩ := hr.part hb
  rw [e1]
  have := decode_u pt w ok (by rw [e2, List.length_append, encL_len]; omega)
  obtain ⟨f1, f2, f3⟩ := back_laid h ps bs hok hh hl
  rw [e2, f1, f2, f3] at this
  exact this
theorem Row.n_is {w : World} {a : Option Addr} {n c : Nat} {zs : List Int} (h : Row w 5 (.slice a n c) (u8s zs)) : n = zs.length := by
  obtain ⟨a', c', e, _⟩ := h.form
  simp only [Value.slice.injEq, u8s_len] at e
  exact e.2.1
theorem below_drewN {B : Nat} {w w' : World} (h : Below B w w') (k : Nat) : Below B w (w'.drewN k) := ⟨h.os, h.tape, h.output, h.size, h.block⟩
theorem Part.take_ok {w : World} {p : Part} (h : p.ok w) (n : Nat) (hn : n ≤ p.zs.length) : Part.ok w ⟨p.a, p.c, p.zs.take n⟩ := by
  refine ⟨fun z hz => h.1 z (List.mem_of_mem_take hz), by have := h.2.1; simp; omega, ?_⟩
  rcases h.2.2 with he | ⟨b, o, ha, hc⟩
  · left; simp [he]
  · refine Or.inr ⟨b, o, ha, fun j hj => ?_⟩
    have hj' : j < n := by simp at hj; omega
    have hj2 : j < p.zs.length := by simp at hj; omega
    rw [hc j hj2]
    simp [List.getD_eq_getElem?_getD, List.getElem?_take, hj']
/-- a slice of a call's own that is not empty. -/
theorem Row.open' {w : World} {a : Option Addr} {n c : Nat} {zs : List Int} (h : Row w 5 (.slice a n c) (u8s zs)) (hn : 0 < zs.length) : ∃ g, a = some ⟨g, 0, none⟩ ∧ n = zs.length ∧ zs.length ≤ c ∧ (∀ j, j < zs.length → w.cell? ⟨g, j, none⟩ = some (.int .u8 (zs.getD j 0)) ∧ w.frozen? ⟨g, j, none⟩ = false) ∧ g < w.heap.size ∧ ∀ j x, j < zs.length → Row (w.setCell ⟨g, j, none⟩ (.int .u8 x)) 5 (.slice a n c) (u8s (zs.set j x)) := by
  have hn' := h.n_is
  obtain ⟨g, rfl, -, -, -⟩ := h.set 0 (by rw [u8s_len]; exact hn) (.int .u8 0)
  have hc : zs.length ≤ c := by
    rcases h with ⟨e, _⟩ | ⟨g', cap, cur, lo, hi, e, hg, hf, hl, _⟩
    · cases e
    · simp only [Value.slice.injEq] at e
      rw [u8s_len] at hl
      omega
  refine ⟨g, rfl, hn', hc, fun j hj => ?_, h.lt rfl, fun j x hj => ?_⟩
  · obtain ⟨g', e', -, hf, -⟩ := h.set j (by rw [u8s_len]; exact hj) (.int .u8 0)
    simp only [Option.some.injEq, Addr.mk.injEq, and_true] at e'
    subst e'
    obtain ⟨g2, cap2, e2, hc2⟩ := h.cell j (by rw [u8s_len]; exact hj)
    simp only [Value.slice.injEq, Option.some.injEq, Addr.mk.injEq, and_true] at e2
    rw [← e2.1] at hc2
    refine ⟨?_, hf⟩
    rw [hc2]
    simp [u8s, hj]
  · obtain ⟨g', e', -, -, hr⟩ := h.set j (by rw [u8s_len]; exact hj) (.int .u8 x)
    simp only [Option.some.injEq, Addr.mk.injEq, and_true] at e'
    subst e'
    have : (u8s zs).set j (.int .u8 x) = u8s (zs.set j x) := by simp [u8s, List.map_set]
    rw [this] at hr
    exact hr
set_option maxRecDepth 20000 in
set_option maxHeartbeats 3000000 in
theorem inetBack_walk (h : Ip) (pt bt : Part) (w : World) (hok : h.ok) (ho : pt.ok w) (hz : pt.zs.length ≤ 140737488351232) (hbo : bt.ok w) (hbz : bt.zs.length ≤ 140737488351232) :
    Calls Try.prog 6 #[h.val, pt.val, bt.val] w fun e w' => e = .returned (.bool true) ∧ Below w.heap.size w w' := by
  have E1 : Hid (∀ w', Below w.heap.size w w' → _) := fun w' hb => encode_c h pt w' hok (Part.ok_below ho hb)
  have DB : Hid (∀ (a : Option Addr) (n c : Nat) (w' : World), layB h = true → pt.zs.length ≤ 1480 → Row w' 5 (.slice a n c) (u8s (encL h pt.zs ++ bt.zs)) → _) := fun a n c w' hh hl hr => decode_back h pt.zs bt.zs a n c w' hok hh hl hr (fun z hm => by
    rcases List.mem_append.1 hm with hm | hm
    · exact encL_bd h pt.zs ho.1 z hm
    · exact hbo.1 z hm) hbz
  have D2 : Hid (∀ w', Below w.heap.size w w' → _) := fun w' hb => decode_u bt w' (Part.ok_below hbo hb) (by omega)
  have PP : Hid (∀ w', Below w.heap.size w w' → pt.ok w' ∧ bt.ok w') := fun w' hb => ⟨Part.ok_below ho hb, Part.ok_below hbo hb⟩
  have q1 := ip_eq h h hok hok
  rw [decide_eq_true rfl] at q1
  have HEL := hid (encL_len h pt.zs)
  have HEB := hid (encL_bd h pt.zs ho.1)
  have HPB := hid ho.1
  have HBB := hid hbo.1
  clear hok ho hbo
  generalize hLB : layB h = LB at *
  generalize encL h pt.zs = EL at *
  clear hLB
  obtain ⟨ht, hi, hl', hp, hk, hs, hd⟩ := h
  simp only [Ip.val] at E1 DB q1 ⊢
  have HV : Hid (pt.val = .slice pt.a pt.zs.length pt.c) := rfl
  have HW : Hid (bt.val = .slice bt.a bt.zs.length bt.c) := rfl
  rw [HV.out, HW.out]
  rw [HV.out] at E1
  rw [HW.out] at D2
  obtain ⟨l, Hl⟩ : ∃ l, Hid (pt.zs.length = l) := ⟨_, rfl⟩
  obtain ⟨m, Hm⟩ : ∃ m, Hid (bt.zs.length = m) := ⟨_, rfl⟩
  rw [Hl.out] at E1 DB hz HEL ⊢
  rw [Hm.out] at D2 hbz ⊢
  go_enter Try.func6, Try.ntmps6
  go_wp2_with fail
  refine (awake_any _).mono ?_
  rintro e w1 ⟨rfl, hb1⟩
  have HF1 := hid (kept (heap_new w (.cells #[.int .i64 ht, .int .i64 hi, .int .i64 hl', .int .i64 hp, .bool hk, .int .u32 hs, .int .u32 hd] 27)) hb1)
  have HB1 := hid (bstep (bpush (Below.refl _ w) (.cells #[.int .i64 ht, .int .i64 hi, .int .i64 hl', .int .i64 hp, .bool hk, .int .u32 hs, .int .u32 hd] 27)) hb1)
  clear hb1
  have cc : ∀ q, w1.cell? ⟨w.heap.size, q, none⟩ = (#[.int .i64 ht, .int .i64 hi, .int .i64 hl', .int .i64 hp, .bool hk, .int .u32 hs, .int .u32 hd] : Array Value)[q]? := fun q => cell_of_heap HF1.out q
  go_wp2_with fail
  refine (E1.out _ HB1.out).mono ?_
  rintro e w2 ⟨a2, n2, c2, er, rfl, hb2, hcase⟩
  have HF2 := hid (kept HF1.out hb2)
  have HB2 := hid (bstep HB1.out hb2)
  have HC := hid hcase
  clear hb2 hcase cc HF1 HB1 E1
  go_upto_if 31 with fail
  go_cut [10, 11, 12, 13] (fun _ _ _ _ wx => Below w.heap.size w wx)
  case first =>
    rcases HC.out with hne | ⟨rfl, rfl, hl80, g, rfl, rfl, rfl, hg⟩
    · go_wp2
      go_meet
      case rel => exact HB2.out
    · obtain ⟨a3, c3, w3, hr3, hrow3, hb3, hf3⟩ := append_nil_part ⟨some ⟨g, 0, none⟩, 20 + l, EL⟩ w2 (Part.of_row hg (by rw [HEL.out]; omega) HEB.out) (by simp only [HEL.out]; omega) 28
      simp only [Part.val, HEL.out] at hr3 hrow3 hf3
      have HB3 := hid (bstep HB2.out hb3)
      have HF3 := hid (kept HF2.out hb3)
      obtain ⟨a4, c4, w4, hr4, hrow4, hb4, hf4⟩ := append_row_part hrow3 w2.heap.size hb3.size hf3 bt (PP.out _ HB3.out).2 (by rw [HEL.out, Hm.out]; omega) 28
      rw [HW.out, Hm.out, HEL.out] at hr4
      rw [HEL.out, Hm.out] at hrow4
      have HB4 : Hid (Below w.heap.size w w4) := HB3.out.trans (hb4.mono HB2.out.size)
      have HF4 : Hid (w4.heap[w.heap.size]? = some (.cells #[.int .i64 ht, .int .i64 hi, .int .i64 hl', .int .i64 hp, .bool hk, .int .u32 hs, .int .u32 hd] 27 (0, 0))) := (hb4.block _ (heap_lt HF2.out)).trans HF3.out
      have HR3 := hid hr3
      have HR4 := hid hr4
      have HRow4 := hid hrow4
      clear hr3 hrow3 hb3 hf3 hr4 hrow4 hb4 hf4 hg HB3 HF3
      go_wp2_with (first
        | (at_builtin; refine wpList_append_run _ rfl _ _ 28 28 rfl _ _ rfl rfl HR3.out ?_)
        | (at_builtin; refine wpList_append_run _ rfl _ _ 28 28 rfl _ _ rfl rfl HR4.out ?_) | fail)
      refine (DB.out _ _ _ _ (by trivial) hl80 HRow4.out).mono ?_
      rintro e w5 ⟨a5, n5, c5, rfl, an⟩
      have HB5 := hid (bpush (bstep HB4.out an.2.2) (.cells #[.int .i64 ht, .int .i64 hi, .int .i64 hl', .int .i64 hp, .bool hk, .int .u32 hs, .int .u32 hd] 27))
      have hf5 := kept HF4.out an.2.2
      have HF5 := hid ((heap_old w5 (.cells #[.int .i64 ht, .int .i64 hi, .int .i64 hl', .int .i64 hp, .bool hk, .int .u32 hs, .int .u32 hd] 27) (heap_lt hf5)).trans hf5)
      have hlt5 := heap_lt hf5
      have v1 := (an.1.below (bpush (Below.refl _ _) (.cells #[.int .i64 ht, .int .i64 hi, .int .i64 hl', .int .i64 hp, .bool hk, .int .u32 hs, .int .u32 hd] 27))).conv0 HPB.out
      have v2 := conv_part pt _ (PP.out _ HB5.out).1
      rw [HV.out, Hl.out] at v2
      have st1 := str_same (strOfNums pt.zs)
      have c1 : ∀ q, w5.cell? ⟨w.heap.size, q, none⟩ = (#[.int .i64 ht, .int .i64 hi, .int .i64 hl', .int .i64 hp, .bool hk, .int .u32 hs, .int .u32 hd] : Array Value)[q]? := fun q => cell_of_heap hf5 q
      clear an HRow4 HR3 HR4 HB4 HF4 hf5
      generalize strOfNums pt.zs = SS at *
      have qn : ((20 + (l : Int)) != (20 + (l : Int))) = false := by simp
      have ql : ¬ (1500 : Int) < 20 + (l : Int) := by omega
      go_wp2
      go_meet
      case rel => exact HB5.out
  case rest =>
    as_aux_lemma =>
      have HBc := hid hcut
      clear hcut HB2 HF2 HC DB q1
      by_cases hE : decE bt.zs = 0
      · obtain ⟨r1, r2⟩ := read_lay bt.zs HBB.out hE
        obtain ⟨r3, r4, r5⟩ := read_back bt.zs HBB.out hE _ rfl
        have hGA : (decA bt.zs).ok := by unfold decA; rw [if_pos hE]; exact decP_ok HBB.out
        obtain ⟨K, hK⟩ : ∃ K, (numAt bt.zs 2 2).toNat = 20 + K := ⟨(numAt bt.zs 2 2).toNat - 20, by omega⟩
        rw [hK] at r2 r3 r4 r5
        rw [show 20 + K - 20 = K by omega] at r2 r3 r5
        have hDB : ∀ z, z ∈ decD bt.zs → 0 ≤ z ∧ z ≤ 255 := fun z hm => by
          unfold decD at hm
          rw [if_pos hE] at hm
          exact HBB.out z (List.mem_of_mem_drop (List.mem_of_mem_take hm))
        rw [hE] at D2
        clear hE hK
        generalize decA bt.zs = GA at *
        generalize decD bt.zs = YD at *
        have E2 : Hid (∀ (w' : World) (a : Option Addr) (n c : Nat), Row w' 5 (.slice a n c) (u8s YD) → Calls Try.prog 11 #[GA.val, .slice a n c] w' fun e w'' => (¬ K ≤ 1480 ∧ e = .returned (.tuple #[.slice none 0 0, .int .i64 2]) ∧ Below w'.heap.size w' w'') ∨ (K ≤ 1480 ∧ ∃ g, e = .returned (.tuple #[.slice (some ⟨g, 0, none⟩) (20 + K) (20 + K), .int .i64 0]) ∧ w'.heap.size ≤ g ∧ w''.heap[g]? = some (.cells (u8s (encL GA YD)).toArray 5 (0, 0)) ∧ Below w'.heap.size w' w'')) := fun w' a n c hr => by
          obtain ⟨pt', e1, e2, ok⟩ := hr.part hDB
          rw [e1]
          by_cases hK : K ≤ 1480
          · have := encode_ok GA pt' w' hGA r1 ok (by rw [e2, r2]; exact hK)
            rw [e2, r2] at this
            exact this.mono fun e w'' h => Or.inr ⟨hK, h⟩
          · exact (encode_long GA pt'.a pt'.zs.length pt'.c w' r1 (by rw [e2, r2]; omega)).mono fun e w'' h => Or.inl ⟨hK, h⟩
        rw [r3] at E2
        have HR5 := hid r5
        have HYN := hid r2
        clear r1 r2 r3 r5 hGA hDB
        obtain ⟨gt, gi, gl, gp, gk, gs, gd⟩ := GA
        simp only [Ip.val] at D2 E2
        obtain ⟨b, o, hba⟩ : ∃ b o, bt.a = some ⟨b, o, none⟩ := by
          rcases (PP.out _ HBc.out).2.2.2 with he | ⟨b, o, ha, _⟩
          · rw [he] at r4; simp at r4
          · exact ⟨b, o, ha⟩
        obtain ⟨ba, bc, bs⟩ := bt
        simp only at *
        subst hba
        have hKb : K ≤ 140737488351232 := by have := Hm.out; omega
        have HTK : Hid ((bs.take (20 + K)).length = 20 + K) := by unfold Hid; simp; omega
        go_wp2_with fail
        refine (D2.out _ HBc.out).mono ?_
        rintro e w6 ⟨a6, n6, c6, rfl, an⟩
        have hn6 := an.1.n_is
        rw [HYN.out] at hn6
        subst n6
        have HB6 := hid (bpush (bstep HBc.out an.2.2) (.cells #[.int .i64 gt, .int .i64 gi, .int .i64 gl, .int .i64 gp, .bool gk, .int .u32 gs, .int .u32 gd] 27))
        have HRow6 := hid (an.1.below (bpush (Below.refl _ _) (.cells #[.int .i64 gt, .int .i64 gi, .int .i64 gl, .int .i64 gp, .bool gk, .int .u32 gs, .int .u32 gd] 27)))
        clear an HBc
        go_wp2_with fail
        refine (E2.out _ _ _ _ HRow6.out).mono ?_
        rintro e w7 (⟨hK, rfl, hb7⟩ | ⟨hK, gc, rfl, hgc, hg7, hb7⟩)
        · have HB7 := hid (bstep HB6.out hb7)
          have ql : (1500 : Int) < 20 + (K : Int) := by omega
          clear hb7 HB6 HRow6
          go_wp2
          go_ret
          exact ⟨rfl, HB7.out⟩
        · have HB7 := hid (bstep HB6.out hb7)
          have HG7 := hid hg7
          have ql : ¬ (1500 : Int) < 20 + (K : Int) := by omega
          have qm : ¬ (m : Int) < 20 + (K : Int) := by have := Hm.out; omega
          have qn : ((20 + (K : Int)) != (20 + (K : Int))) = false := by simp
          have qbc : 20 + (K : Int) ≤ (bc : Int) := by have h := (PP.out _ HB7.out).2.2.1; simp only at h; omega
          clear hb7 HB6 HRow6 hg7
          obtain ⟨a8, c8, w8, hr8, hrow8, hb8, hf8⟩ := append_nil_part ⟨some ⟨b, o, none⟩, bc, bs.take (20 + K)⟩ w7 (Part.take_ok (PP.out _ HB7.out).2 (20 + K) r4.2) (by simp only [HTK.out]; omega) 28
          simp only [Part.val, HTK.out] at hr8 hrow8 hf8
          obtain ⟨g8, rfl, -, hc8, hcell8, hlt8, hset8⟩ := hrow8.open' (by rw [HTK.out]; omega)
          rw [HTK.out] at hc8 hcell8 hset8
          have hne : gc ≠ g8 := by have := heap_lt HG7.out; have := hf8 g8 rfl; omega
          have hg8w : w.heap.size ≤ g8 := by have := hf8 g8 rfl; have := HB7.out.size; omega
          have HR8 := hid hr8
          have HRow8 := hid hrow8
          have HB8 := hid (bstep HB7.out hb8)
          have HG8 := hid (kept HG7.out hb8)
          have hbt8 := (PP.out _ HB8.out).2
          have HCB : Hid (∀ j, j < 20 → w8.cell? ⟨b, o + j, none⟩ = some (.int .u8 (bs.getD j 0))) := fun j hj => by
            rcases hbt8.2.2 with he | ⟨b', o', ha, hc⟩
            · simp only at he; rw [he] at r4; simp at r4
            · simp only [Option.some.injEq, Addr.mk.injEq, and_true] at ha
              obtain ⟨rfl, rfl⟩ := ha
              exact hc j (by show j < bs.length; omega)
          have z6b := getD_mem_bd HBB.out 6
          have z10b := getD_mem_bd HBB.out 10
          have z11b := getD_mem_bd HBB.out 11
          have cb6 := HCB.out 6 (by omega)
          have cb10 := HCB.out 10 (by omega)
          have cb11 := HCB.out 11 (by omega)
          have lm6 : (6 : Int) < (m : Int) := by have := Hm.out; omega
          have lm10 : (10 : Int) < (m : Int) := by have := Hm.out; omega
          have lm11 : (11 : Int) < (m : Int) := by have := Hm.out; omega
          have lc10 : (10 : Int) < 20 + (K : Int) := by omega
          have lc11 : (11 : Int) < 20 + (K : Int) := by omega
          have HCD : Hid ((headL (decP bs) ((20 + K : Nat) : Int) (sumH (decP bs) ((20 + K : Nat) : Int)) ++ (bs.drop 20).take K).drop 20 = (bs.take (20 + K)).drop 20) := by
            unfold Hid
            rw [List.drop_append_of_le_length (by rw [headL_len]; omega), List.drop_eq_nil_of_le (by rw [headL_len]; omega), List.nil_append, List.drop_take, show 20 + K - 20 = K by omega]
          have HCL : Hid ((headL (decP bs) ((20 + K : Nat) : Int) (sumH (decP bs) ((20 + K : Nat) : Int)) ++ (bs.drop 20).take K).length = 20 + K) := by
            unfold Hid; simp [headL_len]; omega
          have HCBD : Hid (∀ z, z ∈ headL (decP bs) ((20 + K : Nat) : Int) (sumH (decP bs) ((20 + K : Nat) : Int)) ++ (bs.drop 20).take K → 0 ≤ z ∧ z ≤ 255) := fun z hm => by
            rcases List.mem_append.1 hm with hm | hm
            · exact headL_bd _ _ _ z hm
            · exact HBB.out z (List.mem_of_mem_drop (List.mem_of_mem_take hm))
          have HTBD : Hid (∀ z, z ∈ bs.take (20 + K) → 0 ≤ z ∧ z ≤ 255) := fun z hm => HBB.out z (List.mem_of_mem_take hm)
          clear hr8 hrow8 hb8 hf8 HG7 HB7 hbt8 HCB PP D2 E2 HBB HYN
          generalize headL (decP bs) _ _ ++ (bs.drop 20).take K = CL at *
          generalize bs.take (20 + K) = TK at *
          generalize bs.getD 6 0 = z6 at *
          generalize bs.getD 10 0 = z10 at *
          generalize bs.getD 11 0 = z11 at *
          have cc10 : w8.cell? ⟨gc, 10, none⟩ = some (.int .u8 (CL.getD 10 0)) := by rw [cell_of_heap HG8.out, u8s_at _ _ (by rw [HCL.out]; omega)]
          have cc11 : w8.cell? ⟨gc, 11, none⟩ = some (.int .u8 (CL.getD 11 0)) := by rw [cell_of_heap HG8.out, u8s_at _ _ (by rw [HCL.out]; omega)]
          have ck10 := getD_mem_bd HCBD.out 10
          have ck11 := getD_mem_bd HCBD.out 11
          by_cases h128 : z6 < 128
          · have q6 : decide (128 ≤ z6) = false := by simp; omega
            rcases HR5.out h128 with ⟨rfl, hno⟩ | ⟨rfl, rfl, k10, k11, hCL⟩
            · have cvC : (convert 28 9 (.slice (some ⟨gc, 0, none⟩) (20 + K) (20 + K))).run Try.prog w8 = .ok (.string (strOfNums CL)) w8 := by
                have := conv_part ⟨some ⟨gc, 0, none⟩, 20 + K, CL⟩ w8 (Part.of_row HG8.out (by rw [HCL.out]; omega) HCBD.out)
                simp only [Part.val, HCL.out] at this
                exact this
              have cvA := HRow8.out.conv0 HTBD.out
              clear hset8 hcell8 HR5
              generalize strOfNums CL = SS at *
              generalize CL.getD 10 0 = x10 at *
              generalize CL.getD 11 0 = x11 at *
              have hfour : (z10 == 255) = false ∨ (z10 = 255 ∧ (z11 == 255) = false) ∨ (z10 = 255 ∧ z11 = 255 ∧ (x10 == 0) = false) ∨ (z10 = 255 ∧ z11 = 255 ∧ x10 = 0 ∧ (x11 == 0) = false) := by
                simp only [beq_eq_false_iff_ne, ne_eq]
                omega
              clear hno
              rcases hfour with s1 | ⟨rfl, s1⟩ | ⟨rfl, rfl, s1⟩ | ⟨rfl, rfl, rfl, s1⟩
              all_goals
                go_wp2_with (first | (at_builtin; refine wpList_append_run _ rfl _ _ 28 28 rfl _ _ rfl rfl HR8.out ?_) | fail)
                go_ret
                exact ⟨by simp, HB8.out⟩
            · have cs10 := hcell8 10 (by omega)
              have cs11 := hcell8 11 (by omega)
              have hrA := hset8 10 0 (by omega)
              obtain ⟨g9, e9, -, -, hcell9, -, hset9⟩ := hrA.open' (by rw [List.length_set, HTK.out]; omega)
              simp only [Option.some.injEq, Addr.mk.injEq, and_true] at e9
              subst g9
              have hrB := hset9 11 0 (by rw [List.length_set, HTK.out]; omega)
              rw [← hCL] at hrB
              have HRB := hid hrB
              have bt1 : But g8 w8 ((w8.setCell ⟨g8, 10, none⟩ (.int .u8 0)).setCell ⟨g8, 11, none⟩ (.int .u8 0)) := (But.setCell g8 w8 10 _).trans (But.setCell g8 _ 11 _)
              have HBT := hid bt1
              have hgB := keptBut HG8.out bt1 hne
              have cvC : (convert 28 9 (.slice (some ⟨gc, 0, none⟩) (20 + K) (20 + K))).run Try.prog ((w8.setCell ⟨g8, 10, none⟩ (.int .u8 0)).setCell ⟨g8, 11, none⟩ (.int .u8 0)) = .ok (.string (strOfNums CL)) ((w8.setCell ⟨g8, 10, none⟩ (.int .u8 0)).setCell ⟨g8, 11, none⟩ (.int .u8 0)) := by
                have := conv_part ⟨some ⟨gc, 0, none⟩, 20 + K, CL⟩ _ (Part.of_row hgB (by rw [HCL.out]; omega) HCBD.out)
                simp only [Part.val, HCL.out] at this
                exact this
              have cvA := HRB.out.conv0 HCBD.out
              obtain ⟨cA10, fA10⟩ := cs10
              obtain ⟨cA11, fA11⟩ := cs11
              clear hset8 hcell8 hcell9 hset9 hrA hrB bt1 hgB HR5 hCL
              rw [k10] at cc10
              rw [k11] at cc11
              generalize strOfNums CL = SS at *
              have hn8 : ¬ g8 = gc := fun e => hne e.symm
              have hn9 : ¬ gc = g8 := hne
              go_wp2_with (first | (at_builtin; refine wpList_append_run _ rfl _ _ 28 28 rfl _ _ rfl rfl HR8.out ?_) | fail)
              go_ret
              exact ⟨by simp, bbut HB8.out HBT.out hg8w⟩
          · have q6 : decide (128 ≤ z6) = true := by simp; omega
            have cvA : ∀ (k x cap : Nat), x + (20 + K - x) ≤ 20 + K → 20 + K - x ≤ cap → (convert 28 9 (.slice (some ⟨g8, x, none⟩) (20 + K - x) cap)).run Try.prog (w8.drewN k) = .ok (.string (strOfNums (TK.drop x))) (w8.drewN k) := fun k x cap hx hcap => by
              have h := conv_part ⟨some ⟨g8, x, none⟩, cap, TK.drop x⟩ (w8.drewN k) ⟨fun z hz => HTBD.out z (List.mem_of_mem_drop hz), by simp only [List.length_drop, HTK.out]; exact hcap, Or.inr ⟨g8, x, rfl, fun j hj => by
                simp only [List.length_drop, HTK.out] at hj
                show w8.cell? ⟨g8, x + j, none⟩ = _
                rw [(hcell8 (x + j) (by omega)).1]
                simp [List.getD_eq_getElem?_getD, List.getElem?_drop]⟩⟩
              simp only [Part.val, List.length_drop, HTK.out] at h
              exact h
            have cvC : ∀ (k x cap : Nat), x + (20 + K - x) ≤ 20 + K → 20 + K - x ≤ cap → (convert 28 9 (.slice (some ⟨gc, x, none⟩) (20 + K - x) cap)).run Try.prog (w8.drewN k) = .ok (.string (strOfNums (CL.drop x))) (w8.drewN k) := fun k x cap hx hcap => by
              have h := conv_part ⟨some ⟨gc, x, none⟩, cap, CL.drop x⟩ (w8.drewN k) ⟨fun z hz => HCBD.out z (List.mem_of_mem_drop hz), by simp only [List.length_drop, HCL.out]; exact hcap, Or.inr ⟨gc, x, rfl, fun j hj => by
                simp only [List.length_drop, HCL.out] at hj
                show w8.cell? ⟨gc, x + j, none⟩ = _
                rw [cell_of_heap HG8.out, u8s_at _ _ (by rw [HCL.out]; omega)]
                simp [List.getD_eq_getElem?_getD, List.getElem?_drop]⟩⟩
              simp only [Part.val, List.length_drop, HCL.out] at h
              exact h
            have emp : ∀ (g : Nat) (k : Nat), (convert 28 9 (.slice (some ⟨g, 0, none⟩) 0 0)).run Try.prog (w8.drewN k) = .ok (.string (strOfNums [])) (w8.drewN k) := fun g k => conv_part ⟨some ⟨g, 0, none⟩, 0, []⟩ _ ⟨by simp, by simp, Or.inl rfl⟩
            by_cases hK0 : K = 0
            · subst hK0
              have e0 : TK.drop 20 = [] := List.drop_eq_nil_of_le (by rw [HTK.out]; omega)
              have d2 : ∀ k, (convert 28 9 (.slice (some ⟨g8, 20, none⟩) 0 (c8 - 20))).run Try.prog (w8.drewN k) = .ok (.string (strOfNums [])) (w8.drewN k) := fun k => by
                have := cvA k 20 (c8 - 20) (by omega) (by omega)
                rw [e0] at this
                exact this
              have d1 := emp gc
              have d3 := emp g8
              clear cvA cvC hset8 hcell8 HR5 emp e0
              generalize strOfNums [] = SS at *
              by_cases hc20 : c8 = 20
              · subst hc20
                go_wp2_with (first | (at_builtin; refine wpList_append_run _ rfl _ _ 28 28 rfl _ _ rfl rfl HR8.out ?_) | fail)
                go_quiet (fail)
                go_wp2
                go_ret
                exact ⟨by simp, below_drewN HB8.out _⟩
              · have hc20i : (20 : Int) ≤ (c8 : Int) := by omega
                go_wp2_with (first | (at_builtin; refine wpList_append_run _ rfl _ _ 28 28 rfl _ _ rfl rfl HR8.out ?_) | fail)
                go_quiet (fail)
                go_wp2
                go_ret
                exact ⟨by simp, below_drewN HB8.out _⟩
            · have d1 : ∀ k, (convert 28 9 (.slice (some ⟨gc, 20, none⟩) K K)).run Try.prog (w8.drewN k) = .ok (.string (strOfNums (TK.drop 20))) (w8.drewN k) := fun k => by
                have := cvC k 20 K (by omega) (by omega)
                rw [HCD.out, show 20 + K - 20 = K by omega] at this
                exact this
              have d2 : ∀ k, (convert 28 9 (.slice (some ⟨g8, 20, none⟩) K (c8 - 20))).run Try.prog (w8.drewN k) = .ok (.string (strOfNums (TK.drop 20))) (w8.drewN k) := fun k => by
                have := cvA k 20 (c8 - 20) (by omega) (by omega)
                rw [show 20 + K - 20 = K by omega] at this
                exact this
              have hc20 : ¬ c8 = 20 := by omega
              have hc20i : (20 : Int) ≤ (c8 : Int) := by omega
              clear cvA cvC hset8 hcell8 HR5 emp
              generalize strOfNums (TK.drop 20) = SS at *
              go_wp2_with (first | (at_builtin; refine wpList_append_run _ rfl _ _ 28 28 rfl _ _ rfl rfl HR8.out ?_) | fail)
              go_quiet (fail)
              go_wp2
              go_ret
              exact ⟨by simp, below_drewN HB8.out _⟩
      · have eA : decA bt.zs = zeroIp := by unfold decA; rw [if_neg hE]
        have eD : decD bt.zs = [] := by unfold decD; rw [if_neg hE]
        have q2 := ip_eq zeroIp zeroIp zeroIp_ok zeroIp_ok
        rw [decide_eq_true rfl] at q2
        rw [eA, eD] at D2
        clear eA eD
        generalize decE bt.zs = DE at *
        have qd : (DE != 0) = true := by simpa using hE
        simp only [Ip.val, zeroIp] at D2 q2
        go_wp2_with fail
        refine (D2.out _ HBc.out).mono ?_
        rintro e w6 ⟨a6, n6, c6, rfl, an⟩
        have hn6 : n6 = 0 := an.1.n_is
        subst n6
        have HB6 := hid (bpush (bstep HBc.out an.2.2) (.cells #[.int .i64 0, .int .i64 0, .int .i64 0, .int .i64 0, .bool false, .int .u32 0, .int .u32 0] 27))
        clear an HBc
        go_wp2
        go_ret
        exact ⟨rfl, HB6.out⟩
end Go.Proofs.Ytccmkljbedddiaa
