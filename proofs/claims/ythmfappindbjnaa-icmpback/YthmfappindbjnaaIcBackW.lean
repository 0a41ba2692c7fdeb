/-
  The walk of the statement IcmpBack. Written by mkicback.py.
-/
import Derived.Test.YthmfappindbjnaaIcBackM
import Derived.Deep.DeepCutAuto
namespace Go.Proofs.Ythmfappindbjnaa
open Go.RowKit
set_option linter.all false

theorem dec_row (X : List Int) (hX : ∀ z, z ∈ X → 0 ≤ z ∧ z ≤ 255) (W : World) (a : Option Addr) (n c : Nat) (hr : Row W 5 (.slice a n c) (u8s X)) :
    Calls Try.prog 16 #[.slice a n c] W fun e w' => ∃ a' n' c', e = .returned (.tuple #[.agg #[.int .i64 (decK X), .int .i64 (decC X), .int .u32 (decR X), .slice a' n' c'], .int .i64 (decE X)]) ∧ Ans W w' (decD X) a' n' c' := by
  obtain ⟨q, e1, e2, ok⟩ := hr.part hX
  rw [e1]
  have h := decode_u q W ok
  rw [e2] at h
  exact h
theorem enc_row (k c r : Int) (X : List Int) (hX : ∀ z, z ∈ X → 0 ≤ z ∧ z ≤ 255) (r0 : 0 ≤ r ∧ r ≤ 4294967295) (W : World) (a : Option Addr) (n c' : Nat) (hr : Row W 5 (.slice a n c') (u8s X)) :
    Calls Try.prog 10 #[.agg #[.int .i64 k, .int .i64 c, .int .u32 r, .slice a n c']] W fun e w' => ∃ a' n' c', e = .returned (.tuple #[.slice a' n' c', .int .i64 (encE k c X.length)]) ∧ Ans W w' (encB k c r X) a' n' c' := by
  obtain ⟨q, e1, e2, ok⟩ := hr.part hX
  rw [e1]
  have h := encode_u k c r q W r0 ok
  rw [e2] at h
  exact h
theorem ansD_mem (k c : Int) (zs : List Int) (hz : ∀ z, z ∈ zs → 0 ≤ z ∧ z ≤ 255) : ∀ z, z ∈ ansD k c zs → 0 ≤ z ∧ z ≤ 255 := by
  unfold ansD
  split
  · exact hz
  · simp
theorem Row.len {w : World} {e : TypeId} {a : Option Addr} {n c : Nat} {vs : List Value} (h : Row w e (.slice a n c) vs) : n = vs.length := by
  obtain ⟨a', c', e, _⟩ := h.form
  simp only [Value.slice.injEq] at e
  exact e.2.1

set_option maxRecDepth 20000 in
set_option maxHeartbeats 4000000 in
theorem icmpBack_walk (mk mc mr : Int) (pt bt : Part) (at_ bit : Int) (w : World) (r0 : 0 ≤ mr ∧ mr ≤ 4294967295) (ho : pt.ok w) (hz : pt.zs.length ≤ 140737488351232) (hbo : bt.ok w) (hbz : bt.zs.length ≤ 140737488351232) (hat : -9223372036854775808 ≤ at_ ∧ at_ ≤ 9223372036854775807) (hbit : -9223372036854775808 ≤ bit ∧ bit ≤ 9223372036854775807) :
    Calls Try.prog 7 #[.agg #[.int .i64 mk, .int .i64 mc, .int .u32 mr, pt.val], bt.val, .int .i64 at_, .int .i64 bit] w fun e w' => e = .returned (.bool true) ∧ Below w.heap.size w w' := by
  have E1 : Hid (∀ w', Below w.heap.size w w' → _) := fun w' hb => encode_u mk mc mr pt w' r0 (Part.ok_below ho hb)
  obtain ⟨Kb, hK⟩ := Int.eq_ofNat_of_zero_le (show 0 ≤ bit % 8 by omega)
  have hK8 : Kb < 8 := by omega
  have hand : bits .and .i64 bit 7 = (Kb : Int) := by rw [i64_and7, hK]
  have hKw : IntKind.u64.wrap (Kb : Int) = (Kb : Int) := by simp only [IntKind.wrap_u64]; omega
  have DD : Hid (encE mk mc pt.zs.length = 0 → (∀ z, z ∈ encB mk mc mr pt.zs → 0 ≤ z ∧ z ≤ 255) ∧ (encB mk mc mr pt.zs).length = 8 + pt.zs.length ∧ pt.zs.length ≤ 1472 ∧
      (∀ (W : World) (a : Option Addr) (n c : Nat), Row W 5 (.slice a n c) (u8s (encB mk mc mr pt.zs)) → Calls Try.prog 16 #[.slice a n c] W fun e w' => ∃ a' n' c', e = .returned (.tuple #[.agg #[.int .i64 mk, .int .i64 mc, .int .u32 mr, .slice a' n' c'], .int .i64 0]) ∧ Ans W w' pt.zs a' n' c') ∧
      (∀ (J : Nat), J < 8 + pt.zs.length → (0 ≤ (encB mk mc mr pt.zs).getD J 0 ∧ (encB mk mc mr pt.zs).getD J 0 ≤ 255) ∧ bits BinOp.xor IntKind.u8 ((encB mk mc mr pt.zs).getD J 0) (2 ^ Kb % 256) = ((((encB mk mc mr pt.zs).getD J 0).toNat ^^^ 2 ^ Kb : Nat) : Int) ∧
        ∀ (W : World) (a : Option Addr) (n c : Nat), Row W 5 (.slice a n c) (u8s ((encB mk mc mr pt.zs).set J ((((encB mk mc mr pt.zs).getD J 0).toNat ^^^ 2 ^ Kb : Nat) : Int))) → Calls Try.prog 16 #[.slice a n c] W fun e w' => ∃ (x0 x1 x2 : Int) (a' : Option Addr) (n' c' : Nat), e = .returned (.tuple #[.agg #[.int .i64 x0, .int .i64 x1, .int .u32 x2, .slice a' n' c'], .int .i64 93]) ∧ Below W.heap.size W w') ∧
      encE 0 0 (ansD mk mc pt.zs).length = 0 ∧ (encB 0 0 (ansR mk mc mr) (ansD mk mc pt.zs)).length = 8 + (ansD mk mc pt.zs).length ∧ (askB mk mc = true → (ansD mk mc pt.zs).length = pt.zs.length)) := fun hE => by
    obtain ⟨hk, hc, hl⟩ := encE_zero hE
    have eB : encB mk mc mr pt.zs = msgL mk mc (encS mk mc mr pt.zs) mr pt.zs := by unfold encB; rw [if_pos hE]
    obtain ⟨b1, b2, b3, b4, b5⟩ := back_laid mk mc mr pt.zs hk hc r0 ho.1 hl
    have hbd := (encB_bd mk mc mr pt.zs ho.1).1
    have hlen : (encB mk mc mr pt.zs).length = 8 + pt.zs.length := by rw [eB, msgL_len]
    rw [← eB] at b1 b2 b3 b4 b5
    have hs : numAt (encB mk mc mr pt.zs) 2 = isum (encB mk mc mr pt.zs) := by
      rw [eB, msg_num2 _ _ _ _ _ (encS_bd mk mc mr pt.zs (kind_bd hk) hc ho.1)]
      rfl
    have hal : (ansD mk mc pt.zs).length ≤ 1472 := by
      unfold ansD
      split
      · exact hl
      · simp
    have eA : encE 0 0 (ansD mk mc pt.zs).length = 0 := encE_is rfl (by omega) hal
    refine ⟨hbd, hlen, hl, fun W a n c hr => ?_, fun J hJ => ?_, eA, ?_, fun hk => by unfold ansD; rw [hk]; rfl⟩
    · have h := dec_row _ hbd W a n c hr
      rw [b1, b2, b3, b4, b5] at h
      exact h
    · have hzj := getD_mem_bd hbd J
      refine ⟨hzj, xor_turn _ Kb hzj.1 hzj.2 hK8, fun W a n c hr => ?_⟩
      have hxb := (bit_turned ((encB mk mc mr pt.zs).getD J 0).toNat (by omega) Kb hK8).1
      have h := dec_row _ (fun z hm => by
        rcases List.mem_or_eq_of_mem_set hm with hm | rfl
        · exact hbd z hm
        · omega) W a n c hr
      rw [turned_told _ hbd (by omega) (by omega) hs J Kb (by omega) hK8] at h
      exact h.mono fun e w' ⟨a', n', c', he, an⟩ => ⟨_, _, _, a', n', c', he, an.2.2⟩
    · unfold encB
      rw [if_pos eA, msgL_len]
  have SM : Hid (∀ (W : World) (a : Option Addr) (n c : Nat), Below w.heap.size w W → Row W 5 (.slice a n c) (u8s pt.zs) → Calls Try.prog 18 #[.agg #[.int .i64 mk, .int .i64 mc, .int .u32 mr, .slice a n c], .agg #[.int .i64 mk, .int .i64 mc, .int .u32 mr, pt.val]] W fun e w' => e = .returned (.bool true) ∧ Below W.heap.size W w') := fun W a n c hb hr => same_row mk mc mr pt a n c W (Part.ok_below ho hb) hr
  have AN : Hid (∀ w', Below w.heap.size w w' → _) := fun w' hb => answer_u mk mc mr pt w' (Part.ok_below ho hb) (by omega)
  have hadb := (ansD_mem mk mc pt.zs ho.1)
  have E2 : Hid (∀ (W : World) (a : Option Addr) (n c : Nat), Row W 5 (.slice a n c) (u8s (ansD mk mc pt.zs)) → _) := fun W a n c hr => enc_row 0 0 (ansR mk mc mr) (ansD mk mc pt.zs) hadb (by unfold ansR; split <;> omega) W a n c hr
  have A2 : Hid (∀ (W : World) (r v : Value), _) := fun W r v => answer_no 0 0 r v W rfl
  have D2 : Hid (∀ w', Below w.heap.size w w' → _) := fun w' hb => decode_u bt w' (Part.ok_below hbo hb)
  have BT : Hid (∀ w', Below w.heap.size w w' → bt.ok w') := fun w' hb => Part.ok_below hbo hb
  have BB := hid hbo.1
  clear ho hbo hK hbit hadb r0
  generalize hEE : encE mk mc pt.zs.length = EE at *
  clear hEE
  generalize encB 0 0 (ansR mk mc mr) (ansD mk mc pt.zs) = YA at *
  generalize ansD mk mc pt.zs = AD at *
  generalize ansR mk mc mr = AR at *
  generalize askB mk mc = AK at *
  generalize encB mk mc mr pt.zs = Y1 at *
  have HV : Hid (pt.val = .slice pt.a pt.zs.length pt.c) := rfl
  have HW : Hid (bt.val = .slice bt.a bt.zs.length bt.c) := rfl
  rw [HV.out, HW.out]
  rw [HV.out] at E1 SM AN
  rw [HW.out] at D2
  obtain ⟨l, Hl⟩ : ∃ l, Hid (pt.zs.length = l) := ⟨_, rfl⟩
  obtain ⟨m, Hm⟩ : ∃ m, Hid (bt.zs.length = m) := ⟨_, rfl⟩
  rw [Hl.out] at E1 SM DD AN hz ⊢
  rw [Hm.out] at D2 hbz ⊢
  generalize pt.a = pa at *
  generalize pt.c = pc at *
  go_enter Try.func7, Try.ntmps7
  go_wp2_with fail
  refine (live_any _).mono ?_
  rintro e w1 ⟨rfl, hb1⟩
  have HF1 := hid (kept (heap_new w (.cells #[.int .i64 mk, .int .i64 mc, .int .u32 mr, .slice pa l pc] 26)) hb1)
  have HB1 := hid (bstep (bpush (Below.refl _ w) (.cells #[.int .i64 mk, .int .i64 mc, .int .u32 mr, .slice pa l pc] 26)) hb1)
  clear hb1
  have cc : ∀ q, w1.cell? ⟨w.heap.size, q, none⟩ = (#[.int .i64 mk, .int .i64 mc, .int .u32 mr, .slice pa l pc] : Array Value)[q]? := fun q => cell_of_heap HF1.out q
  go_wp2_with fail
  refine (E1.out _ HB1.out).mono ?_
  rintro e w2 ⟨a2, n2, c2, rfl, an⟩
  have HF2 := hid (kept HF1.out an.2.2)
  have HB2 := hid (bstep HB1.out an.2.2)
  have HR2 := hid an.1
  clear an cc HF1 HB1 E1
  go_upto_if 37 with fail
  go_cut [2, 10, 12, 13, 14, 15, 16, 17, 18, 19, 20, 21, 22, 23] (fun _ _ _ _ _ _ _ _ _ _ _ _ _ _ wx => Below w.heap.size w wx)
  case first =>
    by_cases hE : EE = 0
    · subst hE
      obtain ⟨hYb, hYl, hl, DB, DT, eA, eYA, eAK⟩ := DD.out rfl
      rw [eA] at E2
      have HDB := hid DB
      have HDT := hid DT
      have HYb := hid hYb
      have HYL := hid hYl
      have HYA := hid eYA
      have HAK := hid eAK
      clear DD DB DT hYb eA eYA eAK hYl
      have HN2 : Hid (n2 = 8 + l) := by have := HR2.out.len; rw [u8s_len, HYL.out] at this; exact this
      rw [HN2.out] at HR2 ⊢
      go_wp2_with fail
      refine (HDB.out _ _ _ _ HR2.out).mono ?_
      rintro e w3 ⟨a3, n3, c3, rfl, an⟩
      have b3 := bpush an.2.2 (.cells #[.int .i64 mk, .int .i64 mc, .int .u32 mr, .slice a3 n3 c3] 26)
      have HB3 := hid (bstep HB2.out b3)
      have HF3 := hid (kept HF2.out b3)
      have HR3 := hid (HR2.out.below b3)
      have HD3 := hid (an.1.below (bpush (Below.refl _ _) (.cells #[.int .i64 mk, .int .i64 mc, .int .u32 mr, .slice a3 n3 c3] 26)))
      have cc : ∀ q, w3.cell? ⟨w.heap.size, q, none⟩ = (#[.int .i64 mk, .int .i64 mc, .int .u32 mr, .slice pa l pc] : Array Value)[q]? := fun q => cell_of_heap (kept HF2.out an.2.2) q
      have hlt : w.heap.size < w3.heap.size := heap_lt (kept HF2.out an.2.2)
      clear an b3 HB2 HF2 HR2 HDB
      go_wp2_with fail
      refine (SM.out _ _ _ _ HB3.out HD3.out).mono ?_
      rintro e w4 ⟨rfl, b4⟩
      have HB4 := hid (bstep HB3.out b4)
      have HF4 := hid (kept HF3.out b4)
      have HR4 := hid (HR3.out.below b4)
      clear b4 HB3 HF3 HR3 HD3 cc hlt SM
      have cc : ∀ q, w4.cell? ⟨w.heap.size, q, none⟩ = (#[.int .i64 mk, .int .i64 mc, .int .u32 mr, .slice pa l pc] : Array Value)[q]? := fun q => cell_of_heap HF4.out q
      go_wp2_with fail
      refine (AN.out _ HB4.out).mono ?_
      rintro e w5 ⟨a5, n5, c5, rfl, an⟩
      have b5 := bpush an.2.2 (.cells #[.int .i64 0, .int .i64 0, .int .u32 AR, .slice a5 n5 c5] 26)
      have HB5 := hid (bstep HB4.out b5)
      have HR5 := hid (HR4.out.below b5)
      have HD5 := hid (an.1.below (bpush (Below.refl _ _) (.cells #[.int .i64 0, .int .i64 0, .int .u32 AR, .slice a5 n5 c5] 26)))
      have HG5 := hid (heap_new w5 (.cells #[.int .i64 0, .int .i64 0, .int .u32 AR, .slice a5 n5 c5] 26))
      clear an b5 HB4 HF4 HR4 cc AN
      go_wp2_with fail
      generalize w5.alloc (.cells #[.int .i64 0, .int .i64 0, .int .u32 AR, .slice a5 n5 c5] 26) = W5 at *
      generalize w5.heap.size = g5 at *
      refine (E2.out _ _ _ _ HD5.out).mono ?_
      rintro e w6 ⟨a6, n6, c6, rfl, an⟩
      have HB6 := hid (bstep HB5.out an.2.2)
      have HR6 := hid (HR5.out.below an.2.2)
      have HG6 := hid (kept HG5.out an.2.2)
      have HN6 : Hid (n6 = 8 + AD.length) := by have := an.1.len; rw [u8s_len, HYA.out] at this; exact this
      clear an HB5 HR5 HD5 HG5 E2
      have cc : ∀ q, w6.cell? ⟨g5, q, none⟩ = (#[.int .i64 0, .int .i64 0, .int .u32 AR, .slice a5 n5 c5] : Array Value)[q]? := fun q => cell_of_heap HG6.out q
      go_wp2_with fail
      refine (A2.out _ _ _).mono ?_
      rintro e w7 ⟨rfl, hb7⟩
      have b7 := bpush hb7 (.cells #[.int .i64 0, .int .i64 0, .int .u32 0, .slice none 0 0] 26)
      have HB7 := hid (bstep HB6.out b7)
      have HR7 := hid (HR6.out.below b7)
      clear hb7 b7 HB6 HR6 HG6 cc A2
      -- the bytes once more
      obtain ⟨q7, e1, e2, ok7⟩ := HR7.out.part HYb.out
      obtain ⟨a8, c8, w8, r8, o8, b8, f8⟩ := append_nil_part q7 (w7.alloc (.cells #[.int .i64 0, .int .i64 0, .int .u32 0, .slice none 0 0] 26)) ok7 (by rw [e2, HYL.out]; omega) 24
      rw [← e1, e2, HYL.out] at r8
      rw [e2, HYL.out] at o8 f8
      have HR8 := hid r8
      have HO8 := hid o8
      have HB8 := hid (bstep HB7.out b8)
      have HF8 := hid f8
      have HS7 : Hid (w.heap.size ≤ (w7.alloc (.cells #[.int .i64 0, .int .i64 0, .int .u32 0, .slice none 0 0] 26)).heap.size) := HB7.out.size
      clear r8 o8 b8 f8 e1 e2 ok7 HR7 HB7
      have e8 : ((8 + (l : Int)) != (8 + (l : Int))) = false := by simp
      have q1 : ¬ (8 + (l : Int)) < 8 := by omega
      have HJ : Hid (∃ J : Nat, J < 8 + l ∧ ((at_ < 0 ∧ 8 + (l : Int) - 1 = (J : Int)) ∨ (¬ at_ < 0 ∧ 8 + (l : Int) ≤ at_ ∧ 8 + (l : Int) - 1 = (J : Int)) ∨ (at_ = (J : Int)))) := by
        unfold Hid
        by_cases h1 : at_ < 0
        · exact ⟨7 + l, by omega, Or.inl ⟨h1, by omega⟩⟩
        · by_cases h2 : 8 + (l : Int) ≤ at_
          · exact ⟨7 + l, by omega, Or.inr (Or.inl ⟨h1, h2, by omega⟩)⟩
          · exact ⟨at_.toNat, by omega, Or.inr (Or.inr (by omega))⟩
      obtain ⟨J, hJl, hJ⟩ := HJ.out
      obtain ⟨hzj, hxr, DTJ⟩ := HDT.out J hJl
      have HDJ := hid DTJ
      clear HJ HDT DTJ
      have HAK2 : Hid ((AK = true ∧ n6 = 8 + l) ∨ AK = false) := by
        unfold Hid
        cases hk : AK
        · exact Or.inr rfl
        · exact Or.inl ⟨rfl, by rw [HN6.out, HAK.out hk]⟩
      have hg8 : ∃ g8, a8 = some ⟨g8, 0, none⟩ := by
        obtain ⟨g8, h, _⟩ := Row.addr HO8.out (by rw [u8s_len, HYL.out]; omega)
        exact ⟨g8, h⟩
      obtain ⟨g8, rfl⟩ := hg8
      obtain ⟨g8', h8', -, hfz, hset⟩ := Row.set HO8.out J (by rw [u8s_len, HYL.out]; exact hJl) (.int .u8 (((Y1.getD J 0).toNat ^^^ 2 ^ Kb : Nat) : Int))
      simp only [Option.some.injEq, Addr.mk.injEq, and_true] at h8'
      subst h8'
      obtain ⟨g8', c8', hv8, hcell⟩ := Row.cell HO8.out J (by rw [u8s_len, HYL.out]; exact hJl)
      simp only [Value.slice.injEq, Option.some.injEq, Addr.mk.injEq, and_true] at hv8
      obtain ⟨rfl, -, -⟩ := hv8
      have hcj : w8.cell? ⟨g8, J, none⟩ = some (.int .u8 (Y1.getD J 0)) := by
        rw [hcell]
        have : J < Y1.length := by rw [HYL.out]; exact hJl
        simp [u8s, List.getD_eq_getElem?_getD, this]
      have hset2 : (u8s Y1).set J (.int .u8 (((Y1.getD J 0).toNat ^^^ 2 ^ Kb : Nat) : Int)) = u8s (Y1.set J (((Y1.getD J 0).toNat ^^^ 2 ^ Kb : Nat) : Int)) := by simp [u8s, List.map_set]
      rw [hset2] at hset
      have HST : Hid (Row (w8.setCell ⟨g8, J, none⟩ (.int .u8 (((Y1.getD J 0).toNat ^^^ 2 ^ Kb : Nat) : Int))).drew 5 (.slice (some ⟨g8, 0, none⟩) (8 + l) c8) (u8s (Y1.set J (((Y1.getD J 0).toNat ^^^ 2 ^ Kb : Nat) : Int)))) := hset
      have HBT : Hid (Below w.heap.size w (w8.setCell ⟨g8, J, none⟩ (.int .u8 (((Y1.getD J 0).toNat ^^^ 2 ^ Kb : Nat) : Int))).drew) := (bbut HB8.out (But.setCell g8 w8 J _) (Nat.le_trans HS7.out (HF8.out g8 rfl))).drew
      have HGE : Hid True := trivial
      clear hcell hset hset2
      generalize hXV : (((Y1.getD J 0).toNat ^^^ 2 ^ Kb : Nat) : Int) = XV at *
      generalize Y1.getD J 0 = zj at *
      clear hXV
      have hJi : (J : Int) < 8 + (l : Int) := by omega
      have hJ0 : (0 : Int) ≤ (J : Int) := by omega
      clear HF8 HS7 HAK HN6 HYA
      have HAK3 : Hid ((AK = true ∧ n6 = 8 + l) ∨ AK = false) := HAK2.out
      clear HAK2
      rcases HAK3.out with ⟨rfl, rfl⟩ | rfl
      all_goals
        clear HAK3
        rcases hJ with ⟨h1, h2⟩ | ⟨h1, h2, h3⟩ | rfl
      case' inr.inr.inr => have h1 : ¬ (J : Int) < 0 := by omega
      case' inr.inr.inr => have h2 : ¬ 8 + (l : Int) ≤ (J : Int) := by omega
      case' inl.inr.inr => have h1 : ¬ (J : Int) < 0 := by omega
      case' inl.inr.inr => have h2 : ¬ 8 + (l : Int) ≤ (J : Int) := by omega
      all_goals
        go_wp2_with (first | (at_builtin; refine wpList_append_run _ rfl _ _ 24 24 rfl _ _ rfl rfl HR8.out ?_) | fail)
        go_region
        clear hcj hfz HR8 HO8
        generalize (w8.setCell ⟨g8, J, none⟩ (.int .u8 XV)).drew = W9 at *
        go_wp2_with fail
        refine (HDJ.out _ _ _ _ HST.out).mono ?_
        rintro e w10 ⟨x0, x1, x2, a10, n10, c10, rfl, hb10⟩
        have HB10 := hid (bpush (bstep HBT.out hb10) (.cells #[.int .i64 x0, .int .i64 x1, .int .u32 x2, .slice a10 n10 c10] 26))
        clear hb10 HBT HST HDJ
        go_wp2
        go_meet
        case rel => exact HB10.out
    · have hE' : (EE == 0) = false := by simpa using hE
      go_wp2
      go_meet
      case rel => exact HB2.out
  case rest =>
    as_aux_lemma =>
      have HBc := hid hcut
      clear hcut HB2 HF2 HR2 DD SM AN E2 A2
      by_cases hF : decE bt.zs = 0
      · obtain ⟨p0, p1⟩ := read_back bt.zs BB.out hF
        have hRb : 0 ≤ decR bt.zs ∧ decR bt.zs ≤ 4294967295 := by unfold decR; split; exact num4_bd BB.out 4; omega
        have hDb : ∀ z, z ∈ decD bt.zs → 0 ≤ z ∧ z ≤ 255 := fun z h => by
          have eD : decD bt.zs = bt.zs.drop 8 := by unfold decD; rw [if_pos hF]
          rw [eD] at h
          exact BB.out z (List.mem_of_mem_drop h)
        have E3 : Hid (∀ (W : World) (a : Option Addr) (n c : Nat), Row W 5 (.slice a n c) (u8s (decD bt.zs)) → _) := fun W a n c hr => enc_row (decK bt.zs) (decC bt.zs) (decR bt.zs) (decD bt.zs) hDb hRb W a n c hr
        rw [p0, p1] at E3
        rw [hF] at D2
        have CV : Hid (∀ w', Below w.heap.size w w' → (convert 24 9 (.slice bt.a m bt.c)).run Try.prog w' = .ok (.string (strOfNums bt.zs)) w') := fun w' hb => by
          have := conv_part bt w' (BT.out w' hb)
          rw [HW.out, Hm.out] at this
          exact this
        clear p0 p1 hF hRb hDb BT HW
        generalize decK bt.zs = K6 at *
        generalize decC bt.zs = C6 at *
        generalize decR bt.zs = U6 at *
        generalize decD bt.zs = Y6 at *
        go_wp2_with fail
        refine (D2.out _ HBc.out).mono ?_
        rintro e w6 ⟨a6, n6, c6, rfl, an⟩
        have b6 := bpush an.2.2 (.cells #[.int .i64 K6, .int .i64 C6, .int .u32 U6, .slice a6 n6 c6] 26)
        have HB6 := hid (bstep HBc.out b6)
        have HR6 := hid (an.1.below (bpush (Below.refl _ _) (.cells #[.int .i64 K6, .int .i64 C6, .int .u32 U6, .slice a6 n6 c6] 26)))
        clear an b6 HBc D2
        go_wp2_with fail
        refine (E3.out _ _ _ _ HR6.out).mono ?_
        rintro e w7 ⟨a7, n7, c7, rfl, an⟩
        have HB7 := hid (bstep HB6.out an.2.2)
        have v1 := an.1.conv0 BB.out
        have v2 := CV.out _ HB7.out
        generalize strOfNums bt.zs = XB at *
        clear an E3 HB6 HR6 CV
        have e3 : (XB.toList == XB.toList) = true := by simp
        go_wp2
        go_ret
        exact ⟨by simp, HB7.out⟩
      · have hF' : (decE bt.zs != 0) = true := by simpa using hF
        generalize decE bt.zs = FE at *
        go_wp2_with fail
        refine (D2.out _ HBc.out).mono ?_
        rintro e w6 ⟨a6, n6, c6, rfl, an⟩
        have HB6 := hid (bstep HBc.out an.2.2)
        clear an HBc D2
        go_wp2
        go_ret
        exact ⟨rfl, bpush HB6.out _⟩
end Go.Proofs.Ythmfappindbjnaa
