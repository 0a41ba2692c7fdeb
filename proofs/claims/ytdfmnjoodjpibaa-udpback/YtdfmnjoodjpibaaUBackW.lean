/-
  The walk of the statement UdpBack. Written by mkuback.py.
-/
import Derived.Test.YtdfmnjoodjpibaaUBackM
import Derived.Test.YtdfmnjoodjpibaaUSame
import Derived.Test.YtdfmnjoodjpibaaUEnsW
import Derived.Deep.DeepCutAuto
import Derived.Laws.Bits128
namespace Go.Proofs.Ytdfmnjoodjpibaa
open Go.RowKit
set_option linter.all false

theorem i64_and31 (n : Int) : bits .and .i64 n 31 = n % 32 := by
  have h31 : (BitVec.ofInt 64 31).toNat = 2 ^ 5 - 1 := by decide
  have key : (BitVec.ofInt 64 n &&& BitVec.ofInt 64 31).toNat = (n % ((2 ^ 64 : Nat) : Int)).toNat % 2 ^ 5 := by
    rw [BitVec.toNat_and, BitVec.toNat_ofInt, h31, Nat.and_two_pow_sub_one_eq_mod]
  show IntKind.i64.wrap ((BitVec.ofInt 64 n &&& BitVec.ofInt 64 31).toNat : Nat) = n % 32
  rw [key, IntKind.wrap_i64]
  omega
theorem pow_lt32 (j : Nat) (h : j < 32) : (2 : Nat) ^ j < 4294967296 ∧ 0 < (2 : Nat) ^ j := ⟨by exact Nat.pow_lt_pow_right (m := j) (n := 32) (by omega) h, Nat.pow_pos (by omega)⟩
theorem encE_zero {s d : Int} {n : Nat} (h : encE s d n = 0) : (0 ≤ s ∧ s ≤ 65535) ∧ (0 ≤ d ∧ d ≤ 65535) ∧ ¬ d = 0 ∧ n ≤ 1472 := by
  unfold encE at h
  split at h
  · omega
  rename_i h1
  split at h
  · omega
  rename_i h2
  split at h
  · omega
  have h3 : portB s = true ∧ portB d = true := by simpa using h1
  exact ⟨by simpa [portB] using h3.1, by simpa [portB] using h3.2, h2, by omega⟩
theorem dec_row (src dst : Int) (X : List Int) (hX : ∀ z, z ∈ X → 0 ≤ z ∧ z ≤ 255) (hl : X.length ≤ 281474976710656) (s0 : 0 ≤ src ∧ src ≤ 4294967295) (d0 : 0 ≤ dst ∧ dst ≤ 4294967295) (S D E : Int) (Y : List Int) (hS : decS src dst X = S) (hD : decT src dst X = D) (hY : decD src dst X = Y) (hE : decE src dst X = E)
    (W : World) (a : Option Addr) (n c : Nat) (hr : Row W 5 (.slice a n c) (u8s X)) :
    Calls Try.prog 15 #[.int .u32 src, .int .u32 dst, .slice a n c] W fun e w' => ∃ a' n' c', e = .returned (.tuple #[.agg #[.int .i64 S, .int .i64 D, .slice a' n' c'], .int .i64 E]) ∧ Ans W w' Y a' n' c' := by
  obtain ⟨q, e1, e2, ok⟩ := hr.part hX
  rw [e1]
  have h := decode_u src dst q W s0 d0 ok (by rw [e2]; exact hl)
  rw [e2, hS, hD, hY, hE] at h
  exact h
set_option maxRecDepth 20000 in
set_option maxHeartbeats 4000000 in
theorem udpBack_walk (src dst us ud : Int) (pt bt : Part) (bit : Int) (w : World) (s0 : 0 ≤ src ∧ src ≤ 4294967295) (d0 : 0 ≤ dst ∧ dst ≤ 4294967295) (ho : pt.ok w) (hz : pt.zs.length ≤ 140737488351232) (hbo : bt.ok w) (hbz : bt.zs.length ≤ 140737488351232) (hbit : -9223372036854775808 ≤ bit ∧ bit ≤ 9223372036854775807) :
    Calls Try.prog 6 #[.int .u32 src, .int .u32 dst, .agg #[.int .i64 us, .int .i64 ud, pt.val], bt.val, .int .i64 bit] w fun e w' => e = .returned (.bool true) ∧ Below w.heap.size w w' := by
  have E1 : Hid (∀ w', Below w.heap.size w w' → _) := fun w' hb => encode_u src dst us ud pt w' s0 d0 (Part.ok_below ho hb)
  obtain ⟨J, hJ⟩ := Int.eq_ofNat_of_zero_le (show 0 ≤ bit % 32 by omega)
  have hJ32 : J < 32 := by omega
  have hand : bits .and .i64 bit 31 = (J : Int) := by rw [i64_and31, hJ]
  have hJw : IntKind.u64.wrap (J : Int) = (J : Int) := by simp only [IntKind.wrap_u64]; omega
  have hx1 : bits .xor .u32 src ((2 : Int) ^ J % 4294967296) = ((src.toNat ^^^ 2 ^ J : Nat) : Int) := by
    have := pow_lt32 J hJ32
    have e : (2 : Int) ^ J % 4294967296 = ((2 ^ J : Nat) : Int) := by
      have e1 : (2 : Int) ^ J = ((2 ^ J : Nat) : Int) := by norm_cast
      rw [e1]; omega
    rw [e, u32_xor src _ s0.1 (by omega) (by omega) (by omega), Int.toNat_natCast]
  have hx2 : bits .xor .u32 dst ((2 : Int) ^ J % 4294967296) = ((dst.toNat ^^^ 2 ^ J : Nat) : Int) := by
    have := pow_lt32 J hJ32
    have e : (2 : Int) ^ J % 4294967296 = ((2 ^ J : Nat) : Int) := by
      have e1 : (2 : Int) ^ J = ((2 ^ J : Nat) : Int) := by norm_cast
      rw [e1]; omega
    rw [e, u32_xor dst _ d0.1 (by omega) (by omega) (by omega), Int.toNat_natCast]
  have y1 : 0 ≤ ((src.toNat ^^^ 2 ^ J : Nat) : Int) ∧ ((src.toNat ^^^ 2 ^ J : Nat) : Int) ≤ 4294967295 := by
    have := (word_turned src.toNat J (by omega) hJ32).1
    omega
  have y2 : 0 ≤ ((dst.toNat ^^^ 2 ^ J : Nat) : Int) ∧ ((dst.toNat ^^^ 2 ^ J : Nat) : Int) ≤ 4294967295 := by
    have := (word_turned dst.toNat J (by omega) hJ32).1
    omega
  have DD : Hid (encE us ud pt.zs.length = 0 → (∀ z, z ∈ encB src dst us ud pt.zs ++ bt.zs → 0 ≤ z ∧ z ≤ 255) ∧ (encB src dst us ud pt.zs).length = 8 + pt.zs.length ∧ pt.zs.length ≤ 1472 ∧
      (∀ (W : World) (a : Option Addr) (n c : Nat), Row W 5 (.slice a n c) (u8s (encB src dst us ud pt.zs ++ bt.zs)) → Calls Try.prog 15 #[.int .u32 src, .int .u32 dst, .slice a n c] W fun e w' => ∃ a' n' c', e = .returned (.tuple #[.agg #[.int .i64 us, .int .i64 ud, .slice a' n' c'], .int .i64 0]) ∧ Ans W w' pt.zs a' n' c') ∧
      (∀ (W : World) (a : Option Addr) (n c : Nat), Row W 5 (.slice a n c) (u8s (encB src dst us ud pt.zs ++ bt.zs)) → Calls Try.prog 15 #[.int .u32 ((src.toNat ^^^ 2 ^ J : Nat) : Int), .int .u32 dst, .slice a n c] W fun e w' => ∃ a' n' c', e = .returned (.tuple #[.agg #[.int .i64 0, .int .i64 0, .slice a' n' c'], .int .i64 93]) ∧ Ans W w' [] a' n' c') ∧
      (∀ (W : World) (a : Option Addr) (n c : Nat), Row W 5 (.slice a n c) (u8s (encB src dst us ud pt.zs ++ bt.zs)) → Calls Try.prog 15 #[.int .u32 src, .int .u32 ((dst.toNat ^^^ 2 ^ J : Nat) : Int), .slice a n c] W fun e w' => ∃ a' n' c', e = .returned (.tuple #[.agg #[.int .i64 0, .int .i64 0, .slice a' n' c'], .int .i64 93]) ∧ Ans W w' [] a' n' c')) := fun hE => by
    obtain ⟨hs, hd, hd0, hl⟩ := encE_zero hE
    have eB : encB src dst us ud pt.zs = datL us ud (encS src dst us ud pt.zs) pt.zs := by unfold encB; rw [if_pos hE]
    rw [eB]
    have hbd : ∀ z, z ∈ datL us ud (encS src dst us ud pt.zs) pt.zs ++ bt.zs → 0 ≤ z ∧ z ≤ 255 := fun z hm => by
      rcases List.mem_append.1 hm with hm | hm
      · exact datL_bd _ _ _ ho.1 z hm
      · exact hbo.1 z hm
    have hln : (datL us ud (encS src dst us ud pt.zs) pt.zs ++ bt.zs).length ≤ 281474976710656 := by rw [List.length_append, datL_len]; omega
    obtain ⟨k1, k2, k3, k4⟩ := back_laid src dst us ud pt.zs bt.zs ho.1 hs hd hd0 hl
    have m1 := back_not src dst ((src.toNat ^^^ 2 ^ J : Nat) : Int) dst us ud pt.zs bt.zs ho.1 hs hd hl (turned_src src dst us ud pt.zs J ho.1 s0 hJ32)
    have m2 := back_not src dst src ((dst.toNat ^^^ 2 ^ J : Nat) : Int) us ud pt.zs bt.zs ho.1 hs hd hl (turned_dst src dst us ud pt.zs J ho.1 d0 hJ32)
    refine ⟨hbd, datL_len _ _ _ _, hl, fun W a n c hr => dec_row src dst _ hbd hln s0 d0 _ _ _ _ k2 k3 k4 k1 W a n c hr, fun W a n c hr => dec_row _ dst _ hbd hln y1 d0 _ _ _ _ ?_ ?_ ?_ m1 W a n c hr, fun W a n c hr => dec_row src _ _ hbd hln s0 y2 _ _ _ _ ?_ ?_ ?_ m2 W a n c hr⟩
    · unfold decS; rw [m1]; rfl
    · unfold decT; rw [m1]; rfl
    · unfold decD; rw [m1]; rfl
    · unfold decS; rw [m2]; rfl
    · unfold decT; rw [m2]; rfl
    · unfold decD; rw [m2]; rfl
  have SM : Hid (∀ (W : World) (a : Option Addr) (n c : Nat), Below w.heap.size w W → Row W 5 (.slice a n c) (u8s pt.zs) → Calls Try.prog 16 #[.agg #[.int .i64 us, .int .i64 ud, pt.val], .agg #[.int .i64 us, .int .i64 ud, .slice a n c]] W fun e w' => e = .returned (.bool true) ∧ Below W.heap.size W w') := fun W a n c hb hr => by
    obtain ⟨q, e1, e2, ok⟩ := hr.part ho.1
    rw [e1]
    exact same_parts us ud pt q W (Part.ok_below ho hb) ok e2.symm
  have D2 : Hid (∀ w', Below w.heap.size w w' → _) := fun w' hb => decode_u src dst bt w' s0 d0 (Part.ok_below hbo hb) (by omega)
  have BT : Hid (∀ w', Below w.heap.size w w' → bt.ok w') := fun w' hb => Part.ok_below hbo hb
  have BB := hid hbo.1
  have S0 := hid s0
  have D0 := hid d0
  clear ho hbo s0 d0 y1 y2 hJ hbit
  generalize hEE : encE us ud pt.zs.length = EE at *
  clear hEE
  generalize encB src dst us ud pt.zs = Y1 at *
  generalize ((src.toNat ^^^ 2 ^ J : Nat) : Int) = SX at *
  generalize ((dst.toNat ^^^ 2 ^ J : Nat) : Int) = DX at *
  have HV : Hid (pt.val = .slice pt.a pt.zs.length pt.c) := rfl
  have HW : Hid (bt.val = .slice bt.a bt.zs.length bt.c) := rfl
  rw [HV.out, HW.out]
  rw [HV.out] at E1 SM
  rw [HW.out] at D2
  obtain ⟨l, Hl⟩ : ∃ l, Hid (pt.zs.length = l) := ⟨_, rfl⟩
  obtain ⟨m, Hm⟩ : ∃ m, Hid (bt.zs.length = m) := ⟨_, rfl⟩
  rw [Hl.out] at E1 SM DD hz ⊢
  rw [Hm.out] at D2 hbz ⊢
  generalize pt.a = pa at *
  generalize pt.c = pc at *
  go_enter Try.func6, Try.ntmps6
  go_wp2_with fail
  refine (awake_any _).mono ?_
  rintro e w1 ⟨rfl, hb1⟩
  have HF1 := hid (kept (heap_new w (.cells #[.int .i64 us, .int .i64 ud, .slice pa l pc] 26)) hb1)
  have HB1 := hid (bstep (bpush (Below.refl _ w) (.cells #[.int .i64 us, .int .i64 ud, .slice pa l pc] 26)) hb1)
  clear hb1
  have cc : ∀ q, w1.cell? ⟨w.heap.size, q, none⟩ = (#[.int .i64 us, .int .i64 ud, .slice pa l pc] : Array Value)[q]? := fun q => cell_of_heap HF1.out q
  go_wp2_with fail
  refine (E1.out _ HB1.out).mono ?_
  rintro e w2 ⟨a2, n2, c2, rfl, an⟩
  have HF2 := hid (kept HF1.out an.2.2)
  have HB2 := hid (bstep HB1.out an.2.2)
  have HR2 := hid an.1
  clear an cc HF1 HB1 E1
  go_upto_if 39 with fail
  go_cut [14, 15, 16, 17, 18, 19, 20, 21, 22] (fun _ _ _ _ _ _ _ _ _ wx => Below w.heap.size w wx)
  case first =>
    by_cases hE : EE = 0
    · subst hE
      obtain ⟨hYb, hYl, hl, DB, DX', DY⟩ := DD.out rfl
      have HDB := hid DB
      have HDX := hid DX'
      have HDY := hid DY
      have HYb := hid hYb
      clear DD DB DX' DY hYb
      obtain ⟨g, hg, hn2, hc2⟩ := HR2.out.addr (by rw [u8s_len, hYl]; omega)
      rw [u8s_len, hYl] at hn2
      obtain ⟨q2, e1, e2, ok2⟩ := HR2.out.part (fun z hm => HYb.out z (List.mem_append_left _ hm))
      obtain ⟨a3, n3, c3, w3, r3, o3, b3⟩ := (OwnB.nil w2).app q2 ok2 (by rw [e2, hYl]; simp; omega) 24
      rw [List.nil_append, e2] at o3
      obtain ⟨a4, n4, c4, w4, r4, o4, b4⟩ := o3.app bt (BT.out _ (bstep HB2.out b3)) (by rw [hYl, Hm.out]; omega) 24
      rw [← e1] at r3
      rw [HW.out, Hm.out] at r4
      have HR3 := hid r3
      have HR4 := hid r4
      have b24 := b3.trans b4
      have HRow4 := hid o4.1
      have HB4 := hid (bstep HB2.out b24)
      have HF4 := hid (kept HF2.out b24)
      have HN2 := hid hn2
      clear r3 r4 o3 o4 b3 b4 b24 e1 e2 ok2 HR2 HB2 HF2
      subst hg
      subst hn2
      go_wp2_with (first
        | (at_builtin; refine wpList_append_run _ rfl _ _ 24 24 rfl _ _ rfl rfl HR3.out ?_; clear HR3)
        | (at_builtin; refine wpList_append_run _ rfl _ _ 24 24 rfl _ _ rfl rfl HR4.out ?_; clear HR4) | fail)
      refine (HDB.out _ _ _ _ HRow4.out).mono ?_
      rintro e w5 ⟨a5, n5, c5, rfl, an⟩
      have b5 := bpush an.2.2 (.cells #[.int .i64 us, .int .i64 ud, .slice a5 n5 c5] 26)
      have HG5 := hid (heap_new w5 (.cells #[.int .i64 us, .int .i64 ud, .slice a5 n5 c5] 26))
      have HB5 := hid (bstep HB4.out b5)
      have HF5 := hid (kept HF4.out b5)
      have HRow5 := hid (HRow4.out.below b5)
      have HD5 := hid (an.1.below (bpush (Below.refl _ _) (.cells #[.int .i64 us, .int .i64 ud, .slice a5 n5 c5] 26)))
      have hlt5 : w.heap.size < w5.heap.size := heap_lt (kept HF4.out an.2.2)
      have c5' : ∀ q, w5.cell? ⟨w.heap.size, q, none⟩ = (#[.int .i64 us, .int .i64 ud, .slice pa l pc] : Array Value)[q]? := fun q => cell_of_heap (kept HF4.out an.2.2) q
      clear an b5 HB4 HF4 HRow4 HDB
      go_wp2_with fail
      refine (SM.out _ _ _ _ HB5.out HD5.out).mono ?_
      rintro e w6 ⟨rfl, b6⟩
      have HB6 := hid (bstep HB5.out b6)
      have HF6 := hid (kept HF5.out b6)
      have HRow6 := hid (HRow5.out.below b6)
      clear b6 HB5 HF5 HRow5 HD5 hlt5 c5' HG5 SM
      go_wp2_with fail
      refine (HDX.out _ _ _ _ HRow6.out).mono ?_
      rintro e w7 ⟨a7, n7, c7, rfl, an⟩
      have b7 := bpush an.2.2 (.cells #[.int .i64 0, .int .i64 0, .slice a7 n7 c7] 26)
      have HB7 := hid (bstep HB6.out b7)
      have HF7 := hid (kept HF6.out b7)
      have HRow7 := hid (HRow6.out.below b7)
      clear an b7 HB6 HF6 HRow6 HDX
      go_wp2_with fail
      generalize w7.alloc (.cells #[.int .i64 0, .int .i64 0, .slice a7 n7 c7] 26) = W7 at *
      refine (HDY.out _ _ _ _ HRow7.out).mono ?_
      rintro e w8 ⟨a8, n8, c8, rfl, an⟩
      have b8 := bpush an.2.2 (.cells #[.int .i64 0, .int .i64 0, .slice a8 n8 c8] 26)
      have HB8 := hid (bstep HB7.out b8)
      have hf8 := kept HF7.out an.2.2
      have hlt8 : w.heap.size < w8.heap.size := heap_lt hf8
      have q8 : w8.cell? ⟨w.heap.size, 2, none⟩ = some (.slice pa l pc) := cell_of_heap hf8 2
      have e8 : ((8 + (l : Int)) != (8 + (l : Int))) = false := by simp
      have e9 : ¬ (1480 : Int) < 8 + (l : Int) := by omega
      clear an b8 HB7 HF7 HRow7 HDY hf8
      go_wp2
      go_meet
      case rel => exact HB8.out
    · have hE' : (EE == 0) = false := by simpa using hE
      go_wp2
      go_meet
      case rel => exact HB2.out
  case rest =>
    as_aux_lemma =>
      have HBc := hid hcut
      clear hcut HB2 HF2 HR2 DD SM
      by_cases hF : decE src dst bt.zs = 0
      · obtain ⟨p0, p2, nz, h8, hle, n4, htk, hsum⟩ := read_back src dst bt.zs BB.out hF
        have eS : decS src dst bt.zs = numAt bt.zs 0 := by unfold decS; rw [if_pos hF]
        have eT : decT src dst bt.zs = numAt bt.zs 2 := by unfold decT; rw [if_pos hF]
        have eD : decD src dst bt.zs = datD bt.zs := by unfold decD; rw [if_pos hF]
        rw [eS, eT, eD, hF] at D2
        have hDb : ∀ z, z ∈ datD bt.zs → 0 ≤ z ∧ z ≤ 255 := fun z h => BB.out z (by unfold datD at h; exact List.mem_of_mem_take (List.mem_of_mem_drop h))
        have hDl : (datD bt.zs).length ≤ 65535 := by have := numAt_bd BB.out 4; omega
        have E2 : Hid (∀ (W : World) (a : Option Addr) (n c : Nat), Row W 5 (.slice a n c) (u8s (datD bt.zs)) → Calls Try.prog 10 #[.int .u32 src, .int .u32 dst, .agg #[.int .i64 (numAt bt.zs 0), .int .i64 (numAt bt.zs 2), .slice a n c]] W fun e w' => ∃ a' n' c', e = .returned (.tuple #[.slice a' n' c', .int .i64 (if 1472 < (datD bt.zs).length then 2 else 0)]) ∧ Ans W w' (if 1472 < (datD bt.zs).length then [] else datL (numAt bt.zs 0) (numAt bt.zs 2) (encS src dst (numAt bt.zs 0) (numAt bt.zs 2) (datD bt.zs)) (datD bt.zs)) a' n' c') := fun W a n c hr => by
          obtain ⟨q, e1, e2, ok⟩ := hr.part hDb
          rw [e1]
          have h := encode_u src dst (numAt bt.zs 0) (numAt bt.zs 2) q W S0.out D0.out ok
          have eE : encE (numAt bt.zs 0) (numAt bt.zs 2) (datD bt.zs).length = if 1472 < (datD bt.zs).length then 2 else 0 := by
            unfold encE
            rw [p0, p2, if_neg (by decide), if_neg nz]
          rw [e2, eE] at h
          have eB : encB src dst (numAt bt.zs 0) (numAt bt.zs 2) (datD bt.zs) = if 1472 < (datD bt.zs).length then [] else datL (numAt bt.zs 0) (numAt bt.zs 2) (encS src dst (numAt bt.zs 0) (numAt bt.zs 2) (datD bt.zs)) (datD bt.zs) := by
            unfold encB
            rw [eE]
            by_cases hc : 1472 < (datD bt.zs).length
            · rw [if_pos hc, if_pos hc, if_neg (by decide)]
            · rw [if_neg hc, if_neg hc, if_pos rfl]
          rw [eB] at h
          exact h
        obtain ⟨b, o, hba⟩ : ∃ b o, bt.a = some ⟨b, o, none⟩ := by
          rcases (BT.out _ HBc.out).2.2 with he | ⟨b, o, ha, _⟩
          · rw [he] at h8; simp at h8
          · exact ⟨b, o, ha⟩
        have HBA0 := hid hba
        have hbu := encS_bd src dst (numAt bt.zs 0) (numAt bt.zs 2) (datD bt.zs) hDb
        have HCB := hid (datL_bd (numAt bt.zs 0) (numAt bt.zs 2) (encS src dst (numAt bt.zs 0) (numAt bt.zs 2) (datD bt.zs)) hDb)
        obtain ⟨K, hK⟩ : ∃ K, (datD bt.zs).length = K := ⟨_, rfl⟩
        have HKL := hid hK
        rw [hK] at E2 hDl hle n4 htk
        have b6 := getD_mem_bd BB.out 6
        have b7 := getD_mem_bd BB.out 7
        have b6n : numAt bt.zs 6 = bt.zs.getD 6 0 * 256 + bt.zs.getD 7 0 := rfl
        have H67 : Hid ((bt.zs.getD 6 0 = 0 ∧ bt.zs.getD 7 0 = 0) ∨ ((datL (numAt bt.zs 0) (numAt bt.zs 2) (encS src dst (numAt bt.zs 0) (numAt bt.zs 2) (datD bt.zs)) (datD bt.zs)).getD 6 0 = bt.zs.getD 6 0 ∧ (datL (numAt bt.zs 0) (numAt bt.zs 2) (encS src dst (numAt bt.zs 0) (numAt bt.zs 2) (datD bt.zs)) (datD bt.zs)).getD 7 0 = bt.zs.getD 7 0)) := by
          have e6 : ∀ su, (datL (numAt bt.zs 0) (numAt bt.zs 2) su (datD bt.zs)).getD 6 0 = su / 256 % 256 := fun su => rfl
          have e7 : ∀ su, (datL (numAt bt.zs 0) (numAt bt.zs 2) su (datD bt.zs)).getD 7 0 = su % 256 := fun su => rfl
          unfold Hid
          rw [e6, e7]
          omega
        have HT6 : Hid ((datL (numAt bt.zs 0) (numAt bt.zs 2) (encS src dst (numAt bt.zs 0) (numAt bt.zs 2) (datD bt.zs)) (datD bt.zs)).take 6 = bt.zs.take 6) := by
          have e : bt.zs.take 6 = (bt.zs.take (8 + K)).take 6 := by rw [List.take_take, Nat.min_eq_left (by omega)]
          unfold Hid
          rw [e, htk]
          rfl
        have HT8 : Hid ((datL (numAt bt.zs 0) (numAt bt.zs 2) (encS src dst (numAt bt.zs 0) (numAt bt.zs 2) (datD bt.zs)) (datD bt.zs)).drop 8 = (bt.zs.drop 8).take K) := by
          have e : (bt.zs.drop 8).take K = (bt.zs.take (8 + K)).drop 8 := by rw [List.drop_take, show 8 + K - 8 = K by omega]
          unfold Hid
          rw [e, htk]
          rfl
        have HCN : Hid ((datL (numAt bt.zs 0) (numAt bt.zs 2) (encS src dst (numAt bt.zs 0) (numAt bt.zs 2) (datD bt.zs)) (datD bt.zs)).length = 8 + K) := by unfold Hid; rw [datL_len, hK]
        have HLE := hid hle
        have H8 := hid h8
        clear eS eT eD p0 p2 nz hF hK htk hsum n4 hle h8 hDb hba b6n b6 b7
        have HBA : Hid (bt.a = some ⟨b, o, none⟩) := HBA0.out
        clear HBA0
        generalize encS src dst (numAt bt.zs 0) (numAt bt.zs 2) (datD bt.zs) = SU at *
        generalize numAt bt.zs 0 = N0 at *
        generalize numAt bt.zs 2 = N2 at *
        generalize numAt bt.zs 6 = N6 at *
        generalize datD bt.zs = YD at *
        generalize datL N0 N2 SU YD = CL at *
        have hba := HBA.out
        clear HBA hbu
        obtain ⟨ba, bc, bs⟩ := bt
        simp only at *
        subst hba
        have hbs : bs.length = m := Hm.out
        have HBS := hid hbs
        clear Hm HW hbs hx1 hx2 hJw hand hJ32 hDl
        go_wp2_with fail
        refine (D2.out _ HBc.out).mono ?_
        rintro e w6 ⟨a6, n6, c6, rfl, an⟩
        have hn6 : n6 = K := by
          obtain ⟨a', c', e, _⟩ := an.1.form
          simp only [Value.slice.injEq, u8s_len] at e
          rw [e.2.1, HKL.out]
        subst hn6
        have b6 := bpush an.2.2 (.cells #[.int .i64 N0, .int .i64 N2, .slice a6 n6 c6] 26)
        have HB6 := hid (bstep HBc.out b6)
        have HG6 := hid (heap_new w6 (.cells #[.int .i64 N0, .int .i64 N2, .slice a6 n6 c6] 26))
        have HRow6 := hid (an.1.below (bpush (Below.refl _ _) (.cells #[.int .i64 N0, .int .i64 N2, .slice a6 n6 c6] 26)))
        clear an b6 HBc D2
        go_wp2_with fail
        generalize w6.alloc (.cells #[.int .i64 N0, .int .i64 N2, .slice a6 n6 c6] 26) = W6 at *
        generalize w6.heap.size = g6 at *
        refine (E2.out _ _ _ _ HRow6.out).mono ?_
        rintro e w7 ⟨a7, n7, c7, rfl, an⟩
        have HB7 := hid (bstep HB6.out an.2.2)
        have HG7 := hid (kept HG6.out an.2.2)
        have q7 : w7.cell? ⟨g6, 2, none⟩ = some (.slice a6 n6 c6) := cell_of_heap HG7.out 2
        clear E2 HB6 HG6 HRow6
        by_cases hlong : 1472 < n6
        · rw [if_pos hlong]
          have q9 : (1472 : Int) < (n6 : Int) := by omega
          clear an
          go_wp2
          go_ret
          exact ⟨rfl, HB7.out⟩
        · rw [if_neg hlong]
          rw [if_neg hlong] at an
          have q9 : ¬ (1472 : Int) < (n6 : Int) := by omega
          have hlen8 : 8 + n6 ≤ m := by have := HLE.out; have := HBS.out; omega
          obtain ⟨gc, hgc, hn7, hc7⟩ := an.1.addr (by rw [u8s_len, HCN.out]; omega)
          rw [u8s_len, HCN.out] at hn7
          obtain ⟨q, e1, e2, okq⟩ := an.1.part HCB.out
          obtain ⟨qa, qc, qs⟩ := q
          simp only [Part.val, Value.slice.injEq] at e1
          simp only at e2
          subst e2
          obtain ⟨rfl, -, rfl⟩ := e1
          subst hgc
          subst hn7
          clear an
          have okb := BT.out _ HB7.out
          have hbc : m ≤ bc := by have := okb.2.1; simp only at this; rw [HBS.out] at this; exact this
          have v1 : ∀ k, (convert 24 9 (.slice (some ⟨gc, 0, none⟩) 6 c7)).run Try.prog (w7.drewN k) = .ok (.string (strOfNums (qs.take 6))) (w7.drewN k) := fun k => by
            have h := conv_part _ _ (Part.ok_drewN (Part.sub_ok okq 0 6 c7 (by rw [HCN.out]; omega) (by omega)) k)
            have e : (qs.take 6).length = 6 := by simp [HCN.out]; omega
            simp only [Part.val, List.drop_zero, Nat.add_zero, e] at h
            exact h
          have v2 : ∀ k, (convert 24 9 (.slice (some ⟨b, o, none⟩) 6 bc)).run Try.prog (w7.drewN k) = .ok (.string (strOfNums (qs.take 6))) (w7.drewN k) := fun k => by
            have h := conv_part _ _ (Part.ok_drewN (Part.sub_ok okb 0 6 bc (by rw [HBS.out]; omega) (by omega)) k)
            have e : (bs.take 6).length = 6 := by simp [HBS.out]; omega
            simp only [Part.val, List.drop_zero, Nat.add_zero, e] at h
            rw [HT6.out]
            exact h
          have v3 : ∀ k, (convert 24 9 (.slice (some ⟨gc, 8, none⟩) n6 (c7 - 8))).run Try.prog (w7.drewN k) = .ok (.string (strOfNums (qs.drop 8))) (w7.drewN k) := fun k => by
            have h := conv_part _ _ (Part.ok_drewN (Part.sub_ok okq 8 n6 (c7 - 8) (by rw [HCN.out]; omega) (by omega)) k)
            have e : ((qs.drop 8).take n6).length = n6 := by simp [HCN.out]
            have e' : (qs.drop 8).take n6 = qs.drop 8 := List.take_of_length_le (by simp [HCN.out])
            simp only [Part.val, e, Nat.zero_add] at h
            rw [e'] at h
            exact h
          have v4 : ∀ k, (convert 24 9 (.slice (some ⟨b, o + 8, none⟩) n6 (bc - 8))).run Try.prog (w7.drewN k) = .ok (.string (strOfNums (qs.drop 8))) (w7.drewN k) := fun k => by
            have h := conv_part _ _ (Part.ok_drewN (Part.sub_ok okb 8 n6 (bc - 8) (by rw [HBS.out]; omega) (by omega)) k)
            have e : ((bs.drop 8).take n6).length = n6 := by simp [HBS.out]; omega
            simp only [Part.val, e] at h
            rw [HT8.out]
            exact h
          have V5 : Hid (n6 = 0 → ∀ (k : Nat) (a : Option Addr), (convert 24 9 (.slice a 0 0)).run Try.prog (w7.drewN k) = .ok (.string (strOfNums (qs.drop 8))) (w7.drewN k)) := fun h0 k a => by
            have e : qs.drop 8 = [] := List.eq_nil_of_length_eq_zero (by simp [HCN.out]; omega)
            rw [e]
            exact conv_part ⟨a, 0, []⟩ _ ⟨by simp, by simp, Or.inl rfl⟩
          have st6 := str_same (strOfNums (qs.take 6))
          have st8 := str_same (strOfNums (qs.drop 8))
          have c6 : w7.cell? ⟨gc, 6, none⟩ = some (.int .u8 (qs.getD 6 0)) := by
            obtain ⟨b', o', e, hc⟩ := okq.2.2.resolve_left (fun h => by have := HCN.out; simp only at h; rw [h] at this; simp at this; omega)
            simp only [Option.some.injEq, Addr.mk.injEq, and_true] at e
            obtain ⟨rfl, rfl⟩ := e
            have := hc 6 (by have := HCN.out; simp only; omega)
            simpa using this
          have c7' : w7.cell? ⟨gc, 7, none⟩ = some (.int .u8 (qs.getD 7 0)) := by
            obtain ⟨b', o', e, hc⟩ := okq.2.2.resolve_left (fun h => by have := HCN.out; simp only at h; rw [h] at this; simp at this; omega)
            simp only [Option.some.injEq, Addr.mk.injEq, and_true] at e
            obtain ⟨rfl, rfl⟩ := e
            have := hc 7 (by have := HCN.out; simp only; omega)
            simpa using this
          have d6 : w7.cell? ⟨b, o + 6, none⟩ = some (.int .u8 (bs.getD 6 0)) := by
            obtain ⟨b', o', e, hc⟩ := okb.2.2.resolve_left (fun h => by have := HBS.out; simp only at h; rw [h] at this; simp at this; omega)
            simp only [Option.some.injEq, Addr.mk.injEq, and_true] at e
            obtain ⟨rfl, rfl⟩ := e
            exact hc 6 (by have := HBS.out; simp only; omega)
          have d7 : w7.cell? ⟨b, o + 7, none⟩ = some (.int .u8 (bs.getD 7 0)) := by
            obtain ⟨b', o', e, hc⟩ := okb.2.2.resolve_left (fun h => by have := HBS.out; simp only at h; rw [h] at this; simp at this; omega)
            simp only [Option.some.injEq, Addr.mk.injEq, and_true] at e
            obtain ⟨rfl, rfl⟩ := e
            exact hc 7 (by have := HBS.out; simp only; omega)
          clear okb okq BT
          generalize strOfNums (qs.take 6) = X6 at *
          generalize strOfNums (qs.drop 8) = X8 at *
          generalize qs.getD 6 0 = y6 at *
          generalize qs.getD 7 0 = y7 at *
          generalize bs.getD 6 0 = z6 at *
          generalize bs.getD 7 0 = z7 at *
          have i1 : (6 : Int) ≤ (c7 : Int) := by omega
          have i2 : (6 : Int) ≤ (bc : Int) := by omega
          have i3 : 8 + (n6 : Int) ≤ (bc : Int) := by omega
          have i4 : ¬ (m : Int) < 8 + (n6 : Int) := by omega
          have i5 : (8 : Int) ≤ (c7 : Int) := by omega
          have i6 : (6 : Int) < (m : Int) := by omega
          have i7 : (7 : Int) < (m : Int) := by omega
          have i8 : (6 : Int) < 8 + (n6 : Int) := by omega
          have i9 : (7 : Int) < 8 + (n6 : Int) := by omega
          have e8 : ((8 + (n6 : Int)) != (8 + (n6 : Int))) = false := by simp
          have i10 : (8 : Int) ≤ 8 + (n6 : Int) := by omega
          have i11 : 8 + (n6 : Int) ≤ (c7 : Int) := by omega
          have i12 : 8 + n6 - 8 = n6 := by omega
          have i13 : (8 + (n6 : Int)).toNat = 8 + n6 := by omega
          go_upto_region 22 with fail
          go_cut [177] (fun v wx => v = .bool false ∧ ∃ k, wx = w7.drewN k)
          case first =>
            clear c6 c7' d6 d7
            by_cases hcc : c7 = 8
            · have hn0 : n6 = 0 := by omega
              have v5 := V5.out hn0
              subst hcc
              subst hn0
              have j1 : ¬ (m : Int) < 8 := by omega
              have j2 : decide ((m : Int) < 8) = false := by simp; omega
              have j3 : (8 : Int) ≤ (bc : Int) := by omega
              by_cases hbb : bc = 8
              · subst hbb
                as_aux_lemma =>
                  go_quiet (fail)
                  go_wp2_with fail
                  go_meet
                  case rel => exact ⟨rfl, nq, rfl⟩
              · as_aux_lemma =>
                  go_quiet (fail)
                  go_wp2_with fail
                  go_meet
                  case rel => exact ⟨rfl, nq, rfl⟩
            · by_cases hbb : bc = 8
              · have hn0 : n6 = 0 := by omega
                have v5 := V5.out hn0
                subst hbb
                subst hn0
                have j1 : ¬ (m : Int) < 8 := by omega
                have j2 : decide ((m : Int) < 8) = false := by simp; omega
                as_aux_lemma =>
                  go_quiet (fail)
                  go_wp2_with fail
                  go_meet
                  case rel => exact ⟨rfl, nq, rfl⟩
              · as_aux_lemma =>
                  go_quiet (fail)
                  go_wp2_with fail
                  go_meet
                  case rel => exact ⟨congrArg Value.bool (decide_eq_false (by omega)), nq, rfl⟩
          case rest =>
            obtain ⟨rfl, k, hwx⟩ := hcut
            have t6 : wc.cell? ⟨gc, 6, none⟩ = some (.int .u8 y6) := by rw [hwx]; exact c6
            have t7 : wc.cell? ⟨gc, 7, none⟩ = some (.int .u8 y7) := by rw [hwx]; exact c7'
            have s6 : wc.cell? ⟨b, o + 6, none⟩ = some (.int .u8 z6) := by rw [hwx]; exact d6
            have s7 : wc.cell? ⟨b, o + 7, none⟩ = some (.int .u8 z7) := by rw [hwx]; exact d7
            have HBc : Hid (Below w.heap.size w wc) := by rw [hwx]; exact ⟨HB7.out.os, HB7.out.tape, HB7.out.output, HB7.out.size, HB7.out.block⟩
            clear hwx c6 c7' d6 d7 v1 v2 v3 v4 V5 q7 HB7 HG7
            go_wp2
            by_cases hz : z6 = 0 ∧ z7 = 0
            · obtain ⟨rfl, rfl⟩ := hz
              clear H67
              as_aux_lemma =>
                go_quiet (fail)
                go_wp2
                go_ret
                exact ⟨rfl, ⟨HBc.out.os, HBc.out.tape, HBc.out.output, HBc.out.size, HBc.out.block⟩⟩
            · obtain ⟨rfl, rfl⟩ : y6 = z6 ∧ y7 = z7 := by have := H67.out; omega
              have f6 : (y6 == y6) = true := by simp
              have f7 : (y7 == y7) = true := by simp
              clear H67
              by_cases h6 : y6 = 0
              · subst h6
                have h7 : (y7 == 0) = false := by simp; omega
                clear hz
                as_aux_lemma =>
                  go_quiet (fail)
                  go_wp2
                  go_ret
                  exact ⟨rfl, ⟨HBc.out.os, HBc.out.tape, HBc.out.output, HBc.out.size, HBc.out.block⟩⟩
              · have h6' : (y6 == 0) = false := by simpa using h6
                clear hz
                as_aux_lemma =>
                  go_quiet (fail)
                  go_wp2
                  go_ret
                  exact ⟨rfl, ⟨HBc.out.os, HBc.out.tape, HBc.out.output, HBc.out.size, HBc.out.block⟩⟩
      · have eS : decS src dst bt.zs = 0 := by unfold decS; rw [if_neg hF]
        have eT : decT src dst bt.zs = 0 := by unfold decT; rw [if_neg hF]
        have eD : decD src dst bt.zs = [] := by unfold decD; rw [if_neg hF]
        rw [eS, eT, eD] at D2
        generalize decE src dst bt.zs = FF at *
        have hF' : (FF != 0) = true := by simpa using hF
        clear hF
        go_wp2_with fail
        refine (D2.out _ HBc.out).mono ?_
        rintro e w6 ⟨a6, n6, c6, rfl, an⟩
        have hn6 : n6 = 0 := by
          obtain ⟨a', c', e, _⟩ := an.1.form
          simp only [Value.slice.injEq] at e
          exact e.2.1
        subst hn6
        have HB6 := hid (bpush (bstep HBc.out an.2.2) (.cells #[.int .i64 0, .int .i64 0, .slice a6 0 c6] 26))
        clear an
        go_wp2
        go_ret
        exact ⟨rfl, HB6.out⟩
end Go.Proofs.Ytdfmnjoodjpibaa
