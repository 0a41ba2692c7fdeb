import Derived.Test.YtdcppiknomoigaaDoorTgR
import Derived.Test.YtdcppiknomoigaaDoorTgX
import Derived.Test.YtdcppiknomoigaaDoorTfW
/-
  Tftp: the document's cut, small, value.
-/
namespace Go.Proofs.YtdcppiknomoigaaDoor
open Go.RowKit
set_option linter.all false

theorem txt_take {zs : List Int} {k : Nat} (hk : k < zs.length) (h : ∀ z ∈ zs.take k, z ≠ 0) (h0 : zs.getD k 0 = 0) : cutG zs = some (zs.take k, zs.drop (k + 1)) := by
  have e : zs = zs.take k ++ 0 :: zs.drop (k + 1) := by
    have h1 := List.take_append_drop k zs
    rw [List.drop_eq_getElem_cons hk] at h1
    have h2 : zs[k] = 0 := by rw [List.getD_eq_getElem?_getD, List.getElem?_eq_getElem hk] at h0; exact h0
    rw [h2] at h1
    exact h1.symm
  have := cutG_app (zs.take k) (zs.drop (k + 1)) (fun hm => h 0 hm rfl)
  rwa [← e] at this
theorem cut_never {zs : List Int} (h : ∀ z ∈ zs, z ≠ 0) : cutG zs = none := by
  unfold cutG; rw [if_neg (fun hm => h 0 hm rfl)]
set_option maxRecDepth 20000 in
set_option maxHeartbeats 4000000 in
theorem rcut_any (pt : Part) (w0 w : World) (hok0 : pt.ok w0) (hok : pt.ok w) (hl : pt.zs.length ≤ 140737488353280) :
    Calls Tryd.prog 48 #[pt.val] w fun e w' => (∃ q, w' = w.drewN q) ∧ ((cutG pt.zs = none ∧ e = .returned (.tuple #[.string ⟨#[]⟩, .slice none 0 0, .bool false])) ∨ ∃ t r a' c', cutG pt.zs = some (t, r) ∧ Part.ok w0 ⟨a', c', r⟩ ∧ e = .returned (.tuple #[.string (strOfNums t), .slice a' r.length c', .bool true])) := by
  obtain ⟨ad, c, zs⟩ := pt
  simp only [Part.val] at *
  have HOK := hid hok
  have HOK0 := hid hok0
  have hcap : zs.length ≤ c := hok.2.1
  have HN : Hid (∃ n, n = zs.length) := ⟨_, rfl⟩
  obtain ⟨n, hn⟩ := HN.out
  have HNL := hid hn
  rw [← hn] at hl hcap ⊢
  clear hok hok0 hn
  go_enter Tryd.func48, Tryd.ntmps48
  go_wp2_with fail
  go_loopw [5] (fun vi wr => ∃ (k q : Nat), vi = .int .i64 k ∧ k ≤ n ∧ Hid (wr = w.drewN q) ∧ Hid (∀ z ∈ zs.take k, z ≠ 0)) (fun vi _ => n - (intOfT vi).toNat)
  case atStart => exact ⟨0, 0, rfl, Nat.zero_le _, rfl, by simp [Hid]⟩
  case round =>
    obtain ⟨k, q, rfl, hk, HW, HI⟩ := hrel
    by_cases hkl : k < n
    · obtain ⟨b, o, rfl, hcell⟩ : ∃ b o, ad = some ⟨b, o, none⟩ ∧ w.cell? ⟨b, o + k, none⟩ = some (.int .u8 (zs.getD k 0)) := by
        rcases HOK.out.2.2 with h | ⟨b, o, h1, h2⟩
        · simp only at h; rw [HNL.out, h] at hkl; simp at hkl
        · exact ⟨b, o, h1, h2 k (by rw [← HNL.out]; exact hkl)⟩
      have hkz : (0 : Int) ≤ (k : Int) := by omega
      have hkn : (k : Int) < (n : Int) := by omega
      have hkc : (k : Int) ≤ (c : Int) := by omega
      have hcw : wr.cell? ⟨b, o + k, none⟩ = some (.int .u8 (zs.getD k 0)) := by rw [HW.out]; exact hcell
      obtain ⟨z, hz⟩ : ∃ z, z = zs.getD k 0 := ⟨_, rfl⟩
      rw [← hz] at hcw
      have HZ := hid hz
      clear hz hcell
      by_cases h0 : z = 0
      · subst h0
        have HCT := hid (txt_take (zs := zs) (k := k) (by rw [← HNL.out]; exact hkl) HI.out HZ.out.symm)
        have HPT : Hid (Part.ok wr ⟨some ⟨b, o, none⟩, c, zs.take k⟩) := by
          have h1 := Part.sub_ok HOK.out 0 k c (by rw [← HNL.out]; omega) (by omega)
          unfold Hid
          rw [HW.out]
          exact Part.ok_drewN (by simpa using h1) q
        have HPR : Hid (Part.ok w0 ⟨if c = k + 1 then some ⟨b, o, none⟩ else some ⟨b, o + (k + 1), none⟩, c - (k + 1), zs.drop (k + 1)⟩) := by
          have h1 := cut_ok HOK0.out (k + 1) (zs.length - (k + 1)) (by rw [← HNL.out]; omega)
          rwa [List.take_of_length_le (by simp)] at h1
        have htl : (zs.take k).length = k := by rw [List.length_take, ← HNL.out]; omega
        have hrl : (zs.drop (k + 1)).length = n - (k + 1) := by rw [List.length_drop, ← HNL.out]
        have hcv : ∀ wx : World, Part.ok wx ⟨some ⟨b, o, none⟩, c, zs.take k⟩ → (convert 24 9 (.slice (some ⟨b, o, none⟩) k c)).run Tryd.prog wx = .ok (.string (strOfNums (zs.take k))) wx := fun wx hp => by
          have := conv_part ⟨some ⟨b, o, none⟩, c, zs.take k⟩ wx hp
          simp only [Part.val] at this
          rwa [htl] at this
        have hcv1 := hcv wr HPT.out
        have hcv2 : ∀ m, (convert 24 9 (.slice (some ⟨b, o, none⟩) k c)).run Tryd.prog (wr.drewN m) = .ok (.string (strOfNums (zs.take k))) (wr.drewN m) := fun m => hcv _ HPT.out
        have HFIN : Hid (∀ m v, v = Value.tuple #[.string (strOfNums (zs.take k)), .slice (if c = k + 1 then some ⟨b, o, none⟩ else some ⟨b, o + (k + 1), none⟩) (n - (k + 1)) (c - (k + 1)), .bool true] → (∃ q', wr.drewN m = w.drewN q') ∧ ((cutG zs = none ∧ Ending.returned v = .returned (.tuple #[.string ⟨#[]⟩, .slice none 0 0, .bool false])) ∨ ∃ t r a' c', cutG zs = some (t, r) ∧ Part.ok w0 ⟨a', c', r⟩ ∧ Ending.returned v = .returned (.tuple #[.string (strOfNums t), .slice a' r.length c', .bool true]))) := fun m v e => by
          refine ⟨⟨q + m, by rw [HW.out]; simp [World.drewN, Nat.add_assoc]⟩, Or.inr ⟨_, _, _, _, HCT.out, HPR.out, ?_⟩⟩
          rw [e, hrl]
        have q3 : ((k : Int) + 1) ≤ (n : Int) := by omega
        have q4 : IntKind.i64.wrap ((k : Int) + 1) = (k : Int) + 1 := by simp only [IntKind.wrap_i64]; omega
        have q5 : ((k : Int) + 1).toNat = k + 1 := by omega
        have q6 : (0 : Int) ≤ (k : Int) + 1 := by omega
        have q7 : (n : Int) ≤ (c : Int) := by omega
        generalize strOfNums (zs.take k) = S at *
        clear HCT HPT HPR htl hrl hcv HI HZ hkl
        by_cases hc : c = k + 1
        · subst hc
          simp only [if_true, Nat.sub_self, show n - (k + 1) = 0 from by omega] at HFIN
          go_wp2_with fail
          go_quiet (fail)
          all_goals go_wp2
          all_goals
            go_ret3
            exact HFIN.out nq _ rfl
        · simp only [if_neg hc] at HFIN
          go_wp2_with fail
          go_quiet (fail)
          all_goals go_wp2
          all_goals
            go_ret3
            exact HFIN.out nq _ rfl
      · have h0' : (z == 0) = false := by simpa using h0
        have HI2 : Hid (∀ z ∈ zs.take (k + 1), z ≠ 0) := fun x hx => by
          rw [take_succ_getD zs k (by rw [← HNL.out]; exact hkl), List.mem_append] at hx
          rcases hx with hx | hx
          · exact HI.out x hx
          · simp only [List.mem_singleton] at hx
            rw [hx, ← HZ.out]; exact h0
        clear h0 HI HZ
        go_wp2_with fail
        go_roundw
        case rel => exact ⟨k + 1, q, by first | rfl | (congr 1; omega), by omega, HW, HI2⟩
        case measure => simp only [intOfT]; omega
    · obtain rfl : k = n := by omega
      have HCT : Hid (cutG zs = none) := cut_never (by have := HI.out; rwa [HNL.out, List.take_length] at this)
      clear hkl
      go_wp2_with fail
      go_ret3
      exact ⟨⟨q, HW.out⟩, Or.inl ⟨HCT.out, rfl⟩⟩
set_option maxRecDepth 20000 in
set_option maxHeartbeats 4000000 in
theorem rsmall_any (s : ByteArray) (w : World) (hs : s.size ≤ 140737488353280) :
    Calls Tryd.prog 72 #[.string s] w fun e w' => e = .returned (.string (smallS (nums s))) ∧ Hid (Below w.heap.size w w') := by
  have HLN : Hid ((nums s).length = s.size) := nums_len s
  have HBD := hid (nums_bd s)
  go_enter Tryd.func72, Tryd.ntmps72
  go_wp2_with fail
  go_loopw [3, 4] (fun vo vi wr => ∃ (k : Nat) (a : Option Addr) (c : Nat), vo = .slice a k c ∧ vi = .int .i64 k ∧ k ≤ s.size ∧ Hid (Own none w Part.nil (smallL ((nums s).take k)) (.slice a k c) wr)) (fun _ vi _ => s.size - (intOfT vi).toNat)
  case atStart => exact ⟨0, none, 0, rfl, rfl, Nat.zero_le _, ⟨Row.nil _ _, Or.inl rfl, by simp [Value.ownBlock], Part.nil_ok _, grown_refl _ _⟩⟩
  case round =>
    obtain ⟨k, a, c, rfl, rfl, hk, HO⟩ := hrel
    by_cases hlt : k < s.size
    · have hlt' : (k : Int) < s.size := by omega
      have HA := hid (zero_at hlt)
      obtain ⟨z, hz⟩ : ∃ z : Int, z = (s[k].toNat : Int) := ⟨_, rfl⟩
      have HIX : ∀ wx, (Instr.index 9 (.string s) (.int .i64 k)).run Tryd.prog wx = .ok (.int .u8 z) wx := fun wx => by
        rw [hz]
        simp [Instr.index, Tryd.underlying9, go_sem, hlt]
      rw [← hz] at HA
      have hzb : 0 ≤ z ∧ z ≤ 255 := HBD.out z (List.mem_of_getElem? HA.out)
      clear hz
      have HST : Hid (smallL ((nums s).take (k + 1)) = smallL ((nums s).take k) ++ [smallZ z]) := by
        unfold Hid smallL
        rw [List.take_add_one, HA.out, List.map_append]; rfl
      have hlen : (smallL ((nums s).take k)).length = k := by unfold smallL; rw [List.length_map, List.length_take, HLN.out]; omega
      obtain ⟨gg, nn, cc, w', hrun, hr'⟩ := HO.out.one (smallZ z) (by rw [hlen]; omega)
      obtain rfl : nn = k + 1 := by
        obtain ⟨a4, c4, e4, _⟩ := hr'.row.form
        rw [u8s_len] at e4
        simp only [Value.slice.injEq] at e4
        rw [e4.2.1, List.length_append, hlen]; rfl
      have HRUN := hid hrun
      have HR' := hid hr'
      clear hrun hr' hlen HBD
      by_cases hb : 65 ≤ z ∧ z ≤ 90
      · have e1 : smallZ z = z + 32 := if_pos hb
        have hw : IntKind.u8.wrap (z + 32) = z + 32 := by simp only [IntKind.wrap_u8]; omega
        rw [e1] at HRUN
        obtain ⟨hb1, hb2⟩ := hb
        go_wp2_with (first | (at_builtin; refine wpList_append_run _ rfl _ _ 24 24 rfl _ _ rfl rfl HRUN.out ?_) | fail)
        go_roundw
        case rel => exact ⟨k + 1, _, cc, rfl, by first | rfl | (congr 1; omega), by omega, by unfold Hid; rw [HST.out]; exact HR'.out⟩
        case measure => simp only [intOfT]; omega
      · have e1 : smallZ z = z := if_neg hb
        rw [e1] at HRUN
        by_cases hb1 : 65 ≤ z
        · have hb2 : ¬ z ≤ 90 := fun h => hb ⟨hb1, h⟩
          clear hb
          go_wp2_with (first | (at_builtin; refine wpList_append_run _ rfl _ _ 24 24 rfl _ _ rfl rfl HRUN.out ?_) | fail)
          go_roundw
          case rel => exact ⟨k + 1, _, cc, rfl, by first | rfl | (congr 1; omega), by omega, by unfold Hid; rw [HST.out]; exact HR'.out⟩
          case measure => simp only [intOfT]; omega
        · clear hb
          go_wp2_with (first | (at_builtin; refine wpList_append_run _ rfl _ _ 24 24 rfl _ _ rfl rfl HRUN.out ?_) | fail)
          go_roundw
          case rel => exact ⟨k + 1, _, cc, rfl, by first | rfl | (congr 1; omega), by omega, by unfold Hid; rw [HST.out]; exact HR'.out⟩
          case measure => simp only [intOfT]; omega
    · obtain rfl : k = s.size := by omega
      have hge : ¬ ((s.size : Nat) : Int) < s.size := by omega
      have HT : Hid (smallL ((nums s).take s.size) = smallL (nums s)) := by unfold Hid; rw [List.take_of_length_le (by rw [HLN.out]; exact Nat.le_refl _)]
      have hcv := HO.out.row.conv0 (by rw [HT.out]; exact smallL_bd HBD.out)
      rw [HT.out] at hcv
      have HB : Hid (Below w.heap.size w wr) := by
        have := HO.out.grown
        exact ⟨this.os, this.tape, this.output, this.size, fun k hk => this.block k hk (by simp)⟩
      clear hlt
      go_wp2_with fail
      go_ret
      exact ⟨rfl, HB⟩
theorem fold_bd : ∀ (l : List Int) (m j : Nat), m < 10 ^ j → (∀ z ∈ l, 48 ≤ z ∧ z ≤ 57) → l.foldl stepN m < 10 ^ (j + l.length)
  | [], m, j, h, _ => by simpa using h
  | z :: l, m, j, h, hz => by
    have h2 := hz z (by simp)
    have h3 : stepN m z < 10 ^ (j + 1) := by unfold stepN; rw [Nat.pow_succ]; omega
    have := fold_bd l (stepN m z) (j + 1) h3 (fun x hx => hz x (by simp [hx]))
    rw [List.foldl_cons, List.length_cons, show j + (l.length + 1) = j + 1 + l.length from by omega]
    exact this
theorem fold_10 {l : List Int} (h : l.length ≤ 10) (hz : ∀ z ∈ l, 48 ≤ z ∧ z ≤ 57) : l.foldl stepN 0 ≤ 9999999999 := by
  have h1 := fold_bd l 0 0 (by simp) hz
  have h2 : 10 ^ (0 + l.length) ≤ 10 ^ 10 := Nat.pow_le_pow_right (by omega) (by omega)
  omega
def ValI (w : World) (s : ByteArray) (e : Ending) (w' : World) : Prop := ∃ (n : Int) (b : Bool), e = .returned (.tuple #[.int .i64 n, .bool b]) ∧ Hid (Below w.heap.size w w' ∧ (b = true → valF (nums s) = some n.toNat ∧ 0 ≤ n ∧ n ≤ 2147483647) ∧ (b = false → valF (nums s) = none))
theorem valI_mk {w w' : World} {s : ByteArray} {e : Ending} (n : Int) (b : Bool) (he : e = .returned (.tuple #[.int .i64 n, .bool b])) (hb : Below w.heap.size w w') (h1 : b = true → valF (nums s) = some n.toNat ∧ 0 ≤ n ∧ n ≤ 2147483647) (h2 : b = false → valF (nums s) = none) : ValI w s e w' := ⟨n, b, he, hb, h1, h2⟩
set_option maxRecDepth 20000 in
set_option maxHeartbeats 4000000 in
theorem rvalue_any (s : ByteArray) (w : World) (hs : s.size ≤ 140737488353280) :
    Calls Tryd.prog 73 #[.string s] w (ValI w s) := by
  have HLN : Hid ((nums s).length = s.size) := nums_len s
  have HBD := hid (nums_bd s)
  go_enter Tryd.func73, Tryd.ntmps73
  go_wp2_with fail
  go_loop [4, 5] (fun vn vi => ∃ (k m : Nat), vn = .int .i64 m ∧ vi = .int .i64 k ∧ k ≤ s.size ∧ k ≤ 10 ∧ m ≤ 9999999999 ∧ Hid (m = ((nums s).take k).foldl stepN 0) ∧ Hid (∀ z ∈ (nums s).take k, 48 ≤ z ∧ z ≤ 57)) (fun _ vi => s.size - (intOfT vi).toNat)
  case atStart => exact ⟨0, 0, rfl, rfl, Nat.zero_le _, by omega, by omega, rfl, by simp [Hid]⟩
  case round =>
    obtain ⟨k, m, rfl, rfl, hk, hk10, hm, HM, HD⟩ := hrel
    have HEND : Hid (k = s.size ∨ k = 10 → valN (nums s) = m) := fun h => by
      unfold valN
      rw [HM.out]
      rcases h with h | h
      · rw [List.take_of_length_le (i := k) (by rw [HLN.out]; omega), List.take_of_length_le (by rw [HLN.out]; omega)]
      · rw [h]
    have CD := hid (fun W => decimal_any m W (by omega))
    have HDN : Hid (decB m = nums s ↔ strOfNums (decB m) = s) := by
      constructor
      · intro e; rw [e, str_nums]
      · intro e; rw [← e, nums_str (fun z hz => by have := decB_bd m z hz; omega)]
    by_cases hlt : k < s.size ∧ k < 10
    · obtain ⟨hlt, hlt10⟩ := hlt
      have hlt' : (k : Int) < s.size := by omega
      have h10' : (k : Int) < 10 := by omega
      have HA := hid (zero_at hlt)
      obtain ⟨z, hz⟩ : ∃ z : Int, z = (s[k].toNat : Int) := ⟨_, rfl⟩
      have HIX : ∀ wx, (Instr.index 9 (.string s) (.int .i64 k)).run Tryd.prog wx = .ok (.int .u8 z) wx := fun wx => by
        rw [hz]
        simp [Instr.index, Tryd.underlying9, go_sem, hlt]
      rw [← hz] at HA
      have hzb : 0 ≤ z ∧ z ≤ 255 := HBD.out z (List.mem_of_getElem? HA.out)
      clear hz HEND CD HDN
      have HNO : Hid (¬ (48 ≤ z ∧ z ≤ 57) → valF (nums s) = none) := fun hno => valF_none fun n hn e => hno (decB_bd n z (by rw [← e]; exact List.mem_of_getElem? HA.out))
      by_cases h48 : z < 48
      · have HV := hid (HNO.out (by omega))
        clear HNO
        go_wp2_with fail
        go_ret2
        exact valI_mk 0 false rfl (Below.refl _ _) (by simp) (fun _ => HV.out)
      · by_cases h57 : 57 < z
        · have HV := hid (HNO.out (by omega))
          clear HNO
          go_wp2_with fail
          go_ret2
          exact valI_mk 0 false rfl (Below.refl _ _) (by simp) (fun _ => HV.out)
        · have HTK : Hid ((nums s).take (k + 1) = (nums s).take k ++ [z]) := by unfold Hid; rw [List.take_add_one, HA.out]; rfl
          obtain ⟨d, hd⟩ : ∃ d : Nat, d = (z - 48).toNat := ⟨_, rfl⟩
          have hdz : z - 48 = (d : Int) := by omega
          have HM2 : Hid (m * 10 + d = ((nums s).take (k + 1)).foldl stepN 0) := by
            unfold Hid; rw [HTK.out, List.foldl_append, ← HM.out, hd]; rfl
          have HD2 : Hid (∀ z ∈ (nums s).take (k + 1), 48 ≤ z ∧ z ≤ 57) := fun x hx => by
            rw [HTK.out, List.mem_append] at hx
            rcases hx with hx | hx
            · exact HD.out x hx
            · simp only [List.mem_singleton] at hx; rw [hx]; omega
          have hm2 : m * 10 + d ≤ 9999999999 := by
            rw [HM2.out]
            exact fold_10 (by rw [List.length_take]; omega) HD2.out
          have w1 : IntKind.i64.wrap ((m : Int) * 10) = (m : Int) * 10 := by simp only [IntKind.wrap_i64]; omega
          have w2 : IntKind.u8.wrap (z - 48) = (d : Int) := by simp only [IntKind.wrap_u8]; omega
          have w3 : IntKind.i64.wrap (d : Int) = (d : Int) := by simp only [IntKind.wrap_i64]; omega
          have w4 : IntKind.i64.wrap ((m : Int) * 10 + (d : Int)) = (m : Int) * 10 + (d : Int) := by simp only [IntKind.wrap_i64]; omega
          clear HNO hd HTK HM HD
          go_wp2_with fail
          go_round
          case rel => exact ⟨k + 1, m * 10 + d, by first | rfl | (congr 1; omega), by first | rfl | (congr 1; omega), by omega, by omega, hm2, HM2, HD2⟩
          case measure => simp only [intOfT]; omega
    · have HVN := hid (HEND.out (by omega))
      have hs := sbeq (strOfNums (decB m)) s
      have HVF : Hid (valF (nums s) = if strOfNums (decB m) = s ∧ m ≤ 2147483647 then some m else none) := by
        unfold Hid valF
        rw [HVN.out]
        by_cases h1 : strOfNums (decB m) = s ∧ m ≤ 2147483647
        · rw [if_pos h1, if_pos ⟨HDN.out.2 h1.1, h1.2⟩]
        · rw [if_neg h1, if_neg (fun h => h1 ⟨HDN.out.1 h.1, h.2⟩)]
      have hcnd : ((k : Int) < s.size ∧ ¬ (k : Int) < 10) ∨ ¬ (k : Int) < s.size := by omega
      clear hlt HEND HDN HVN HM HD
      by_cases he : strOfNums (decB m) = s
      · rw [decide_eq_true he] at hs
        by_cases hm2 : (m : Int) ≤ 2147483647
        · have HV := hid (HVF.out.trans (if_pos ⟨he, by omega⟩))
          clear HVF he
          generalize strOfNums (decB m) = S at *
          rcases hcnd with ⟨q1, q2⟩ | q1
          all_goals
            go_wp2_with (first
              | (go_at_call 37; refine (CD.out _).mono ?_; rintro e w1 ⟨rfl, hb⟩; have HB := hid hb; clear hb)
              | fail)
            go_ret2
            exact valI_mk m true rfl (HB.out) (fun _ => ⟨by rw [HV.out]; rfl, by omega, hm2⟩) (by simp)
        · have HV := hid (HVF.out.trans (if_neg (by omega)))
          have hd : decide ((m : Int) ≤ 2147483647) = false := decide_eq_false hm2
          clear HVF he
          generalize strOfNums (decB m) = S at *
          rcases hcnd with ⟨q1, q2⟩ | q1
          all_goals
            go_wp2_with (first
              | (go_at_call 37; refine (CD.out _).mono ?_; rintro e w1 ⟨rfl, hb⟩; have HB := hid hb; clear hb)
              | fail)
            go_ret2
            exact valI_mk m false rfl (HB.out) (by simp) (fun _ => HV.out)
      · rw [decide_eq_false he] at hs
        have HV := hid (HVF.out.trans (if_neg (fun h => he h.1)))
        clear HVF he
        generalize strOfNums (decB m) = S at *
        rcases hcnd with ⟨q1, q2⟩ | q1
        all_goals
          go_wp2_with (first
            | (go_at_call 37; refine (CD.out _).mono ?_; rintro e w1 ⟨rfl, hb⟩; have HB := hid hb; clear hb)
            | fail)
          go_ret2
          exact valI_mk m false rfl (HB.out) (by simp) (fun _ => HV.out)
end Go.Proofs.YtdcppiknomoigaaDoor

/-
  Tftp: the document's read.
-/
namespace Go.Proofs.YtdcppiknomoigaaDoor
open Go.RowKit
set_option linter.all false

theorem rcut_no (pt : Part) (w : World) (hok : pt.ok w) (hl : pt.zs.length ≤ 140737488353280) (h : cutG pt.zs = none) :
    Calls Tryd.prog 48 #[pt.val] w fun e w' => e = .returned (.tuple #[.string ⟨#[]⟩, .slice none 0 0, .bool false]) ∧ ∃ q, w' = w.drewN q := by
  refine (rcut_any pt w w hok hok hl).mono ?_
  rintro e w' ⟨hq, h1 | ⟨t, r, a', c', h1, _⟩⟩
  · exact ⟨h1.2, hq⟩
  · rw [h] at h1; cases h1
theorem rcut_yes (pt : Part) (w0 w : World) (hok : pt.ok w0) (hb : Below w0.heap.size w0 w) (hl : pt.zs.length ≤ 140737488353280) {t r : List Int} (h : cutG pt.zs = some (t, r)) :
    Calls Tryd.prog 48 #[pt.val] w fun e w' => ∃ a' c', e = .returned (.tuple #[.string (strOfNums t), .slice a' r.length c', .bool true]) ∧ Hid (Part.ok w0 ⟨a', c', r⟩ ∧ Below w.heap.size w w') := by
  refine (rcut_any pt w0 w hok (Part.ok_below hok hb) hl).mono ?_
  rintro e w' ⟨⟨q, hq⟩, h1 | ⟨t', r', a', c', h1, h2, h3⟩⟩
  · rw [h] at h1; cases h1.1
  · rw [h] at h1
    simp only [Option.some.injEq, Prod.mk.injEq] at h1
    obtain ⟨rfl, rfl⟩ := h1
    subst hq
    exact ⟨a', c', h3, h2, bdrewT w q⟩
def chL (zs : List Int) : List Ch := match readG [] zs with | .ok l => l | .error _ => []
theorem chL_ok {zs : List Int} {l : List Ch} (h : readG [] zs = .ok l) : chL zs = l := by unfold chL; rw [h]
theorem chL_er {zs : List Int} {e : Int} (h : readG [] zs = .error e) : chL zs = [] := by unfold chL; rw [h]
set_option maxRecDepth 20000 in
set_option maxHeartbeats 8000000 in
theorem read_any (pt : Part) (w : World) (hok : pt.ok w) (hl : pt.zs.length ≤ 140737488353280) :
    Calls Tryd.prog 47 #[pt.val] w fun e w' => ∃ a n c, e = .returned (.tuple #[.slice a n c, .int .i64 (chE 0 pt.zs)]) ∧ Hid (RowB 56 2 w w' a n c (chs (chL pt.zs))) := by
  obtain ⟨ad, cd, zs0⟩ := pt
  simp only [Part.val] at *
  have HOK := hid hok
  clear hok
  go_enter Tryd.func47, Tryd.ntmps47
  go_wp2_with fail
  go_loopw [0, 4] (fun vb vo wr => ∃ (a : Option Addr) (c no co : Nat) (ao : Option Addr) (l : List Ch) (zs : List Int), vb = .slice a zs.length c ∧ vo = .slice ao no co ∧ zs.length ≤ 140737488353280 ∧ no ≤ 3 ∧ Hid (Part.ok w ⟨a, c, zs⟩ ∧ RowB 56 2 w wr ao no co (chs l) ∧ chOk l l.length = true ∧ readG [] zs0 = readG l zs)) (fun vb _ _ => (match vb with | .slice _ n _ => n | _ => 0))
  case atStart => exact ⟨ad, cd, 0, 0, none, [], zs0, rfl, rfl, hl, by omega, HOK.out, RowB.void _ _ _, rfl, rfl⟩
  case round =>
    obtain ⟨a, c, no, co, ao, l, zs, rfl, rfl, hzl, hn3, HJ⟩ := hrel
    by_cases hz : zs = []
    · subst hz
      have HR := hid (HJ.out.2.2.2.trans (readG_nil l))
      have HE : Hid (chE 0 zs0 = 0) := chE_ok HR.out
      have HLL : Hid (chL zs0 = l) := chL_ok HR.out
      simp only [List.length_nil]
      go_wp2_with fail
      go_ret2
      exact ⟨ao, no, co, by rw [HE.out]; rfl, by unfold Hid; rw [HLL.out]; exact HJ.out.2.1⟩
    · have hlen : 0 < zs.length := List.length_pos_iff.2 hz
      have hlen' : (0 : Int) < (zs.length : Int) := by omega
      cases h1 : cutG zs with
      | none =>
        have HR := hid (HJ.out.2.2.2.trans (readG_short1 l hz h1))
        have HE : Hid (chE 0 zs0 = 5) := chE_er HR.out
        have HLL : Hid (chL zs0 = []) := chL_er HR.out
        have C1 := hid (rcut_no ⟨a, c, zs⟩ wr (Part.ok_below HJ.out.1 HJ.out.2.1.below) hzl h1)
        have C2 := hid (fun W => rcut_no Part.nil W (Part.nil_ok W) (by simp [Part.nil]) (by simp [Part.nil, cutG]))
        simp only [Part.val, Part.nil, List.length_nil] at C1 C2
        have HB := hid HJ.out.2.1.below
        clear h1 hz HJ HR
        generalize zs.length = n at *
        go_wp2_with (first
          | (go_at_call 48; with_reducible refine C1.out.mono ?_; rintro e w1 ⟨rfl, q1, hw1⟩; have HW1 := hid hw1; clear C1 hw1)
          | (go_at_call 48; with_reducible refine (C2.out _).mono ?_; rintro e w2 ⟨rfl, q2, hw2⟩; have HW2 := hid hw2; clear hw2)
          | fail)
        go_ret2
        exact ⟨none, 0, 0, by rw [HE.out]; rfl, by unfold Hid; rw [HLL.out]; exact (RowB.void _ _ w).bel (bstep HB.out (by rw [HW2.out, HW1.out]; exact bstep (bdrewT wr q1) (bdrewT _ q2)))⟩
      | some x =>
        obtain ⟨nm, r1⟩ := x
        have C1 := hid (rcut_yes ⟨a, c, zs⟩ w wr HJ.out.1 HJ.out.2.1.below hzl h1)
        simp only [Part.val] at C1
        have hr1 := (cutG_len h1).1
        cases h2 : cutG r1 with
        | none =>
          have HR := hid (HJ.out.2.2.2.trans (readG_short2 l h1 h2))
          have HE : Hid (chE 0 zs0 = 5) := chE_er HR.out
          have HLL : Hid (chL zs0 = []) := chL_er HR.out
          have C2 := hid (fun W a' c' (h' : Part.ok w ⟨a', c', r1⟩) (hb' : Below w.heap.size w W) => rcut_no ⟨a', c', r1⟩ W (Part.ok_below h' hb') (by simp only; omega) h2)
          simp only [Part.val] at C2
          have HB := hid HJ.out.2.1.below
          clear h1 h2 hz HJ HR
          generalize zs.length = n at *
          generalize r1.length = n1 at *
          go_wp2_with (first
            | (go_at_call 48; with_reducible refine C1.out.mono ?_; rintro e w1 ⟨a1, c1, rfl, H1⟩; have C3 := hid (C2.out _ _ _ H1.out.1 (bstep HB.out H1.out.2)); clear C1)
            | (go_at_call 48; with_reducible refine C3.out.mono ?_; rintro e w2 ⟨rfl, q2, hw2⟩; have HW2 := hid hw2; clear hw2)
            | fail)
          go_ret2
          exact ⟨none, 0, 0, by rw [HE.out]; rfl, by unfold Hid; rw [HLL.out]; exact (RowB.void _ _ w).bel (bstep HB.out (bstep H1.out.2 (by rw [HW2.out]; exact bdrewT _ q2)))⟩
        | some y =>
          obtain ⟨vs, r2⟩ := y
          have C2 := hid (fun W a' c' (h' : Part.ok w ⟨a', c', r1⟩) (hb' : Below w.heap.size w W) => rcut_yes ⟨a', c', r1⟩ w W h' hb' (by simp only; omega) h2)
          have HB := hid HJ.out.2.1.below
          simp only [Part.val] at C2
          have hr2 := (cutG_len h2).1
          have hnl := (cutG_len h1).2
          have hvl := (cutG_len h2).2
          have b1 := cutG_bd HJ.out.1.1 h1
          have b2 := cutG_bd b1.2 h2
          have CS := hid (fun W => rsmall_any (strOfNums nm) W (by rw [strOfNums_size]; omega))
          have CV := hid (fun W => rvalue_any (strOfNums vs) W (by rw [strOfNums_size]; omega))
          simp only [nums_str b1.1] at CS
          have HVN := hid (nums_str b2.1)
          have HG := hid (HJ.out.2.2.2.trans (readG_step l h1 h2))
          have HRL : Hid (r2.length < zs.length) := by unfold Hid; omega
          have hr2l : r2.length ≤ 140737488353280 := by omega
          have CK := hid (fun W => known_any (smallS nm) W)
          obtain ⟨N, hN⟩ : ∃ N, N = smallS nm := ⟨_, rfl⟩
          rw [← hN] at CS CK HG
          obtain ⟨kb, hkb⟩ : ∃ kb, kb = knownB N := ⟨_, rfl⟩
          rw [← hkb] at CK HG
          have HKB := hid hkb
          clear hN hkb h1 h2 hz b1 b2 hnl hvl hr1 hr2
          go_upto_region 8 with (first
            | (go_at_call 48; with_reducible refine C1.out.mono ?_; go_loud (rintro e w1 ⟨a1, c1, rfl, H1⟩; have C3 := hid (C2.out _ _ _ H1.out.1 (bstep HB.out H1.out.2)); clear C1))
            | (go_at_call 48; with_reducible refine C3.out.mono ?_; go_loud (rintro e w2 ⟨a2, c2, rfl, H2⟩; clear C3))
            | fail)
          have HRB := hid (HJ.out.2.1.bel (bstep H1.out.2 H2.out.2))
          have HCO := hid HJ.out.2.2.1
          have HPK := hid H2.out.1
          clear HJ H1 H2 C2
          go_upto_region 10 with (first
            | (go_at_call 72; refine (CS.out _).mono ?_; go_loud (rintro e w3 ⟨rfl, HB3⟩))
            | (go_at_call 55; refine (CK.out _).mono ?_; go_loud (rintro e w4 ⟨rfl, hw4⟩; subst w4))
            | fail)
          have HRB3 := hid (HRB.out.bel HB3.out)
          have HPK3 := hid HPK.out
          clear HRB HPK HB3 CS CK
          cases kb
          · have HR := hid (HG.out.trans (if_pos rfl))
            clear HG CV HVN
            go_wp2_with fail
            go_roundw
            case rel => exact ⟨a2, c2, no, co, ao, l, r2, rfl, rfl, hr2l, hn3, HPK3.out, HRB3.out, HCO.out, HR.out⟩
            case measure => exact HRL.out
          · have HR := hid (HG.out.trans (if_neg (by simp)))
            clear HG
            go_upto_region 12 with (first
              | (go_at_call 73; refine (CV.out _).mono ?_; go_loud (rintro e w5 ⟨nv, bv, rfl, H5⟩))
              | fail)
            obtain ⟨hb5, hv1, hv2⟩ := H5.out
            rw [HVN.out] at hv1 hv2
            have HV1 := hid hv1
            have HV2 := hid hv2
            have HRB5 := hid (HRB3.out.bel hb5)
            have HPK5 := hid HPK3.out
            have HLN := hid HRB5.out.chv.1
            clear hv1 hv2 hb5 H5 HRB3 HPK3 CV HVN
            obtain ⟨a', cp', w7, hrun, HR7, hkp⟩ := HRB5.out.ch (Below.refl _ _) ⟨N, nv⟩ (by omega)
            have hk0 : (l ++ [(⟨N, nv⟩ : Ch)])[no]? = some ⟨N, nv⟩ := by rw [HLN.out]; simp
            have CT := hid (twice_any (l ++ [⟨N, nv⟩]) a' (no + 1) cp' no ⟨N, nv⟩ w7 HR7.out.chv.2 HR7.out.chv.1 hk0 (by omega))
            have hin : inB N ((l ++ [(⟨N, nv⟩ : Ch)]).take no) = inB N l := by rw [HLN.out, List.take_left]
            simp only [hin] at CT
            obtain ⟨ib, hib⟩ : ∃ ib, ib = inB N l := ⟨_, rfl⟩
            rw [← hib] at CT HR
            have HIB := hid hib
            have q1 : IntKind.i64.wrap (((no + 1 : Nat) : Int) - 1) = (no : Int) := by simp only [IntKind.wrap_i64]; omega
            have q2 : IntKind.i64.wrap ((no : Int) + 1 - 1) = (no : Int) := by simp only [IntKind.wrap_i64]; omega
            clear hk0 hin hib hkp HRB5
            cases bv
            · have HE : Hid (chE 0 zs0 = 172 ∧ chL zs0 = []) := by
                have h1 := HR.out
                rw [HV2.out rfl] at h1
                exact ⟨chE_er h1, chL_er h1⟩
              clear HR HV1 HV2
              go_wp2_with (first
                | (at_builtin; refine wpList_append_run _ rfl _ _ _ _ rfl _ _ rfl rfl hrun ?_)
                | (go_at_call 53; refine CT.out.mono ?_; rintro e w8 ⟨rfl, q8, hw8⟩; have HW8 := hid hw8; clear hw8)
                | fail)
              go_ret2
              exact ⟨none, 0, 0, by rw [HE.out.1]; rfl, by unfold Hid; rw [HE.out.2]; exact (RowB.void _ _ w).bel (bstep HR7.out.below (by rw [HW8.out]; exact bdrewT _ q8))⟩
            · have HVF : Hid (valF vs = some nv.toNat ∧ 0 ≤ nv ∧ nv ≤ 2147483647) := HV1.out rfl
              clear HV1 HV2
              cases ib
              · have HR2 : Hid (readG [] zs0 = readG (l ++ [⟨N, nv⟩]) r2) := by
                  have h1 := HR.out
                  rw [HVF.out.1] at h1
                  simp only [Bool.false_eq_true, if_false] at h1
                  rw [show ((nv.toNat : Nat) : Int) = nv from by have := HVF.out.2; omega] at h1
                  exact h1
                have HOK2 : Hid (chOk (l ++ [(⟨N, nv⟩ : Ch)]) (l ++ [(⟨N, nv⟩ : Ch)]).length = true) := chOk_snoc (c := ⟨N, nv⟩) HCO.out HKB.out.symm HIB.out.symm HVF.out.2
                have HL3 : Hid (no + 1 ≤ 3) := by
                  have h1 := HR7.out.chv.1
                  have := chOk_3 HOK2.out (Nat.le_refl _)
                  unfold Hid; omega
                clear HR HVF
                go_wp2_with (first
                  | (at_builtin; refine wpList_append_run _ rfl _ _ _ _ rfl _ _ rfl rfl hrun ?_)
                  | (go_at_call 53; refine CT.out.mono ?_; rintro e w8 ⟨rfl, q8, hw8⟩; have HW8 := hid hw8; clear hw8; have HR8 : Hid (RowB 56 2 w w8 a' (no + 1) cp' (chs (l ++ [⟨N, nv⟩]))) := hid (HR7.out.bel (by rw [HW8.out]; exact bdrewT _ q8)))
                  | fail)
                go_roundw
                case rel => exact ⟨a2, c2, no + 1, cp', a', _, r2, rfl, rfl, hr2l, HL3.out, HPK5.out, HR8.out, HOK2.out, HR2.out⟩
                case measure => exact HRL.out
              · have HE : Hid (chE 0 zs0 = 172 ∧ chL zs0 = []) := by
                  have h1 := HR.out
                  rw [HVF.out.1] at h1
                  simp only [if_true] at h1
                  exact ⟨chE_er h1, chL_er h1⟩
                clear HR HVF
                go_wp2_with (first
                  | (at_builtin; refine wpList_append_run _ rfl _ _ _ _ rfl _ _ rfl rfl hrun ?_)
                  | (go_at_call 53; refine CT.out.mono ?_; rintro e w8 ⟨rfl, q8, hw8⟩; have HW8 := hid hw8; clear hw8)
                  | fail)
                go_ret2
                exact ⟨none, 0, 0, by rw [HE.out.1]; rfl, by unfold Hid; rw [HE.out.2]; exact (RowB.void _ _ w).bel (bstep HR7.out.below (by rw [HW8.out]; exact bdrewT _ q8))⟩
end Go.Proofs.YtdcppiknomoigaaDoor

/-
  Tftp: the document's decodeRead, Decode.
-/
namespace Go.Proofs.YtdcppiknomoigaaDoor
open Go.RowKit
set_option linter.all false

def rdQ (r : List Int) : Tp := match decRd r with | .ok q => q | .error _ => Tp.nil
def rdR (r : List Int) : Int := match decRd r with | .ok _ => 0 | .error e => e
theorem rd_ok_of {r : List Int} {q : Tp} (h : decRd r = .ok q) : rdQ r = q ∧ rdR r = 0 := by unfold rdQ rdR; rw [h]; exact ⟨rfl, rfl⟩
theorem rd_er_of {r : List Int} {e : Int} (h : decRd r = .error e) : rdQ r = Tp.nil ∧ rdR r = e := by unfold rdQ rdR; rw [h]; exact ⟨rfl, rfl⟩
theorem bdT {W0 W W' : World} {q : Nat} (h : Below W0.heap.size W0 W) (e : W' = W.drewN q) : Below W0.heap.size W0 W' := by subst e; exact bstep h (bdrewT W q)
set_option maxRecDepth 20000 in
set_option maxHeartbeats 8000000 in
theorem decodeRead_any (pt : Part) (w : World) (hok : pt.ok w) (hl : pt.zs.length ≤ 140737488353280) :
    Calls Tryd.prog 46 #[pt.val] w fun e w' => ∃ ca cc da dc, e = .returned (.tuple #[.agg (tpC (rdQ pt.zs) ca cc da dc), .int .i64 (rdR pt.zs)]) ∧ Hid (DcO w w' (rdQ pt.zs) ca cc da dc) := by
  obtain ⟨a, c, r⟩ := pt
  simp only [Part.val] at *
  obtain ⟨W0, hW0⟩ : ∃ W0, W0 = w.alloc (.cells #[.int .i64 0, .string ⟨#[]⟩, .string ⟨#[]⟩, .slice none 0 0, .int .i64 0, .slice none 0 0, .int .i64 0, .string ⟨#[]⟩] 26) := ⟨_, rfl⟩
  have HR0 : Hid (W0.heap[w.heap.size]? = some (.cells #[.int .i64 0, .string ⟨#[]⟩, .string ⟨#[]⟩, .slice none 0 0, .int .i64 0, .slice none 0 0, .int .i64 0, .string ⟨#[]⟩] 26 (0, 0))) := by unfold Hid; rw [hW0]; exact heap_new _ _
  have HW0 : Hid (Below w.heap.size w W0) := by unfold Hid; rw [hW0]; exact bpush (Below.refl _ _) _
  have HS0 : Hid (w.heap.size < W0.heap.size) := heap_lt HR0.out
  have HOK := hid (Part.ok_below hok HW0.out)
  have hbd := hok.1
  have HBD := hid hbd
  clear hok
  go_enter Tryd.func46, Tryd.ntmps46
  go_upto_region 1 with fail
  rw [← hW0]
  clear hW0
  cases h1 : cutG r with
  | none =>
    have HQ := hid (rd_er_of (r := r) (e := 5) (by unfold decRd; rw [h1]))
    have C1 := hid (rcut_no ⟨a, c, r⟩ W0 HOK.out hl h1)
    simp only [Part.val] at C1
    clear h1 HOK HBD hbd
    go_upto_region 2 with (first
      | (go_at_call 48; refine C1.out.mono ?_; go_loud (rintro e W ⟨rfl, q1, hW⟩; have HB := hid (bdT (Below.refl _ _) hW); clear hW C1))
      | fail)
    have HRES := hid (kept HR0.out HB.out)
    go_wp2_with (first
      | (refine wpList_store_row rfl 26 _ _ rfl w.heap.size #[.int .i64 0, .string ⟨#[]⟩, .string ⟨#[]⟩, .slice none 0 0, .int .i64 0, .slice none 0 0, .int .i64 0, .string ⟨#[]⟩] rfl rfl 26 _ HRES.out (by kernel_rfl) rfl (by first | kernel_rfl | simp [Value.oneCell']) ?_)
      | fail)
    try simp only [Exit.inBlock, Exit.then]
    refine bodyPost_ret (v := .tuple #[.agg #[.int .i64 0, .string ⟨#[]⟩, .string ⟨#[]⟩, .slice none 0 0, .int .i64 0, .slice none 0 0, .int .i64 0, .string ⟨#[]⟩], .int .i64 (5)]) ?_ (by rfl) ?_
    · exact results_row2 Tryd.results46 _ _ w.heap.size 26 _ (0, 0) _ _ rfl rfl (setRow_heap _ _ _ _ _ _ HRES.out) Tryd.underlying26 rfl (by kernel_rfl)
    · refine ⟨none, 0, none, 0, ?_, ?_⟩
      · rw [HQ.out.1, HQ.out.2]; rfl
      · rw [HQ.out.1]
        have hbt : But w.heap.size W (W.setRow w.heap.size #[.int .i64 0, .string ⟨#[]⟩, .string ⟨#[]⟩, .slice none 0 0, .int .i64 0, .slice none 0 0, .int .i64 0, .string ⟨#[]⟩]) := But.setRow _ _ _
        have hbl := bbut (HW0.out.trans (HB.out.mono HW0.out.size)) hbt (Nat.le_refl _)
        exact dcO_nil hbl
  | some x =>
    obtain ⟨f, r1⟩ := x
    have C1 := hid (rcut_yes ⟨a, c, r⟩ W0 W0 HOK.out (Below.refl _ _) hl h1)
    simp only [Part.val] at C1
    have hl1 := (cutG_len h1).1
    have HFS : Hid ((strOfNums f).size = f.length) := strOfNums_size f
    have HB1 := hid (cutG_bd hbd h1)
    have hfs : (strOfNums f).size = f.length := strOfNums_size f
    go_upto_region 2 with (first
      | (go_at_call 48; refine C1.out.mono ?_; go_loud (rintro e W1 ⟨a1, c1, rfl, H1⟩; clear C1))
      | fail)
    by_cases hx : f.length < 1 ∨ 64 < f.length
    · have HQ := hid (rd_er_of (r := r) (e := 171) (by unfold decRd; rw [h1]; simp only; rw [if_pos hx]))
      have HB := hid H1.out.2
      clear h1 HOK HBD hbd HB1 hl1
      generalize strOfNums f = S at *
      rcases hx with hx | hx
      · have q1 : (S.size : Int) < 1 := by omega
        clear hfs HFS hx
        have HRES := hid (kept HR0.out HB.out)
        go_wp2_with (first
          | (refine wpList_store_row rfl 26 _ _ rfl w.heap.size #[.int .i64 0, .string ⟨#[]⟩, .string ⟨#[]⟩, .slice none 0 0, .int .i64 0, .slice none 0 0, .int .i64 0, .string ⟨#[]⟩] rfl rfl 26 _ HRES.out (by kernel_rfl) rfl (by first | kernel_rfl | simp [Value.oneCell']) ?_)
          | fail)
        try simp only [Exit.inBlock, Exit.then]
        refine bodyPost_ret (v := .tuple #[.agg #[.int .i64 0, .string ⟨#[]⟩, .string ⟨#[]⟩, .slice none 0 0, .int .i64 0, .slice none 0 0, .int .i64 0, .string ⟨#[]⟩], .int .i64 (171)]) ?_ (by rfl) ?_
        · exact results_row2 Tryd.results46 _ _ w.heap.size 26 _ (0, 0) _ _ rfl rfl (setRow_heap _ _ _ _ _ _ HRES.out) Tryd.underlying26 rfl (by kernel_rfl)
        · refine ⟨none, 0, none, 0, ?_, ?_⟩
          · rw [HQ.out.1, HQ.out.2]; rfl
          · rw [HQ.out.1]
            have hbt : But w.heap.size W1 (W1.setRow w.heap.size #[.int .i64 0, .string ⟨#[]⟩, .string ⟨#[]⟩, .slice none 0 0, .int .i64 0, .slice none 0 0, .int .i64 0, .string ⟨#[]⟩]) := But.setRow _ _ _
            have hbl := bbut (HW0.out.trans (HB.out.mono HW0.out.size)) hbt (Nat.le_refl _)
            exact dcO_nil hbl
      · have q1 : ¬ (S.size : Int) < 1 := by omega
        have q2 : (64 : Int) < (S.size : Int) := by omega
        clear hfs HFS hx
        have HRES := hid (kept HR0.out HB.out)
        go_wp2_with (first
          | (refine wpList_store_row rfl 26 _ _ rfl w.heap.size #[.int .i64 0, .string ⟨#[]⟩, .string ⟨#[]⟩, .slice none 0 0, .int .i64 0, .slice none 0 0, .int .i64 0, .string ⟨#[]⟩] rfl rfl 26 _ HRES.out (by kernel_rfl) rfl (by first | kernel_rfl | simp [Value.oneCell']) ?_)
          | fail)
        try simp only [Exit.inBlock, Exit.then]
        refine bodyPost_ret (v := .tuple #[.agg #[.int .i64 0, .string ⟨#[]⟩, .string ⟨#[]⟩, .slice none 0 0, .int .i64 0, .slice none 0 0, .int .i64 0, .string ⟨#[]⟩], .int .i64 (171)]) ?_ (by rfl) ?_
        · exact results_row2 Tryd.results46 _ _ w.heap.size 26 _ (0, 0) _ _ rfl rfl (setRow_heap _ _ _ _ _ _ HRES.out) Tryd.underlying26 rfl (by kernel_rfl)
        · refine ⟨none, 0, none, 0, ?_, ?_⟩
          · rw [HQ.out.1, HQ.out.2]; rfl
          · rw [HQ.out.1]
            have hbt : But w.heap.size W1 (W1.setRow w.heap.size #[.int .i64 0, .string ⟨#[]⟩, .string ⟨#[]⟩, .slice none 0 0, .int .i64 0, .slice none 0 0, .int .i64 0, .string ⟨#[]⟩]) := But.setRow _ _ _
            have hbl := bbut (HW0.out.trans (HB.out.mono HW0.out.size)) hbt (Nat.le_refl _)
            exact dcO_nil hbl
    · have q1 : ¬ ((strOfNums f).size : Int) < 1 := by omega
      have q2 : ¬ (64 : Int) < ((strOfNums f).size : Int) := by omega
      clear hfs HFS
      cases h2 : cutG r1 with
      | none =>
        have HQ := hid (rd_er_of (r := r) (e := 5) (by unfold decRd; rw [h1]; simp only; rw [if_neg hx, h2]))
        have C2 := hid (rcut_no ⟨a1, c1, r1⟩ W1 (Part.ok_below H1.out.1 H1.out.2) (by simp only; omega) h2)
        simp only [Part.val] at C2
        clear h1 h2 HOK HBD hbd HB1 hl1 hx
        generalize strOfNums f = S at *
        go_upto_region 7 with (first
          | (go_at_call 48; refine C2.out.mono ?_; go_loud (rintro e W ⟨rfl, q1, hW⟩; have HB := hid (bdT H1.out.2 hW); clear hW C2))
          | fail)
        have HRES := hid (kept HR0.out HB.out)
        go_wp2_with (first
          | (refine wpList_store_row rfl 26 _ _ rfl w.heap.size #[.int .i64 0, .string ⟨#[]⟩, .string ⟨#[]⟩, .slice none 0 0, .int .i64 0, .slice none 0 0, .int .i64 0, .string ⟨#[]⟩] rfl rfl 26 _ HRES.out (by kernel_rfl) rfl (by first | kernel_rfl | simp [Value.oneCell']) ?_)
          | fail)
        try simp only [Exit.inBlock, Exit.then]
        refine bodyPost_ret (v := .tuple #[.agg #[.int .i64 0, .string ⟨#[]⟩, .string ⟨#[]⟩, .slice none 0 0, .int .i64 0, .slice none 0 0, .int .i64 0, .string ⟨#[]⟩], .int .i64 (5)]) ?_ (by rfl) ?_
        · exact results_row2 Tryd.results46 _ _ w.heap.size 26 _ (0, 0) _ _ rfl rfl (setRow_heap _ _ _ _ _ _ HRES.out) Tryd.underlying26 rfl (by kernel_rfl)
        · refine ⟨none, 0, none, 0, ?_, ?_⟩
          · rw [HQ.out.1, HQ.out.2]; rfl
          · rw [HQ.out.1]
            have hbt : But w.heap.size W (W.setRow w.heap.size #[.int .i64 0, .string ⟨#[]⟩, .string ⟨#[]⟩, .slice none 0 0, .int .i64 0, .slice none 0 0, .int .i64 0, .string ⟨#[]⟩]) := But.setRow _ _ _
            have hbl := bbut (HW0.out.trans (HB.out.mono HW0.out.size)) hbt (Nat.le_refl _)
            exact dcO_nil hbl
      | some y =>
        obtain ⟨m, r2⟩ := y
        have C2 := hid (rcut_yes ⟨a1, c1, r1⟩ W0 W1 H1.out.1 H1.out.2 (by simp only; omega) h2)
        simp only [Part.val] at C2
        have hl2 := (cutG_len h2).1
        have hml := (cutG_len h2).2
        have hbm := (cutG_bd HB1.out.2 h2).1
        have CS := hid (fun W => rsmall_any (strOfNums m) W (by rw [strOfNums_size]; omega))
        simp only [nums_str hbm] at CS
        have CR := hid (fun W a' c' (h' : Part.ok W ⟨a', c', r2⟩) => read_any ⟨a', c', r2⟩ W h' (by simp only; omega))
        simp only [Part.val] at CR
        have hso := sOct (smallS m)
        clear hbm hml
        by_cases hm : smallS m = nOct
        · rw [decide_eq_true hm] at hso
          have HDR : Hid (decRd r = match readG [] r2 with | .error e => .error e | .ok l => .ok { Tp.nil with op := 1, fl := strOfNums f, md := nOct, ch := l }) := by
            unfold Hid decRd; rw [h1]; simp only; rw [if_neg hx, h2]; simp only; rw [if_neg (by simpa using hm)]; rfl
          clear h1 h2 HOK HBD hbd HB1 hl1 hx hm
          generalize strOfNums f = S at *
          generalize smallS m = M at *
          go_upto_region 12 with (first
            | (go_at_call 48; refine C2.out.mono ?_; go_loud (rintro e W2 ⟨a2, c2, rfl, H2⟩; clear C2))
            | (go_at_call 72; refine (CS.out _).mono ?_; go_loud (rintro e W3 ⟨rfl, H3⟩; have CR3 := hid (CR.out _ _ _ (Part.ok_below H2.out.1 (bstep (bstep H1.out.2 H2.out.2) H3.out)))))
            | (go_at_call 47; refine CR3.out.mono ?_; go_loud (rintro e W ⟨a3, n3, c3, rfl, H4⟩))
            | fail)
          have HB := hid (bstep (bstep (bstep H1.out.2 H2.out.2) H3.out) H4.out.below)
          have HSZ3 : Hid (W0.heap.size ≤ W3.heap.size) := (bstep (bstep H1.out.2 H2.out.2) H3.out).size
          clear CR CR3 CS H1 H2 H3
          rcases ch_two 0 r2 with ⟨h0, _, l, hl'⟩ | ⟨hne, hdec, _⟩
          · have HQ : Hid (rdQ r = { Tp.nil with op := 1, fl := S, md := nOct, ch := l } ∧ rdR r = 0) := rd_ok_of (HDR.out.trans (by rw [hl']))
            rw [chL_ok hl'] at H4
            obtain rfl := H4.out.chv.1
            have HRB : Hid (RowB 56 2 W0 W a3 l.length c3 (chs l)) := ⟨H4.out.row, fun b hb => Nat.le_trans HSZ3.out (H4.out.new b hb), HB.out⟩
            rw [h0]
            clear HDR hl' H4 HSZ3
            have HRES := hid (kept HR0.out HB.out)
            go_wp2_with (first
              | (refine wpList_store_row rfl 26 _ _ rfl w.heap.size #[.int .i64 1, .string S, .string ⟨#[111, 99, 116, 101, 116]⟩, .slice a3 l.length c3, .int .i64 0, .slice none 0 0, .int .i64 0, .string ⟨#[]⟩] rfl rfl 26 _ HRES.out (by kernel_rfl) rfl (by first | kernel_rfl | simp [Value.oneCell']) ?_)
              | fail)
            try simp only [Exit.inBlock, Exit.then]
            refine bodyPost_ret (v := .tuple #[.agg #[.int .i64 1, .string S, .string ⟨#[111, 99, 116, 101, 116]⟩, .slice a3 l.length c3, .int .i64 0, .slice none 0 0, .int .i64 0, .string ⟨#[]⟩], .int .i64 (0)]) ?_ (by rfl) ?_
            · exact results_row2 Tryd.results46 _ _ w.heap.size 26 _ (0, 0) _ _ rfl rfl (setRow_heap _ _ _ _ _ _ HRES.out) Tryd.underlying26 rfl (by kernel_rfl)
            · refine ⟨a3, c3, none, 0, ?_, ?_⟩
              · rw [HQ.out.1, HQ.out.2]; rfl
              · rw [HQ.out.1]
                have hbt : But w.heap.size W (W.setRow w.heap.size #[.int .i64 1, .string S, .string ⟨#[111, 99, 116, 101, 116]⟩, .slice a3 l.length c3, .int .i64 0, .slice none 0 0, .int .i64 0, .string ⟨#[]⟩]) := But.setRow _ _ _
                have hbl := bbut (HW0.out.trans (HB.out.mono HW0.out.size)) hbt (Nat.le_refl _)
                exact ⟨HRB.out.row.keep fun b hb => hbt.block b (by have := HRB.out.new b hb; have := HS0.out; omega) (HRB.out.row.lt hb), fun b hb => by have := HRB.out.new b hb; have := HS0.out; omega, Row.nil _ _, fun b hb => by simp [Tp.nil, Value.ownBlock] at hb, hbl⟩
          · have HQ : Hid (rdQ r = Tp.nil ∧ rdR r = chE 0 r2) := rd_er_of (HDR.out.trans (by rw [hdec rfl]))
            clear HDR hdec H4 HSZ3
            generalize chE 0 r2 = er at *
            have hbn : (er != 0) = true := by simpa using hne
            have HRES := hid (kept HR0.out HB.out)
            go_wp2_with (first
              | (refine wpList_store_row rfl 26 _ _ rfl w.heap.size #[.int .i64 0, .string ⟨#[]⟩, .string ⟨#[]⟩, .slice none 0 0, .int .i64 0, .slice none 0 0, .int .i64 0, .string ⟨#[]⟩] rfl rfl 26 _ HRES.out (by kernel_rfl) rfl (by first | kernel_rfl | simp [Value.oneCell']) ?_)
              | fail)
            try simp only [Exit.inBlock, Exit.then]
            refine bodyPost_ret (v := .tuple #[.agg #[.int .i64 0, .string ⟨#[]⟩, .string ⟨#[]⟩, .slice none 0 0, .int .i64 0, .slice none 0 0, .int .i64 0, .string ⟨#[]⟩], .int .i64 (er)]) ?_ (by rfl) ?_
            · exact results_row2 Tryd.results46 _ _ w.heap.size 26 _ (0, 0) _ _ rfl rfl (setRow_heap _ _ _ _ _ _ HRES.out) Tryd.underlying26 rfl (by kernel_rfl)
            · refine ⟨none, 0, none, 0, ?_, ?_⟩
              · rw [HQ.out.1, HQ.out.2]; rfl
              · rw [HQ.out.1]
                have hbt : But w.heap.size W (W.setRow w.heap.size #[.int .i64 0, .string ⟨#[]⟩, .string ⟨#[]⟩, .slice none 0 0, .int .i64 0, .slice none 0 0, .int .i64 0, .string ⟨#[]⟩]) := But.setRow _ _ _
                have hbl := bbut (HW0.out.trans (HB.out.mono HW0.out.size)) hbt (Nat.le_refl _)
                exact dcO_nil hbl
        · rw [decide_eq_false hm] at hso
          have HQ := hid (rd_er_of (r := r) (e := 171) (by unfold decRd; rw [h1]; simp only; rw [if_neg hx, h2]; simp only; rw [if_pos (by simpa using hm)]))
          clear h1 h2 HOK HBD hbd HB1 hl1 hx hm CR
          generalize strOfNums f = S at *
          generalize smallS m = M at *
          go_upto_region 10 with (first
            | (go_at_call 48; refine C2.out.mono ?_; go_loud (rintro e W2 ⟨a2, c2, rfl, H2⟩; clear C2))
            | (go_at_call 72; refine (CS.out _).mono ?_; go_loud (rintro e W ⟨rfl, H3⟩))
            | fail)
          have HB := hid (bstep (bstep H1.out.2 H2.out.2) H3.out)
          clear CS H1 H2 H3
          have HRES := hid (kept HR0.out HB.out)
          go_wp2_with (first
            | (refine wpList_store_row rfl 26 _ _ rfl w.heap.size #[.int .i64 0, .string ⟨#[]⟩, .string ⟨#[]⟩, .slice none 0 0, .int .i64 0, .slice none 0 0, .int .i64 0, .string ⟨#[]⟩] rfl rfl 26 _ HRES.out (by kernel_rfl) rfl (by first | kernel_rfl | simp [Value.oneCell']) ?_)
            | fail)
          try simp only [Exit.inBlock, Exit.then]
          refine bodyPost_ret (v := .tuple #[.agg #[.int .i64 0, .string ⟨#[]⟩, .string ⟨#[]⟩, .slice none 0 0, .int .i64 0, .slice none 0 0, .int .i64 0, .string ⟨#[]⟩], .int .i64 (171)]) ?_ (by rfl) ?_
          · exact results_row2 Tryd.results46 _ _ w.heap.size 26 _ (0, 0) _ _ rfl rfl (setRow_heap _ _ _ _ _ _ HRES.out) Tryd.underlying26 rfl (by kernel_rfl)
          · refine ⟨none, 0, none, 0, ?_, ?_⟩
            · rw [HQ.out.1, HQ.out.2]; rfl
            · rw [HQ.out.1]
              have hbt : But w.heap.size W (W.setRow w.heap.size #[.int .i64 0, .string ⟨#[]⟩, .string ⟨#[]⟩, .slice none 0 0, .int .i64 0, .slice none 0 0, .int .i64 0, .string ⟨#[]⟩]) := But.setRow _ _ _
              have hbl := bbut (HW0.out.trans (HB.out.mono HW0.out.size)) hbt (Nat.le_refl _)
              exact dcO_nil hbl
/-- 'b[2:]'. -/
theorem from_two (pt : Part) (hl : 2 ≤ pt.zs.length) : ∃ a' c', (∀ w, (Instr.sliceAt 24 pt.val (some (.int .i64 2)) none none).run Tryd.prog w = .ok (.slice a' (pt.zs.length - 2) c') w) ∧ ∀ w, pt.ok w → Part.ok w ⟨a', c', pt.zs.drop 2⟩ := by
  obtain ⟨a, c, zs⟩ := pt
  simp only at hl ⊢
  have he : Tryd.prog.info? 5 ≠ none := by intro h; have := sizeU8; rw [h] at this; simp at this
  cases hq : Tryd.prog.info? 5 with
  | none => exact absurd hq he
  | some i =>
    have hs : i.size = 1 := by have := sizeU8; rw [hq] at this; simpa using this
    have h1 : ¬ zs.length < 2 := by omega
    have h1i : ¬ (zs.length : Int) < 2 := by omega
    refine ⟨if c = 2 then a else a.map (·.add 2), c - 2, fun w => ?_, fun w hok => ?_⟩
    · simp [Instr.sliceAt, Instr.slice, run_underlying Tryd.underlying24, Instr.sliceBounds, Instr.sliceBound, asIntOf, sizeOf, typeInfo, hq, hs, Part.val, h1, h1i]
      try (intro hh; omega)
    · obtain ⟨b, o, rfl⟩ : ∃ b o, a = some ⟨b, o, none⟩ := by
        rcases hok.2.2 with e | ⟨b, o, e, _⟩
        · simp only at e; rw [e] at hl; simp at hl
        · exact ⟨b, o, e⟩
      have h2 := cut_ok hok 2 (zs.length - 2) (by omega)
      rw [List.take_of_length_le (by simp)] at h2
      by_cases hc : c = 2
      · rw [if_pos hc] at h2 ⊢; exact h2
      · rw [if_neg hc] at h2 ⊢
        rw [show (some (⟨b, o, none⟩ : Addr)).map (·.add 2) = some ⟨b, o + 2, none⟩ from by simp [Addr.add]]
        exact h2
/-- the first two bytes. -/
theorem two_cells {pt : Part} {w : World} (hok : pt.ok w) (hl : 2 ≤ pt.zs.length) : ∃ b o, pt.a = some ⟨b, o, none⟩ ∧ w.cell? ⟨b, o, none⟩ = some (.int .u8 (pt.zs.getD 0 0)) ∧ w.cell? ⟨b, o + 1, none⟩ = some (.int .u8 (pt.zs.getD 1 0)) := by
  rcases hok.2.2 with e | ⟨b, o, e, h⟩
  · rw [e] at hl; simp at hl
  · exact ⟨b, o, e, h 0 (by omega), h 1 (by omega)⟩
set_option maxRecDepth 20000 in
set_option maxHeartbeats 16000000 in
theorem refDecode_any (pt : Part) (w : World) (hok : pt.ok w) (hl : pt.zs.length ≤ 140737488353280) :
    Calls Tryd.prog 18 #[pt.val] w fun e w' => ∃ ca cc da dc, e = .returned (.tuple #[.agg (tpC (decQ pt.zs) ca cc da dc), .int .i64 (decE pt.zs)]) ∧ Hid (DcO w w' (decQ pt.zs) ca cc da dc) := by
  have HF2 := hid (from_two pt)
  obtain ⟨a, c, zs⟩ := pt
  simp only [Part.val] at *
  obtain ⟨W0, hW0⟩ : ∃ W0, W0 = w.alloc (.cells #[.int .i64 0, .string ⟨#[]⟩, .string ⟨#[]⟩, .slice none 0 0, .int .i64 0, .slice none 0 0, .int .i64 0, .string ⟨#[]⟩] 26) := ⟨_, rfl⟩
  have HR0 : Hid (W0.heap[w.heap.size]? = some (.cells #[.int .i64 0, .string ⟨#[]⟩, .string ⟨#[]⟩, .slice none 0 0, .int .i64 0, .slice none 0 0, .int .i64 0, .string ⟨#[]⟩] 26 (0, 0))) := by unfold Hid; rw [hW0]; exact heap_new _ _
  have HW0 : Hid (Below w.heap.size w W0) := by unfold Hid; rw [hW0]; exact bpush (Below.refl _ _) _
  have HS0 : Hid (w.heap.size < W0.heap.size) := heap_lt HR0.out
  have HPA := hid (Part.ok_below hok HW0.out)
  clear hok
  obtain ⟨n, hn⟩ : ∃ n, n = zs.length := ⟨_, rfl⟩
  go_enter Tryd.func18, Tryd.ntmps18
  go_upto_region 1 with fail
  rw [← hW0]
  clear hW0
  by_cases hs : zs.length < 2
  · have HQ := hid (dec_er_of (zs := zs) (e := 5) (by unfold decT; rw [if_pos hs]))
    have hs' : (zs.length : Int) < 2 := by omega
    have HB : Hid (Below W0.heap.size W0 W0) := Below.refl _ _
    clear HPA HF2
    generalize zs.length = l at *
    have HRES := hid (kept HR0.out HB.out)
    go_wp2_with (first
      | (refine wpList_store_row rfl 26 _ _ rfl w.heap.size #[.int .i64 0, .string ⟨#[]⟩, .string ⟨#[]⟩, .slice none 0 0, .int .i64 0, .slice none 0 0, .int .i64 0, .string ⟨#[]⟩] rfl rfl 26 _ HRES.out (by kernel_rfl) rfl (by first | kernel_rfl | simp [Value.oneCell']) ?_)
      | fail)
    try simp only [Exit.inBlock, Exit.then]
    refine bodyPost_ret (v := .tuple #[.agg #[.int .i64 0, .string ⟨#[]⟩, .string ⟨#[]⟩, .slice none 0 0, .int .i64 0, .slice none 0 0, .int .i64 0, .string ⟨#[]⟩], .int .i64 (5)]) ?_ (by rfl) ?_
    · exact results_row2 Tryd.results18 _ _ w.heap.size 26 _ (0, 0) _ _ rfl rfl (setRow_heap _ _ _ _ _ _ HRES.out) Tryd.underlying26 rfl (by kernel_rfl)
    · refine ⟨none, 0, none, 0, ?_, ?_⟩
      · rw [HQ.out.1, HQ.out.2]; rfl
      · rw [HQ.out.1]
        have hbt : But w.heap.size W0 (W0.setRow w.heap.size #[.int .i64 0, .string ⟨#[]⟩, .string ⟨#[]⟩, .slice none 0 0, .int .i64 0, .slice none 0 0, .int .i64 0, .string ⟨#[]⟩]) := But.setRow _ _ _
        have hbl := bbut (HW0.out.trans (HB.out.mono HW0.out.size)) hbt (Nat.le_refl _)
        exact dcO_nil hbl
  have HDEC : Hid (decT zs = if be2 zs = 1 then decRd (zs.drop 2) else if be2 zs = 6 then (match readG [] (zs.drop 2) with | .error e => .error e | .ok l => .ok { Tp.nil with op := 6, ch := l }) else if be2 zs = 3 ∨ be2 zs = 4 ∨ be2 zs = 5 then decNu (be2 zs) (zs.drop 2) else .error 170) := by
    unfold Hid decT; rw [if_neg hs]; rfl
  obtain ⟨a2, c2, hsl, hp2⟩ := HF2.out (by omega)
  have HP2 := hid (hp2 W0 HPA.out)
  have hrl : (zs.drop 2).length = zs.length - 2 := by simp
  have hbr := drop_bd HPA.out.1 2
  have HBR := hid hbr
  rw [← hrl] at hsl
  clear HF2 hp2 hbr
  obtain ⟨r, hr⟩ : ∃ r, r = zs.drop 2 := ⟨_, rfl⟩
  rw [← hr] at hsl HP2 HDEC HBR hrl
  have hrb : r.length ≤ 140737488353280 := by omega
  rw [← hn] at hsl hrl hl hs ⊢
  clear hr hrl
  obtain ⟨bA, oA, haA, k0, k1⟩ := two_cells HPA.out (by simp only; rw [← hn]; omega)
  simp only at haA k0 k1
  subst haA
  have z0 := getD_mem_bd HPA.out.1 0
  have z1 := getD_mem_bd HPA.out.1 1
  have HOPA : Hid (be2 zs = (zs).getD 0 0 * 256 + (zs).getD 1 0) := rfl
  generalize (zs).getD 0 0 = y0 at *
  generalize (zs).getD 1 0 = y1 at *
  have i0 : (0 : Int) < (n : Int) := by omega
  have i0n : 0 < n := by omega
  have i0m : ¬ n = 0 := by omega
  have i1 : (1 : Int) < (n : Int) := by omega
  have i2 : (2 : Int) ≤ (n : Int) := by omega
  have e4 : IntKind.i64.wrap (IntKind.i64.wrap (IntKind.i64.wrap y0 * 256) + IntKind.i64.wrap y1) = y0 * 256 + y1 := by simp only [IntKind.wrap_i64]; omega
  have f4 : IntKind.i64.wrap y0 = y0 := by simp only [IntKind.wrap_i64]; omega
  have f5 : IntKind.i64.wrap y1 = y1 := by simp only [IntKind.wrap_i64]; omega
  have g4 : IntKind.i64.wrap (y0 * 256) = y0 * 256 := by simp only [IntKind.wrap_i64]; omega
  have g45 : IntKind.i64.wrap (y0 * 256 + y1) = y0 * 256 + y1 := by simp only [IntKind.wrap_i64]; omega
  have hs' : ¬ (n : Int) < 2 := by omega
  clear hn
  go_upto_region 3 with fail
  go_quiet (fail)
  rw [HOPA.out] at HDEC
  have HB : Hid (Below W0.heap.size W0 (W0.drewN nq)) := bdrewT W0 nq
  have HPR := hid (Part.ok_below HP2.out HB.out)
  clear k0 k1 e4 f4 f5 g4 g45 i0 i0n i0m i1 i2 HPA HP2 HOPA
  generalize y0 * 256 + y1 = op at *
  generalize W0.drewN nq = W1 at *
  clear z0 z1
  go_upto_region 5 with fail
  clear hsl hs'
  by_cases o1 : op = 1
  · as_aux_lemma =>
      subst o1
      rw [if_pos rfl] at HDEC
      have HQ : Hid (decQ zs = rdQ r ∧ decE zs = rdR r) := by
        unfold Hid decQ decE rdQ rdR; rw [HDEC.out]; exact ⟨rfl, rfl⟩
      have CDR := hid (decodeRead_any ⟨a2, c2, r⟩ W1 HPR.out hrb)
      simp only [Part.val, tpC] at CDR
      have HS1 : Hid (W0.heap.size ≤ W1.heap.size) := HB.out.size
      go_upto_region 8 with fail
      go_wp2_with (first
        | (go_at_call 46; refine CDR.out.mono ?_; rintro e W ⟨ca, cc, da, dc, rfl, HDO⟩; have HB9 := hid (bstep HB.out HDO.out.below); have HRES := hid (kept HR0.out HB9.out))
        | (refine wpList_store_row rfl 26 _ _ rfl w.heap.size #[.int .i64 (rdQ r).op, .string (rdQ r).fl, .string (rdQ r).md, .slice ca (rdQ r).ch.length cc, .int .i64 (rdQ r).bk, .slice da (rdQ r).da.length dc, .int .i64 (rdQ r).cd, .string (rdQ r).tx] rfl rfl 26 _ HRES.out (by kernel_rfl) rfl (by first | kernel_rfl | simp [Value.oneCell'] | rfl) ?_)
        | fail)
      try simp only [Exit.inBlock, Exit.then]
      refine bodyPost_ret (v := .tuple #[.agg #[.int .i64 (rdQ r).op, .string (rdQ r).fl, .string (rdQ r).md, .slice ca (rdQ r).ch.length cc, .int .i64 (rdQ r).bk, .slice da (rdQ r).da.length dc, .int .i64 (rdQ r).cd, .string (rdQ r).tx], .int .i64 (rdR r)]) ?_ (by rfl) ?_
      · exact results_row2 Tryd.results18 _ _ w.heap.size 26 _ (0, 0) _ _ rfl rfl (setRow_heap _ _ _ _ _ _ HRES.out) Tryd.underlying26 rfl (by kernel_rfl)
      · refine ⟨ca, cc, da, dc, ?_, ?_⟩
        · rw [HQ.out.1, HQ.out.2]; rfl
        · rw [HQ.out.1]
          have hbt : But w.heap.size W (W.setRow w.heap.size #[.int .i64 (rdQ r).op, .string (rdQ r).fl, .string (rdQ r).md, .slice ca (rdQ r).ch.length cc, .int .i64 (rdQ r).bk, .slice da (rdQ r).da.length dc, .int .i64 (rdQ r).cd, .string (rdQ r).tx]) := But.setRow _ _ _
          have hbl := bbut (HW0.out.trans (HB9.out.mono HW0.out.size)) hbt (Nat.le_refl _)
          have h01 := HS0.out
          have h02 := HS1.out
          exact ⟨HDO.out.rch.keep fun b hb => hbt.block b (by have := HDO.out.rchn b hb; omega) (HDO.out.rch.lt hb), fun b hb => by have := HDO.out.rchn b hb; omega,
            HDO.out.rda.but hbt fun b hb => by have := HDO.out.rdan b hb; omega, fun b hb => by have := HDO.out.rdan b hb; omega, hbl⟩
  by_cases o6 : op = 6
  · as_aux_lemma =>
      subst o6
      rw [if_neg (by omega), if_pos rfl] at HDEC
      have CR := hid (read_any ⟨a2, c2, r⟩ W1 HPR.out hrb)
      simp only [Part.val] at CR
      have HSZ3 : Hid (W0.heap.size ≤ W1.heap.size) := HB.out.size
      have HB1 := HB
      clear HB
      go_upto_region 11 with (first
        | (go_at_call 47; refine CR.out.mono ?_; go_loud (rintro e W ⟨a3, n3, c3, rfl, H4⟩))
        | fail)
      have HB := hid (bstep HB1.out H4.out.below)
      clear CR HB1 HPR
      rcases ch_two 0 r with ⟨h0, _, l, hl'⟩ | ⟨hne, hdec, _⟩
      · have HQ : Hid (decQ zs = { Tp.nil with op := 6, ch := l } ∧ decE zs = 0) := dec_ok_of (HDEC.out.trans (by rw [hl']))
        rw [chL_ok hl'] at H4
        obtain rfl := H4.out.chv.1
        have HRB : Hid (RowB 56 2 W0 W a3 l.length c3 (chs l)) := ⟨H4.out.row, fun b hb => Nat.le_trans HSZ3.out (H4.out.new b hb), HB.out⟩
        rw [h0]
        clear HDEC hl' H4 HSZ3
        have HRES := hid (kept HR0.out HB.out)
        go_wp2_with (first
          | (refine wpList_store_row rfl 26 _ _ rfl w.heap.size #[.int .i64 6, .string ⟨#[]⟩, .string ⟨#[]⟩, .slice a3 l.length c3, .int .i64 0, .slice none 0 0, .int .i64 0, .string ⟨#[]⟩] rfl rfl 26 _ HRES.out (by kernel_rfl) rfl (by first | kernel_rfl | simp [Value.oneCell']) ?_)
          | fail)
        try simp only [Exit.inBlock, Exit.then]
        refine bodyPost_ret (v := .tuple #[.agg #[.int .i64 6, .string ⟨#[]⟩, .string ⟨#[]⟩, .slice a3 l.length c3, .int .i64 0, .slice none 0 0, .int .i64 0, .string ⟨#[]⟩], .int .i64 (0)]) ?_ (by rfl) ?_
        · exact results_row2 Tryd.results18 _ _ w.heap.size 26 _ (0, 0) _ _ rfl rfl (setRow_heap _ _ _ _ _ _ HRES.out) Tryd.underlying26 rfl (by kernel_rfl)
        · refine ⟨a3, c3, none, 0, ?_, ?_⟩
          · rw [HQ.out.1, HQ.out.2]; rfl
          · rw [HQ.out.1]
            have hbt : But w.heap.size W (W.setRow w.heap.size #[.int .i64 6, .string ⟨#[]⟩, .string ⟨#[]⟩, .slice a3 l.length c3, .int .i64 0, .slice none 0 0, .int .i64 0, .string ⟨#[]⟩]) := But.setRow _ _ _
            have hbl := bbut (HW0.out.trans (HB.out.mono HW0.out.size)) hbt (Nat.le_refl _)
            exact ⟨HRB.out.row.keep fun b hb => hbt.block b (by have := HRB.out.new b hb; have := HS0.out; omega) (HRB.out.row.lt hb), fun b hb => by have := HRB.out.new b hb; have := HS0.out; omega, Row.nil _ _, fun b hb => by simp [Tp.nil, Value.ownBlock] at hb, hbl⟩
      · have HQ : Hid (decQ zs = Tp.nil ∧ decE zs = chE 0 r) := dec_er_of (HDEC.out.trans (by rw [hdec rfl]))
        clear HDEC hdec H4 HSZ3
        generalize chE 0 r = er at *
        have hbn : (er != 0) = true := by simpa using hne
        have HRES := hid (kept HR0.out HB.out)
        go_wp2_with (first
          | (refine wpList_store_row rfl 26 _ _ rfl w.heap.size #[.int .i64 0, .string ⟨#[]⟩, .string ⟨#[]⟩, .slice none 0 0, .int .i64 0, .slice none 0 0, .int .i64 0, .string ⟨#[]⟩] rfl rfl 26 _ HRES.out (by kernel_rfl) rfl (by first | kernel_rfl | simp [Value.oneCell']) ?_)
          | fail)
        try simp only [Exit.inBlock, Exit.then]
        refine bodyPost_ret (v := .tuple #[.agg #[.int .i64 0, .string ⟨#[]⟩, .string ⟨#[]⟩, .slice none 0 0, .int .i64 0, .slice none 0 0, .int .i64 0, .string ⟨#[]⟩], .int .i64 (er)]) ?_ (by rfl) ?_
        · exact results_row2 Tryd.results18 _ _ w.heap.size 26 _ (0, 0) _ _ rfl rfl (setRow_heap _ _ _ _ _ _ HRES.out) Tryd.underlying26 rfl (by kernel_rfl)
        · refine ⟨none, 0, none, 0, ?_, ?_⟩
          · rw [HQ.out.1, HQ.out.2]; rfl
          · rw [HQ.out.1]
            have hbt : But w.heap.size W (W.setRow w.heap.size #[.int .i64 0, .string ⟨#[]⟩, .string ⟨#[]⟩, .slice none 0 0, .int .i64 0, .slice none 0 0, .int .i64 0, .string ⟨#[]⟩]) := But.setRow _ _ _
            have hbl := bbut (HW0.out.trans (HB.out.mono HW0.out.size)) hbt (Nat.le_refl _)
            exact dcO_nil hbl
  by_cases o4 : op = 4
  · as_aux_lemma =>
      subst o4
      rw [if_neg (by omega), if_neg (by omega), if_pos (by omega)] at HDEC
      by_cases hs2 : r.length < 2
      · have HQ := hid (dec_er_of (HDEC.out.trans (show decNu 4 r = .error 5 from by unfold decNu; rw [if_pos hs2])))
        have hs' : (r.length : Int) < 2 := by omega
        clear HDEC HPR HBR
        generalize r.length = nr at *
        have HRES := hid (kept HR0.out HB.out)
        go_wp2_with (first
          | (refine wpList_store_row rfl 26 _ _ rfl w.heap.size #[.int .i64 0, .string ⟨#[]⟩, .string ⟨#[]⟩, .slice none 0 0, .int .i64 0, .slice none 0 0, .int .i64 0, .string ⟨#[]⟩] rfl rfl 26 _ HRES.out (by kernel_rfl) rfl (by first | kernel_rfl | simp [Value.oneCell']) ?_)
          | fail)
        try simp only [Exit.inBlock, Exit.then]
        refine bodyPost_ret (v := .tuple #[.agg #[.int .i64 0, .string ⟨#[]⟩, .string ⟨#[]⟩, .slice none 0 0, .int .i64 0, .slice none 0 0, .int .i64 0, .string ⟨#[]⟩], .int .i64 (5)]) ?_ (by rfl) ?_
        · exact results_row2 Tryd.results18 _ _ w.heap.size 26 _ (0, 0) _ _ rfl rfl (setRow_heap _ _ _ _ _ _ HRES.out) Tryd.underlying26 rfl (by kernel_rfl)
        · refine ⟨none, 0, none, 0, ?_, ?_⟩
          · rw [HQ.out.1, HQ.out.2]; rfl
          · rw [HQ.out.1]
            have hbt : But w.heap.size W1 (W1.setRow w.heap.size #[.int .i64 0, .string ⟨#[]⟩, .string ⟨#[]⟩, .slice none 0 0, .int .i64 0, .slice none 0 0, .int .i64 0, .string ⟨#[]⟩]) := But.setRow _ _ _
            have hbl := bbut (HW0.out.trans (HB.out.mono HW0.out.size)) hbt (Nat.le_refl _)
            exact dcO_nil hbl
      obtain ⟨a3, c3, hsl, hp3⟩ := from_two ⟨a2, c2, r⟩ (by simp only; omega)
      have HP3 := hid (hp3 W1 HPR.out)
      have hrl : (r.drop 2).length = r.length - 2 := by simp
      simp only [Part.val] at hsl
      rw [← hrl] at hsl
      have HPB := HPR
      clear HPR hp3
      have HNU : Hid (decNu 4 r = if 4 = 4 then .ok { Tp.nil with op := 4, bk := be2 r } else if 4 = 3 then (if 65464 < (r.drop 2).length then .error 2 else .ok { Tp.nil with op := 3, bk := be2 r, da := r.drop 2 }) else match cutG (r.drop 2) with | none => .error 5 | some (s, _) => if 255 < s.length then .error 2 else .ok { Tp.nil with op := 5, cd := be2 r, tx := strOfNums s }) := by
        unfold Hid decNu; rw [if_neg hs2]; rfl
      have HNU := hid (HDEC.out.trans HNU.out)
      have HBD3 := hid (drop_bd HBR.out 2)
      obtain ⟨nr, hnr⟩ : ∃ nr, nr = r.length := ⟨_, rfl⟩
      obtain ⟨r2, hr2⟩ : ∃ r2, r2 = r.drop 2 := ⟨_, rfl⟩
      rw [← hr2] at hsl HP3 HNU hrl HBD3
      rw [← hnr] at hsl hrl hs2 hrb ⊢
      have hr2b : r2.length ≤ 140737488353280 := by omega
      clear HDEC HBR hr2 hrl
      obtain ⟨bB, oB, haB, k0, k1⟩ := two_cells HPB.out (by simp only; rw [← hnr]; omega)
      simp only at haB k0 k1
      subst haB
      have z0 := getD_mem_bd HPB.out.1 0
      have z1 := getD_mem_bd HPB.out.1 1
      have HOPB : Hid (be2 r = (r).getD 0 0 * 256 + (r).getD 1 0) := rfl
      generalize (r).getD 0 0 = y0 at *
      generalize (r).getD 1 0 = y1 at *
      have i0 : (0 : Int) < (nr : Int) := by omega
      have i0n : 0 < nr := by omega
      have i0m : ¬ nr = 0 := by omega
      have i1 : (1 : Int) < (nr : Int) := by omega
      have i2 : (2 : Int) ≤ (nr : Int) := by omega
      have e4 : IntKind.i64.wrap (IntKind.i64.wrap (IntKind.i64.wrap y0 * 256) + IntKind.i64.wrap y1) = y0 * 256 + y1 := by simp only [IntKind.wrap_i64]; omega
      have f4 : IntKind.i64.wrap y0 = y0 := by simp only [IntKind.wrap_i64]; omega
      have f5 : IntKind.i64.wrap y1 = y1 := by simp only [IntKind.wrap_i64]; omega
      have g4 : IntKind.i64.wrap (y0 * 256) = y0 * 256 := by simp only [IntKind.wrap_i64]; omega
      have g45 : IntKind.i64.wrap (y0 * 256 + y1) = y0 * 256 + y1 := by simp only [IntKind.wrap_i64]; omega
      have hs' : ¬ (nr : Int) < 2 := by omega
      clear hnr
      go_upto_region 19 with fail
      go_quiet (fail)
      rw [HOPB.out] at HNU
      have HBQ : Hid (Below W0.heap.size W0 (W1.drewN nq)) := bstep HB.out (bdrewT W1 nq)
      have HPQ := hid (Part.ok_below HP3.out (bdrewT W1 nq))
      clear k0 k1 e4 f4 f5 g4 g45 i0 i0n i0m i1 i2 HP3 HPB HOPB HB
      have HB := HBQ
      clear HBQ
      generalize y0 * 256 + y1 = nb at *
      generalize W1.drewN nq = W2 at *
      clear z0 z1
      go_upto_region 21 with fail
      clear hsl hs'
      have HQ := hid (dec_ok_of (HNU.out.trans (if_pos rfl)))
      clear HNU HPQ HBD3
      have HRES := hid (kept HR0.out HB.out)
      go_wp2_with (first
        | (refine wpList_store_row rfl 26 _ _ rfl w.heap.size #[.int .i64 4, .string ⟨#[]⟩, .string ⟨#[]⟩, .slice none 0 0, .int .i64 nb, .slice none 0 0, .int .i64 0, .string ⟨#[]⟩] rfl rfl 26 _ HRES.out (by kernel_rfl) rfl (by first | kernel_rfl | simp [Value.oneCell']) ?_)
        | fail)
      try simp only [Exit.inBlock, Exit.then]
      refine bodyPost_ret (v := .tuple #[.agg #[.int .i64 4, .string ⟨#[]⟩, .string ⟨#[]⟩, .slice none 0 0, .int .i64 nb, .slice none 0 0, .int .i64 0, .string ⟨#[]⟩], .int .i64 (0)]) ?_ (by rfl) ?_
      · exact results_row2 Tryd.results18 _ _ w.heap.size 26 _ (0, 0) _ _ rfl rfl (setRow_heap _ _ _ _ _ _ HRES.out) Tryd.underlying26 rfl (by kernel_rfl)
      · refine ⟨none, 0, none, 0, ?_, ?_⟩
        · rw [HQ.out.1, HQ.out.2]; rfl
        · rw [HQ.out.1]
          have hbt : But w.heap.size W2 (W2.setRow w.heap.size #[.int .i64 4, .string ⟨#[]⟩, .string ⟨#[]⟩, .slice none 0 0, .int .i64 nb, .slice none 0 0, .int .i64 0, .string ⟨#[]⟩]) := But.setRow _ _ _
          have hbl := bbut (HW0.out.trans (HB.out.mono HW0.out.size)) hbt (Nat.le_refl _)
          exact ⟨RowS.nil _ _ _, fun b hb => by simp [Tp.nil, Value.ownBlock] at hb, Row.nil _ _, fun b hb => by simp [Tp.nil, Value.ownBlock] at hb, hbl⟩
  by_cases o3 : op = 3
  · as_aux_lemma =>
      subst o3
      rw [if_neg (by omega), if_neg (by omega), if_pos (by omega)] at HDEC
      by_cases hs2 : r.length < 2
      · have HQ := hid (dec_er_of (HDEC.out.trans (show decNu 3 r = .error 5 from by unfold decNu; rw [if_pos hs2])))
        have hs' : (r.length : Int) < 2 := by omega
        clear HDEC HPR HBR
        generalize r.length = nr at *
        have HRES := hid (kept HR0.out HB.out)
        go_wp2_with (first
          | (refine wpList_store_row rfl 26 _ _ rfl w.heap.size #[.int .i64 0, .string ⟨#[]⟩, .string ⟨#[]⟩, .slice none 0 0, .int .i64 0, .slice none 0 0, .int .i64 0, .string ⟨#[]⟩] rfl rfl 26 _ HRES.out (by kernel_rfl) rfl (by first | kernel_rfl | simp [Value.oneCell']) ?_)
          | fail)
        try simp only [Exit.inBlock, Exit.then]
        refine bodyPost_ret (v := .tuple #[.agg #[.int .i64 0, .string ⟨#[]⟩, .string ⟨#[]⟩, .slice none 0 0, .int .i64 0, .slice none 0 0, .int .i64 0, .string ⟨#[]⟩], .int .i64 (5)]) ?_ (by rfl) ?_
        · exact results_row2 Tryd.results18 _ _ w.heap.size 26 _ (0, 0) _ _ rfl rfl (setRow_heap _ _ _ _ _ _ HRES.out) Tryd.underlying26 rfl (by kernel_rfl)
        · refine ⟨none, 0, none, 0, ?_, ?_⟩
          · rw [HQ.out.1, HQ.out.2]; rfl
          · rw [HQ.out.1]
            have hbt : But w.heap.size W1 (W1.setRow w.heap.size #[.int .i64 0, .string ⟨#[]⟩, .string ⟨#[]⟩, .slice none 0 0, .int .i64 0, .slice none 0 0, .int .i64 0, .string ⟨#[]⟩]) := But.setRow _ _ _
            have hbl := bbut (HW0.out.trans (HB.out.mono HW0.out.size)) hbt (Nat.le_refl _)
            exact dcO_nil hbl
      obtain ⟨a3, c3, hsl, hp3⟩ := from_two ⟨a2, c2, r⟩ (by simp only; omega)
      have HP3 := hid (hp3 W1 HPR.out)
      have hrl : (r.drop 2).length = r.length - 2 := by simp
      simp only [Part.val] at hsl
      rw [← hrl] at hsl
      have HPB := HPR
      clear HPR hp3
      have HNU : Hid (decNu 3 r = if 3 = 4 then .ok { Tp.nil with op := 4, bk := be2 r } else if 3 = 3 then (if 65464 < (r.drop 2).length then .error 2 else .ok { Tp.nil with op := 3, bk := be2 r, da := r.drop 2 }) else match cutG (r.drop 2) with | none => .error 5 | some (s, _) => if 255 < s.length then .error 2 else .ok { Tp.nil with op := 5, cd := be2 r, tx := strOfNums s }) := by
        unfold Hid decNu; rw [if_neg hs2]; rfl
      have HNU := hid (HDEC.out.trans HNU.out)
      have HBD3 := hid (drop_bd HBR.out 2)
      obtain ⟨nr, hnr⟩ : ∃ nr, nr = r.length := ⟨_, rfl⟩
      obtain ⟨r2, hr2⟩ : ∃ r2, r2 = r.drop 2 := ⟨_, rfl⟩
      rw [← hr2] at hsl HP3 HNU hrl HBD3
      rw [← hnr] at hsl hrl hs2 hrb ⊢
      have hr2b : r2.length ≤ 140737488353280 := by omega
      clear HDEC HBR hr2 hrl
      obtain ⟨bB, oB, haB, k0, k1⟩ := two_cells HPB.out (by simp only; rw [← hnr]; omega)
      simp only at haB k0 k1
      subst haB
      have z0 := getD_mem_bd HPB.out.1 0
      have z1 := getD_mem_bd HPB.out.1 1
      have HOPB : Hid (be2 r = (r).getD 0 0 * 256 + (r).getD 1 0) := rfl
      generalize (r).getD 0 0 = y0 at *
      generalize (r).getD 1 0 = y1 at *
      have i0 : (0 : Int) < (nr : Int) := by omega
      have i0n : 0 < nr := by omega
      have i0m : ¬ nr = 0 := by omega
      have i1 : (1 : Int) < (nr : Int) := by omega
      have i2 : (2 : Int) ≤ (nr : Int) := by omega
      have e4 : IntKind.i64.wrap (IntKind.i64.wrap (IntKind.i64.wrap y0 * 256) + IntKind.i64.wrap y1) = y0 * 256 + y1 := by simp only [IntKind.wrap_i64]; omega
      have f4 : IntKind.i64.wrap y0 = y0 := by simp only [IntKind.wrap_i64]; omega
      have f5 : IntKind.i64.wrap y1 = y1 := by simp only [IntKind.wrap_i64]; omega
      have g4 : IntKind.i64.wrap (y0 * 256) = y0 * 256 := by simp only [IntKind.wrap_i64]; omega
      have g45 : IntKind.i64.wrap (y0 * 256 + y1) = y0 * 256 + y1 := by simp only [IntKind.wrap_i64]; omega
      have hs' : ¬ (nr : Int) < 2 := by omega
      clear hnr
      go_upto_region 19 with fail
      go_quiet (fail)
      rw [HOPB.out] at HNU
      have HBQ : Hid (Below W0.heap.size W0 (W1.drewN nq)) := bstep HB.out (bdrewT W1 nq)
      have HPQ := hid (Part.ok_below HP3.out (bdrewT W1 nq))
      clear k0 k1 e4 f4 f5 g4 g45 i0 i0n i0m i1 i2 HP3 HPB HOPB HB
      have HB := HBQ
      clear HBQ
      generalize y0 * 256 + y1 = nb at *
      generalize W1.drewN nq = W2 at *
      clear z0 z1
      go_upto_region 21 with fail
      clear hsl hs'
      by_cases hx : 65464 < r2.length
      · have HQ := hid (dec_er_of (HNU.out.trans (by rw [if_neg (by omega), if_pos rfl, if_pos hx])))
        have q1 : (65464 : Int) < (r2.length : Int) := by omega
        clear HNU HPQ HBD3
        generalize r2.length = n2 at *
        have HRES := hid (kept HR0.out HB.out)
        go_wp2_with (first
          | (refine wpList_store_row rfl 26 _ _ rfl w.heap.size #[.int .i64 0, .string ⟨#[]⟩, .string ⟨#[]⟩, .slice none 0 0, .int .i64 0, .slice none 0 0, .int .i64 0, .string ⟨#[]⟩] rfl rfl 26 _ HRES.out (by kernel_rfl) rfl (by first | kernel_rfl | simp [Value.oneCell']) ?_)
          | fail)
        try simp only [Exit.inBlock, Exit.then]
        refine bodyPost_ret (v := .tuple #[.agg #[.int .i64 0, .string ⟨#[]⟩, .string ⟨#[]⟩, .slice none 0 0, .int .i64 0, .slice none 0 0, .int .i64 0, .string ⟨#[]⟩], .int .i64 (2)]) ?_ (by rfl) ?_
        · exact results_row2 Tryd.results18 _ _ w.heap.size 26 _ (0, 0) _ _ rfl rfl (setRow_heap _ _ _ _ _ _ HRES.out) Tryd.underlying26 rfl (by kernel_rfl)
        · refine ⟨none, 0, none, 0, ?_, ?_⟩
          · rw [HQ.out.1, HQ.out.2]; rfl
          · rw [HQ.out.1]
            have hbt : But w.heap.size W2 (W2.setRow w.heap.size #[.int .i64 0, .string ⟨#[]⟩, .string ⟨#[]⟩, .slice none 0 0, .int .i64 0, .slice none 0 0, .int .i64 0, .string ⟨#[]⟩]) := But.setRow _ _ _
            have hbl := bbut (HW0.out.trans (HB.out.mono HW0.out.size)) hbt (Nat.le_refl _)
            exact dcO_nil hbl
      have HQ := hid (dec_ok_of (HNU.out.trans (by rw [if_neg (by omega), if_pos rfl, if_neg hx])))
      have q1 : ¬ (65464 : Int) < (r2.length : Int) := by omega
      have CA := hid (refAdd_nil ⟨a3, c3, r2⟩ W2 HPQ.out (by simp only; omega))
      simp only [Part.val] at CA
      have HSZ : Hid (W0.heap.size ≤ W2.heap.size) := HB.out.size
      have HB2 := HB
      clear HNU HPQ HBD3 HB
      obtain ⟨n2, hn2⟩ : ∃ n2, n2 = r2.length := ⟨_, rfl⟩
      have HN2 := hid hn2
      rw [← hn2] at CA q1 hx hr2b ⊢
      clear hn2
      have CA2 : Hid (Calls Tryd.prog 36 #[.slice none 0 0, .slice a3 n2 c3] W2 fun e w' => ∃ a c, e = .returned (.slice a n2 c) ∧ Hid (Row w' 5 (.slice a n2 c) (u8s r2) ∧ (∀ b, (Value.slice a n2 c).ownBlock = some b → W0.heap.size ≤ b) ∧ Below W2.heap.size W2 w')) := by
        refine CA.out.mono ?_
        rintro e w' ⟨a, n, c, rfl, h1⟩
        obtain ⟨h2, h3, h4⟩ := h1.out
        obtain ⟨a', c', e, _⟩ := h2.form
        rw [u8s_len, ← HN2.out] at e
        simp only [Value.slice.injEq] at e
        obtain ⟨rfl, rfl, rfl⟩ := e
        exact ⟨_, _, rfl, h2, fun b hb => Nat.le_trans HSZ.out (h3 b hb), h4⟩
      clear CA
      go_upto_region 27 with fail
      go_wp2_with (first
        | (go_at_call 36; refine CA2.out.mono ?_; rintro e W ⟨a9, c9, rfl, HDA⟩; have HB := hid (bstep HB2.out HDA.out.2.2); have HRES := hid (kept HR0.out HB.out))
        | (refine wpList_store_row rfl 26 _ _ rfl w.heap.size #[.int .i64 3, .string ⟨#[]⟩, .string ⟨#[]⟩, .slice none 0 0, .int .i64 nb, .slice a9 n2 c9, .int .i64 0, .string ⟨#[]⟩] rfl rfl 26 _ HRES.out (by kernel_rfl) rfl (by first | kernel_rfl | simp [Value.oneCell']) ?_)
        | fail)
      try simp only [Exit.inBlock, Exit.then]
      refine bodyPost_ret (v := .tuple #[.agg #[.int .i64 3, .string ⟨#[]⟩, .string ⟨#[]⟩, .slice none 0 0, .int .i64 nb, .slice a9 n2 c9, .int .i64 0, .string ⟨#[]⟩], .int .i64 (0)]) ?_ (by rfl) ?_
      · exact results_row2 Tryd.results18 _ _ w.heap.size 26 _ (0, 0) _ _ rfl rfl (setRow_heap _ _ _ _ _ _ HRES.out) Tryd.underlying26 rfl (by kernel_rfl)
      · refine ⟨none, 0, a9, c9, ?_, ?_⟩
        · rw [HQ.out.1, HQ.out.2, HN2.out]; rfl
        · rw [HQ.out.1]
          have hbt : But w.heap.size W (W.setRow w.heap.size #[.int .i64 3, .string ⟨#[]⟩, .string ⟨#[]⟩, .slice none 0 0, .int .i64 nb, .slice a9 n2 c9, .int .i64 0, .string ⟨#[]⟩]) := But.setRow _ _ _
          have hbl := bbut (HW0.out.trans (HB.out.mono HW0.out.size)) hbt (Nat.le_refl _)
          have hh := HN2.out
          subst hh
          exact ⟨RowS.nil _ _ _, fun b hb => by simp [Tp.nil, Value.ownBlock] at hb, HDA.out.1.but hbt fun b hb => by have := HDA.out.2.1 b hb; have := HS0.out; omega, fun b hb => by have := HDA.out.2.1 b hb; have := HS0.out; omega, hbl⟩
  by_cases o5 : op = 5
  · as_aux_lemma =>
      subst o5
      rw [if_neg (by omega), if_neg (by omega), if_pos (by omega)] at HDEC
      by_cases hs2 : r.length < 2
      · have HQ := hid (dec_er_of (HDEC.out.trans (show decNu 5 r = .error 5 from by unfold decNu; rw [if_pos hs2])))
        have hs' : (r.length : Int) < 2 := by omega
        clear HDEC HPR HBR
        generalize r.length = nr at *
        have HRES := hid (kept HR0.out HB.out)
        go_wp2_with (first
          | (refine wpList_store_row rfl 26 _ _ rfl w.heap.size #[.int .i64 0, .string ⟨#[]⟩, .string ⟨#[]⟩, .slice none 0 0, .int .i64 0, .slice none 0 0, .int .i64 0, .string ⟨#[]⟩] rfl rfl 26 _ HRES.out (by kernel_rfl) rfl (by first | kernel_rfl | simp [Value.oneCell']) ?_)
          | fail)
        try simp only [Exit.inBlock, Exit.then]
        refine bodyPost_ret (v := .tuple #[.agg #[.int .i64 0, .string ⟨#[]⟩, .string ⟨#[]⟩, .slice none 0 0, .int .i64 0, .slice none 0 0, .int .i64 0, .string ⟨#[]⟩], .int .i64 (5)]) ?_ (by rfl) ?_
        · exact results_row2 Tryd.results18 _ _ w.heap.size 26 _ (0, 0) _ _ rfl rfl (setRow_heap _ _ _ _ _ _ HRES.out) Tryd.underlying26 rfl (by kernel_rfl)
        · refine ⟨none, 0, none, 0, ?_, ?_⟩
          · rw [HQ.out.1, HQ.out.2]; rfl
          · rw [HQ.out.1]
            have hbt : But w.heap.size W1 (W1.setRow w.heap.size #[.int .i64 0, .string ⟨#[]⟩, .string ⟨#[]⟩, .slice none 0 0, .int .i64 0, .slice none 0 0, .int .i64 0, .string ⟨#[]⟩]) := But.setRow _ _ _
            have hbl := bbut (HW0.out.trans (HB.out.mono HW0.out.size)) hbt (Nat.le_refl _)
            exact dcO_nil hbl
      obtain ⟨a3, c3, hsl, hp3⟩ := from_two ⟨a2, c2, r⟩ (by simp only; omega)
      have HP3 := hid (hp3 W1 HPR.out)
      have hrl : (r.drop 2).length = r.length - 2 := by simp
      simp only [Part.val] at hsl
      rw [← hrl] at hsl
      have HPB := HPR
      clear HPR hp3
      have HNU : Hid (decNu 5 r = if 5 = 4 then .ok { Tp.nil with op := 4, bk := be2 r } else if 5 = 3 then (if 65464 < (r.drop 2).length then .error 2 else .ok { Tp.nil with op := 3, bk := be2 r, da := r.drop 2 }) else match cutG (r.drop 2) with | none => .error 5 | some (s, _) => if 255 < s.length then .error 2 else .ok { Tp.nil with op := 5, cd := be2 r, tx := strOfNums s }) := by
        unfold Hid decNu; rw [if_neg hs2]; rfl
      have HNU := hid (HDEC.out.trans HNU.out)
      have HBD3 := hid (drop_bd HBR.out 2)
      obtain ⟨nr, hnr⟩ : ∃ nr, nr = r.length := ⟨_, rfl⟩
      obtain ⟨r2, hr2⟩ : ∃ r2, r2 = r.drop 2 := ⟨_, rfl⟩
      rw [← hr2] at hsl HP3 HNU hrl HBD3
      rw [← hnr] at hsl hrl hs2 hrb ⊢
      have hr2b : r2.length ≤ 140737488353280 := by omega
      clear HDEC HBR hr2 hrl
      obtain ⟨bB, oB, haB, k0, k1⟩ := two_cells HPB.out (by simp only; rw [← hnr]; omega)
      simp only at haB k0 k1
      subst haB
      have z0 := getD_mem_bd HPB.out.1 0
      have z1 := getD_mem_bd HPB.out.1 1
      have HOPB : Hid (be2 r = (r).getD 0 0 * 256 + (r).getD 1 0) := rfl
      generalize (r).getD 0 0 = y0 at *
      generalize (r).getD 1 0 = y1 at *
      have i0 : (0 : Int) < (nr : Int) := by omega
      have i0n : 0 < nr := by omega
      have i0m : ¬ nr = 0 := by omega
      have i1 : (1 : Int) < (nr : Int) := by omega
      have i2 : (2 : Int) ≤ (nr : Int) := by omega
      have e4 : IntKind.i64.wrap (IntKind.i64.wrap (IntKind.i64.wrap y0 * 256) + IntKind.i64.wrap y1) = y0 * 256 + y1 := by simp only [IntKind.wrap_i64]; omega
      have f4 : IntKind.i64.wrap y0 = y0 := by simp only [IntKind.wrap_i64]; omega
      have f5 : IntKind.i64.wrap y1 = y1 := by simp only [IntKind.wrap_i64]; omega
      have g4 : IntKind.i64.wrap (y0 * 256) = y0 * 256 := by simp only [IntKind.wrap_i64]; omega
      have g45 : IntKind.i64.wrap (y0 * 256 + y1) = y0 * 256 + y1 := by simp only [IntKind.wrap_i64]; omega
      have hs' : ¬ (nr : Int) < 2 := by omega
      clear hnr
      go_upto_region 19 with fail
      go_quiet (fail)
      rw [HOPB.out] at HNU
      have HBQ : Hid (Below W0.heap.size W0 (W1.drewN nq)) := bstep HB.out (bdrewT W1 nq)
      have HPQ := hid (Part.ok_below HP3.out (bdrewT W1 nq))
      clear k0 k1 e4 f4 f5 g4 g45 i0 i0n i0m i1 i2 HP3 HPB HOPB HB
      have HB := HBQ
      clear HBQ
      generalize y0 * 256 + y1 = nb at *
      generalize W1.drewN nq = W2 at *
      clear z0 z1
      go_upto_region 21 with fail
      clear hsl hs'
      have HB2 := HB
      clear HB
      cases hcg : cutG r2 with
      | none =>
        have HQ := hid (dec_er_of (HNU.out.trans (by rw [if_neg (by omega), if_neg (by omega), hcg])))
        have CC := hid (rcut_no ⟨a3, c3, r2⟩ W2 HPQ.out (by simp only; omega) hcg)
        simp only [Part.val] at CC
        clear HNU HPQ HBD3 hcg
        generalize r2.length = n2 at *
        go_upto_region 29 with (first
          | (go_at_call 48; refine CC.out.mono ?_; go_loud (rintro e W ⟨rfl, q1, hW⟩; have HB := hid (bdT HB2.out hW); clear hW CC))
          | fail)
        have HRES := hid (kept HR0.out HB.out)
        go_wp2_with (first
          | (refine wpList_store_row rfl 26 _ _ rfl w.heap.size #[.int .i64 0, .string ⟨#[]⟩, .string ⟨#[]⟩, .slice none 0 0, .int .i64 0, .slice none 0 0, .int .i64 0, .string ⟨#[]⟩] rfl rfl 26 _ HRES.out (by kernel_rfl) rfl (by first | kernel_rfl | simp [Value.oneCell']) ?_)
          | fail)
        try simp only [Exit.inBlock, Exit.then]
        refine bodyPost_ret (v := .tuple #[.agg #[.int .i64 0, .string ⟨#[]⟩, .string ⟨#[]⟩, .slice none 0 0, .int .i64 0, .slice none 0 0, .int .i64 0, .string ⟨#[]⟩], .int .i64 (5)]) ?_ (by rfl) ?_
        · exact results_row2 Tryd.results18 _ _ w.heap.size 26 _ (0, 0) _ _ rfl rfl (setRow_heap _ _ _ _ _ _ HRES.out) Tryd.underlying26 rfl (by kernel_rfl)
        · refine ⟨none, 0, none, 0, ?_, ?_⟩
          · rw [HQ.out.1, HQ.out.2]; rfl
          · rw [HQ.out.1]
            have hbt : But w.heap.size W (W.setRow w.heap.size #[.int .i64 0, .string ⟨#[]⟩, .string ⟨#[]⟩, .slice none 0 0, .int .i64 0, .slice none 0 0, .int .i64 0, .string ⟨#[]⟩]) := But.setRow _ _ _
            have hbl := bbut (HW0.out.trans (HB.out.mono HW0.out.size)) hbt (Nat.le_refl _)
            exact dcO_nil hbl
      | some x =>
        obtain ⟨t, u⟩ := x
        have CC := hid (rcut_yes ⟨a3, c3, r2⟩ W2 W2 HPQ.out (Below.refl _ _) (by simp only; omega) hcg)
        simp only [Part.val] at CC
        have hts : (strOfNums t).size = t.length := strOfNums_size t
        by_cases hx : 255 < t.length
        · have HQ := hid (dec_er_of (HNU.out.trans (by rw [if_neg (by omega), if_neg (by omega), hcg]; simp only; rw [if_pos hx])))
          have q1 : (255 : Int) < ((strOfNums t).size : Int) := by omega
          clear HNU HPQ HBD3 hcg hts
          generalize strOfNums t = S at *
          generalize r2.length = n2 at *
          go_upto_region 31 with (first
            | (go_at_call 48; refine CC.out.mono ?_; go_loud (rintro e W ⟨a9, c9, rfl, H9⟩; have HB := hid (bstep HB2.out H9.out.2); clear CC))
            | fail)
          have HRES := hid (kept HR0.out HB.out)
          go_wp2_with (first
            | (refine wpList_store_row rfl 26 _ _ rfl w.heap.size #[.int .i64 0, .string ⟨#[]⟩, .string ⟨#[]⟩, .slice none 0 0, .int .i64 0, .slice none 0 0, .int .i64 0, .string ⟨#[]⟩] rfl rfl 26 _ HRES.out (by kernel_rfl) rfl (by first | kernel_rfl | simp [Value.oneCell']) ?_)
            | fail)
          try simp only [Exit.inBlock, Exit.then]
          refine bodyPost_ret (v := .tuple #[.agg #[.int .i64 0, .string ⟨#[]⟩, .string ⟨#[]⟩, .slice none 0 0, .int .i64 0, .slice none 0 0, .int .i64 0, .string ⟨#[]⟩], .int .i64 (2)]) ?_ (by rfl) ?_
          · exact results_row2 Tryd.results18 _ _ w.heap.size 26 _ (0, 0) _ _ rfl rfl (setRow_heap _ _ _ _ _ _ HRES.out) Tryd.underlying26 rfl (by kernel_rfl)
          · refine ⟨none, 0, none, 0, ?_, ?_⟩
            · rw [HQ.out.1, HQ.out.2]; rfl
            · rw [HQ.out.1]
              have hbt : But w.heap.size W (W.setRow w.heap.size #[.int .i64 0, .string ⟨#[]⟩, .string ⟨#[]⟩, .slice none 0 0, .int .i64 0, .slice none 0 0, .int .i64 0, .string ⟨#[]⟩]) := But.setRow _ _ _
              have hbl := bbut (HW0.out.trans (HB.out.mono HW0.out.size)) hbt (Nat.le_refl _)
              exact dcO_nil hbl
        · have HQ := hid (dec_ok_of (HNU.out.trans (by rw [if_neg (by omega), if_neg (by omega), hcg]; simp only; rw [if_neg hx])))
          have q1 : ¬ (255 : Int) < ((strOfNums t).size : Int) := by omega
          clear HNU HPQ HBD3 hcg hts
          generalize strOfNums t = S at *
          generalize r2.length = n2 at *
          go_upto_region 31 with (first
            | (go_at_call 48; refine CC.out.mono ?_; go_loud (rintro e W ⟨a9, c9, rfl, H9⟩; have HB := hid (bstep HB2.out H9.out.2); clear CC))
            | fail)
          have HRES := hid (kept HR0.out HB.out)
          go_wp2_with (first
            | (refine wpList_store_row rfl 26 _ _ rfl w.heap.size #[.int .i64 5, .string ⟨#[]⟩, .string ⟨#[]⟩, .slice none 0 0, .int .i64 0, .slice none 0 0, .int .i64 nb, .string S] rfl rfl 26 _ HRES.out (by kernel_rfl) rfl (by first | kernel_rfl | simp [Value.oneCell']) ?_)
            | fail)
          try simp only [Exit.inBlock, Exit.then]
          refine bodyPost_ret (v := .tuple #[.agg #[.int .i64 5, .string ⟨#[]⟩, .string ⟨#[]⟩, .slice none 0 0, .int .i64 0, .slice none 0 0, .int .i64 nb, .string S], .int .i64 (0)]) ?_ (by rfl) ?_
          · exact results_row2 Tryd.results18 _ _ w.heap.size 26 _ (0, 0) _ _ rfl rfl (setRow_heap _ _ _ _ _ _ HRES.out) Tryd.underlying26 rfl (by kernel_rfl)
          · refine ⟨none, 0, none, 0, ?_, ?_⟩
            · rw [HQ.out.1, HQ.out.2]; rfl
            · rw [HQ.out.1]
              have hbt : But w.heap.size W (W.setRow w.heap.size #[.int .i64 5, .string ⟨#[]⟩, .string ⟨#[]⟩, .slice none 0 0, .int .i64 0, .slice none 0 0, .int .i64 nb, .string S]) := But.setRow _ _ _
              have hbl := bbut (HW0.out.trans (HB.out.mono HW0.out.size)) hbt (Nat.le_refl _)
              exact ⟨RowS.nil _ _ _, fun b hb => by simp [Tp.nil, Value.ownBlock] at hb, Row.nil _ _, fun b hb => by simp [Tp.nil, Value.ownBlock] at hb, hbl⟩
  rw [if_neg o1, if_neg o6, if_neg (by omega)] at HDEC
  have HQ := hid (dec_er_of HDEC.out)
  have b1 : (op == 1) = false := by simpa using o1
  have b3 : (op == 3) = false := by simpa using o3
  have b4 : (op == 4) = false := by simpa using o4
  have b5 : (op == 5) = false := by simpa using o5
  have b6 : (op == 6) = false := by simpa using o6
  clear o1 o3 o4 o5 o6 HDEC HPR HBR
  have HRES := hid (kept HR0.out HB.out)
  go_wp2_with (first
    | (refine wpList_store_row rfl 26 _ _ rfl w.heap.size #[.int .i64 0, .string ⟨#[]⟩, .string ⟨#[]⟩, .slice none 0 0, .int .i64 0, .slice none 0 0, .int .i64 0, .string ⟨#[]⟩] rfl rfl 26 _ HRES.out (by kernel_rfl) rfl (by first | kernel_rfl | simp [Value.oneCell']) ?_)
    | fail)
  try simp only [Exit.inBlock, Exit.then]
  refine bodyPost_ret (v := .tuple #[.agg #[.int .i64 0, .string ⟨#[]⟩, .string ⟨#[]⟩, .slice none 0 0, .int .i64 0, .slice none 0 0, .int .i64 0, .string ⟨#[]⟩], .int .i64 (170)]) ?_ (by rfl) ?_
  · exact results_row2 Tryd.results18 _ _ w.heap.size 26 _ (0, 0) _ _ rfl rfl (setRow_heap _ _ _ _ _ _ HRES.out) Tryd.underlying26 rfl (by kernel_rfl)
  · refine ⟨none, 0, none, 0, ?_, ?_⟩
    · rw [HQ.out.1, HQ.out.2]; rfl
    · rw [HQ.out.1]
      have hbt : But w.heap.size W1 (W1.setRow w.heap.size #[.int .i64 0, .string ⟨#[]⟩, .string ⟨#[]⟩, .slice none 0 0, .int .i64 0, .slice none 0 0, .int .i64 0, .string ⟨#[]⟩]) := But.setRow _ _ _
      have hbl := bbut (HW0.out.trans (HB.out.mono HW0.out.size)) hbt (Nat.le_refl _)
      exact dcO_nil hbl
end Go.Proofs.YtdcppiknomoigaaDoor

