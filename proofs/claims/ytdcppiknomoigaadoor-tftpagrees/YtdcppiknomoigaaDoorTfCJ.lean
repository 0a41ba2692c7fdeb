import Derived.Test.YtdcppiknomoigaaDoorTgR
import Derived.Test.YtdcppiknomoigaaDoorTgX
/-
  Tftp: the document's cut, small, value.
-/
namespace Go.Proofs.YtdcppiknomoigaaDoor
open Go.RowKit
set_option linter.all false

theorem txt_take {zs : List Int} {k : Nat} (hk : k < zs.length) (h : ∀ z ∈ zs.take k, z ≠ 0) (h0 : zs.getD k 0 = 0) : cutG zs = some (zs.take k, zs.drop (k + 1)) := by
  have e : zs = zs.take k ++ 0 :: zs.drop (k + 1) := by
    have h1 := List.take_append_drop k zs
    rw [List.drop_eq_getElem_cons hk] at h1
    have h2 : zs[k] = 0 := by rw [List.getD_eq_getElem?_getD, List.getElem?_eq_getElem hk] at h0; exact h0
    rw [h2] at h1
    exact h1.symm
  have := cutG_app (zs.take k) (zs.drop (k + 1)) (fun hm => h 0 hm rfl)
  rwa [← e] at this
theorem cut_never {zs : List Int} (h : ∀ z ∈ zs, z ≠ 0) : cutG zs = none := by
  unfold cutG; rw [if_neg (fun hm => h 0 hm rfl)]
set_option maxRecDepth 20000 in
set_option maxHeartbeats 4000000 in
theorem rcut_any (pt : Part) (w0 w : World) (hok0 : pt.ok w0) (hok : pt.ok w) (hl : pt.zs.length ≤ 140737488353280) :
    Calls Tryd.prog 48 #[pt.val] w fun e w' => (∃ q, w' = w.drewN q) ∧ ((cutG pt.zs = none ∧ e = .returned (.tuple #[.string ⟨#[]⟩, .slice none 0 0, .bool false])) ∨ ∃ t r a' c', cutG pt.zs = some (t, r) ∧ Part.ok w0 ⟨a', c', r⟩ ∧ e = .returned (.tuple #[.string (strOfNums t), .slice a' r.length c', .bool true])) := by
  obtain ⟨ad, c, zs⟩ := pt
  simp only [Part.val] at *
  have HOK := hid hok
  have HOK0 := hid hok0
  have hcap : zs.length ≤ c := hok.2.1
  have HN : Hid (∃ n, n = zs.length) := ⟨_, rfl⟩
  obtain ⟨n, hn⟩ := HN.out
  have HNL := hid hn
  rw [← hn] at hl hcap ⊢
  clear hok hok0 hn
  go_enter Tryd.func48, Tryd.ntmps48
  go_wp2_with fail
  go_loopw [5] (fun vi wr => ∃ (k q : Nat), vi = .int .i64 k ∧ k ≤ n ∧ Hid (wr = w.drewN q) ∧ Hid (∀ z ∈ zs.take k, z ≠ 0)) (fun vi _ => n - (intOfT vi).toNat)
  case atStart => exact ⟨0, 0, rfl, Nat.zero_le _, rfl, by simp [Hid]⟩
  case round =>
    obtain ⟨k, q, rfl, hk, HW, HI⟩ := hrel
    by_cases hkl : k < n
    · obtain ⟨b, o, rfl, hcell⟩ : ∃ b o, ad = some ⟨b, o, none⟩ ∧ w.cell? ⟨b, o + k, none⟩ = some (.int .u8 (zs.getD k 0)) := by
        rcases HOK.out.2.2 with h | ⟨b, o, h1, h2⟩
        · simp only at h; rw [HNL.out, h] at hkl; simp at hkl
        · exact ⟨b, o, h1, h2 k (by rw [← HNL.out]; exact hkl)⟩
      have hkz : (0 : Int) ≤ (k : Int) := by omega
      have hkn : (k : Int) < (n : Int) := by omega
      have hkc : (k : Int) ≤ (c : Int) := by omega
      have hcw : wr.cell? ⟨b, o + k, none⟩ = some (.int .u8 (zs.getD k 0)) := by rw [HW.out]; exact hcell
      obtain ⟨z, hz⟩ : ∃ z, z = zs.getD k 0 := ⟨_, rfl⟩
      rw [← hz] at hcw
      have HZ := hid hz
      clear hz hcell
      by_cases h0 : z = 0
      · subst h0
        have HCT := hid (txt_take (zs := zs) (k := k) (by rw [← HNL.out]; exact hkl) HI.out HZ.out.symm)
        have HPT : Hid (Part.ok wr ⟨some ⟨b, o, none⟩, c, zs.take k⟩) := by
          have h1 := Part.sub_ok HOK.out 0 k c (by rw [← HNL.out]; omega) (by omega)
          unfold Hid
          rw [HW.out]
          exact Part.ok_drewN (by simpa using h1) q
        have HPR : Hid (Part.ok w0 ⟨if c = k + 1 then some ⟨b, o, none⟩ else some ⟨b, o + (k + 1), none⟩, c - (k + 1), zs.drop (k + 1)⟩) := by
          have h1 := cut_ok HOK0.out (k + 1) (zs.length - (k + 1)) (by rw [← HNL.out]; omega)
          rwa [List.take_of_length_le (by simp)] at h1
        have htl : (zs.take k).length = k := by rw [List.length_take, ← HNL.out]; omega
        have hrl : (zs.drop (k + 1)).length = n - (k + 1) := by rw [List.length_drop, ← HNL.out]
        have hcv : ∀ wx : World, Part.ok wx ⟨some ⟨b, o, none⟩, c, zs.take k⟩ → (convert 24 9 (.slice (some ⟨b, o, none⟩) k c)).run Tryd.prog wx = .ok (.string (strOfNums (zs.take k))) wx := fun wx hp => by
          have := conv_part ⟨some ⟨b, o, none⟩, c, zs.take k⟩ wx hp
          simp only [Part.val] at this
          rwa [htl] at this
        have hcv1 := hcv wr HPT.out
        have hcv2 : ∀ m, (convert 24 9 (.slice (some ⟨b, o, none⟩) k c)).run Tryd.prog (wr.drewN m) = .ok (.string (strOfNums (zs.take k))) (wr.drewN m) := fun m => hcv _ HPT.out
        have HFIN : Hid (∀ m v, v = Value.tuple #[.string (strOfNums (zs.take k)), .slice (if c = k + 1 then some ⟨b, o, none⟩ else some ⟨b, o + (k + 1), none⟩) (n - (k + 1)) (c - (k + 1)), .bool true] → (∃ q', wr.drewN m = w.drewN q') ∧ ((cutG zs = none ∧ Ending.returned v = .returned (.tuple #[.string ⟨#[]⟩, .slice none 0 0, .bool false])) ∨ ∃ t r a' c', cutG zs = some (t, r) ∧ Part.ok w0 ⟨a', c', r⟩ ∧ Ending.returned v = .returned (.tuple #[.string (strOfNums t), .slice a' r.length c', .bool true]))) := fun m v e => by
          refine ⟨⟨q + m, by rw [HW.out]; simp [World.drewN, Nat.add_assoc]⟩, Or.inr ⟨_, _, _, _, HCT.out, HPR.out, ?_⟩⟩
          rw [e, hrl]
        have q3 : ((k : Int) + 1) ≤ (n : Int) := by omega
        have q4 : IntKind.i64.wrap ((k : Int) + 1) = (k : Int) + 1 := by simp only [IntKind.wrap_i64]; omega
        have q5 : ((k : Int) + 1).toNat = k + 1 := by omega
        have q6 : (0 : Int) ≤ (k : Int) + 1 := by omega
        have q7 : (n : Int) ≤ (c : Int) := by omega
        generalize strOfNums (zs.take k) = S at *
        clear HCT HPT HPR htl hrl hcv HI HZ hkl
        by_cases hc : c = k + 1
        · subst hc
          simp only [if_true, Nat.sub_self, show n - (k + 1) = 0 from by omega] at HFIN
          go_wp2_with fail
          go_quiet (fail)
          all_goals go_wp2
          all_goals
            go_ret3
            exact HFIN.out nq _ rfl
        · simp only [if_neg hc] at HFIN
          go_wp2_with fail
          go_quiet (fail)
          all_goals go_wp2
          all_goals
            go_ret3
            exact HFIN.out nq _ rfl
      · have h0' : (z == 0) = false := by simpa using h0
        have HI2 : Hid (∀ z ∈ zs.take (k + 1), z ≠ 0) := fun x hx => by
          rw [take_succ_getD zs k (by rw [← HNL.out]; exact hkl), List.mem_append] at hx
          rcases hx with hx | hx
          · exact HI.out x hx
          · simp only [List.mem_singleton] at hx
            rw [hx, ← HZ.out]; exact h0
        clear h0 HI HZ
        go_wp2_with fail
        go_roundw
        case rel => exact ⟨k + 1, q, by first | rfl | (congr 1; omega), by omega, HW, HI2⟩
        case measure => simp only [intOfT]; omega
    · obtain rfl : k = n := by omega
      have HCT : Hid (cutG zs = none) := cut_never (by have := HI.out; rwa [HNL.out, List.take_length] at this)
      clear hkl
      go_wp2_with fail
      go_ret3
      exact ⟨⟨q, HW.out⟩, Or.inl ⟨HCT.out, rfl⟩⟩
set_option maxRecDepth 20000 in
set_option maxHeartbeats 4000000 in
theorem rsmall_any (s : ByteArray) (w : World) (hs : s.size ≤ 140737488353280) :
    Calls Tryd.prog 72 #[.string s] w fun e w' => e = .returned (.string (smallS (nums s))) ∧ Hid (Below w.heap.size w w') := by
  have HLN : Hid ((nums s).length = s.size) := nums_len s
  have HBD := hid (nums_bd s)
  go_enter Tryd.func72, Tryd.ntmps72
  go_wp2_with fail
  go_loopw [3, 4] (fun vo vi wr => ∃ (k : Nat) (a : Option Addr) (c : Nat), vo = .slice a k c ∧ vi = .int .i64 k ∧ k ≤ s.size ∧ Hid (Own none w Part.nil (smallL ((nums s).take k)) (.slice a k c) wr)) (fun _ vi _ => s.size - (intOfT vi).toNat)
  case atStart => exact ⟨0, none, 0, rfl, rfl, Nat.zero_le _, ⟨Row.nil _ _, Or.inl rfl, by simp [Value.ownBlock], Part.nil_ok _, grown_refl _ _⟩⟩
  case round =>
    obtain ⟨k, a, c, rfl, rfl, hk, HO⟩ := hrel
    by_cases hlt : k < s.size
    · have hlt' : (k : Int) < s.size := by omega
      have HA := hid (zero_at hlt)
      obtain ⟨z, hz⟩ : ∃ z : Int, z = (s[k].toNat : Int) := ⟨_, rfl⟩
      have HIX : ∀ wx, (Instr.index 9 (.string s) (.int .i64 k)).run Tryd.prog wx = .ok (.int .u8 z) wx := fun wx => by
        rw [hz]
        simp [Instr.index, Tryd.underlying9, go_sem, hlt]
      rw [← hz] at HA
      have hzb : 0 ≤ z ∧ z ≤ 255 := HBD.out z (List.mem_of_getElem? HA.out)
      clear hz
      have HST : Hid (smallL ((nums s).take (k + 1)) = smallL ((nums s).take k) ++ [smallZ z]) := by
        unfold Hid smallL
        rw [List.take_add_one, HA.out, List.map_append]; rfl
      have hlen : (smallL ((nums s).take k)).length = k := by unfold smallL; rw [List.length_map, List.length_take, HLN.out]; omega
      obtain ⟨gg, nn, cc, w', hrun, hr'⟩ := HO.out.one (smallZ z) (by rw [hlen]; omega)
      obtain rfl : nn = k + 1 := by
        obtain ⟨a4, c4, e4, _⟩ := hr'.row.form
        rw [u8s_len] at e4
        simp only [Value.slice.injEq] at e4
        rw [e4.2.1, List.length_append, hlen]; rfl
      have HRUN := hid hrun
      have HR' := hid hr'
      clear hrun hr' hlen HBD
      by_cases hb : 65 ≤ z ∧ z ≤ 90
      · have e1 : smallZ z = z + 32 := if_pos hb
        have hw : IntKind.u8.wrap (z + 32) = z + 32 := by simp only [IntKind.wrap_u8]; omega
        rw [e1] at HRUN
        obtain ⟨hb1, hb2⟩ := hb
        go_wp2_with (first | (at_builtin; refine wpList_append_run _ rfl _ _ 24 24 rfl _ _ rfl rfl HRUN.out ?_) | fail)
        go_roundw
        case rel => exact ⟨k + 1, _, cc, rfl, by first | rfl | (congr 1; omega), by omega, by unfold Hid; rw [HST.out]; exact HR'.out⟩
        case measure => simp only [intOfT]; omega
      · have e1 : smallZ z = z := if_neg hb
        rw [e1] at HRUN
        by_cases hb1 : 65 ≤ z
        · have hb2 : ¬ z ≤ 90 := fun h => hb ⟨hb1, h⟩
          clear hb
          go_wp2_with (first | (at_builtin; refine wpList_append_run _ rfl _ _ 24 24 rfl _ _ rfl rfl HRUN.out ?_) | fail)
          go_roundw
          case rel => exact ⟨k + 1, _, cc, rfl, by first | rfl | (congr 1; omega), by omega, by unfold Hid; rw [HST.out]; exact HR'.out⟩
          case measure => simp only [intOfT]; omega
        · clear hb
          go_wp2_with (first | (at_builtin; refine wpList_append_run _ rfl _ _ 24 24 rfl _ _ rfl rfl HRUN.out ?_) | fail)
          go_roundw
          case rel => exact ⟨k + 1, _, cc, rfl, by first | rfl | (congr 1; omega), by omega, by unfold Hid; rw [HST.out]; exact HR'.out⟩
          case measure => simp only [intOfT]; omega
    · obtain rfl : k = s.size := by omega
      have hge : ¬ ((s.size : Nat) : Int) < s.size := by omega
      have HT : Hid (smallL ((nums s).take s.size) = smallL (nums s)) := by unfold Hid; rw [List.take_of_length_le (by rw [HLN.out]; exact Nat.le_refl _)]
      have hcv := HO.out.row.conv0 (by rw [HT.out]; exact smallL_bd HBD.out)
      rw [HT.out] at hcv
      have HB : Hid (Below w.heap.size w wr) := by
        have := HO.out.grown
        exact ⟨this.os, this.tape, this.output, this.size, fun k hk => this.block k hk (by simp)⟩
      clear hlt
      go_wp2_with fail
      go_ret
      exact ⟨rfl, HB⟩
theorem fold_bd : ∀ (l : List Int) (m j : Nat), m < 10 ^ j → (∀ z ∈ l, 48 ≤ z ∧ z ≤ 57) → l.foldl stepN m < 10 ^ (j + l.length)
  | [], m, j, h, _ => by simpa using h
  | z :: l, m, j, h, hz => by
    have h2 := hz z (by simp)
    have h3 : stepN m z < 10 ^ (j + 1) := by unfold stepN; rw [Nat.pow_succ]; omega
    have := fold_bd l (stepN m z) (j + 1) h3 (fun x hx => hz x (by simp [hx]))
    rw [List.foldl_cons, List.length_cons, show j + (l.length + 1) = j + 1 + l.length from by omega]
    exact this
theorem fold_10 {l : List Int} (h : l.length ≤ 10) (hz : ∀ z ∈ l, 48 ≤ z ∧ z ≤ 57) : l.foldl stepN 0 ≤ 9999999999 := by
  have h1 := fold_bd l 0 0 (by simp) hz
  have h2 : 10 ^ (0 + l.length) ≤ 10 ^ 10 := Nat.pow_le_pow_right (by omega) (by omega)
  omega
def ValI (w : World) (s : ByteArray) (e : Ending) (w' : World) : Prop := ∃ (n : Int) (b : Bool), e = .returned (.tuple #[.int .i64 n, .bool b]) ∧ Hid (Below w.heap.size w w' ∧ (b = true → valF (nums s) = some n.toNat ∧ 0 ≤ n ∧ n ≤ 2147483647) ∧ (b = false → valF (nums s) = none))
theorem valI_mk {w w' : World} {s : ByteArray} {e : Ending} (n : Int) (b : Bool) (he : e = .returned (.tuple #[.int .i64 n, .bool b])) (hb : Below w.heap.size w w') (h1 : b = true → valF (nums s) = some n.toNat ∧ 0 ≤ n ∧ n ≤ 2147483647) (h2 : b = false → valF (nums s) = none) : ValI w s e w' := ⟨n, b, he, hb, h1, h2⟩
set_option maxRecDepth 20000 in
set_option maxHeartbeats 4000000 in
theorem rvalue_any (s : ByteArray) (w : World) (hs : s.size ≤ 140737488353280) :
    Calls Tryd.prog 73 #[.string s] w (ValI w s) := by
  have HLN : Hid ((nums s).length = s.size) := nums_len s
  have HBD := hid (nums_bd s)
  go_enter Tryd.func73, Tryd.ntmps73
  go_wp2_with fail
  go_loop [4, 5] (fun vn vi => ∃ (k m : Nat), vn = .int .i64 m ∧ vi = .int .i64 k ∧ k ≤ s.size ∧ k ≤ 10 ∧ m ≤ 9999999999 ∧ Hid (m = ((nums s).take k).foldl stepN 0) ∧ Hid (∀ z ∈ (nums s).take k, 48 ≤ z ∧ z ≤ 57)) (fun _ vi => s.size - (intOfT vi).toNat)
  case atStart => exact ⟨0, 0, rfl, rfl, Nat.zero_le _, by omega, by omega, rfl, by simp [Hid]⟩
  case round =>
    obtain ⟨k, m, rfl, rfl, hk, hk10, hm, HM, HD⟩ := hrel
    have HEND : Hid (k = s.size ∨ k = 10 → valN (nums s) = m) := fun h => by
      unfold valN
      rw [HM.out]
      rcases h with h | h
      · rw [List.take_of_length_le (i := k) (by rw [HLN.out]; omega), List.take_of_length_le (by rw [HLN.out]; omega)]
      · rw [h]
    have CD := hid (fun W => decimal_any m W (by omega))
    have HDN : Hid (decB m = nums s ↔ strOfNums (decB m) = s) := by
      constructor
      · intro e; rw [e, str_nums]
      · intro e; rw [← e, nums_str (fun z hz => by have := decB_bd m z hz; omega)]
    by_cases hlt : k < s.size ∧ k < 10
    · obtain ⟨hlt, hlt10⟩ := hlt
      have hlt' : (k : Int) < s.size := by omega
      have h10' : (k : Int) < 10 := by omega
      have HA := hid (zero_at hlt)
      obtain ⟨z, hz⟩ : ∃ z : Int, z = (s[k].toNat : Int) := ⟨_, rfl⟩
      have HIX : ∀ wx, (Instr.index 9 (.string s) (.int .i64 k)).run Tryd.prog wx = .ok (.int .u8 z) wx := fun wx => by
        rw [hz]
        simp [Instr.index, Tryd.underlying9, go_sem, hlt]
      rw [← hz] at HA
      have hzb : 0 ≤ z ∧ z ≤ 255 := HBD.out z (List.mem_of_getElem? HA.out)
      clear hz HEND CD HDN
      have HNO : Hid (¬ (48 ≤ z ∧ z ≤ 57) → valF (nums s) = none) := fun hno => valF_none fun n hn e => hno (decB_bd n z (by rw [← e]; exact List.mem_of_getElem? HA.out))
      by_cases h48 : z < 48
      · have HV := hid (HNO.out (by omega))
        clear HNO
        go_wp2_with fail
        go_ret2
        exact valI_mk 0 false rfl (Below.refl _ _) (by simp) (fun _ => HV.out)
      · by_cases h57 : 57 < z
        · have HV := hid (HNO.out (by omega))
          clear HNO
          go_wp2_with fail
          go_ret2
          exact valI_mk 0 false rfl (Below.refl _ _) (by simp) (fun _ => HV.out)
        · have HTK : Hid ((nums s).take (k + 1) = (nums s).take k ++ [z]) := by unfold Hid; rw [List.take_add_one, HA.out]; rfl
          obtain ⟨d, hd⟩ : ∃ d : Nat, d = (z - 48).toNat := ⟨_, rfl⟩
          have hdz : z - 48 = (d : Int) := by omega
          have HM2 : Hid (m * 10 + d = ((nums s).take (k + 1)).foldl stepN 0) := by
            unfold Hid; rw [HTK.out, List.foldl_append, ← HM.out, hd]; rfl
          have HD2 : Hid (∀ z ∈ (nums s).take (k + 1), 48 ≤ z ∧ z ≤ 57) := fun x hx => by
            rw [HTK.out, List.mem_append] at hx
            rcases hx with hx | hx
            · exact HD.out x hx
            · simp only [List.mem_singleton] at hx; rw [hx]; omega
          have hm2 : m * 10 + d ≤ 9999999999 := by
            rw [HM2.out]
            exact fold_10 (by rw [List.length_take]; omega) HD2.out
          have w1 : IntKind.i64.wrap ((m : Int) * 10) = (m : Int) * 10 := by simp only [IntKind.wrap_i64]; omega
          have w2 : IntKind.u8.wrap (z - 48) = (d : Int) := by simp only [IntKind.wrap_u8]; omega
          have w3 : IntKind.i64.wrap (d : Int) = (d : Int) := by simp only [IntKind.wrap_i64]; omega
          have w4 : IntKind.i64.wrap ((m : Int) * 10 + (d : Int)) = (m : Int) * 10 + (d : Int) := by simp only [IntKind.wrap_i64]; omega
          clear HNO hd HTK HM HD
          go_wp2_with fail
          go_round
          case rel => exact ⟨k + 1, m * 10 + d, by first | rfl | (congr 1; omega), by first | rfl | (congr 1; omega), by omega, by omega, hm2, HM2, HD2⟩
          case measure => simp only [intOfT]; omega
    · have HVN := hid (HEND.out (by omega))
      have hs := sbeq (strOfNums (decB m)) s
      have HVF : Hid (valF (nums s) = if strOfNums (decB m) = s ∧ m ≤ 2147483647 then some m else none) := by
        unfold Hid valF
        rw [HVN.out]
        by_cases h1 : strOfNums (decB m) = s ∧ m ≤ 2147483647
        · rw [if_pos h1, if_pos ⟨HDN.out.2 h1.1, h1.2⟩]
        · rw [if_neg h1, if_neg (fun h => h1 ⟨HDN.out.1 h.1, h.2⟩)]
      have hcnd : ((k : Int) < s.size ∧ ¬ (k : Int) < 10) ∨ ¬ (k : Int) < s.size := by omega
      clear hlt HEND HDN HVN HM HD
      by_cases he : strOfNums (decB m) = s
      · rw [decide_eq_true he] at hs
        by_cases hm2 : (m : Int) ≤ 2147483647
        · have HV := hid (HVF.out.trans (if_pos ⟨he, by omega⟩))
          clear HVF he
          generalize strOfNums (decB m) = S at *
          rcases hcnd with ⟨q1, q2⟩ | q1
          all_goals
            go_wp2_with (first
              | (go_at_call 37; refine (CD.out _).mono ?_; rintro e w1 ⟨rfl, hb⟩; have HB := hid hb; clear hb)
              | fail)
            go_ret2
            exact valI_mk m true rfl (HB.out) (fun _ => ⟨by rw [HV.out]; rfl, by omega, hm2⟩) (by simp)
        · have HV := hid (HVF.out.trans (if_neg (by omega)))
          have hd : decide ((m : Int) ≤ 2147483647) = false := decide_eq_false hm2
          clear HVF he
          generalize strOfNums (decB m) = S at *
          rcases hcnd with ⟨q1, q2⟩ | q1
          all_goals
            go_wp2_with (first
              | (go_at_call 37; refine (CD.out _).mono ?_; rintro e w1 ⟨rfl, hb⟩; have HB := hid hb; clear hb)
              | fail)
            go_ret2
            exact valI_mk m false rfl (HB.out) (by simp) (fun _ => HV.out)
      · rw [decide_eq_false he] at hs
        have HV := hid (HVF.out.trans (if_neg (fun h => he h.1)))
        clear HVF he
        generalize strOfNums (decB m) = S at *
        rcases hcnd with ⟨q1, q2⟩ | q1
        all_goals
          go_wp2_with (first
            | (go_at_call 37; refine (CD.out _).mono ?_; rintro e w1 ⟨rfl, hb⟩; have HB := hid hb; clear hb)
            | fail)
          go_ret2
          exact valI_mk m false rfl (HB.out) (by simp) (fun _ => HV.out)
end Go.Proofs.YtdcppiknomoigaaDoor

/-
  Tftp: the document's read.
-/
namespace Go.Proofs.YtdcppiknomoigaaDoor
open Go.RowKit
set_option linter.all false

theorem rcut_no (pt : Part) (w : World) (hok : pt.ok w) (hl : pt.zs.length ≤ 140737488353280) (h : cutG pt.zs = none) :
    Calls Tryd.prog 48 #[pt.val] w fun e w' => e = .returned (.tuple #[.string ⟨#[]⟩, .slice none 0 0, .bool false]) ∧ ∃ q, w' = w.drewN q := by
  refine (rcut_any pt w w hok hok hl).mono ?_
  rintro e w' ⟨hq, h1 | ⟨t, r, a', c', h1, _⟩⟩
  · exact ⟨h1.2, hq⟩
  · rw [h] at h1; cases h1
theorem rcut_yes (pt : Part) (w0 w : World) (hok : pt.ok w0) (hb : Below w0.heap.size w0 w) (hl : pt.zs.length ≤ 140737488353280) {t r : List Int} (h : cutG pt.zs = some (t, r)) :
    Calls Tryd.prog 48 #[pt.val] w fun e w' => ∃ a' c', e = .returned (.tuple #[.string (strOfNums t), .slice a' r.length c', .bool true]) ∧ Hid (Part.ok w0 ⟨a', c', r⟩ ∧ Below w.heap.size w w') := by
  refine (rcut_any pt w0 w hok (Part.ok_below hok hb) hl).mono ?_
  rintro e w' ⟨⟨q, hq⟩, h1 | ⟨t', r', a', c', h1, h2, h3⟩⟩
  · rw [h] at h1; cases h1.1
  · rw [h] at h1
    simp only [Option.some.injEq, Prod.mk.injEq] at h1
    obtain ⟨rfl, rfl⟩ := h1
    subst hq
    exact ⟨a', c', h3, h2, bdrewT w q⟩
def chL (zs : List Int) : List Ch := match readG [] zs with | .ok l => l | .error _ => []
theorem chL_ok {zs : List Int} {l : List Ch} (h : readG [] zs = .ok l) : chL zs = l := by unfold chL; rw [h]
theorem chL_er {zs : List Int} {e : Int} (h : readG [] zs = .error e) : chL zs = [] := by unfold chL; rw [h]
set_option maxRecDepth 20000 in
set_option maxHeartbeats 8000000 in
theorem read_any (pt : Part) (w : World) (hok : pt.ok w) (hl : pt.zs.length ≤ 140737488353280) :
    Calls Tryd.prog 47 #[pt.val] w fun e w' => ∃ a n c, e = .returned (.tuple #[.slice a n c, .int .i64 (chE 0 pt.zs)]) ∧ Hid (RowB 56 2 w w' a n c (chs (chL pt.zs))) := by
  obtain ⟨ad, cd, zs0⟩ := pt
  simp only [Part.val] at *
  have HOK := hid hok
  clear hok
  go_enter Tryd.func47, Tryd.ntmps47
  go_wp2_with fail
  go_loopw [0, 4] (fun vb vo wr => ∃ (a : Option Addr) (c no co : Nat) (ao : Option Addr) (l : List Ch) (zs : List Int), vb = .slice a zs.length c ∧ vo = .slice ao no co ∧ zs.length ≤ 140737488353280 ∧ no ≤ 3 ∧ Hid (Part.ok w ⟨a, c, zs⟩ ∧ RowB 56 2 w wr ao no co (chs l) ∧ chOk l l.length = true ∧ readG [] zs0 = readG l zs)) (fun vb _ _ => (match vb with | .slice _ n _ => n | _ => 0))
  case atStart => exact ⟨ad, cd, 0, 0, none, [], zs0, rfl, rfl, hl, by omega, HOK.out, RowB.void _ _ _, rfl, rfl⟩
  case round =>
    obtain ⟨a, c, no, co, ao, l, zs, rfl, rfl, hzl, hn3, HJ⟩ := hrel
    by_cases hz : zs = []
    · subst hz
      have HR := hid (HJ.out.2.2.2.trans (readG_nil l))
      have HE : Hid (chE 0 zs0 = 0) := chE_ok HR.out
      have HLL : Hid (chL zs0 = l) := chL_ok HR.out
      simp only [List.length_nil]
      go_wp2_with fail
      go_ret2
      exact ⟨ao, no, co, by rw [HE.out]; rfl, by unfold Hid; rw [HLL.out]; exact HJ.out.2.1⟩
    · have hlen : 0 < zs.length := List.length_pos_iff.2 hz
      have hlen' : (0 : Int) < (zs.length : Int) := by omega
      cases h1 : cutG zs with
      | none =>
        have HR := hid (HJ.out.2.2.2.trans (readG_short1 l hz h1))
        have HE : Hid (chE 0 zs0 = 5) := chE_er HR.out
        have HLL : Hid (chL zs0 = []) := chL_er HR.out
        have C1 := hid (rcut_no ⟨a, c, zs⟩ wr (Part.ok_below HJ.out.1 HJ.out.2.1.below) hzl h1)
        have C2 := hid (fun W => rcut_no Part.nil W (Part.nil_ok W) (by simp [Part.nil]) (by simp [Part.nil, cutG]))
        simp only [Part.val, Part.nil, List.length_nil] at C1 C2
        have HB := hid HJ.out.2.1.below
        clear h1 hz HJ HR
        generalize zs.length = n at *
        go_wp2_with (first
          | (go_at_call 48; with_reducible refine C1.out.mono ?_; rintro e w1 ⟨rfl, q1, hw1⟩; have HW1 := hid hw1; clear C1 hw1)
          | (go_at_call 48; with_reducible refine (C2.out _).mono ?_; rintro e w2 ⟨rfl, q2, hw2⟩; have HW2 := hid hw2; clear hw2)
          | fail)
        go_ret2
        exact ⟨none, 0, 0, by rw [HE.out]; rfl, by unfold Hid; rw [HLL.out]; exact (RowB.void _ _ w).bel (bstep HB.out (by rw [HW2.out, HW1.out]; exact bstep (bdrewT wr q1) (bdrewT _ q2)))⟩
      | some x =>
        obtain ⟨nm, r1⟩ := x
        have C1 := hid (rcut_yes ⟨a, c, zs⟩ w wr HJ.out.1 HJ.out.2.1.below hzl h1)
        simp only [Part.val] at C1
        have hr1 := (cutG_len h1).1
        cases h2 : cutG r1 with
        | none =>
          have HR := hid (HJ.out.2.2.2.trans (readG_short2 l h1 h2))
          have HE : Hid (chE 0 zs0 = 5) := chE_er HR.out
          have HLL : Hid (chL zs0 = []) := chL_er HR.out
          have C2 := hid (fun W a' c' (h' : Part.ok w ⟨a', c', r1⟩) (hb' : Below w.heap.size w W) => rcut_no ⟨a', c', r1⟩ W (Part.ok_below h' hb') (by simp only; omega) h2)
          simp only [Part.val] at C2
          have HB := hid HJ.out.2.1.below
          clear h1 h2 hz HJ HR
          generalize zs.length = n at *
          generalize r1.length = n1 at *
          go_wp2_with (first
            | (go_at_call 48; with_reducible refine C1.out.mono ?_; rintro e w1 ⟨a1, c1, rfl, H1⟩; have C3 := hid (C2.out _ _ _ H1.out.1 (bstep HB.out H1.out.2)); clear C1)
            | (go_at_call 48; with_reducible refine C3.out.mono ?_; rintro e w2 ⟨rfl, q2, hw2⟩; have HW2 := hid hw2; clear hw2)
            | fail)
          go_ret2
          exact ⟨none, 0, 0, by rw [HE.out]; rfl, by unfold Hid; rw [HLL.out]; exact (RowB.void _ _ w).bel (bstep HB.out (bstep H1.out.2 (by rw [HW2.out]; exact bdrewT _ q2)))⟩
        | some y =>
          obtain ⟨vs, r2⟩ := y
          have C2 := hid (fun W a' c' (h' : Part.ok w ⟨a', c', r1⟩) (hb' : Below w.heap.size w W) => rcut_yes ⟨a', c', r1⟩ w W h' hb' (by simp only; omega) h2)
          have HB := hid HJ.out.2.1.below
          simp only [Part.val] at C2
          have hr2 := (cutG_len h2).1
          have hnl := (cutG_len h1).2
          have hvl := (cutG_len h2).2
          have b1 := cutG_bd HJ.out.1.1 h1
          have b2 := cutG_bd b1.2 h2
          have CS := hid (fun W => rsmall_any (strOfNums nm) W (by rw [strOfNums_size]; omega))
          have CV := hid (fun W => rvalue_any (strOfNums vs) W (by rw [strOfNums_size]; omega))
          simp only [nums_str b1.1] at CS
          have HVN := hid (nums_str b2.1)
          have HG := hid (HJ.out.2.2.2.trans (readG_step l h1 h2))
          have HRL : Hid (r2.length < zs.length) := by unfold Hid; omega
          have hr2l : r2.length ≤ 140737488353280 := by omega
          have CK := hid (fun W => known_any (smallS nm) W)
          obtain ⟨N, hN⟩ : ∃ N, N = smallS nm := ⟨_, rfl⟩
          rw [← hN] at CS CK HG
          obtain ⟨kb, hkb⟩ : ∃ kb, kb = knownB N := ⟨_, rfl⟩
          rw [← hkb] at CK HG
          have HKB := hid hkb
          clear hN hkb h1 h2 hz b1 b2 hnl hvl hr1 hr2
          go_upto_region 8 with (first
            | (go_at_call 48; with_reducible refine C1.out.mono ?_; go_loud (rintro e w1 ⟨a1, c1, rfl, H1⟩; have C3 := hid (C2.out _ _ _ H1.out.1 (bstep HB.out H1.out.2)); clear C1))
            | (go_at_call 48; with_reducible refine C3.out.mono ?_; go_loud (rintro e w2 ⟨a2, c2, rfl, H2⟩; clear C3))
            | fail)
          have HRB := hid (HJ.out.2.1.bel (bstep H1.out.2 H2.out.2))
          have HCO := hid HJ.out.2.2.1
          have HPK := hid H2.out.1
          clear HJ H1 H2 C2
          go_upto_region 10 with (first
            | (go_at_call 72; refine (CS.out _).mono ?_; go_loud (rintro e w3 ⟨rfl, HB3⟩))
            | (go_at_call 55; refine (CK.out _).mono ?_; go_loud (rintro e w4 ⟨rfl, hw4⟩; subst w4))
            | fail)
          have HRB3 := hid (HRB.out.bel HB3.out)
          have HPK3 := hid HPK.out
          clear HRB HPK HB3 CS CK
          cases kb
          · have HR := hid (HG.out.trans (if_pos rfl))
            clear HG CV HVN
            go_wp2_with fail
            go_roundw
            case rel => exact ⟨a2, c2, no, co, ao, l, r2, rfl, rfl, hr2l, hn3, HPK3.out, HRB3.out, HCO.out, HR.out⟩
            case measure => exact HRL.out
          · have HR := hid (HG.out.trans (if_neg (by simp)))
            clear HG
            go_upto_region 12 with (first
              | (go_at_call 73; refine (CV.out _).mono ?_; go_loud (rintro e w5 ⟨nv, bv, rfl, H5⟩))
              | fail)
            obtain ⟨hb5, hv1, hv2⟩ := H5.out
            rw [HVN.out] at hv1 hv2
            have HV1 := hid hv1
            have HV2 := hid hv2
            have HRB5 := hid (HRB3.out.bel hb5)
            have HPK5 := hid HPK3.out
            have HLN := hid HRB5.out.chv.1
            clear hv1 hv2 hb5 H5 HRB3 HPK3 CV HVN
            obtain ⟨a', cp', w7, hrun, HR7, hkp⟩ := HRB5.out.ch (Below.refl _ _) ⟨N, nv⟩ (by omega)
            have hk0 : (l ++ [(⟨N, nv⟩ : Ch)])[no]? = some ⟨N, nv⟩ := by rw [HLN.out]; simp
            have CT := hid (twice_any (l ++ [⟨N, nv⟩]) a' (no + 1) cp' no ⟨N, nv⟩ w7 HR7.out.chv.2 HR7.out.chv.1 hk0 (by omega))
            have hin : inB N ((l ++ [(⟨N, nv⟩ : Ch)]).take no) = inB N l := by rw [HLN.out, List.take_left]
            simp only [hin] at CT
            obtain ⟨ib, hib⟩ : ∃ ib, ib = inB N l := ⟨_, rfl⟩
            rw [← hib] at CT HR
            have HIB := hid hib
            have q1 : IntKind.i64.wrap (((no + 1 : Nat) : Int) - 1) = (no : Int) := by simp only [IntKind.wrap_i64]; omega
            have q2 : IntKind.i64.wrap ((no : Int) + 1 - 1) = (no : Int) := by simp only [IntKind.wrap_i64]; omega
            clear hk0 hin hib hkp HRB5
            cases bv
            · have HE : Hid (chE 0 zs0 = 172 ∧ chL zs0 = []) := by
                have h1 := HR.out
                rw [HV2.out rfl] at h1
                exact ⟨chE_er h1, chL_er h1⟩
              clear HR HV1 HV2
              go_wp2_with (first
                | (at_builtin; refine wpList_append_run _ rfl _ _ _ _ rfl _ _ rfl rfl hrun ?_)
                | (go_at_call 53; refine CT.out.mono ?_; rintro e w8 ⟨rfl, q8, hw8⟩; have HW8 := hid hw8; clear hw8)
                | fail)
              go_ret2
              exact ⟨none, 0, 0, by rw [HE.out.1]; rfl, by unfold Hid; rw [HE.out.2]; exact (RowB.void _ _ w).bel (bstep HR7.out.below (by rw [HW8.out]; exact bdrewT _ q8))⟩
            · have HVF : Hid (valF vs = some nv.toNat ∧ 0 ≤ nv ∧ nv ≤ 2147483647) := HV1.out rfl
              clear HV1 HV2
              cases ib
              · have HR2 : Hid (readG [] zs0 = readG (l ++ [⟨N, nv⟩]) r2) := by
                  have h1 := HR.out
                  rw [HVF.out.1] at h1
                  simp only [Bool.false_eq_true, if_false] at h1
                  rw [show ((nv.toNat : Nat) : Int) = nv from by have := HVF.out.2; omega] at h1
                  exact h1
                have HOK2 : Hid (chOk (l ++ [(⟨N, nv⟩ : Ch)]) (l ++ [(⟨N, nv⟩ : Ch)]).length = true) := chOk_snoc (c := ⟨N, nv⟩) HCO.out HKB.out.symm HIB.out.symm HVF.out.2
                have HL3 : Hid (no + 1 ≤ 3) := by
                  have h1 := HR7.out.chv.1
                  have := chOk_3 HOK2.out (Nat.le_refl _)
                  unfold Hid; omega
                clear HR HVF
                go_wp2_with (first
                  | (at_builtin; refine wpList_append_run _ rfl _ _ _ _ rfl _ _ rfl rfl hrun ?_)
                  | (go_at_call 53; refine CT.out.mono ?_; rintro e w8 ⟨rfl, q8, hw8⟩; have HW8 := hid hw8; clear hw8; have HR8 : Hid (RowB 56 2 w w8 a' (no + 1) cp' (chs (l ++ [⟨N, nv⟩]))) := hid (HR7.out.bel (by rw [HW8.out]; exact bdrewT _ q8)))
                  | fail)
                go_roundw
                case rel => exact ⟨a2, c2, no + 1, cp', a', _, r2, rfl, rfl, hr2l, HL3.out, HPK5.out, HR8.out, HOK2.out, HR2.out⟩
                case measure => exact HRL.out
              · have HE : Hid (chE 0 zs0 = 172 ∧ chL zs0 = []) := by
                  have h1 := HR.out
                  rw [HVF.out.1] at h1
                  simp only [if_true] at h1
                  exact ⟨chE_er h1, chL_er h1⟩
                clear HR HVF
                go_wp2_with (first
                  | (at_builtin; refine wpList_append_run _ rfl _ _ _ _ rfl _ _ rfl rfl hrun ?_)
                  | (go_at_call 53; refine CT.out.mono ?_; rintro e w8 ⟨rfl, q8, hw8⟩; have HW8 := hid hw8; clear hw8)
                  | fail)
                go_ret2
                exact ⟨none, 0, 0, by rw [HE.out.1]; rfl, by unfold Hid; rw [HE.out.2]; exact (RowB.void _ _ w).bel (bstep HR7.out.below (by rw [HW8.out]; exact bdrewT _ q8))⟩
end Go.Proofs.YtdcppiknomoigaaDoor
