import Derived.Test.YtoifblndpcelkaaOFst
import Derived.Test.YtoifblndpcelkaaBNumJ
/-
  The contract of the document's place.
-/
namespace Go.Proofs.Ytoifblndpcelkaa
open Go.RowKit
set_option linter.all false

/-- the place of a code; -1: none. -/
def plI (os : List OP) (code : Int) : Int := match os.findIdx? (fun o => o.1 == code) with | some i => (i : Int) | none => -1
theorem plI_not {os : List OP} {code : Int} {k : Nat} (h : ∀ (j : Nat), j < k → ∀ o, os[j]? = some o → o.1 ≠ code) (hk : k = os.length) : plI os code = -1 := by
  unfold plI
  have : os.findIdx? (fun o => o.1 == code) = none := by
    rw [List.findIdx?_eq_none_iff]
    intro o ho
    obtain ⟨i, hi⟩ := List.getElem?_of_mem ho
    have := h i (by rw [hk]; exact (List.getElem?_eq_some_iff.1 hi).1) o hi
    simpa using this
  rw [this]
theorem plI_is {os : List OP} {code : Int} {k : Nat} {o : OP} (h : ∀ (j : Nat), j < k → ∀ o, os[j]? = some o → o.1 ≠ code) (hk : os[k]? = some o) (ho : o.1 = code) : plI os code = (k : Int) := by
  unfold plI
  have hl := (List.getElem?_eq_some_iff.1 hk).1
  rw [List.getElem?_eq_getElem hl] at hk
  simp only [Option.some.injEq] at hk
  have : os.findIdx? (fun o => o.1 == code) = some k := by
    rw [List.findIdx?_eq_some_iff_getElem]
    refine ⟨hl, by rw [hk]; simpa using ho, fun j hj => ?_⟩
    have := h j hj _ (List.getElem?_eq_getElem (by omega))
    simpa using this
  rw [this]
/-- as the first option of the code. -/
theorem plI_fst (os : List OP) (code : Int) : (plI os code = -1 ∧ fst? os code = none) ∨ ∃ (k : Nat) (o : OP), plI os code = (k : Int) ∧ os[k]? = some o ∧ fst? os code = some o := by
  unfold plI fst?
  cases h : os.findIdx? (fun o => o.1 == code) with
  | none =>
    left
    refine ⟨rfl, ?_⟩
    rw [List.findIdx?_eq_none_iff] at h
    rw [List.find?_eq_none]
    intro o ho
    simpa using h o ho
  | some k =>
    right
    rw [List.findIdx?_eq_some_iff_getElem] at h
    obtain ⟨hl, h1, h2⟩ := h
    refine ⟨k, os[k], rfl, List.getElem?_eq_getElem hl, ?_⟩
    rw [List.find?_eq_some_iff_getElem]
    exact ⟨h1, k, hl, rfl, fun j hj => by have := h2 j hj; simpa using this⟩
set_option maxHeartbeats 1000000 in
theorem place_any (a : Option Addr) (c : Nat) (os : List OP) (code : Int) (w : World) (h : OV w a os) :
    Calls Try.prog 93 #[.slice a os.length c, .int .i64 code] w fun e w' => e = .returned (.int .i64 (plI os code)) ∧ w' = w := by
  obtain ⟨n, hn⟩ : ∃ n, n = os.length := ⟨_, rfl⟩
  have HN := hid hn
  have hf := h.few
  rw [← hn] at hf ⊢
  have HV := hid h
  clear h hn
  go_enter Try.func93, Try.ntmps93
  go_wp2
  go_loop [5] (fun i => ∃ k : Nat, k ≤ n ∧ i = .int .i64 k ∧ Hid (∀ (j : Nat), j < k → ∀ o, os[j]? = some o → o.1 ≠ code)) (fun i => n - (intOf i).toNat)
  case atStart => exact ⟨0, Nat.zero_le _, rfl, fun j hj => by omega⟩
  case round =>
    obtain ⟨k, hk, rfl, HJ⟩ := hrel
    by_cases hlt : k < n
    · have hlt' : (k : Int) < n := by omega
      obtain ⟨⟨cd, ad, cp, zs⟩, ho⟩ : ∃ o, os[k]? = some o := ⟨os[k]'(by rw [← HN.out]; exact hlt), List.getElem?_eq_getElem _⟩
      obtain ⟨b, off, ea, c0, c1⟩ := HV.out.cell k _ ho
      simp only [Part.val] at c0 c1
      subst ea
      have HO := hid ho
      clear ho c1
      by_cases he : cd = code
      · have he' : (cd == code) = true := by simpa using he
        have HR : Hid (plI os code = (k : Int)) := plI_is HJ.out HO.out he
        clear he
        go_wp2
        go_ret
        exact ⟨by rw [HR.out]; rfl, rfl⟩
      · have he' : (cd == code) = false := by simpa using he
        have HE := hid he
        clear he
        go_wp2
        go_round
        case rel =>
          refine ⟨k + 1, by omega, by go_num, fun j hj o ho => ?_⟩
          rcases Nat.lt_or_ge j k with h1 | h1
          · exact HJ.out j h1 o ho
          · have : j = k := by omega
            subst this
            rw [HO.out] at ho
            simp only [Option.some.injEq] at ho
            subst ho
            exact HE.out
        case measure => simp [intOf]; omega
    · have hge : ¬ (k : Int) < n := by omega
      have hkn : k = n := by omega
      have HR : Hid (plI os code = -1) := plI_not HJ.out (by rw [hkn]; exact HN.out)
      go_wp2
      go_ret
      exact ⟨by rw [HR.out]; rfl, rfl⟩
end Go.Proofs.Ytoifblndpcelkaa

/-
  The contract of slipwayref01.Get: the same number as octet.Get's. For every seat.
-/
namespace Go.Proofs.Ytoifblndpcelkaa
open Go.RowKit
set_option linter.all false

theorem mul_add_byte (x y : Int) (h0 : 0 ≤ x) (h1 : x < 72057594037927936) (h2 : 0 ≤ y) (h3 : y ≤ 255) :
    IntKind.u64.wrap (IntKind.u64.wrap (x * 256) + IntKind.u64.wrap y) = x * 256 + y := by
  simp only [IntKind.wrap_u64]; omega

set_option maxHeartbeats 400000 in
theorem refGet_ok (b off len cap : Nat) (zs : List Int) (a m : Nat) (w : World) (h1 : 1 ≤ m) (h2 : m ≤ 8) (h3 : a + m ≤ len) (h4 : len ≤ 9223372036854775807)
    (hc : ∀ j, j < len → w.cell? ⟨b, off + j, none⟩ = some (.int .u8 (zs.getD j 0))) (hz : ∀ j, 0 ≤ zs.getD j 0 ∧ zs.getD j 0 ≤ 255) :
    Calls Try.prog 92 #[.slice (some ⟨b, off, none⟩) len cap, .int .i64 a, .int .i64 m] w fun e w' => e = .returned (.tuple #[.int .u64 (getTo zs a m), .int .i64 0]) ∧ w' = w := by
  have n1 : decide ((a : Int) < 0) = false := by simp
  have n2 : decide ((len : Int) < a) = false := by simp; omega
  have n3 : decide ((len : Int) - a < m) = false := by simp; omega
  go_enter Try.func92, Try.ntmps92
  go_wp2
  go_loop [8, 9] (fun n i => ∃ k : Nat, k ≤ m ∧ i = .int .i64 k ∧ n = .int .u64 (getTo zs a k)) (fun _ i => m - (intOf i).toNat)
  case atStart => exact ⟨0, Nat.zero_le _, rfl, rfl⟩
  case round =>
    obtain ⟨k, hk, rfl, rfl⟩ := hrel
    have hg := getTo_bd zs hz a k
    by_cases hlt : k < m
    · have hcell := hc (a + k) (by omega)
      have hzz := hz (a + k)
      have hp := pow_le56 k (by omega)
      have HG : Hid (getTo zs a (k + 1) = getTo zs a k * 256 + zs.getD (a + k) 0) := rfl
      have hg1 : getTo zs a k < 72057594037927936 := by omega
      obtain ⟨y, hy⟩ : ∃ y, y = zs.getD (a + k) 0 := ⟨_, rfl⟩
      obtain ⟨x, hx⟩ : ∃ x, x = getTo zs a k := ⟨_, rfl⟩
      rw [← hy] at hcell hzz HG
      rw [← hx] at hg hg1 HG ⊢
      have hg0 := hg.1
      clear hy hx hp hc hz hg
      go_wp2
      go_round
      case rel => exact ⟨k + 1, by omega, by go_num, by rw [HG.out]⟩
      case measure => simp [intOf]; omega
    · have : k = m := by omega
      subst this
      go_wp2
      go_ret2
      exact ⟨rfl, rfl⟩

set_option maxHeartbeats 400000 in
theorem refGet_arg (v : Value) (a m : Int) (w : World) (h : m < 1 ∨ 8 < m ∨ a < 0) :
    Calls Try.prog 92 #[v, .int .i64 a, .int .i64 m] w fun e w' => e = .returned (.tuple #[.int .u64 0, .int .i64 1]) ∧ w' = w := by
  by_cases h1 : m < 1
  · clear h
    go_enter Try.func92, Try.ntmps92
    go_wp2
    go_ret2
    exact ⟨rfl, rfl⟩
  · by_cases h2 : 8 < m
    · clear h
      go_enter Try.func92, Try.ntmps92
      go_wp2
      go_ret2
      exact ⟨rfl, rfl⟩
    · have h3 : a < 0 := by omega
      clear h
      go_enter Try.func92, Try.ntmps92
      go_wp2
      go_ret2
      exact ⟨rfl, rfl⟩

set_option maxHeartbeats 400000 in
theorem refGet_short (x : Option Addr) (len cap : Nat) (a m : Int) (w : World) (h1 : 1 ≤ m) (h2 : m ≤ 8) (h3 : 0 ≤ a) (h4 : (len : Int) - m < a) (h5 : len ≤ 9223372036854775807) (h6 : a ≤ 9223372036854775807) :
    Calls Try.prog 92 #[.slice x len cap, .int .i64 a, .int .i64 m] w fun e w' => e = .returned (.tuple #[.int .u64 0, .int .i64 5]) ∧ w' = w := by
  have n1 : ¬ m < 1 := by omega
  have n2 : ¬ 8 < m := by omega
  have n3 : ¬ a < 0 := by omega
  by_cases h7 : (len : Int) < a
  · go_enter Try.func92, Try.ntmps92
    go_wp2
    go_ret2
    exact ⟨rfl, rfl⟩
  · have h8 : (len : Int) - a < m := by omega
    go_enter Try.func92, Try.ntmps92
    go_wp2
    go_ret2
    exact ⟨rfl, rfl⟩

theorem refGet_part (pt : Part) (a m : Int) (w : World) (hok : pt.ok w) (hl : pt.zs.length ≤ 140737488353280) (ha6 : a ≤ 9223372036854775807) :
    Calls Try.prog 92 #[pt.val, .int .i64 a, .int .i64 m] w fun e w' => e = .returned (.tuple #[.int .u64 (getAns pt.zs a m).1, .int .i64 (getAns pt.zs a m).2]) ∧ w' = w := by
  unfold getAns
  by_cases h1 : m < 1 ∨ 8 < m ∨ a < 0
  · rw [if_pos h1]
    exact refGet_arg _ a m w h1
  · rw [if_neg h1]
    by_cases h2 : (pt.zs.length : Int) - m < a
    · rw [if_pos h2]
      exact refGet_short _ _ _ a m w (by omega) (by omega) (by omega) h2 (by omega) ha6
    · rw [if_neg h2]
      have hbd := getD_mem_bd hok.1
      obtain ⟨x, c, zs⟩ := pt
      simp only [Part.val] at *
      rcases hok.2.2 with h | ⟨b, o, ha, hc⟩
      · simp only at h; subst h; simp at h2; omega
      · simp only at ha hc
        subst ha
        obtain ⟨A, hA⟩ := Int.eq_ofNat_of_zero_le (show 0 ≤ a by omega)
        obtain ⟨M, hM⟩ := Int.eq_ofNat_of_zero_le (show 0 ≤ m by omega)
        rw [hA, hM, Int.toNat_natCast, Int.toNat_natCast]
        exact refGet_ok b o zs.length c zs A M w (by omega) (by omega) (by omega) (by omega) hc hbd

end Go.Proofs.Ytoifblndpcelkaa

/-
  The contracts of the document's Find, Number, Small.
-/
namespace Go.Proofs.Ytoifblndpcelkaa
open Go.RowKit
set_option linter.all false

set_option maxRecDepth 20000 in
set_option maxHeartbeats 1000000 in
theorem refFind_any (a : Option Addr) (c : Nat) (os : List OP) (code : Int) (w : World) (h : OV w a os) :
    Calls Try.prog 48 #[.slice a os.length c, .int .i64 code] w fun e w' => ∃ ax cx, e = .returned (.tuple #[.slice ax (fstP os code).zs.length cx, .bool (fstB os code)]) ∧ Hid (Ans w w' (fstP os code).zs ax (fstP os code).zs.length cx) := by
  have C0 := place_any a c os code w h
  rcases plI_fst os code with ⟨h1, h2⟩ | ⟨k, o, h1, h2, h3⟩
  · have e1 : fstP os code = Part.nil := by unfold fstP; rw [h2]
    have e2 : fstB os code = false := by unfold fstB; rw [h2]; rfl
    rw [h1] at C0
    rw [e1, e2]
    simp only [Part.nil, List.length_nil]
    clear h h1 h2 e1 e2
    go_enter Try.func48, Try.ntmps48
    go_wp2_with (first
      | (go_at_call 93; refine C0.mono ?_; rintro e w1 ⟨rfl, rfl⟩))
    go_ret2
    exact ⟨none, 0, rfl, ans_nil (Below.refl _ _)⟩
  · have e1 : fstP os code = o.2 := by unfold fstP; rw [h3]
    have e2 : fstB os code = true := by unfold fstB; rw [h3]; rfl
    rw [h1] at C0
    rw [e1, e2]
    obtain ⟨cd, ad, cp, zs⟩ := o
    obtain ⟨b, off, ea, c0, c1⟩ := h.cell k _ h2
    have hok := h.oks _ (List.mem_of_getElem? h2)
    obtain ⟨a', c', w', r1, R1, B1, F1⟩ := append_nil_part ⟨ad, cp, zs⟩ w hok.1 (by have := hok.2; simp only at this ⊢; omega) 33
    simp only [Part.val] at c0 c1 r1 R1 F1 ⊢
    subst ea
    have HR := hid r1
    have HA : Hid (Ans w w' zs a' zs.length c') := ⟨R1, F1, B1⟩
    have hkn : k < os.length := (List.getElem?_eq_some_iff.1 h2).1
    have hkn' : (k : Int) < os.length := by omega
    have hfw := h.few
    have hlt0 : ¬ (k : Int) < 0 := by omega
    clear h h1 h2 h3 e1 e2 hok r1 R1 B1 F1 c0
    generalize os.length = n at *
    go_enter Try.func48, Try.ntmps48
    go_wp2_with (first
      | (go_at_call 93; refine C0.mono ?_; rintro e w1 ⟨rfl, rfl⟩)
      | (at_builtin; refine wpList_append_run _ rfl _ _ _ _ rfl _ _ rfl rfl HR.out ?_; clear HR))
    go_ret2
    exact ⟨a', c', rfl, HA.out⟩
theorem fstP_none {os : List OP} {code : Int} (h : fstB os code = false) : (fstP os code).zs = [] := by
  unfold fstB at h
  unfold fstP
  cases hf : fst? os code with
  | none => rfl
  | some o => rw [hf] at h; simp at h
theorem row_part_ok {w : World} {a : Option Addr} {n c : Nat} {zs : List Int} (h : Row w 5 (.slice a n c) (u8s zs)) (hz : ∀ z, z ∈ zs → 0 ≤ z ∧ z ≤ 255) : Part.ok w ⟨a, c, zs⟩ ∧ n = zs.length := by
  obtain ⟨⟨a', c', zs'⟩, e1, e2, ok⟩ := h.part hz
  simp only [Part.val, Value.slice.injEq] at e1
  simp only at e2
  subst e2
  obtain ⟨rfl, rfl, rfl⟩ := e1
  exact ⟨ok, rfl⟩
theorem refGet_row (wx : World) (ax : Option Addr) (n cx : Nat) (zs : List Int) (r : Row wx 5 (.slice ax n cx) (u8s zs)) (hz : ∀ z, z ∈ zs → 0 ≤ z ∧ z ≤ 255) (hl : zs.length ≤ 140737488353280) :
    Calls Try.prog 92 #[.slice ax n cx, .int .i64 0, .int .i64 4] wx fun e w' => e = .returned (.tuple #[.int .u64 (getAns zs 0 4).1, .int .i64 (getAns zs 0 4).2]) ∧ w' = wx := by
  obtain ⟨ok, rfl⟩ := row_part_ok r hz
  exact refGet_part ⟨ax, cx, zs⟩ 0 4 wx ok hl (by omega)
set_option maxRecDepth 20000 in
set_option maxHeartbeats 2000000 in
theorem refSmall_any (a : Option Addr) (c : Nat) (os : List OP) (code : Int) (w : World) (h : OV w a os) :
    Calls Try.prog 53 #[.slice a os.length c, .int .i64 code] w fun e w' => e = .returned (.tuple #[.int .i64 (exN (fstP os code).zs 1), .bool (exB (fstP os code).zs 1)]) ∧ Hid (Below w.heap.size w w') := by
  have C0 := refFind_any a c os code w h
  obtain ⟨ok, ln⟩ := fstP_ok h code
  have HN := @fstP_none os code
  have hbd := ok.1
  clear ok h
  generalize hB : fstB os code = Bv at *
  generalize (fstP os code).zs = zs at *
  clear hB
  by_cases hl : zs.length = 1
  · match zs, hl with
    | [z], _ =>
      have e1 : exB [z] 1 = true := rfl
      have e2 : exN [z] 1 = z := by simp [exN, getTo]
      have hz := hbd z (by simp)
      have hBt : Bv = true := by
        cases Bv
        · have := HN rfl
          simp at this
        · rfl
      subst hBt
      rw [e1, e2]
      obtain ⟨hz0, hz1⟩ := hz
      simp only [List.length_cons, List.length_nil, Nat.zero_add] at C0 ⊢
      have C2 : Calls Try.prog 48 #[.slice a os.length c, .int .i64 code] w fun e w' => ∃ g cx, e = .returned (.tuple #[.slice (some ⟨g, 0, none⟩) 1 cx, .bool true]) ∧ w'.cell? ⟨g, 0, none⟩ = some (.int .u8 z) ∧ Hid (Below w.heap.size w w') := by
        refine C0.mono ?_
        rintro e w' ⟨ax, cx, he, HA⟩
        obtain ⟨g, cap, hv, hc⟩ := HA.out.1.cell 0 (by simp [u8s])
        simp only [Value.slice.injEq] at hv
        obtain ⟨rfl, _, rfl⟩ := hv
        exact ⟨g, cx, he, by rw [hc]; rfl, HA.out.2.2⟩
      clear C0 HN hbd e1 e2
      go_enter Try.func53, Try.ntmps53
      go_wp2_with (first
        | (go_at_call 48; refine C2.mono ?_; rintro e w1 ⟨g, cx, rfl, hc, HB⟩))
      go_ret2
      exact ⟨rfl, HB.out⟩
  · have e1 : exB zs 1 = false := by simp [exB, hl]
    have e2 : exN zs 1 = 0 := by simp [exN, hl]
    have hne : ((zs.length : Int) != 1) = true := by simp; omega
    rw [e1, e2]
    clear HN hbd e1 e2
    cases Bv
    · go_enter Try.func53, Try.ntmps53
      go_wp2_with (first
        | (go_at_call 48; refine C0.mono ?_; rintro e w1 ⟨ax, cx, rfl, HA⟩))
      go_ret2
      exact ⟨rfl, HA.out.2.2⟩
    · go_enter Try.func53, Try.ntmps53
      go_wp2_with (first
        | (go_at_call 48; refine C0.mono ?_; rintro e w1 ⟨ax, cx, rfl, HA⟩))
      go_ret2
      exact ⟨rfl, HA.out.2.2⟩
end Go.Proofs.Ytoifblndpcelkaa
