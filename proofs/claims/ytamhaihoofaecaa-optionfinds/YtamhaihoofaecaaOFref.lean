/-
  The contracts of the document's place, Find, Number, Small.
-/
import Derived.Test.YtamhaihoofaecaaOFst
import Derived.Test.YtamhaihoofaecaaBRefGet
namespace Go.Proofs.Ytamhaihoofaecaa
open Go.RowKit
set_option linter.all false

/-- the place of a code; -1: none. -/
def plI (os : List OP) (code : Int) : Int := match os.findIdx? (fun o => o.1 == code) with | some i => (i : Int) | none => -1
theorem plI_not {os : List OP} {code : Int} {k : Nat} (h : ∀ (j : Nat), j < k → ∀ o, os[j]? = some o → o.1 ≠ code) (hk : k = os.length) : plI os code = -1 := by
  unfold plI
  have : os.findIdx? (fun o => o.1 == code) = none := by
    rw [List.findIdx?_eq_none_iff]
    intro o ho
    obtain ⟨i, hi⟩ := List.getElem?_of_mem ho
    have := h i (by rw [hk]; exact (List.getElem?_eq_some_iff.1 hi).1) o hi
    simpa using this
  rw [this]
theorem plI_is {os : List OP} {code : Int} {k : Nat} {o : OP} (h : ∀ (j : Nat), j < k → ∀ o, os[j]? = some o → o.1 ≠ code) (hk : os[k]? = some o) (ho : o.1 = code) : plI os code = (k : Int) := by
  unfold plI
  have hl := (List.getElem?_eq_some_iff.1 hk).1
  rw [List.getElem?_eq_getElem hl] at hk
  simp only [Option.some.injEq] at hk
  have : os.findIdx? (fun o => o.1 == code) = some k := by
    rw [List.findIdx?_eq_some_iff_getElem]
    refine ⟨hl, by rw [hk]; simpa using ho, fun j hj => ?_⟩
    have := h j hj _ (List.getElem?_eq_getElem (by omega))
    simpa using this
  rw [this]
/-- as the first option of the code. -/
theorem plI_fst (os : List OP) (code : Int) : (plI os code = -1 ∧ fst? os code = none) ∨ ∃ (k : Nat) (o : OP), plI os code = (k : Int) ∧ os[k]? = some o ∧ fst? os code = some o := by
  unfold plI fst?
  cases h : os.findIdx? (fun o => o.1 == code) with
  | none =>
    left
    refine ⟨rfl, ?_⟩
    rw [List.findIdx?_eq_none_iff] at h
    rw [List.find?_eq_none]
    intro o ho
    simpa using h o ho
  | some k =>
    right
    rw [List.findIdx?_eq_some_iff_getElem] at h
    obtain ⟨hl, h1, h2⟩ := h
    refine ⟨k, os[k], rfl, List.getElem?_eq_getElem hl, ?_⟩
    rw [List.find?_eq_some_iff_getElem]
    exact ⟨h1, k, hl, rfl, fun j hj => by have := h2 j hj; simpa using this⟩
set_option maxHeartbeats 1000000 in
theorem place_any (a : Option Addr) (c : Nat) (os : List OP) (code : Int) (w : World) (h : OV w a os) :
    Calls Try.prog 40 #[.slice a os.length c, .int .i64 code] w fun e w' => e = .returned (.int .i64 (plI os code)) ∧ w' = w := by
  obtain ⟨n, hn⟩ : ∃ n, n = os.length := ⟨_, rfl⟩
  have HN := hid hn
  have hf := h.few
  rw [← hn] at hf ⊢
  have HV := hid h
  clear h hn
  go_enter Try.func40, Try.ntmps40
  go_wp2
  go_loop [5] (fun i => ∃ k : Nat, k ≤ n ∧ i = .int .i64 k ∧ Hid (∀ (j : Nat), j < k → ∀ o, os[j]? = some o → o.1 ≠ code)) (fun i => n - (intOf i).toNat)
  case atStart => exact ⟨0, Nat.zero_le _, rfl, fun j hj => by omega⟩
  case round =>
    obtain ⟨k, hk, rfl, HJ⟩ := hrel
    by_cases hlt : k < n
    · have hlt' : (k : Int) < n := by omega
      obtain ⟨⟨cd, ad, cp, zs⟩, ho⟩ : ∃ o, os[k]? = some o := ⟨os[k]'(by rw [← HN.out]; exact hlt), List.getElem?_eq_getElem _⟩
      obtain ⟨b, off, ea, c0, c1⟩ := HV.out.cell k _ ho
      simp only [Part.val] at c0 c1
      subst ea
      have HO := hid ho
      clear ho c1
      by_cases he : cd = code
      · have he' : (cd == code) = true := by simpa using he
        have HR : Hid (plI os code = (k : Int)) := plI_is HJ.out HO.out he
        clear he
        go_wp2
        go_ret
        exact ⟨by rw [HR.out]; rfl, rfl⟩
      · have he' : (cd == code) = false := by simpa using he
        have HE := hid he
        clear he
        go_wp2
        go_round
        case rel =>
          refine ⟨k + 1, by omega, by go_num, fun j hj o ho => ?_⟩
          rcases Nat.lt_or_ge j k with h1 | h1
          · exact HJ.out j h1 o ho
          · have : j = k := by omega
            subst this
            rw [HO.out] at ho
            simp only [Option.some.injEq] at ho
            subst ho
            exact HE.out
        case measure => simp [intOf]; omega
    · have hge : ¬ (k : Int) < n := by omega
      have hkn : k = n := by omega
      have HR : Hid (plI os code = -1) := plI_not HJ.out (by rw [hkn]; exact HN.out)
      go_wp2
      go_ret
      exact ⟨by rw [HR.out]; rfl, rfl⟩
set_option maxHeartbeats 1000000 in
theorem refFind_any (a : Option Addr) (c : Nat) (os : List OP) (code : Int) (w : World) (h : OV w a os) :
    Calls Try.prog 24 #[.slice a os.length c, .int .i64 code] w fun e w' => ∃ ax cx, e = .returned (.tuple #[.slice ax (fstP os code).zs.length cx, .bool (fstB os code)]) ∧ Hid (Ans w w' (fstP os code).zs ax (fstP os code).zs.length cx) := by
  have C0 := place_any a c os code w h
  rcases plI_fst os code with ⟨h1, h2⟩ | ⟨k, o, h1, h2, h3⟩
  · have e1 : fstP os code = Part.nil := by unfold fstP; rw [h2]
    have e2 : fstB os code = false := by unfold fstB; rw [h2]; rfl
    rw [h1] at C0
    rw [e1, e2]
    simp only [Part.nil, List.length_nil]
    clear h h1 h2 e1 e2
    go_enter Try.func24, Try.ntmps24
    go_wp2_with (first
      | (go_at_call 40; refine C0.mono ?_; rintro e w1 ⟨rfl, rfl⟩))
    go_ret2
    exact ⟨none, 0, rfl, ans_nil (Below.refl _ _)⟩
  · have e1 : fstP os code = o.2 := by unfold fstP; rw [h3]
    have e2 : fstB os code = true := by unfold fstB; rw [h3]; rfl
    rw [h1] at C0
    rw [e1, e2]
    obtain ⟨cd, ad, cp, zs⟩ := o
    obtain ⟨b, off, ea, c0, c1⟩ := h.cell k _ h2
    have hok := h.oks _ (List.mem_of_getElem? h2)
    obtain ⟨a', c', w', r1, R1, B1, F1⟩ := append_nil_part ⟨ad, cp, zs⟩ w hok.1 (by have := hok.2; simp only at this ⊢; omega) 25
    simp only [Part.val] at c0 c1 r1 R1 F1 ⊢
    subst ea
    have HR := hid r1
    have HA : Hid (Ans w w' zs a' zs.length c') := ⟨R1, F1, B1⟩
    have hkn : k < os.length := (List.getElem?_eq_some_iff.1 h2).1
    have hkn' : (k : Int) < os.length := by omega
    have hfw := h.few
    have hlt0 : ¬ (k : Int) < 0 := by omega
    clear h h1 h2 h3 e1 e2 hok r1 R1 B1 F1 c0
    generalize os.length = n at *
    go_enter Try.func24, Try.ntmps24
    go_wp2_with (first
      | (go_at_call 40; refine C0.mono ?_; rintro e w1 ⟨rfl, rfl⟩)
      | (at_builtin; refine wpList_append_run _ rfl _ _ _ _ rfl _ _ rfl rfl HR.out ?_; clear HR))
    go_ret2
    exact ⟨a', c', rfl, HA.out⟩
theorem fstP_none {os : List OP} {code : Int} (h : fstB os code = false) : (fstP os code).zs = [] := by
  unfold fstB at h
  unfold fstP
  cases hf : fst? os code with
  | none => rfl
  | some o => rw [hf] at h; simp at h
theorem row_part_ok {w : World} {a : Option Addr} {n c : Nat} {zs : List Int} (h : Row w 5 (.slice a n c) (u8s zs)) (hz : ∀ z, z ∈ zs → 0 ≤ z ∧ z ≤ 255) : Part.ok w ⟨a, c, zs⟩ ∧ n = zs.length := by
  obtain ⟨⟨a', c', zs'⟩, e1, e2, ok⟩ := h.part hz
  simp only [Part.val, Value.slice.injEq] at e1
  simp only at e2
  subst e2
  obtain ⟨rfl, rfl, rfl⟩ := e1
  exact ⟨ok, rfl⟩
theorem refGet_row (wx : World) (ax : Option Addr) (n cx : Nat) (zs : List Int) (r : Row wx 5 (.slice ax n cx) (u8s zs)) (hz : ∀ z, z ∈ zs → 0 ≤ z ∧ z ≤ 255) (hl : zs.length ≤ 140737488351232) :
    Calls Try.prog 43 #[.slice ax n cx, .int .i64 0, .int .i64 4] wx fun e w' => e = .returned (.tuple #[.int .u64 (getAns zs 0 4).1, .int .i64 (getAns zs 0 4).2]) ∧ w' = wx := by
  obtain ⟨ok, rfl⟩ := row_part_ok r hz
  exact refGet_part ⟨ax, cx, zs⟩ 0 4 wx ok hl (by omega)
set_option maxHeartbeats 2000000 in
theorem refNumber_any (a : Option Addr) (c : Nat) (os : List OP) (code : Int) (w : World) (h : OV w a os) :
    Calls Try.prog 25 #[.slice a os.length c, .int .i64 code] w fun e w' => e = .returned (.tuple #[.int .u32 (exN (fstP os code).zs 4), .bool (exB (fstP os code).zs 4)]) ∧ Hid (Below w.heap.size w w') := by
  have C0 := refFind_any a c os code w h
  obtain ⟨ok, ln⟩ := fstP_ok h code
  have HN := @fstP_none os code
  have hbd := ok.1
  have C1 := fun (wx : World) (ax : Option Addr) (cx : Nat) (r : Row wx 5 (.slice ax (fstP os code).zs.length cx) (u8s (fstP os code).zs)) => refGet_row wx ax (fstP os code).zs.length cx (fstP os code).zs r hbd ln
  clear ok h
  generalize hB : fstB os code = Bv at *
  generalize (fstP os code).zs = zs at *
  clear hB
  by_cases hl : zs.length = 4
  · have e1 : exB zs 4 = true := by simp [exB, hl]
    have e2 : exN zs 4 = (getAns zs 0 4).1 := by
      unfold exN getAns
      rw [if_pos hl, if_neg (by omega), if_neg (by omega)]
      simp
    have hN0 : 0 ≤ (getAns zs 0 4).1 ∧ (getAns zs 0 4).1 ≤ 4294967295 := by
      rw [← e2]
      unfold exN
      rw [if_pos hl]
      have := getTo_bd zs (getD_mem_bd hbd) 0 4
      omega
    obtain ⟨hN1, hN2⟩ := hN0
    have hBt : Bv = true := by
      cases Bv
      · have := HN rfl
        rw [this] at hl
        simp at hl
      · rfl
    subst hBt
    rw [e1, e2]
    have hw : IntKind.u32.wrap (getAns zs 0 4).1 = (getAns zs 0 4).1 := by simp only [IntKind.wrap_u32]; omega
    generalize (getAns zs 0 4).1 = V at *
    generalize (getAns zs 0 4).2 = V2 at *
    clear HN hbd e1 e2
    rw [hl] at C0 C1
    go_enter Try.func25, Try.ntmps25
    go_wp2_with (first
      | (go_at_call 24; refine C0.mono ?_; rintro e w1 ⟨ax, cx, rfl, HA⟩)
      | (go_at_call 43; refine (C1 _ _ _ HA.out.1).mono ?_; rintro e w2 ⟨rfl, rfl⟩))
    go_ret2
    exact ⟨by first | rfl | simp_all, HA.out.2.2⟩
  · have e1 : exB zs 4 = false := by simp [exB, hl]
    have e2 : exN zs 4 = 0 := by simp [exN, hl]
    have hne : ((zs.length : Int) != 4) = true := by simp; omega
    rw [e1, e2]
    clear HN hbd e1 e2 C1
    cases Bv
    · go_enter Try.func25, Try.ntmps25
      go_wp2_with (first
        | (go_at_call 24; refine C0.mono ?_; rintro e w1 ⟨ax, cx, rfl, HA⟩))
      go_ret2
      exact ⟨rfl, HA.out.2.2⟩
    · go_enter Try.func25, Try.ntmps25
      go_wp2_with (first
        | (go_at_call 24; refine C0.mono ?_; rintro e w1 ⟨ax, cx, rfl, HA⟩))
      go_ret2
      exact ⟨rfl, HA.out.2.2⟩
set_option maxHeartbeats 2000000 in
theorem refSmall_any (a : Option Addr) (c : Nat) (os : List OP) (code : Int) (w : World) (h : OV w a os) :
    Calls Try.prog 26 #[.slice a os.length c, .int .i64 code] w fun e w' => e = .returned (.tuple #[.int .i64 (exN (fstP os code).zs 1), .bool (exB (fstP os code).zs 1)]) ∧ Hid (Below w.heap.size w w') := by
  have C0 := refFind_any a c os code w h
  obtain ⟨ok, ln⟩ := fstP_ok h code
  have HN := @fstP_none os code
  have hbd := ok.1
  clear ok h
  generalize hB : fstB os code = Bv at *
  generalize (fstP os code).zs = zs at *
  clear hB
  by_cases hl : zs.length = 1
  · match zs, hl with
    | [z], _ =>
      have e1 : exB [z] 1 = true := rfl
      have e2 : exN [z] 1 = z := by simp [exN, getTo]
      have hz := hbd z (by simp)
      have hBt : Bv = true := by
        cases Bv
        · have := HN rfl
          simp at this
        · rfl
      subst hBt
      rw [e1, e2]
      obtain ⟨hz0, hz1⟩ := hz
      simp only [List.length_cons, List.length_nil, Nat.zero_add] at C0 ⊢
      have C2 : Calls Try.prog 24 #[.slice a os.length c, .int .i64 code] w fun e w' => ∃ g cx, e = .returned (.tuple #[.slice (some ⟨g, 0, none⟩) 1 cx, .bool true]) ∧ w'.cell? ⟨g, 0, none⟩ = some (.int .u8 z) ∧ Hid (Below w.heap.size w w') := by
        refine C0.mono ?_
        rintro e w' ⟨ax, cx, he, HA⟩
        obtain ⟨g, cap, hv, hc⟩ := HA.out.1.cell 0 (by simp [u8s])
        simp only [Value.slice.injEq] at hv
        obtain ⟨rfl, _, rfl⟩ := hv
        exact ⟨g, cx, he, by rw [hc]; rfl, HA.out.2.2⟩
      clear C0 HN hbd e1 e2
      go_enter Try.func26, Try.ntmps26
      go_wp2_with (first
        | (go_at_call 24; refine C2.mono ?_; rintro e w1 ⟨g, cx, rfl, hc, HB⟩))
      go_ret2
      exact ⟨rfl, HB.out⟩
  · have e1 : exB zs 1 = false := by simp [exB, hl]
    have e2 : exN zs 1 = 0 := by simp [exN, hl]
    have hne : ((zs.length : Int) != 1) = true := by simp; omega
    rw [e1, e2]
    clear HN hbd e1 e2
    cases Bv
    · go_enter Try.func26, Try.ntmps26
      go_wp2_with (first
        | (go_at_call 24; refine C0.mono ?_; rintro e w1 ⟨ax, cx, rfl, HA⟩))
      go_ret2
      exact ⟨rfl, HA.out.2.2⟩
    · go_enter Try.func26, Try.ntmps26
      go_wp2_with (first
        | (go_at_call 24; refine C0.mono ?_; rintro e w1 ⟨ax, cx, rfl, HA⟩))
      go_ret2
      exact ⟨rfl, HA.out.2.2⟩
end Go.Proofs.Ytamhaihoofaecaa
