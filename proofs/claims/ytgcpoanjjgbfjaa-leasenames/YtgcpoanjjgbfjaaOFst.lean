/-
  The contracts of option.first, exact, Find, Number, Small, Numbered, Byte.
-/
import Derived.Test.YtgcpoanjjgbfjaaOMem
import Derived.Test.YtgcpoanjjgbfjaaBClone
import Derived.Test.YtgcpoanjjgbfjaaBGet
import Derived.Test.YtgcpoanjjgbfjaaBNum
namespace Go.Proofs.Ytgcpoanjjgbfjaa
open Go.RowKit
set_option linter.all false

/-- the first option of a code. -/
def fst? (os : List OP) (code : Int) : Option OP := os.find? (fun o => o.1 == code)
def fstP (os : List OP) (code : Int) : Part := match fst? os code with | some o => o.2 | none => Part.nil
def fstB (os : List OP) (code : Int) : Bool := (fst? os code).isSome
theorem fst_not {os : List OP} {code : Int} {k : Nat} (h : ∀ (j : Nat), j < k → ∀ o, os[j]? = some o → o.1 ≠ code) (hk : k = os.length) : fst? os code = none := by
  unfold fst?
  rw [List.find?_eq_none]
  intro o ho
  obtain ⟨i, hi⟩ := List.getElem?_of_mem ho
  have := h i (by rw [hk]; exact (List.getElem?_eq_some_iff.1 hi).1) o hi
  simpa using this
theorem fst_is {os : List OP} {code : Int} {k : Nat} {o : OP} (h : ∀ (j : Nat), j < k → ∀ o, os[j]? = some o → o.1 ≠ code) (hk : os[k]? = some o) (ho : o.1 = code) : fst? os code = some o := by
  unfold fst?
  have hl := (List.getElem?_eq_some_iff.1 hk).1
  rw [List.getElem?_eq_getElem hl] at hk
  simp only [Option.some.injEq] at hk
  rw [List.find?_eq_some_iff_getElem]
  refine ⟨by simpa using ho, k, hl, hk, fun j hj => ?_⟩
  have := h j hj _ (List.getElem?_eq_getElem (by omega))
  simpa using this
theorem fst_mem {os : List OP} {code : Int} {o : OP} (h : fst? os code = some o) : o ∈ os := List.mem_of_find?_eq_some h
theorem fstP_ok {w : World} {a : Option Addr} {os : List OP} (h : OV w a os) (code : Int) : (fstP os code).ok w ∧ (fstP os code).zs.length ≤ 140737488353280 := by
  unfold fstP
  cases hf : fst? os code with
  | none => exact ⟨Part.nil_ok w, by simp [Part.nil]⟩
  | some o => exact h.oks o (fst_mem hf)
theorem find_abs (os : List OP) (code : Int) : findO (absO os) code = (fst? os code).map fun o => o.2.zs := by
  unfold findO fst? absO
  rw [List.find?_map]
  cases h : os.find? ((fun o => o.1 == code) ∘ fun o : OP => (o.1, o.2.zs)) with
  | none => rw [show (fun o : OP => o.1 == code) = (fun o => o.1 == code) ∘ (fun o : OP => (o.1, o.2.zs)) from rfl, h]; rfl
  | some o => rw [show (fun o : OP => o.1 == code) = (fun o => o.1 == code) ∘ (fun o : OP => (o.1, o.2.zs)) from rfl, h]; rfl

set_option maxHeartbeats 1000000 in
theorem first_any (a : Option Addr) (c : Nat) (os : List OP) (code : Int) (w : World) (h : OV w a os) :
    Calls Try.prog 67 #[.slice a os.length c, .int .i64 code] w fun e w' => e = .returned (.tuple #[(fstP os code).val, .bool (fstB os code)]) ∧ Hid (Below w.heap.size w w') := by
  obtain ⟨n, hn⟩ : ∃ n, n = os.length := ⟨_, rfl⟩
  have HN := hid hn
  have hf := h.few
  rw [← hn] at hf ⊢
  have HV := hid h
  clear h hn
  go_enter Try.func67, Try.ntmps67
  go_wp2
  go_loopw [10] (fun i wr => ∃ k : Nat, k ≤ n ∧ i = .int .i64 k ∧ Hid (Below w.heap.size w wr) ∧ Hid (∀ (j : Nat), j < k → ∀ o, os[j]? = some o → o.1 ≠ code)) (fun i _ => n - (intOf i).toNat)
  case atStart => exact ⟨0, Nat.zero_le _, rfl, Below.refl _ _, fun j hj => by omega⟩
  case round =>
    obtain ⟨k, hk, rfl, HB, HJ⟩ := hrel
    by_cases hlt : k < n
    · have hlt' : (k : Int) < n := by omega
      obtain ⟨⟨cd, ad, cp, zs⟩, ho⟩ : ∃ o, os[k]? = some o := ⟨os[k]'(by rw [← HN.out]; exact hlt), List.getElem?_eq_getElem _⟩
      obtain ⟨b, off, ea, c0, c1⟩ := (HV.out.below HB.out).cell k _ ho
      simp only [Part.val] at c0 c1
      subst ea
      have HO := hid ho
      clear ho
      by_cases he : cd = code
      · have he' : (cd == code) = true := by simpa using he
        have HR : Hid (fst? os code = some (cd, ⟨ad, cp, zs⟩)) := fst_is HJ.out HO.out he
        clear he
        go_wp2
        all_goals first
          | (exfalso; simp_all; done)
          | (go_ret2; exact ⟨by unfold fstP fstB; rw [HR.out]; rfl, by repeat (first | exact HB.out | refine bpush ?_ _ | refine Below.drew ?_)⟩)
      · have he' : (cd == code) = false := by simpa using he
        have HE := hid he
        clear he
        go_wp2
        go_roundw
        case rel =>
          refine ⟨k + 1, by omega, by go_num, bpush HB.out _, fun j hj o ho => ?_⟩
          rcases Nat.lt_or_ge j k with h1 | h1
          · exact HJ.out j h1 o ho
          · have : j = k := by omega
            subst this
            rw [HO.out] at ho
            simp only [Option.some.injEq] at ho
            subst ho
            exact HE.out
        case measure => simp [intOf]; omega
    · have hge : ¬ (k : Int) < n := by omega
      have hkn : k = n := by omega
      go_wp2
      go_ret2
      exact ⟨by unfold fstP fstB; rw [fst_not HJ.out (by rw [hkn]; exact HN.out)]; rfl, HB.out⟩

/-- a number of just m bytes; 0: it has not. -/
def exN (zs : List Int) (m : Nat) : Int := if zs.length = m then getTo zs 0 m else 0
def exB (zs : List Int) (m : Nat) : Bool := decide (zs.length = m)
set_option maxHeartbeats 1000000 in
theorem exact_any (a : Option Addr) (c : Nat) (os : List OP) (code : Int) (m : Nat) (w : World) (h : OV w a os) (h1 : 1 ≤ m) (h8 : m ≤ 8) :
    Calls Try.prog 48 #[.slice a os.length c, .int .i64 code, .int .i64 m] w fun e w' => e = .returned (.tuple #[.int .u64 (exN (fstP os code).zs m), .bool (exB (fstP os code).zs m)]) ∧ Hid (Below w.heap.size w w') := by
  obtain ⟨ok, ln⟩ := fstP_ok h code
  have C1 := fun wx (hw : Below w.heap.size w wx) => first_any a c os code wx (h.below hw)
  have C2 := fun wx (hw : Below w.heap.size w wx) => get_part (fstP os code) 0 m wx (Part.ok_below ok hw) (by omega)
  have C0 := first_any a c os code w h
  have HG : Hid ((fstP os code).zs.length = m → (getAns (fstP os code).zs 0 m).1 = getTo (fstP os code).zs 0 m) := fun e => by unfold getAns; rw [if_neg (by omega), if_neg (by omega)]; simp
  have HX : Hid (∀ zs : List Int, zs.length = m → exN zs m = getTo zs 0 m ∧ exB zs m = true) := fun zs e => by simp [exN, exB, e]
  have HY : Hid (∀ zs : List Int, ¬ zs.length = m → exN zs m = 0 ∧ exB zs m = false) := fun zs e => by simp [exN, exB, e]
  clear ok h C1
  generalize fstB os code = B at *
  generalize hp : fstP os code = pt at *
  clear hp
  obtain ⟨ax, cx, zs⟩ := pt
  simp only [Part.val] at *
  obtain ⟨n, hn⟩ : ∃ n, n = zs.length := ⟨_, rfl⟩
  rw [← hn] at C0 C2 ln
  have HL := hid hn
  clear hn
  by_cases hm : n = m
  · subst hm
    obtain ⟨e1, e2⟩ := HX.out zs HL.out.symm
    rw [e1, e2, ← HG.out HL.out.symm]
    clear HX HY HG e1 e2
    go_enter Try.func48, Try.ntmps48
    go_wp2_with (first
      | (go_at_call 67; refine C0.mono ?_; rintro e w1 ⟨rfl, HB⟩)
      | (go_at_call 68; refine (C2 _ HB.out).mono ?_; rintro e w2 ⟨rfl, rfl⟩))
    go_ret2
    exact ⟨rfl, HB.out⟩
  · obtain ⟨e1, e2⟩ := HY.out zs (by rw [← HL.out]; exact hm)
    rw [e1, e2]
    have hne : ((n : Int) != (m : Int)) = true := by simp; omega
    clear HX HY HG e1 e2
    go_enter Try.func48, Try.ntmps48
    go_wp2_with (first
      | (go_at_call 67; refine C0.mono ?_; rintro e w1 ⟨rfl, HB⟩))
    go_ret2
    exact ⟨rfl, HB.out⟩
set_option maxHeartbeats 1000000 in
theorem number_any (a : Option Addr) (c : Nat) (os : List OP) (code : Int) (w : World) (h : OV w a os) :
    Calls Try.prog 38 #[.slice a os.length c, .int .i64 code] w fun e w' => e = .returned (.tuple #[.int .u32 (exN (fstP os code).zs 4), .bool (exB (fstP os code).zs 4)]) ∧ Hid (Below w.heap.size w w') := by
  have C0 := exact_any a c os code 4 w h (by omega) (by omega)
  obtain ⟨ok, ln⟩ := fstP_ok h code
  have hb : 0 ≤ exN (fstP os code).zs 4 ∧ exN (fstP os code).zs 4 ≤ 4294967295 := by
    unfold exN
    split
    · have := getTo_bd (fstP os code).zs (getD_mem_bd ok.1) 0 4
      omega
    · omega
  obtain ⟨b0, b1⟩ := hb
  generalize exN (fstP os code).zs 4 = N at *
  generalize exB (fstP os code).zs 4 = B at *
  have hw : IntKind.u32.wrap N = N := by simp only [IntKind.wrap_u32]; omega
  clear ok h ln
  go_enter Try.func38, Try.ntmps38
  go_wp2_with (first
    | (go_at_call 48; refine C0.mono ?_; rintro e w1 ⟨rfl, HB⟩))
  go_ret2
  exact ⟨by first | rfl | simp_all, HB.out⟩
set_option maxHeartbeats 1000000 in
theorem small_any (a : Option Addr) (c : Nat) (os : List OP) (code : Int) (w : World) (h : OV w a os) :
    Calls Try.prog 32 #[.slice a os.length c, .int .i64 code] w fun e w' => e = .returned (.tuple #[.int .i64 (exN (fstP os code).zs 1), .bool (exB (fstP os code).zs 1)]) ∧ Hid (Below w.heap.size w w') := by
  have C0 := exact_any a c os code 1 w h (by omega) (by omega)
  obtain ⟨ok, ln⟩ := fstP_ok h code
  have hb : 0 ≤ exN (fstP os code).zs 1 ∧ exN (fstP os code).zs 1 ≤ 255 := by
    unfold exN
    split
    · have := getTo_bd (fstP os code).zs (getD_mem_bd ok.1) 0 1
      omega
    · omega
  obtain ⟨b0, b1⟩ := hb
  generalize exN (fstP os code).zs 1 = N at *
  generalize exB (fstP os code).zs 1 = B at *
  clear ok h ln
  go_enter Try.func32, Try.ntmps32
  go_wp2_with (first
    | (go_at_call 48; refine C0.mono ?_; rintro e w1 ⟨rfl, HB⟩))
  go_ret2
  exact ⟨by first | rfl | simp_all, HB.out⟩
set_option maxHeartbeats 1000000 in
theorem ofind_any (a : Option Addr) (c : Nat) (os : List OP) (code : Int) (w : World) (h : OV w a os) :
    Calls Try.prog 69 #[.slice a os.length c, .int .i64 code] w fun e w' => ∃ ax cx, e = .returned (.tuple #[.slice ax (fstP os code).zs.length cx, .bool (fstB os code)]) ∧ Hid (Ans w w' (fstP os code).zs ax (fstP os code).zs.length cx) := by
  have C0 := first_any a c os code w h
  obtain ⟨ok, ln⟩ := fstP_ok h code
  have C2 := fun wx (hw : Below w.heap.size w wx) => bclone_any (fstP os code) wx (Part.ok_below ok hw) (by omega)
  generalize fstB os code = B at *
  generalize fstP os code = pt at *
  clear ok h
  obtain ⟨ax, cx, zs⟩ := pt
  simp only [Part.val] at *
  go_enter Try.func69, Try.ntmps69
  go_wp2_with (first
    | (go_at_call 67; refine C0.mono ?_; rintro e w1 ⟨rfl, HB⟩)
    | (go_at_call 76; refine (C2 _ HB.out).mono ?_; rintro e w2 ⟨ay, cy, rfl, HA⟩))
  go_ret2
  exact ⟨ay, cy, rfl, HA.out.1, fun b hb => Nat.le_trans HB.out.size (HA.out.2.1 b hb), bstep HB.out HA.out.2.2⟩
end Go.Proofs.Ytgcpoanjjgbfjaa
