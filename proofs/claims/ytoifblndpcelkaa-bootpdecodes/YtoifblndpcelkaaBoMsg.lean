/-
  Messages of bootp as values; small functions of package bootp.
-/
import Derived.Test.YtoifblndpcelkaaAMac
import Derived.Test.YtoifblndpcelkaaOSame
import Derived.Test.YtoifblndpcelkaaShelf
import Derived.Deep.RegionHeld3
namespace Go.Proofs.Ytoifblndpcelkaa
open Go.RowKit
set_option linter.all false

/-- a message but for its options. -/
structure Bp where
  op : Int
  hops : Int
  xid : Int
  secs : Int
  all : Bool
  ci : Int
  yi : Int
  si : Int
  gi : Int
  mac : Mac
  sname : ByteArray
  file : ByteArray
def Bp.cells (m : Bp) (v : Value) : Array Value := #[.int .i64 m.op, .int .i64 m.hops, .int .u32 m.xid, .int .i64 m.secs, .bool m.all, .int .u32 m.ci, .int .u32 m.yi, .int .u32 m.si, .int .u32 m.gi, .int .u8 m.mac.b0, .int .u8 m.mac.b1, .int .u8 m.mac.b2, .int .u8 m.mac.b3, .int .u8 m.mac.b4, .int .u8 m.mac.b5, .string m.sname, .string m.file, v]
def Bp.val (m : Bp) (v : Value) : Value := .agg (m.cells v)
structure Bp.ok (m : Bp) : Prop where
  op : -9223372036854775808 ≤ m.op ∧ m.op ≤ 9223372036854775807
  hops : -9223372036854775808 ≤ m.hops ∧ m.hops ≤ 9223372036854775807
  xid : 0 ≤ m.xid ∧ m.xid ≤ 4294967295
  secs : -9223372036854775808 ≤ m.secs ∧ m.secs ≤ 9223372036854775807
  ci : 0 ≤ m.ci ∧ m.ci ≤ 4294967295
  yi : 0 ≤ m.yi ∧ m.yi ≤ 4294967295
  si : 0 ≤ m.si ∧ m.si ≤ 4294967295
  gi : 0 ≤ m.gi ∧ m.gi ≤ 4294967295
  mac : m.mac.ok
  sname : m.sname.size ≤ 140737488353280
  file : m.file.size ≤ 140737488353280
def noText : ByteArray := ⟨#[]⟩
def zeroBp : Bp := ⟨0, 0, 0, 0, false, 0, 0, 0, 0, zeroMac, noText, noText⟩
theorem zeroBp_ok : zeroBp.ok := ⟨by simp [zeroBp], by simp [zeroBp], by simp [zeroBp], by simp [zeroBp], by simp [zeroBp], by simp [zeroBp], by simp [zeroBp], by simp [zeroBp], zeroMac_ok, by simp [zeroBp, noText, ByteArray.size], by simp [zeroBp, noText, ByteArray.size]⟩
theorem cellsBp : Try.prog.cellsOf 28 = 18 := by kernel_rfl

set_option maxHeartbeats 1000000 in
theorem isOp_any (n : Int) (w : World) :
    Calls Try.prog 61 #[.int .i64 n] w fun e w' => e = .returned (.bool (decide (n = 1) || decide (n = 2))) ∧ w' = w := by
  by_cases h1 : n = 1
  · subst h1
    go_enter Try.func61, Try.ntmps61
    go_wp2
    go_ret
    exact ⟨rfl, rfl⟩
  · have h1' : (n == 1) = false := by simpa using h1
    by_cases h2 : n = 2
    · subst h2
      go_enter Try.func61, Try.ntmps61
      go_wp2
      go_ret
      exact ⟨rfl, rfl⟩
    · have h2' : (n == 2) = false := by simpa using h2
      simp only [h1, h2, decide_false, Bool.or_false]
      go_enter Try.func61, Try.ntmps61
      go_wp2
      go_ret
      exact ⟨rfl, rfl⟩
set_option maxHeartbeats 1000000 in
theorem isUpTo_any (n m : Int) (w : World) :
    Calls Try.prog 69 #[.int .i64 n, .int .i64 m] w fun e w' => e = .returned (.bool (decide (0 ≤ n) && decide (n ≤ m))) ∧ w' = w := by
  by_cases h1 : 0 ≤ n
  · by_cases h2 : n ≤ m
    · simp only [h1, h2, decide_true, Bool.and_true]
      go_enter Try.func69, Try.ntmps69
      go_wp2
      go_ret
      exact ⟨rfl, rfl⟩
    · have h2' : decide (n ≤ m) = false := by simpa using h2
      simp only [h1, h2, decide_true, decide_false, Bool.and_false]
      go_enter Try.func69, Try.ntmps69
      go_wp2
      go_ret
      exact ⟨rfl, rfl⟩
  · have h1' : decide (0 ≤ n) = false := by simpa using h1
    simp only [h1, decide_false, Bool.false_and]
    go_enter Try.func69, Try.ntmps69
    go_wp2
    go_ret
    exact ⟨rfl, rfl⟩
/-- the bytes of a text. -/
def nums (s : ByteArray) : List Int := s.data.toList.map fun x => (x.toNat : Int)
theorem nums_len (s : ByteArray) : (nums s).length = s.size := by unfold nums; rw [List.length_map]; rfl
theorem nums_bd (s : ByteArray) : ∀ z, z ∈ nums s → 0 ≤ z ∧ z ≤ 255 := fun z hz => by
  simp only [nums, List.mem_map] at hz
  obtain ⟨x, _, rfl⟩ := hz
  have := x.toNat_lt
  omega
theorem str_nums (s : ByteArray) : strOfNums (nums s) = s := by
  unfold strOfNums nums
  rw [List.map_map]
  have : ((fun n : Int => UInt8.ofNat n.toNat) ∘ fun x : UInt8 => (x.toNat : Int)) = id := by
    funext x
    simp
  rw [this]
  simp
theorem nums_str {zs : List Int} (h : ∀ z, z ∈ zs → 0 ≤ z ∧ z ≤ 255) : nums (strOfNums zs) = zs := by
  unfold strOfNums nums
  rw [List.map_map]
  conv => rhs; rw [← List.map_id zs]
  apply List.map_congr_left
  intro z hz
  have := h z hz
  simp only [Function.comp, id]
  rw [UInt8.toNat_ofNat_of_lt' (by show z.toNat < 256; omega)]
  omega
def zeroIn (s : ByteArray) : Bool := decide ((0 : Int) ∈ nums s)
theorem index_zero : ∀ l : List UInt8, (Lib.indexByte l 0 = -1 ∧ (0 : UInt8) ∉ l) ∨ (0 ≤ Lib.indexByte l 0 ∧ (0 : UInt8) ∈ l)
  | [] => Or.inl ⟨rfl, by simp⟩
  | x :: l => by
    unfold Lib.indexByte
    by_cases hx : x = 0
    · subst hx
      exact Or.inr ⟨by simp, by simp⟩
    · have hb : (x == 0) = false := by simpa using hx
      rw [hb]
      simp only [Bool.false_eq_true, if_false]
      rcases index_zero l with ⟨h1, h2⟩ | ⟨h1, h2⟩
      · rw [h1]
        exact Or.inl ⟨by simp, by simp; exact ⟨fun e => hx e.symm, h2⟩⟩
      · have hn : (Lib.indexByte l 0 == -1) = false := by simp; omega
        rw [hn]
        exact Or.inr ⟨by simp; omega, by simp [h2]⟩
theorem zeroIn_is (s : ByteArray) : zeroIn s = decide ((0 : UInt8) ∈ s.data.toList) := by
  unfold zeroIn nums
  congr 1
  simp only [List.mem_map, eq_iff_iff]
  constructor
  · rintro ⟨x, hx, e⟩
    have : x = 0 := by
      apply UInt8.toNat_inj.1
      simp only [UInt8.toNat_zero]
      omega
    rw [← this]
    exact hx
  · intro h
    exact ⟨0, h, rfl⟩
set_option maxHeartbeats 1000000 in
theorem hasZero_any (s : ByteArray) (w : World) :
    Calls Try.prog 70 #[.string s] w fun e w' => e = .returned (.bool (zeroIn s)) ∧ w' = w := by
  have C := Try.strings_IndexByte s 0 w
  have e0 : (Int.toNat 0).toUInt8 = 0 := rfl
  rw [e0] at C
  rw [zeroIn_is]
  rcases index_zero s.data.toList with ⟨h1, h2⟩ | ⟨h1, h2⟩
  · rw [h1] at C
    simp only [h2, decide_false]
    go_enter Try.func70, Try.ntmps70
    go_wp2_with (first
      | (go_at_call 99; refine C.mono ?_; rintro e w1 ⟨rfl, hw⟩; subst w1)
      | fail)
    go_ret
    exact ⟨rfl, rfl⟩
  · generalize Lib.indexByte s.data.toList 0 = N at C h1
    simp only [h2, decide_true]
    have hn : (N != -1) = true := by simp; omega
    go_enter Try.func70, Try.ntmps70
    go_wp2_with (first
      | (go_at_call 99; refine C.mono ?_; rintro e w1 ⟨rfl, hw⟩; subst w1)
      | fail)
    go_ret
    exact ⟨by first | rfl | simp_all, rfl⟩
set_option maxHeartbeats 1000000 in
theorem isOverload_any (c : Int) (v : Value) (w : World) :
    Calls Try.prog 37 #[.agg #[.int .i64 c, v]] w fun e w' => e = .returned (.bool (c == 52)) ∧ Hid (Below w.heap.size w w') := by
  go_enter Try.func37, Try.ntmps37
  go_wp2
  go_ret
  exact ⟨rfl, bpush (Below.refl _ _) _⟩
abbrev fOver : Value := .func (.func 37) #[] #[]
/-- where the first overload stands; -1: nowhere. -/
def ovAt (os : List OP) : Int := match os.findIdx? (fun o => o.1 == 52) with | some i => (i : Int) | none => -1
theorem ovAt_not {os : List OP} {k : Nat} (h : ∀ (j : Nat), j < k → ∀ o, os[j]? = some o → o.1 ≠ 52) (hk : k = os.length) : ovAt os = -1 := by
  have : os.findIdx? (fun o => o.1 == 52) = none := by
    rw [List.findIdx?_eq_none_iff]
    intro o ho
    obtain ⟨j, hj⟩ := List.getElem?_of_mem ho
    have := h j (by rw [hk]; exact (List.getElem?_eq_some_iff.1 hj).1) o hj
    simpa using this
  unfold ovAt
  rw [this]
theorem ovAt_is {os : List OP} {k : Nat} {o : OP} (h : ∀ (j : Nat), j < k → ∀ o, os[j]? = some o → o.1 ≠ 52) (hk : os[k]? = some o) (ho : o.1 = 52) : ovAt os = (k : Int) := by
  have : os.findIdx? (fun o => o.1 == 52) = some k := by
    rw [List.findIdx?_eq_some_iff_getElem]
    obtain ⟨hl, e⟩ := List.getElem?_eq_some_iff.1 hk
    refine ⟨hl, by rw [e]; simpa using ho, fun j hj => ?_⟩
    have := h j hj os[j] (List.getElem?_eq_getElem _)
    simpa using this
  unfold ovAt
  rw [this]
set_option maxHeartbeats 1000000 in
theorem indexFunc_any (a : Option Addr) (c : Nat) (os : List OP) (w : World) (h : OV w a os) :
    Calls Try.prog 66 #[.slice a os.length c, fOver] w fun e w' => e = .returned (.int .i64 (ovAt os)) ∧ Hid (Below w.heap.size w w') := by
  obtain ⟨n, hn⟩ : ∃ n, n = os.length := ⟨_, rfl⟩
  have HN := hid hn
  have hf := h.few
  rw [← hn] at hf ⊢
  have HV := hid h
  have HO := hid (fun (cd : Int) (v : Value) (w : World) => isOverload_any cd v w)
  clear h hn
  unfold fOver
  go_enter Try.func66, Try.ntmps66
  go_wp2
  go_loopw [8] (fun i wr => ∃ k : Nat, k ≤ n ∧ i = .int .i64 k ∧ Hid (Below w.heap.size w wr) ∧ Hid (∀ (j : Nat), j < k → ∀ o, os[j]? = some o → o.1 ≠ 52)) (fun i _ => n - (intOf i).toNat)
  case atStart => exact ⟨0, Nat.zero_le _, rfl, Below.refl _ _, fun j hj => by omega⟩
  case round =>
    obtain ⟨k, hk, rfl, HB, HJ⟩ := hrel
    by_cases hlt : k < n
    · have hlt' : (k : Int) < n := by omega
      obtain ⟨⟨cd, ad, cp, zs⟩, ho⟩ : ∃ o, os[k]? = some o := ⟨os[k]'(by rw [← HN.out]; exact hlt), List.getElem?_eq_getElem _⟩
      obtain ⟨b, off, ea, c0, c1⟩ := (HV.out.below HB.out).cell k _ ho
      simp only [Part.val] at c0 c1
      subst ea
      have HX := hid ho
      clear ho
      by_cases he : cd = 52
      · have he' : (cd == 52) = true := by simpa using he
        have HR : Hid (ovAt os = (k : Int)) := ovAt_is HJ.out HX.out he
        clear he
        go_wp2_with (first
          | (go_at_call 37; refine (HO.out _ _ _).mono ?_; rintro e w1 ⟨rfl, HB1⟩)
          | fail)
        go_ret
        exact ⟨by rw [HR.out]; rfl, bstep HB.out HB1.out⟩
      · have he' : (cd == 52) = false := by simpa using he
        have HE := hid he
        clear he
        go_wp2_with (first
          | (go_at_call 37; refine (HO.out _ _ _).mono ?_; rintro e w1 ⟨rfl, HB1⟩)
          | fail)
        go_roundw
        case rel =>
          refine ⟨k + 1, by omega, by go_num, bstep HB.out HB1.out, fun j hj o ho => ?_⟩
          rcases Nat.lt_or_ge j k with h1 | h1
          · exact HJ.out j h1 o ho
          · have : j = k := by omega
            subst this
            rw [HX.out] at ho
            simp only [Option.some.injEq] at ho
            subst ho
            exact HE.out
        case measure => simp [intOf]; omega
    · have hge : ¬ (k : Int) < n := by omega
      have hkn : k = n := by omega
      have HR : Hid (ovAt os = -1) := ovAt_not HJ.out (by rw [hkn]; exact HN.out)
      go_wp2
      go_ret
      exact ⟨by rw [HR.out]; rfl, HB.out⟩
/-- is there an overload? -/
def ovB (os : List OP) : Bool := os.any (fun o => o.1 == 52)
theorem ovB_at (os : List OP) : decide (0 ≤ ovAt os) = ovB os := by
  unfold ovAt ovB
  cases h : os.findIdx? (fun o => o.1 == 52) with
  | none =>
    rw [List.findIdx?_eq_none_iff] at h
    simp only [show ¬ (0 : Int) ≤ -1 by omega, decide_false]
    symm
    rw [List.any_eq_false]
    intro o ho
    simp [h o ho]
  | some i =>
    simp only [show (0 : Int) ≤ (i : Int) by omega, decide_true]
    obtain ⟨hl, hp, _⟩ := List.findIdx?_eq_some_iff_getElem.1 h
    symm
    rw [List.any_eq_true]
    exact ⟨_, List.getElem_mem hl, hp⟩
set_option maxHeartbeats 1000000 in
theorem containsFunc_any (a : Option Addr) (c : Nat) (os : List OP) (w : World) (h : OV w a os) :
    Calls Try.prog 64 #[.slice a os.length c, fOver] w fun e w' => e = .returned (.bool (ovB os)) ∧ Hid (Below w.heap.size w w') := by
  have C := indexFunc_any a c os w h
  rw [← ovB_at]
  generalize ovAt os = N at *
  generalize os.length = n at *
  clear h
  unfold fOver at *
  go_enter Try.func64, Try.ntmps64
  go_wp2_with (first
    | (go_at_call 66; refine C.mono ?_; rintro e w1 ⟨rfl, HB⟩)
    | fail)
  go_ret
  exact ⟨rfl, HB.out⟩
end Go.Proofs.Ytoifblndpcelkaa
