/-
  The contracts of octet.Dotted, octet.looseAddress and octet.Undotted.
-/
import Derived.Test.YtohpdkeleilkjaaDoorSum
import Derived.Test.YtohpdkeleilkjaaDoorShelf
import Derived.Lib.AppendIntMem
namespace Go.Proofs.YtohpdkeleilkjaaDoor
open Go.RowKit
set_option linter.unusedVariables false

abbrev Pow10 (w : World) : Prop := Lib.TabIs Tryd.prog w "internal/strconv.uint64pow10" .u64 Lib.pow10Tab

theorem putTo4 (n : Int) : putTo n 4 4 = #[.int .u8 (byteAt n 3), .int .u8 (byteAt n 2), .int .u8 (byteAt n 1), .int .u8 (byteAt n 0)] := by
  have e : madeCells #[.int .u8 0] 4 = #[.int .u8 0, .int .u8 0, .int .u8 0, .int .u8 0] := by kernel_rfl
  simp [putTo, e]
theorem byteAt_bd (n : Int) (k : Nat) : 0 ≤ byteAt n k ∧ byteAt n k ≤ 255 := by unfold byteAt; omega

/-- a byte in decimal digits. -/
def dec (u : Nat) : List UInt8 :=
  if u < 10 then [UInt8.ofNat (48 + u)] else if u < 100 then [UInt8.ofNat (48 + u / 10), UInt8.ofNat (48 + u % 10)]
  else [UInt8.ofNat (48 + u / 100), UInt8.ofNat (48 + u / 10 % 10), UInt8.ofNat (48 + u % 10)]
theorem itoa_dec (y : Int) (h0 : 0 ≤ y) (h1 : y ≤ 255) : Lib.itoa y = dec y.toNat := by
  obtain ⟨u, rfl⟩ := Int.eq_ofNat_of_zero_le h0
  unfold Lib.itoa dec
  rw [if_neg (by omega), Int.toNat_natCast]
  by_cases a : u < 10
  · rw [if_pos a, Lib.decDigits, dif_pos a]
  · rw [if_neg a, Lib.decDigits, dif_neg a]
    by_cases b : u < 100
    · rw [if_pos b, Lib.decDigits, dif_pos (by omega)]; rfl
    · rw [if_neg b, Lib.decDigits, dif_neg (by omega), Lib.decDigits, dif_pos (by omega)]
      simp [Nat.div_div_eq_div_mul]
theorem dec_len (u : Nat) : (dec u).length ≤ 3 := by unfold dec; split <;> (try split) <;> simp

def dotTo (ip : Int) : Nat → List UInt8
  | 0 => []
  | k + 1 => (if k = 0 then [] else dotTo ip k ++ [46]) ++ dec (byteAt ip (3 - k)).toNat
theorem dotTo_len (ip : Int) : ∀ k, (dotTo ip k).length ≤ 4 * k
  | 0 => by simp [dotTo]
  | k + 1 => by
    have := dotTo_len ip k
    have := dec_len (byteAt ip (3 - k)).toNat
    unfold dotTo
    split <;> simp <;> omega
theorem dotTo_next (ip : Int) (k : Nat) (h : 0 < k) : dotTo ip (k + 1) = dotTo ip k ++ [46] ++ dec (byteAt ip (3 - k)).toNat := by
  simp [dotTo, Nat.ne_of_gt h]
theorem str_app (a b : List UInt8) : (⟨a.toArray⟩ : ByteArray) ++ (⟨b.toArray⟩ : ByteArray) = ⟨(a ++ b).toArray⟩ := by
  apply ByteArray.ext; simp

theorem below_new {w wr : World} {o : Obj} (hb : Below (w.heap.size + 1) (w.alloc o) wr) : Below w.heap.size w wr :=
  ((Below.refl _ _).alloc (Nat.le_refl _) o).trans (hb.mono (by omega))

set_option maxHeartbeats 400000 in
theorem dotted_any (ip : Int) (w : World) (h0 : 0 ≤ ip) (h1 : ip ≤ 4294967295) (ht : Pow10 w) :
    Calls Tryd.prog 13 #[.int .u32 ip] w fun e w' => e = .returned (.string ⟨(dotTo ip 4).toArray⟩) ∧ Below w.heap.size w w' := by
  have HT : Hid (Pow10 w) := ht
  clear ht
  have hc : ∀ k : Nat, k < 4 → (w.alloc (.cells (putTo ip 4 4) 5)).cell? ⟨w.heap.size, k, none⟩ = some (.int .u8 (byteAt ip (3 - k))) := by
    intro k hk
    rw [World.cell?_alloc_at _ _ _ _ rfl, putTo4]
    match k, hk with
    | 0, _ => rfl
    | 1, _ => rfl
    | 2, _ => rfl
    | 3, _ => rfl
  go_enter Tryd.func13, Tryd.ntmps13
  go_wp2_with (go_at_call 5; refine (put_yes _ 4 _ (by omega) (by omega) (by omega) (by omega)).mono ?_; rintro e w' ⟨rfl, rfl⟩)
  go_loopw [3, 10] (fun s i wr => ∃ k : Nat, k ≤ 4 ∧ i = .int .i64 k ∧ s = .string ⟨(dotTo ip k).toArray⟩ ∧ Below (w.heap.size + 1) (w.alloc (.cells (putTo ip 4 4) 5)) wr) (fun _ i _ => 4 - (intOf i).toNat)
  case atStart => exact ⟨0, by omega, rfl, rfl, Below.refl _ _⟩
  case round =>
    obtain ⟨k, hk, rfl, rfl, hb⟩ := hrel
    by_cases hlt : k < 4
    · have hcell := hc k hlt
      have hcell2 : wr.cell? ⟨w.heap.size, k, none⟩ = some (.int .u8 (byteAt ip (3 - k))) := by rw [← hcell]; exact hb.cell (p := ⟨w.heap.size, k, none⟩) (by simp)
      clear hcell hc
      have hT : Hid (Pow10 wr) := Lib.tabBelow_of_tabIs HT.out wr (below_new hb)
      have hyb := byteAt_bd ip (3 - k)
      have hdl := dotTo_len ip k
      have HY := itoa_dec _ hyb.1 hyb.2
      have hz : w.heap.size + 1 ≤ wr.heap.size := by have := hb.size; simpa using this
      by_cases hk0 : 0 < k
      · have HN : Hid (dotTo ip (k + 1) = dotTo ip k ++ [46] ++ dec (byteAt ip (3 - k)).toNat) := dotTo_next ip k hk0
        obtain ⟨y, hy⟩ : ∃ y, y = byteAt ip (3 - k) := ⟨_, rfl⟩
        rw [← hy] at HN hyb hcell2 HY
        have HYY : Hid (Lib.itoa y = dec y.toNat) := HY
        have hdy := dec_len y.toNat
        obtain ⟨l, hll⟩ : ∃ l, l = dotTo ip k := ⟨_, rfl⟩
        rw [← hll] at hdl HN ⊢
        clear hy hll HY
        go_wp2_with (go_at_call 22; refine (Tryd.strconv_Itoa _ (by omega) (by omega) _ hT.out).mono ?_; rintro e w' ⟨rfl, kk, os, rfl⟩; rw [HYY.out])
        go_roundw
        case rel =>
          refine ⟨k + 1, by omega, by go_num, ?_, hb.trans (Lib.below_grow _ _ hz _ _)⟩
          rw [HN.out, show (⟨#[46]⟩ : ByteArray) = ⟨[46].toArray⟩ from rfl, str_app, str_app]
        case measure => simp [intOf]; omega
      · have hk00 : k = 0 := by omega
        subst hk00
        have HN : Hid (dotTo ip (0 + 1) = dec (byteAt ip 3).toNat) := by unfold Hid; simp [dotTo]
        obtain ⟨y, hy⟩ : ∃ y, y = byteAt ip (3 - 0) := ⟨_, rfl⟩
        have hy3 : byteAt ip 3 = y := by rw [hy]
        rw [hy3] at HN
        rw [← hy] at hyb hcell2 HY
        have HYY : Hid (Lib.itoa y = dec y.toNat) := HY
        have hdy := dec_len y.toNat
        have HE : Hid (dotTo ip 0 = []) := rfl
        rw [HE.out]
        clear hy HY hy3 hdl
        go_wp2_with (go_at_call 22; refine (Tryd.strconv_Itoa _ (by omega) (by omega) _ hT.out).mono ?_; rintro e w' ⟨rfl, kk, os, rfl⟩; rw [HYY.out])
        go_roundw
        case rel =>
          refine ⟨0 + 1, by omega, rfl, ?_, hb.trans (Lib.below_grow _ _ hz _ _)⟩
          rw [HN.out]; first | rfl | (rw [show (⟨#[]⟩ : ByteArray) = ⟨[].toArray⟩ from rfl, str_app]; rfl)
        case measure => simp [intOf]
    · go_wp2
      go_ret
      have : k = 4 := by omega
      subst this
      exact ⟨rfl, below_new hb⟩

def orUp (x y : Int) : Int := bits BinOp.or IntKind.u32 (x * 256 % 4294967296) y
def pstep (y : Int) (c : UInt8) : Int := (y * 10 % 4294967296 + ((c.toNat : Int) - 48) % 256) % 4294967296
def lstep (s : Int × Int) (c : UInt8) : Int × Int := if (c.toNat : Int) = 46 then (orUp s.1 s.2, 0) else (s.1, pstep s.2 c)
def lrun (l : List UInt8) : Int × Int := l.foldl lstep (0, 0)
def loose (l : List UInt8) : Int := orUp (lrun l).1 (lrun l).2

theorem orUp_bd (x y : Int) (h0 : 0 ≤ y) (h1 : y ≤ 4294967295) : 0 ≤ orUp x y ∧ orUp x y ≤ 4294967295 := by
  unfold orUp
  rw [u32_or _ _ (by omega) (by omega) h0 (by omega)]
  have : (x * 256 % 4294967296).toNat ||| y.toNat < 2 ^ 32 := Nat.or_lt_two_pow (by omega) (by omega)
  omega
theorem orUp_small (x y : Int) (h0 : 0 ≤ y) (h1 : y ≤ 255) (h2 : 0 ≤ x) (h3 : x ≤ 16777215) : orUp x y = x * 256 + y := by
  unfold orUp
  rw [u32_or _ _ (by omega) (by omega) h0 (by omega), nat_join 8 _ _ (by omega) (by omega)]
  omega
theorem lrun_snoc (l : List UInt8) (c : UInt8) : lrun (l ++ [c]) = lstep (lrun l) c := by simp [lrun, List.foldl_append]
theorem foldl_lbd : ∀ (l : List UInt8) (s : Int × Int), (0 ≤ s.1 ∧ s.1 ≤ 4294967295 ∧ 0 ≤ s.2 ∧ s.2 ≤ 4294967295) → (0 ≤ (l.foldl lstep s).1 ∧ (l.foldl lstep s).1 ≤ 4294967295 ∧ 0 ≤ (l.foldl lstep s).2 ∧ (l.foldl lstep s).2 ≤ 4294967295)
  | [], s, h => h
  | c :: l, s, h => by
    refine foldl_lbd l (lstep s c) ?_
    unfold lstep
    split
    · have := orUp_bd s.1 s.2 h.2.2.1 h.2.2.2; simp; omega
    · unfold pstep; simp; omega
theorem lrun_bd (l : List UInt8) : 0 ≤ (lrun l).1 ∧ (lrun l).1 ≤ 4294967295 ∧ 0 ≤ (lrun l).2 ∧ (lrun l).2 ≤ 4294967295 := foldl_lbd l (0, 0) (by simp)
theorem loose_bd (l : List UInt8) : 0 ≤ loose l ∧ loose l ≤ 4294967295 := orUp_bd _ _ (lrun_bd l).2.2.1 (lrun_bd l).2.2.2
theorem foldl_plain : ∀ (l : List UInt8) (x y : Int), (l.all fun c => c.toNat != 46) = true → l.foldl lstep (x, y) = (x, l.foldl pstep y)
  | [], _, _, _ => rfl
  | c :: l, x, y, h => by
    simp only [List.all_cons, Bool.and_eq_true, bne_iff_ne, ne_eq] at h
    have e : lstep (x, y) c = (x, pstep y c) := by unfold lstep; rw [if_neg (by omega)]
    rw [List.foldl_cons, List.foldl_cons, e]
    exact foldl_plain l x _ h.2
theorem dec_plain : ∀ u : Fin 256, ((dec u.val).all fun c => c.toNat != 46) = true := by decide +kernel
theorem dec_value : ∀ u : Fin 256, (dec u.val).foldl pstep 0 = (u.val : Int) := by decide +kernel
theorem dec_run (y : Int) (h0 : 0 ≤ y) (h1 : y ≤ 255) (x : Int) : (dec y.toNat).foldl lstep (x, 0) = (x, y) := by
  have hu : y.toNat < 256 := by omega
  rw [foldl_plain _ _ _ (dec_plain ⟨y.toNat, hu⟩), dec_value ⟨y.toNat, hu⟩]
  simp; omega
theorem dotTo4 (ip : Int) : dotTo ip 4 = dec (byteAt ip 3).toNat ++ ([46] ++ (dec (byteAt ip 2).toNat ++ ([46] ++ (dec (byteAt ip 1).toNat ++ ([46] ++ dec (byteAt ip 0).toNat))))) := by
  simp [dotTo]
theorem dot_step (x y : Int) : [(46 : UInt8)].foldl lstep (x, y) = (orUp x y, 0) := by simp [lstep]
theorem bytes4 (ip : Int) (h0 : 0 ≤ ip) (h1 : ip ≤ 4294967295) : ((byteAt ip 3 * 256 + byteAt ip 2) * 256 + byteAt ip 1) * 256 + byteAt ip 0 = ip := by
  unfold byteAt
  simp only [Nat.reduceMul, Int.reducePow]
  omega
theorem loose_dot (ip : Int) (h0 : 0 ≤ ip) (h1 : ip ≤ 4294967295) : loose (dotTo ip 4) = ip := by
  have b0 := byteAt_bd ip 0; have b1 := byteAt_bd ip 1; have b2 := byteAt_bd ip 2; have b3 := byteAt_bd ip 3
  have e := bytes4 ip h0 h1
  have r : lrun (dotTo ip 4) = ((byteAt ip 3 * 256 + byteAt ip 2) * 256 + byteAt ip 1, byteAt ip 0) := by
    unfold lrun
    rw [dotTo4]
    rw [List.foldl_append, dec_run _ b3.1 b3.2, List.foldl_append, dot_step, orUp_small 0 _ b3.1 b3.2 (by omega) (by omega),
      List.foldl_append, dec_run _ b2.1 b2.2, List.foldl_append, dot_step, orUp_small _ _ b2.1 b2.2 (by omega) (by omega),
      List.foldl_append, dec_run _ b1.1 b1.2, List.foldl_append, dot_step, orUp_small _ _ b1.1 b1.2 (by omega) (by omega),
      dec_run _ b0.1 b0.2]
    simp
  unfold loose
  rw [r, orUp_small _ _ b0.1 b0.2 (by omega) (by omega)]
  exact e
theorem take_snoc8 (s : ByteArray) (k : Nat) (h : k < s.size) : s.data.toList.take (k + 1) = s.data.toList.take k ++ [s[k]] := by
  rw [List.take_succ_eq_append_getElem (by simpa using h)]; rfl

set_option maxHeartbeats 400000 in
theorem loose_any (s : ByteArray) (w : World) (hs : s.size ≤ maxLen) :
    Calls Tryd.prog 20 #[.string s] w fun e w' => e = .returned (.int .u32 (loose s.data.toList)) ∧ w' = w := by
  unfold maxLen at hs
  go_enter Tryd.func20, Tryd.ntmps20
  go_wp2
  go_loop [3, 4, 8] (fun t p i => ∃ k : Nat, k ≤ s.size ∧ i = .int .i64 k ∧ t = .int .u32 (lrun (s.data.toList.take k)).1 ∧ p = .int .u32 (lrun (s.data.toList.take k)).2) (fun _ _ i => s.size - (intOf i).toNat)
  case atStart => exact ⟨0, Nat.zero_le _, rfl, rfl, rfl⟩
  case round =>
    obtain ⟨k, hk, rfl, rfl, rfl⟩ := hrel
    have hbd := lrun_bd (s.data.toList.take k)
    by_cases hlt : k < s.size
    · have hsn : lrun (s.data.toList.take (k + 1)) = lstep (lrun (s.data.toList.take k)) s[k] := by rw [take_snoc8 s k hlt, lrun_snoc]
      obtain ⟨⟨x, y⟩, hxy⟩ : ∃ p, p = lrun (s.data.toList.take k) := ⟨_, rfl⟩
      rw [← hxy] at hsn hbd ⊢
      have HS : Hid (lrun (s.data.toList.take (k + 1)) = lstep (x, y) s[k]) := hsn
      clear hsn hxy
      simp only at hbd
      by_cases hc : (s[k].toNat : Int) = 46
      · have hcb : ((s[k].toNat : Int) == 46) = true := by simpa using hc
        have HE : Hid (lstep (x, y) s[k] = (orUp x y, 0)) := by unfold Hid lstep; rw [if_pos hc]
        clear hc
        go_wp2
        go_round
        case rel => exact ⟨k + 1, by omega, by go_num, by rw [HS.out, HE.out]; rfl, by rw [HS.out, HE.out]⟩
        case measure => simp [intOf]; omega
      · have hcb : ((s[k].toNat : Int) == 46) = false := by simpa using hc
        have HE : Hid (lstep (x, y) s[k] = (x, pstep y s[k])) := by unfold Hid lstep; rw [if_neg hc]
        clear hc
        go_wp2
        go_round
        case rel => exact ⟨k + 1, by omega, by go_num, by rw [HS.out, HE.out], by rw [HS.out, HE.out]; rfl⟩
        case measure => simp [intOf]; omega
    · have HE : Hid (loose s.data.toList = orUp (lrun (s.data.toList.take k)).1 (lrun (s.data.toList.take k)).2) := by
        unfold Hid loose; rw [List.take_of_length_le (by simp; omega)]
      obtain ⟨⟨x, y⟩, hxy⟩ : ∃ p, p = lrun (s.data.toList.take k) := ⟨_, rfl⟩
      rw [← hxy] at HE hbd ⊢
      clear hxy
      simp only at hbd HE
      go_wp2
      go_ret
      exact ⟨ret_int HE.out.symm, rfl⟩

/-- what Undotted answers. -/
def undot (l : List UInt8) : Int × Int := if dotTo (loose l) 4 = l then (loose l, 0) else (0, 10)

set_option maxHeartbeats 400000 in
theorem undotted_any (s : ByteArray) (w : World) (hs : s.size ≤ maxLen) (ht : Pow10 w) :
    Calls Tryd.prog 11 #[.string s] w fun e w' => e = .returned (.tuple #[.int .u32 (undot s.data.toList).1, .int .i64 (undot s.data.toList).2]) ∧ Below w.heap.size w w' := by
  have HT : Hid (Pow10 w) := ht
  have HS : Hid (s.size ≤ maxLen) := hs
  have hb := loose_bd s.data.toList
  obtain ⟨x, hx⟩ : ∃ x, x = loose s.data.toList := ⟨_, rfl⟩
  have hU : undot s.data.toList = if dotTo x 4 = s.data.toList then (x, 0) else (0, 10) := by unfold undot; rw [← hx]
  have HX : Hid (loose s.data.toList = x) := hx.symm
  rw [← hx] at hb
  clear ht hs hx
  obtain ⟨D, hD⟩ : ∃ D, D = dotTo x 4 := ⟨_, rfl⟩
  have HD : Hid (dotTo x 4 = D) := hD.symm
  rw [← hD] at hU
  clear hD
  have HU : Hid (undot s.data.toList = if D = s.data.toList then (x, 0) else (0, 10)) := hU
  clear hU
  go_enter Tryd.func11, Tryd.ntmps11
  go_wp2_with (first
    | (go_at_call 20; refine (loose_any _ _ HS.out).mono ?_; rintro e w' ⟨rfl, rfl⟩; rw [HX.out])
    | (go_at_call 13; refine (dotted_any _ _ hb.1 hb.2 HT.out).mono ?_; rintro e w1 ⟨rfl, hb1⟩; rw [HD.out]))
  · have hne : ¬ D = s.data.toList := by
      have h : (!D == s.toList) = true := by assumption
      intro e; rw [ByteArray.toList_eq, e] at h; simp at h
    have hu := HU.out
    rw [if_neg hne] at hu
    rw [hu]
    go_ret2
    exact ⟨rfl, hb1⟩
  · have he : D = s.data.toList := by
      have h : (!D == s.toList) = false := by assumption
      rw [ByteArray.toList_eq] at h; simpa using h
    have hu := HU.out
    rw [if_pos he] at hu
    rw [hu]
    go_ret2
    exact ⟨rfl, hb1⟩
end Go.Proofs.YtohpdkeleilkjaaDoor
