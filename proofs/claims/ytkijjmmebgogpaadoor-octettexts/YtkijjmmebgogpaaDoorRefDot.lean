/-
  The contracts of slipwayref01.Dotted and slipwayref01.Undotted: the same answers as octet's.
-/
import Derived.Test.YtkijjmmebgogpaaDoorRefPut
import Derived.Test.YtkijjmmebgogpaaDoorRefDec
namespace Go.Proofs.YtkijjmmebgogpaaDoor
open Go.RowKit
set_option linter.unusedVariables false

set_option maxHeartbeats 400000 in
theorem refDotted_any (ip : Int) (w : World) (h0 : 0 ≤ ip) (h1 : ip ≤ 4294967295) :
    Calls Tryd.prog 15 #[.int .u32 ip] w fun e w' => e = .returned (.string ⟨(dotTo ip 4).toArray⟩) ∧ Below w.heap.size w w' := by
  have hc : ∀ k : Nat, k < 4 → (w.alloc (.cells (putTo ip 4 4) 5)).cell? ⟨w.heap.size, k, none⟩ = some (.int .u8 (byteAt ip (3 - k))) := by
    intro k hk
    rw [World.cell?_alloc_at _ _ _ _ rfl, putTo4]
    match k, hk with
    | 0, _ => rfl
    | 1, _ => rfl
    | 2, _ => rfl
    | 3, _ => rfl
  go_enter Tryd.func15, Tryd.ntmps15
  go_wp2_with (go_at_call 7; refine (refPut_yes _ 4 _ (by omega) (by omega) (by omega) (by omega)).mono ?_; rintro e w' ⟨rfl, rfl⟩)
  go_loopw [3, 5] (fun s i wr => ∃ k : Nat, k ≤ 4 ∧ i = .int .i64 k ∧ s = .string ⟨(dotTo ip k).toArray⟩ ∧ Below (w.heap.size + 1) (w.alloc (.cells (putTo ip 4 4) 5)) wr) (fun _ i _ => 4 - (intOf i).toNat)
  case atStart => exact ⟨0, by omega, rfl, rfl, Below.refl _ _⟩
  case round =>
    obtain ⟨k, hk, rfl, rfl, hb⟩ := hrel
    by_cases hlt : k < 4
    · have hcell := hc k hlt
      have hcell2 : wr.cell? ⟨w.heap.size, k, none⟩ = some (.int .u8 (byteAt ip (3 - k))) := by rw [← hcell]; exact hb.cell (p := ⟨w.heap.size, k, none⟩) (by simp)
      clear hcell hc
      have hyb := byteAt_bd ip (3 - k)
      have hdl := dotTo_len ip k
      have hz : w.heap.size + 1 ≤ wr.heap.size := by have := hb.size; simpa using this
      by_cases hk0 : 0 < k
      · have HN : Hid (dotTo ip (k + 1) = dotTo ip k ++ [46] ++ dec (byteAt ip (3 - k)).toNat) := dotTo_next ip k hk0
        obtain ⟨y, hy⟩ : ∃ y, y = byteAt ip (3 - k) := ⟨_, rfl⟩
        rw [← hy] at HN hyb hcell2
        have hdy := dec_len y.toNat
        obtain ⟨l, hll⟩ : ∃ l, l = dotTo ip k := ⟨_, rfl⟩
        rw [← hll] at hdl HN ⊢
        clear hy hll
        go_wp2_with (go_at_call 28; refine (decimal_any _ _ hyb.1 hyb.2).mono ?_; rintro e w' ⟨rfl, hb'⟩)
        go_roundw
        case rel =>
          refine ⟨k + 1, by omega, by go_num, ?_, hb.trans (hb'.mono hz)⟩
          rw [HN.out, show (⟨#[46]⟩ : ByteArray) = ⟨[46].toArray⟩ from rfl, str_app, str_app]
        case measure => simp [intOf]; omega
      · have hk00 : k = 0 := by omega
        subst hk00
        have HN : Hid (dotTo ip (0 + 1) = dec (byteAt ip 3).toNat) := by unfold Hid; simp [dotTo]
        obtain ⟨y, hy⟩ : ∃ y, y = byteAt ip (3 - 0) := ⟨_, rfl⟩
        have hy3 : byteAt ip 3 = y := by rw [hy]
        rw [hy3] at HN
        rw [← hy] at hyb hcell2
        have hdy := dec_len y.toNat
        have HE : Hid (dotTo ip 0 = []) := rfl
        rw [HE.out]
        clear hy hy3 hdl
        go_wp2_with (go_at_call 28; refine (decimal_any _ _ hyb.1 hyb.2).mono ?_; rintro e w' ⟨rfl, hb'⟩)
        go_roundw
        case rel =>
          refine ⟨0 + 1, by omega, rfl, ?_, hb.trans (hb'.mono hz)⟩
          rw [HN.out]; first | rfl | (rw [show (⟨#[]⟩ : ByteArray) = ⟨[].toArray⟩ from rfl, str_app]; rfl)
        case measure => simp [intOf]
    · go_wp2
      go_ret
      have : k = 4 := by omega
      subst this
      exact ⟨rfl, below_new hb⟩

/-- what the document's own reading counts. -/
def rup (x y : Int) : Int := wrap64 (wrap64 (x * 256) + y)
def qstep (y : Int) (c : UInt8) : Int := y * 10 + (c.toNat : Int) - 48
def rstep (s : Int × Int) (c : UInt8) : Int × Int := if (c.toNat : Int) = 46 then (rup s.1 s.2, 0) else (s.1, qstep s.2 c)
def rrun (l : List UInt8) : Int × Int := l.foldl rstep (0, 0)
def rloose (l : List UInt8) : Int := rup (rrun l).1 (rrun l).2 % 4294967296
def sign (c : UInt8) : Bool := c.toNat == 46 || (48 ≤ c.toNat && c.toNat ≤ 57)

theorem rup_small (x y : Int) (h0 : 0 ≤ y) (h1 : y ≤ 255) (h2 : 0 ≤ x) (h3 : x ≤ 16777215) : rup x y = x * 256 + y := by
  unfold rup wrap64; omega
theorem rrun_snoc (l : List UInt8) (c : UInt8) : rrun (l ++ [c]) = rstep (rrun l) c := by simp [rrun, List.foldl_append]
theorem rfoldl_plain : ∀ (l : List UInt8) (x y : Int), (l.all fun c => c.toNat != 46) = true → l.foldl rstep (x, y) = (x, l.foldl qstep y)
  | [], _, _, _ => rfl
  | c :: l, x, y, h => by
    simp only [List.all_cons, Bool.and_eq_true, bne_iff_ne, ne_eq] at h
    have e : rstep (x, y) c = (x, qstep y c) := by unfold rstep; rw [if_neg (by omega)]
    rw [List.foldl_cons, List.foldl_cons, e]
    exact rfoldl_plain l x _ h.2
theorem dec_rvalue : ∀ u : Fin 256, (dec u.val).foldl qstep 0 = (u.val : Int) := by decide +kernel
theorem dec_sign : ∀ u : Fin 256, (dec u.val).all sign = true := by decide +kernel
theorem dec_rrun (y : Int) (h0 : 0 ≤ y) (h1 : y ≤ 255) (x : Int) : (dec y.toNat).foldl rstep (x, 0) = (x, y) := by
  have hu : y.toNat < 256 := by omega
  rw [rfoldl_plain _ _ _ (dec_plain ⟨y.toNat, hu⟩), dec_rvalue ⟨y.toNat, hu⟩]
  simp; omega
theorem rdot_step (x y : Int) : [(46 : UInt8)].foldl rstep (x, y) = (rup x y, 0) := by simp [rstep]
theorem rloose_dot (ip : Int) (h0 : 0 ≤ ip) (h1 : ip ≤ 4294967295) : rloose (dotTo ip 4) = ip := by
  have b0 := byteAt_bd ip 0; have b1 := byteAt_bd ip 1; have b2 := byteAt_bd ip 2; have b3 := byteAt_bd ip 3
  have e := bytes4 ip h0 h1
  have r : rrun (dotTo ip 4) = ((byteAt ip 3 * 256 + byteAt ip 2) * 256 + byteAt ip 1, byteAt ip 0) := by
    unfold rrun
    rw [dotTo4]
    rw [List.foldl_append, dec_rrun _ b3.1 b3.2, List.foldl_append, rdot_step, rup_small 0 _ b3.1 b3.2 (by omega) (by omega),
      List.foldl_append, dec_rrun _ b2.1 b2.2, List.foldl_append, rdot_step, rup_small _ _ b2.1 b2.2 (by omega) (by omega),
      List.foldl_append, dec_rrun _ b1.1 b1.2, List.foldl_append, rdot_step, rup_small _ _ b1.1 b1.2 (by omega) (by omega),
      dec_rrun _ b0.1 b0.2]
    simp
  unfold rloose
  rw [r, rup_small _ _ b0.1 b0.2 (by omega) (by omega)]
  omega
theorem dotTo_sign (ip : Int) : (dotTo ip 4).all sign = true := by
  have d := fun k => dec_sign ⟨(byteAt ip k).toNat, by have := byteAt_bd ip k; omega⟩
  rw [dotTo4]
  simp only [List.all_append, d, Bool.and_true]
  decide
theorem dotTo_15 (ip : Int) : (dotTo ip 4).length ≤ 15 := by
  have d := fun k => dec_len (byteAt ip k).toNat
  have := d 0; have := d 1; have := d 2; have := d 3
  rw [dotTo4]; simp; omega

/-- Undotted's answer by any reading that reads what is printed. -/
theorem undot_by (l : List UInt8) (y : Int) (hb : 0 ≤ y ∧ y ≤ 4294967295) (hy : ∀ c : Int, 0 ≤ c → c ≤ 4294967295 → l = dotTo c 4 → y = c) : undot l = if dotTo y 4 = l then (y, 0) else (0, 10) := by
  unfold undot
  by_cases h : dotTo (loose l) 4 = l
  · have hl := loose_bd l
    have e := hy (loose l) hl.1 hl.2 h.symm
    rw [if_pos h, e, if_pos h]
  · rw [if_neg h]
    by_cases h2 : dotTo y 4 = l
    · exfalso
      apply h
      rw [← h2, loose_dot y hb.1 hb.2]
    · rw [if_neg h2]
theorem undot_none (l : List UInt8) (h : ∀ c : Int, l ≠ dotTo c 4) : undot l = (0, 10) := by
  unfold undot; rw [if_neg (fun e => h _ e.symm)]

theorem rrun_bd : ∀ (k : Nat) (l : List UInt8), l.length = k → k ≤ 15 → l.all sign = true → 0 ≤ (rrun l).2 ∧ (rrun l).2 < 10 ^ k
  | 0, l, h, _, _ => by
    obtain rfl := List.eq_nil_of_length_eq_zero h
    simp [rrun]
  | k + 1, l, h, hk, hs => by
    have hne : l ≠ [] := fun e => by subst e; simp at h
    obtain ⟨r, c, rfl⟩ : ∃ r c, l = r ++ [c] := ⟨l.dropLast, l.getLast hne, (List.dropLast_concat_getLast hne).symm⟩
    simp only [List.length_append, List.length_singleton] at h
    simp only [List.all_append, List.all_cons, List.all_nil, Bool.and_true, Bool.and_eq_true] at hs
    have ih := rrun_bd k r (by omega) (by omega) hs.1
    rw [rrun_snoc]
    have hp : (10 : Int) ^ (k + 1) = 10 ^ k * 10 := by rw [Int.pow_succ]
    have hp0 : (0 : Int) < 10 ^ k := Int.pow_pos (by decide)
    unfold rstep
    split
    · simp; omega
    · have hc : 48 ≤ c.toNat ∧ c.toNat ≤ 57 := by
        have := hs.2
        unfold sign at this
        simp at this
        omega
      simp only [qstep]
      omega
theorem pow15 (k : Nat) (h : k ≤ 15) : (10 : Int) ^ k ≤ 1000000000000000 := by
  have hc : k = 0 ∨ k = 1 ∨ k = 2 ∨ k = 3 ∨ k = 4 ∨ k = 5 ∨ k = 6 ∨ k = 7 ∨ k = 8 ∨ k = 9 ∨ k = 10 ∨ k = 11 ∨ k = 12 ∨ k = 13 ∨ k = 14 ∨ k = 15 := by omega
  rcases hc with rfl | rfl | rfl | rfl | rfl | rfl | rfl | rfl | rfl | rfl | rfl | rfl | rfl | rfl | rfl | rfl <;> decide
theorem sign_of (s : ByteArray) (k : Nat) (h : k < s.size) (hn : ¬ (s[k].toNat : Int) = 46) (hm : ¬ (48 ≤ (s[k].toNat : Int) ∧ (s[k].toNat : Int) ≤ 57)) : ∀ c : Int, s.data.toList ≠ dotTo c 4 := fun c e => by
  have h1 := dotTo_sign c
  rw [← e] at h1
  have h2 := List.all_eq_true.1 h1 s[k] (by
    have hk : k < s.data.toList.length := by rw [Array.length_toList]; exact h
    exact List.getElem_mem (l := s.data.toList) hk)
  unfold sign at h2
  simp at h2
  omega

set_option maxHeartbeats 1000000 in
theorem refUndotted_any (s : ByteArray) (w : World) :
    Calls Tryd.prog 11 #[.string s] w fun e w' => e = .returned (.tuple #[.int .u32 (undot s.data.toList).1, .int .i64 (undot s.data.toList).2]) ∧ Below w.heap.size w w' := by
  by_cases hlong : 15 < s.size
  · have HU : Hid (undot s.data.toList = (0, 10)) := undot_none _ fun c e => by
      have h1 := dotTo_15 c
      rw [← e] at h1
      have : s.data.toList.length = s.size := by rw [Array.length_toList]; rfl
      omega
    rw [HU.out]
    have hl : (15 : Int) < (s.size : Int) := by omega
    go_enter Tryd.func11, Tryd.ntmps11
    go_wp2
    go_ret2
    exact ⟨rfl, Below.refl _ _⟩
  · have hl : ¬ (15 : Int) < (s.size : Int) := by omega
    go_enter Tryd.func11, Tryd.ntmps11
    go_wp2
    go_loop [4, 5, 6] (fun t p i => ∃ k : Nat, k ≤ s.size ∧ i = .int .i64 k ∧ t = .int .i64 (rrun (s.data.toList.take k)).1 ∧ p = .int .i64 (rrun (s.data.toList.take k)).2 ∧ (s.data.toList.take k).all sign = true) (fun _ _ i => s.size - (intOf i).toNat)
    case atStart => exact ⟨0, Nat.zero_le _, rfl, rfl, rfl, rfl⟩
    case round =>
      obtain ⟨k, hk, rfl, rfl, rfl, hsg⟩ := hrel
      have hlen : (s.data.toList.take k).length = k := by
        have : s.data.toList.length = s.size := by rw [Array.length_toList]; rfl
        rw [List.length_take]; omega
      have hbd := rrun_bd k (s.data.toList.take k) hlen (by omega) hsg
      have hp15 := pow15 k (by omega)
      have HSG : Hid ((s.data.toList.take k).all sign = true) := hsg
      clear hsg hlen
      by_cases hlt : k < s.size
      · have hsn : rrun (s.data.toList.take (k + 1)) = rstep (rrun (s.data.toList.take k)) s[k] := by rw [take_snoc8 s k hlt, rrun_snoc]
        have HSN : Hid (sign s[k] = true → (s.data.toList.take (k + 1)).all sign = true) := fun h => by
          rw [take_snoc8 s k hlt, List.all_append, HSG.out]; simp [h]
        have HNO : Hid _ := sign_of s k hlt
        obtain ⟨⟨x, y⟩, hxy⟩ : ∃ p, p = rrun (s.data.toList.take k) := ⟨_, rfl⟩
        rw [← hxy] at hsn hbd ⊢
        have HS : Hid (rrun (s.data.toList.take (k + 1)) = rstep (x, y) s[k]) := hsn
        have hy0 : 0 ≤ y := hbd.1
        have hy1 : y < 1000000000000000 := by have := hbd.2; simp only at this; omega
        have hc8 : (s[k].toNat : Int) ≤ 255 := by have := s[k].toNat_lt; omega
        clear hsn hxy hbd hp15
        by_cases hc : (s[k].toNat : Int) = 46
        · have hcb : ((s[k].toNat : Int) == 46) = true := by simpa using hc
          have HE : Hid (rstep (x, y) s[k] = (rup x y, 0)) := by unfold Hid rstep; rw [if_pos hc]
          have HG : Hid (sign s[k] = true) := by unfold Hid sign; simp; omega
          clear hc
          go_wp2
          go_round
          case rel => exact ⟨k + 1, by omega, by go_num, by rw [HS.out, HE.out]; rfl, by rw [HS.out, HE.out], HSN.out HG.out⟩
          case measure => simp [intOf]; omega
        · have hcb : ((s[k].toNat : Int) == 46) = false := by simpa using hc
          by_cases hd : 48 ≤ (s[k].toNat : Int) ∧ (s[k].toNat : Int) ≤ 57
          · obtain ⟨hd1, hd2⟩ := hd
            have HE : Hid (rstep (x, y) s[k] = (x, y * 10 + (s[k].toNat : Int) - 48)) := by unfold Hid rstep; rw [if_neg hc]; rfl
            have HG : Hid (sign s[k] = true) := by unfold Hid sign; simp; omega
            clear hc
            go_wp2
            go_round
            case rel => exact ⟨k + 1, by omega, by go_num, by rw [HS.out, HE.out], by rw [HS.out, HE.out], HSN.out HG.out⟩
            case measure => simp [intOf]; omega
          · have HU : Hid (undot s.data.toList = (0, 10)) := undot_none _ (HNO.out hc hd)
            clear hc
            by_cases hd1 : 48 ≤ (s[k].toNat : Int)
            · have hd2 : ¬ (s[k].toNat : Int) ≤ 57 := fun h => hd ⟨hd1, h⟩
              clear hd
              go_wp2
              go_ret2
              exact ⟨by rw [HU.out]; rfl, Below.refl _ _⟩
            · clear hd
              go_wp2
              go_ret2
              exact ⟨by rw [HU.out]; rfl, Below.refl _ _⟩
      · have hkk : k = s.size := by omega
        have htake : s.data.toList.take k = s.data.toList := List.take_of_length_le (by simp; omega)
        rw [htake]
        have hxb : 0 ≤ rloose s.data.toList ∧ rloose s.data.toList ≤ 4294967295 := by unfold rloose; omega
        have HU := undot_by s.data.toList (rloose s.data.toList) hxb (fun c c0 c1 e => by rw [e, rloose_dot c c0 c1])
        have HR : Hid (rloose s.data.toList = rup (rrun s.data.toList).1 (rrun s.data.toList).2 % 4294967296) := rfl
        obtain ⟨⟨x, y⟩, hxy⟩ : ∃ p, p = rrun s.data.toList := ⟨_, rfl⟩
        rw [htake, ← hxy] at hbd
        rw [← hxy] at HR ⊢
        obtain ⟨X, hX⟩ : ∃ X, X = rloose s.data.toList := ⟨_, rfl⟩
        rw [← hX] at HU HR hxb
        obtain ⟨D, hD⟩ : ∃ D, D = dotTo X 4 := ⟨_, rfl⟩
        have HD : Hid (dotTo X 4 = D) := hD.symm
        rw [← hD] at HU
        have HUU : Hid (undot s.data.toList = if D = s.data.toList then (X, 0) else (0, 10)) := HU
        have HRR : Hid (wrap64 (wrap64 (x * 256) + y) % 4294967296 = X) := HR.out.symm
        have hx2 : 0 ≤ X ∧ X ≤ 4294967295 := hxb
        clear HU hxy hX hD htake hbd hp15 hxb HSG
        go_wp2_with fail
        rw [HRR.out]
        refine (refDotted_any X _ hx2.1 hx2.2).mono ?_
        rintro e w1 ⟨rfl, hb1⟩
        rw [HD.out]
        have HB1 : Hid (Below w.heap.size w w1) := hb1
        clear hb1
        by_cases he : D = s.data.toList
        · have hq : (D == s.toList) = true := by rw [ByteArray.toList_eq, he]; simp
          have hu := HUU.out
          rw [if_pos he] at hu
          have HU2 : Hid (undot s.data.toList = (X, 0)) := hu
          clear he hu
          go_wp2
          go_ret2
          exact ⟨by rw [HU2.out]; rfl, HB1.out⟩
        · have hq : (D == s.toList) = false := by rw [ByteArray.toList_eq]; simpa using he
          have hu := HUU.out
          rw [if_neg he] at hu
          have HU2 : Hid (undot s.data.toList = (0, 10)) := hu
          clear he hu
          go_wp2
          go_ret2
          exact ⟨by rw [HU2.out]; rfl, HB1.out⟩
end Go.Proofs.YtkijjmmebgogpaaDoor
