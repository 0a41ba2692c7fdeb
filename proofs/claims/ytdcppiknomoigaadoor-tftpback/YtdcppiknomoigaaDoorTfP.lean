/-
  Tftp: packets as bytes, digits, what is agreed on: no memory.
-/
import Derived.Test.YtdcppiknomoigaaDoorTfY
import Derived.Lib.ItoaNum
import Derived.Lib.AtoiTie
namespace Go.Proofs.YtdcppiknomoigaaDoor
open Go.RowKit
set_option linter.all false

/-- the bytes ahead of the first 0. -/
def txt (zs : List Int) : List Int := zs.takeWhile (fun z => z != 0)
theorem txt_le (zs : List Int) : (txt zs).length ≤ zs.length := (List.takeWhile_sublist _).length_le
/-! ### digits -/
theorem decDigits_nums : ∀ n : Nat, (Lib.decDigits n).map (fun b => (b.toNat : Int)) = decB n := by
  intro n
  induction n using Nat.strongRecOn with
  | ind n ih =>
    by_cases h : n < 10
    · rw [Lib.decDigits, dif_pos h, decB_small h]
      simp only [List.map_cons, List.map_nil]
      rw [UInt8.toNat_ofNat_of_lt' (by show 48 + n < 256; omega)]
      simp
    · rw [Lib.decDigits, dif_neg h, decB_big h, List.map_append, ih (n / 10) (by omega)]
      simp only [List.map_cons, List.map_nil]
      rw [UInt8.toNat_ofNat_of_lt' (by show 48 + n % 10 < 256; omega)]
      simp
/-- what strconv.Itoa gives. -/
theorem itoa_str (n : Nat) : (⟨(Lib.itoa (n : Int)).toArray⟩ : ByteArray) = strOfNums (decB n) := by
  have e : Lib.itoa (n : Int) = Lib.decDigits n := by unfold Lib.itoa; rw [if_neg (by omega)]; simp
  have h := str_nums ⟨(Lib.itoa (n : Int)).toArray⟩
  rw [← h]
  congr 1
  unfold nums
  rw [e]
  simp only [List.toList_toArray]
  exact decDigits_nums n
theorem decB_len : ∀ (k n : Nat), 1 ≤ k → n < 10 ^ k → (decB n).length ≤ k
  | 0, n, h, _ => by omega
  | k + 1, n, _, h => by
    by_cases h9 : n < 10
    · rw [decB_small h9]; simp
    · rw [decB_big h9, List.length_append]
      have hk : 1 ≤ k := by
        rcases Nat.eq_zero_or_pos k with e | e
        · subst e; simp at h; omega
        · exact e
      have := decB_len k (n / 10) hk (by rw [Nat.pow_succ] at h; omega)
      simp; omega
theorem decB_len10 {n : Nat} (h : n ≤ 2147483647) : (decB n).length ≤ 10 := decB_len 10 n (by omega) (by omega)
theorem digit_dec {n : Nat} (h : n < 10) : Lib.digitVal (UInt8.ofNat (48 + n)) = some n := by
  unfold Lib.digitVal
  rw [UInt8.toNat_ofNat_of_lt' (by show 48 + n < 256; omega), if_pos (by omega)]
  congr 1; omega
theorem decFrom_app : ∀ (a b : List UInt8) (acc m : Nat), Lib.decFrom acc a = some m → Lib.decFrom acc (a ++ b) = Lib.decFrom m b
  | [], b, acc, m, h => by simp only [Lib.decFrom, Option.some.injEq] at h; subst h; rfl
  | x :: a, b, acc, m, h => by
    simp only [Lib.decFrom, List.cons_append] at h ⊢
    cases hx : Lib.digitVal x with
    | none => rw [hx] at h; cases h
    | some d => rw [hx] at h; simp only at h ⊢; exact decFrom_app a b _ m h
theorem decFrom_dec : ∀ n : Nat, Lib.decFrom 0 (Lib.decDigits n) = some n := by
  intro n
  induction n using Nat.strongRecOn with
  | ind n ih =>
    by_cases h : n < 10
    · rw [Lib.decDigits, dif_pos h]
      simp only [Lib.decFrom, digit_dec h]
      simp
    · rw [Lib.decDigits, dif_neg h, decFrom_app _ _ _ _ (ih (n / 10) (by omega))]
      simp only [Lib.decFrom, digit_dec (show n % 10 < 10 by omega)]
      congr 1; omega
theorem dec_first (n : Nat) : ∃ b r, Lib.decDigits n = b :: r ∧ 48 ≤ b.toNat ∧ b.toNat ≤ 57 := by
  have h := decDigits_nums n
  have hb := decB_bd n
  rw [← h] at hb
  cases hd : Lib.decDigits n with
  | nil => rw [hd] at h; exact absurd h.symm (decB_ne n)
  | cons b r =>
    rw [hd] at hb
    have := hb (b.toNat : Int) (by simp)
    exact ⟨b, r, rfl, by omega, by omega⟩
theorem atoi_dec (n : Nat) : Lib.atoi (Lib.decDigits n) = some (n : Int) := by
  obtain ⟨b, r, e, h1, h2⟩ := dec_first n
  have hd := decFrom_dec n
  rw [e] at hd ⊢
  have e1 : (b == 45) = false := by simp only [beq_eq_false_iff_ne, ne_eq]; intro e; subst e; simp at h1
  have e2 : (b == 43) = false := by simp only [beq_eq_false_iff_ne, ne_eq]; intro e; subst e; simp at h1
  simp only [Lib.atoi, e1, e2, Bool.false_eq_true, if_false, Lib.decNat, List.isEmpty_cons, hd]
  rfl
theorem atoiAll_dec {n : Nat} (h : n ≤ 2147483647) : Lib.atoiAll (Lib.decDigits n) = .ok (n : Int) := by
  have hl : (Lib.decDigits n).length ≤ 18 := by
    have := decB_len10 h
    rw [← decDigits_nums, List.length_map] at this
    omega
  rw [Lib.atoiAll_short _ hl, atoi_dec]
  rfl
/-! ### a choice's value -/
def stepN (n : Nat) (d : Int) : Nat := n * 10 + (d - 48).toNat
def valN (ds : List Int) : Nat := (ds.take 10).foldl stepN 0
def valF (ds : List Int) : Option Nat := if decB (valN ds) = ds ∧ valN ds ≤ 2147483647 then some (valN ds) else none
theorem fold_dec : ∀ n : Nat, (decB n).foldl stepN 0 = n := by
  intro n
  induction n using Nat.strongRecOn with
  | ind n ih =>
    by_cases h : n < 10
    · rw [decB_small h]
      simp only [List.foldl_cons, List.foldl_nil, stepN]
      omega
    · rw [decB_big h, List.foldl_append, ih (n / 10) (by omega)]
      simp only [List.foldl_cons, List.foldl_nil, stepN]
      omega
theorem valN_dec {n : Nat} (h : n ≤ 2147483647) : valN (decB n) = n := by
  unfold valN
  rw [List.take_of_length_le (decB_len10 h), fold_dec]
theorem valF_dec {n : Nat} (h : n ≤ 2147483647) : valF (decB n) = some n := by
  unfold valF
  rw [valN_dec h, if_pos ⟨rfl, h⟩]
theorem valF_some {ds : List Int} {n : Nat} (h : valF ds = some n) : ds = decB n ∧ n ≤ 2147483647 := by
  unfold valF at h
  split at h
  · rename_i hc
    simp only [Option.some.injEq] at h
    rw [← h]
    exact ⟨hc.1.symm, hc.2⟩
  · cases h
theorem valF_none {ds : List Int} (h : ∀ n, n ≤ 2147483647 → ds ≠ decB n) : valF ds = none := by
  cases hv : valF ds with
  | none => rfl
  | some n => exact absurd (valF_some hv).1 (h n (valF_some hv).2)
/-! ### texts -/
def cutG (zs : List Int) : Option (List Int × List Int) := if (0 : Int) ∈ zs then some (txt zs, zs.drop ((txt zs).length + 1)) else none
theorem txt_app (a b : List Int) (h : (0 : Int) ∉ a) : txt (a ++ 0 :: b) = a := by
  unfold txt
  rw [List.takeWhile_append_of_pos (by
    intro x hx
    simp only [bne_iff_ne, ne_eq]
    intro e; subst e; exact h hx)]
  simp
theorem cutG_app (a b : List Int) (h : (0 : Int) ∉ a) : cutG (a ++ 0 :: b) = some (a, b) := by
  unfold cutG
  rw [if_pos (by simp), txt_app a b h]
  simp
theorem split0 : ∀ {zs : List Int}, (0 : Int) ∈ zs → ∃ s t, zs = s ++ 0 :: t ∧ (0 : Int) ∉ s
  | [], h => by simp at h
  | z :: zs, h => by
    by_cases hz : z = 0
    · subst hz; exact ⟨[], zs, rfl, by simp⟩
    · obtain ⟨s, t, e, hs⟩ := split0 (zs := zs) (by simpa [Ne.symm hz] using h)
      exact ⟨z :: s, t, by rw [e]; rfl, by simp [hs, Ne.symm hz]⟩
theorem cutG_inv {zs a b : List Int} (h : cutG zs = some (a, b)) : zs = a ++ 0 :: b ∧ (0 : Int) ∉ a := by
  unfold cutG at h
  split at h
  · rename_i h0
    simp only [Option.some.injEq, Prod.mk.injEq] at h
    obtain ⟨rfl, rfl⟩ := h
    obtain ⟨s, t, e, hs⟩ := split0 h0
    rw [e, txt_app s t hs]
    refine ⟨?_, hs⟩
    simp
  · cases h
theorem cutG_len {zs a b : List Int} (h : cutG zs = some (a, b)) : b.length < zs.length ∧ a.length < zs.length := by
  have := (cutG_inv h).1
  rw [this]; simp; omega
def smallZ (z : Int) : Int := if 65 ≤ z ∧ z ≤ 90 then z + 32 else z
def smallL (zs : List Int) : List Int := zs.map smallZ
theorem smallL_bd {zs : List Int} (h : ∀ z, z ∈ zs → 0 ≤ z ∧ z ≤ 255) : ∀ z, z ∈ smallL zs → 0 ≤ z ∧ z ≤ 255 := fun z hz => by
  simp only [smallL, List.mem_map] at hz
  obtain ⟨x, hx, rfl⟩ := hz
  have := h x hx
  unfold smallZ; split <;> omega
def smallS (zs : List Int) : ByteArray := strOfNums (smallL zs)
/-! ### choices -/
def readG (acc : List Ch) (zs : List Int) : Except Int (List Ch) :=
  if zs = [] then .ok acc else
  match h1 : cutG zs with
  | none => .error 5
  | some (nm, r1) => match h2 : cutG r1 with
    | none => .error 5
    | some (vs, r2) =>
      if knownB (smallS nm) = false then readG acc r2 else
      match valF vs with
      | none => .error 172
      | some n => if inB (smallS nm) acc = true then .error 172 else readG (acc ++ [⟨smallS nm, (n : Int)⟩]) r2
termination_by zs.length
decreasing_by all_goals (have := cutG_len h1; have := cutG_len h2; omega)
theorem readG_nil (acc : List Ch) : readG acc [] = .ok acc := by rw [readG]; simp
theorem readG_short1 (acc : List Ch) {zs : List Int} (h0 : zs ≠ []) (h : cutG zs = none) : readG acc zs = .error 5 := by
  rw [readG, if_neg h0]
  split
  · rfl
  · rename_i h1; rw [h] at h1; cases h1
theorem readG_short2 (acc : List Ch) {zs nm r1 : List Int} (h1 : cutG zs = some (nm, r1)) (h : cutG r1 = none) : readG acc zs = .error 5 := by
  have h0 : zs ≠ [] := by intro e; subst e; simp [cutG] at h1
  rw [readG, if_neg h0]
  split
  · rename_i h2; simp [h1] at h2
  · rename_i h2
    rw [h1] at h2
    simp only [Option.some.injEq, Prod.mk.injEq] at h2
    obtain ⟨rfl, rfl⟩ := h2
    split
    · rfl
    · rename_i h3; rw [h] at h3; cases h3
theorem readG_step (acc : List Ch) {zs nm r1 vs r2 : List Int} (h1 : cutG zs = some (nm, r1)) (h2 : cutG r1 = some (vs, r2)) :
    readG acc zs = if knownB (smallS nm) = false then readG acc r2 else match valF vs with
      | none => .error 172
      | some n => if inB (smallS nm) acc = true then .error 172 else readG (acc ++ [⟨smallS nm, (n : Int)⟩]) r2 := by
  have h0 : zs ≠ [] := by intro e; subst e; simp [cutG] at h1
  rw [readG, if_neg h0]
  split
  · rename_i h3; rw [h1] at h3; cases h3
  · rename_i h3
    rw [h1] at h3
    simp only [Option.some.injEq, Prod.mk.injEq] at h3
    obtain ⟨rfl, rfl⟩ := h3
    split
    · rename_i h4; rw [h2] at h4; cases h4
    · rename_i h4
      rw [h2] at h4
      simp only [Option.some.injEq, Prod.mk.injEq] at h4
      obtain ⟨rfl, rfl⟩ := h4
      rfl
/-! ### a packet's bytes -/
def chB (c : Ch) : List Int := nums c.nm ++ 0 :: (decB c.v.toNat ++ [0])
def chsB (l : List Ch) : List Int := l.flatMap chB
theorem chsB_cons (c : Ch) (l : List Ch) : chsB (c :: l) = nums c.nm ++ 0 :: (decB c.v.toNat ++ 0 :: chsB l) := by
  simp [chsB, chB]
structure Tp where
  op : Int
  fl : ByteArray
  md : ByteArray
  ch : List Ch
  bk : Int
  da : List Int
  cd : Int
  tx : ByteArray
def noS : ByteArray := ⟨#[]⟩
def Tp.nil : Tp := ⟨0, noS, noS, [], 0, [], 0, noS⟩
def Tp.may (p : Tp) : Int := mayE p.op p.fl p.md (chOk p.ch p.ch.length) p.bk p.da.length p.cd p.tx
/-- a packet's bytes. -/
def Tp.enc (p : Tp) : List Int :=
  if p.op = 1 then op2 p.op ++ (nums p.fl ++ 0 :: (nums p.md ++ 0 :: chsB p.ch))
  else if p.op = 3 then op2 p.op ++ (op2 p.bk ++ p.da)
  else if p.op = 4 then op2 p.op ++ op2 p.bk
  else if p.op = 5 then op2 p.op ++ (op2 p.cd ++ (nums p.tx ++ [0]))
  else op2 p.op ++ chsB p.ch
/-- the fields that its Op uses. -/
def Tp.norm (p : Tp) : Tp :=
  if p.op = 1 then { Tp.nil with op := 1, fl := p.fl, md := nOct, ch := p.ch }
  else if p.op = 3 then { Tp.nil with op := 3, bk := p.bk, da := p.da }
  else if p.op = 4 then { Tp.nil with op := 4, bk := p.bk }
  else if p.op = 5 then { Tp.nil with op := 5, cd := p.cd, tx := p.tx }
  else { Tp.nil with op := p.op, ch := p.ch }
def be2 (zs : List Int) : Int := zs.getD 0 0 * 256 + zs.getD 1 0
def decRd (r : List Int) : Except Int Tp :=
  match cutG r with
  | none => .error 5
  | some (f, r1) =>
    if f.length < 1 ∨ 64 < f.length then .error 171 else
    match cutG r1 with
    | none => .error 5
    | some (m, r2) =>
      if smallS m ≠ nOct then .error 171 else
      match readG [] r2 with
      | .error e => .error e
      | .ok l => .ok { Tp.nil with op := 1, fl := strOfNums f, md := nOct, ch := l }
def decNu (op : Int) (r : List Int) : Except Int Tp :=
  if r.length < 2 then .error 5 else
  if op = 4 then .ok { Tp.nil with op := 4, bk := be2 r } else
  if op = 3 then (if 65464 < (r.drop 2).length then .error 2 else .ok { Tp.nil with op := 3, bk := be2 r, da := r.drop 2 }) else
  match cutG (r.drop 2) with
  | none => .error 5
  | some (s, _) => if 255 < s.length then .error 2 else .ok { Tp.nil with op := 5, cd := be2 r, tx := strOfNums s }
def decT (zs : List Int) : Except Int Tp :=
  if zs.length < 2 then .error 5 else
  if be2 zs = 1 then decRd (zs.drop 2)
  else if be2 zs = 6 then (match readG [] (zs.drop 2) with
    | .error e => .error e
    | .ok l => .ok { Tp.nil with op := 6, ch := l })
  else if be2 zs = 3 ∨ be2 zs = 4 ∨ be2 zs = 5 then decNu (be2 zs) (zs.drop 2)
  else .error 170
/-! ### there and back -/
theorem be2_op2 {n : Int} (h : 0 ≤ n ∧ n ≤ 65535) (r : List Int) : be2 (op2 n ++ r) = n := by
  simp only [be2, op2, List.cons_append, List.nil_append, List.getD_cons_zero, List.getD_cons_succ]
  omega
theorem drop_op2 (n : Int) (r : List Int) : (op2 n ++ r).drop 2 = r := rfl
theorem len_op2 (n : Int) (r : List Int) : ¬ (op2 n ++ r).length < 2 := by simp [op2]
theorem nums_no {s : ByteArray} (h : zeroIn s = false) : (0 : Int) ∉ nums s := by simpa [zeroIn] using h
theorem decB_no (n : Nat) : (0 : Int) ∉ decB n := fun h => by have := decB_bd n 0 h; omega
theorem known_nums {s : ByteArray} (h : knownB s = true) : (0 : Int) ∉ nums s ∧ smallS (nums s) = s := by
  simp only [knownB, Bool.or_eq_true, decide_eq_true_eq] at h
  rcases h with (rfl | rfl) | rfl <;> exact ⟨by decide, by decide⟩
theorem readG_laid : ∀ (l acc : List Ch), (∀ k, k < l.length → knownB (l.getD k Ch.nil).nm = true ∧ inB (l.getD k Ch.nil).nm (acc ++ l.take k) = false ∧ 0 ≤ (l.getD k Ch.nil).v ∧ (l.getD k Ch.nil).v ≤ 2147483647) → readG acc (chsB l) = .ok (acc ++ l)
  | [], acc, _ => by rw [show chsB [] = [] from rfl, readG_nil, List.append_nil]
  | c :: l, acc, h => by
    obtain ⟨h1, h2, h3, h4⟩ := h 0 (by simp)
    simp only [List.getD_cons_zero, List.take_zero, List.append_nil] at h1 h2 h3 h4
    obtain ⟨hn, hs⟩ := known_nums h1
    rw [chsB_cons, readG_step acc (cutG_app _ _ hn) (cutG_app _ _ (decB_no _)), hs, h1, valF_dec (by omega)]
    simp only [Bool.true_eq_false, if_false, h2, Bool.false_eq_true]
    rw [show (⟨c.nm, ((c.v.toNat : Nat) : Int)⟩ : Ch) = c from by cases c; simp only at h3 ⊢; congr 1; omega]
    rw [readG_laid l (acc ++ [c]) (fun k hk => by
      obtain ⟨g1, g2, g3, g4⟩ := h (k + 1) (by simp; omega)
      simp only [List.getD_cons_succ, List.take_succ_cons] at g1 g2 g3 g4
      refine ⟨g1, ?_, g3, g4⟩
      rw [List.append_assoc]; exact g2), List.append_assoc]
    rfl
theorem chOk_all {l : List Ch} {n : Nat} (h : chOk l n = true) : ∀ k, k < n → knownB (l.getD k Ch.nil).nm = true ∧ inB (l.getD k Ch.nil).nm (l.take k) = false ∧ 0 ≤ (l.getD k Ch.nil).v ∧ (l.getD k Ch.nil).v ≤ 2147483647 := by
  intro k hk
  unfold chOk at h
  have := List.all_eq_true.1 h k (List.mem_range.2 hk)
  simp only [Bool.and_eq_true, Bool.not_eq_true', decide_eq_true_eq] at this
  exact ⟨this.1.1.1, this.1.1.2, this.1.2, this.2⟩
theorem chOk_of {l : List Ch} {n : Nat} (h : ∀ k, k < n → knownB (l.getD k Ch.nil).nm = true ∧ inB (l.getD k Ch.nil).nm (l.take k) = false ∧ 0 ≤ (l.getD k Ch.nil).v ∧ (l.getD k Ch.nil).v ≤ 2147483647) : chOk l n = true := by
  unfold chOk
  rw [List.all_eq_true]
  intro k hk
  obtain ⟨h1, h2, h3, h4⟩ := h k (List.mem_range.1 hk)
  rw [h1, h2, decide_eq_true h3, decide_eq_true h4]; rfl
theorem read_laid {l : List Ch} (h : chOk l l.length = true) : readG [] (chsB l) = .ok l := by
  have := readG_laid l [] (fun k hk => by
    obtain ⟨h1, h2, h3, h4⟩ := chOk_all h k hk
    exact ⟨h1, h2, h3, h4⟩)
  simpa using this
/-- what is laid is read so. -/
theorem enc_back {p : Tp} (h : p.may = 0) : decT p.enc = .ok p.norm := by
  unfold Tp.may mayE at h
  unfold Tp.enc Tp.norm
  by_cases o1 : p.op = 1
  · rw [if_pos o1] at h ⊢
    rw [if_pos o1]
    split at h
    · cases h
    · rename_i hc
      simp only [not_or, Bool.not_eq_true, Nat.not_lt, ne_eq, Classical.not_not] at hc
      obtain ⟨c1, c2, c3, c4⟩ := hc
      split at h
      · rename_i hk
        unfold decT
        rw [if_neg (len_op2 _ _), be2_op2 (by omega), if_pos o1, drop_op2]
        unfold decRd
        rw [cutG_app _ _ (nums_no c3)]
        simp only [nums_len]
        rw [if_neg (by omega), c4, cutG_app _ _ (by decide)]
        simp only
        rw [if_neg (by rw [Classical.not_not]; decide), read_laid hk]
        simp only [str_nums]
      · cases h
  · rw [if_neg o1] at h ⊢
    rw [if_neg o1]
    by_cases o6 : p.op = 6
    · rw [if_pos o6] at h
      split at h
      · rename_i hk
        rw [if_neg (by omega), if_neg (by omega), if_neg (by omega), if_neg (by omega), if_neg (by omega), if_neg (by omega)]
        unfold decT
        rw [if_neg (len_op2 _ _), be2_op2 (by omega), if_neg o1, if_pos o6, drop_op2, read_laid hk]
        simp only [o6]
      · cases h
    · rw [if_neg o6] at h
      by_cases o3 : p.op = 3
      · rw [if_pos (Or.inl o3)] at h
        rw [if_pos o3, if_pos o3]
        split at h
        · cases h
        · rename_i hb
          split at h
          · cases h
          · rename_i hd
            unfold decT
            rw [if_neg (len_op2 _ _), be2_op2 (by omega), if_neg o1, if_neg o6, if_pos (Or.inl o3), drop_op2]
            unfold decNu
            rw [if_neg (len_op2 _ _), if_neg (by omega), if_pos o3, drop_op2, if_neg (by omega), be2_op2 (by omega)]
      · rw [if_neg o3, if_neg o3]
        by_cases o4 : p.op = 4
        · rw [if_pos (Or.inr o4)] at h
          rw [if_pos o4, if_pos o4]
          split at h
          · cases h
          · rename_i hb
            have e : op2 p.bk = op2 p.bk ++ [] := by simp
            rw [e]
            unfold decT
            rw [if_neg (len_op2 _ _), be2_op2 (by omega), if_neg o1, if_neg o6, if_pos (Or.inr (Or.inl o4)), drop_op2]
            unfold decNu
            rw [if_neg (len_op2 _ _), if_pos o4, be2_op2 (by omega)]
        · rw [if_neg (by omega)] at h
          rw [if_neg o4, if_neg o4]
          by_cases o5 : p.op = 5
          · rw [if_pos o5] at h
            rw [if_pos o5, if_pos o5]
            split at h
            · cases h
            · rename_i hb
              split at h
              · cases h
              · rename_i hz
                split at h
                · cases h
                · rename_i hl
                  unfold decT
                  rw [if_neg (len_op2 _ _), be2_op2 (by omega), if_neg o1, if_neg o6, if_pos (Or.inr (Or.inr o5)), drop_op2]
                  unfold decNu
                  rw [if_neg (len_op2 _ _), if_neg (by omega), if_neg o3, drop_op2, show nums p.tx ++ [0] = nums p.tx ++ 0 :: [] from rfl, cutG_app _ _ (nums_no (by simpa using hz))]
                  simp only [nums_len]
                  rw [if_neg hl, be2_op2 (by omega), str_nums]
          · rw [if_neg o5] at h; cases h
/-! ### what is read may be laid -/
theorem chOk_snoc {acc : List Ch} {c : Ch} (h : chOk acc acc.length = true) (h1 : knownB c.nm = true) (h2 : inB c.nm acc = false) (h3 : 0 ≤ c.v ∧ c.v ≤ 2147483647) : chOk (acc ++ [c]) (acc ++ [c]).length = true := by
  refine chOk_of fun k hk => ?_
  simp only [List.length_append, List.length_cons, List.length_nil] at hk
  by_cases hl : k < acc.length
  · have e1 : (acc ++ [c]).getD k Ch.nil = acc.getD k Ch.nil := by
      rw [List.getD_eq_getElem?_getD, List.getD_eq_getElem?_getD, List.getElem?_append_left hl]
    rw [e1, List.take_append_of_le_length (by omega)]
    exact chOk_all h k hl
  · obtain rfl : k = acc.length := by omega
    have e1 : (acc ++ [c]).getD acc.length Ch.nil = c := by
      rw [List.getD_eq_getElem?_getD, List.getElem?_append_right (Nat.le_refl _)]; simp
    rw [e1, List.take_append_of_le_length (Nat.le_refl _), List.take_length]
    exact ⟨h1, h2, h3.1, h3.2⟩
theorem readG_ok : ∀ (n : Nat) (zs : List Int) (acc l : List Ch), zs.length ≤ n → chOk acc acc.length = true → readG acc zs = .ok l → chOk l l.length = true
  | n, zs, acc, l, hn, ha, h => by
    by_cases h0 : zs = []
    · subst h0
      rw [readG_nil] at h
      simp only [Except.ok.injEq] at h
      subst h; exact ha
    · cases h1 : cutG zs with
      | none => rw [readG_short1 acc h0 h1] at h; cases h
      | some p =>
        obtain ⟨nm, r1⟩ := p
        cases h2 : cutG r1 with
        | none => rw [readG_short2 acc h1 h2] at h; cases h
        | some p2 =>
          obtain ⟨vs, r2⟩ := p2
          rw [readG_step acc h1 h2] at h
          have l1 := cutG_len h1
          have l2 := cutG_len h2
          obtain ⟨m, rfl⟩ : ∃ m, n = m + 1 := ⟨n - 1, by omega⟩
          split at h
          · exact readG_ok m r2 acc l (by omega) ha h
          · rename_i hk
            split at h
            · cases h
            · rename_i v hv
              split at h
              · cases h
              · rename_i hi
                have := (valF_some hv).2
                exact readG_ok m r2 _ l (by omega) (chOk_snoc ha (by simpa using hk) (by simpa using hi) ⟨by simp only; omega, by simp only; omega⟩) h
theorem read_ok {zs : List Int} {l : List Ch} (h : readG [] zs = .ok l) : chOk l l.length = true := readG_ok zs.length zs [] l (Nat.le_refl _) rfl h
theorem getD_bd' {zs : List Int} (h : ∀ z, z ∈ zs → 0 ≤ z ∧ z ≤ 255) (j : Nat) : 0 ≤ zs.getD j 0 ∧ zs.getD j 0 ≤ 255 := by
  rw [List.getD_eq_getElem?_getD]
  cases hj : zs[j]? with
  | none => simp
  | some z => exact h z (List.mem_of_getElem? hj)
theorem be2_bd {zs : List Int} (h : ∀ z, z ∈ zs → 0 ≤ z ∧ z ≤ 255) : 0 ≤ be2 zs ∧ be2 zs ≤ 65535 := by
  have h0 := getD_bd' h 0
  have h1 := getD_bd' h 1
  unfold be2; omega
theorem drop_bd {zs : List Int} (h : ∀ z, z ∈ zs → 0 ≤ z ∧ z ≤ 255) (k : Nat) : ∀ z, z ∈ zs.drop k → 0 ≤ z ∧ z ≤ 255 := fun z hz => h z ((List.drop_sublist _ _).subset hz)
theorem cutG_bd {zs a b : List Int} (hb : ∀ z, z ∈ zs → 0 ≤ z ∧ z ≤ 255) (h : cutG zs = some (a, b)) : (∀ z, z ∈ a → 0 ≤ z ∧ z ≤ 255) ∧ (∀ z, z ∈ b → 0 ≤ z ∧ z ≤ 255) := by
  have := (cutG_inv h).1
  subst this
  exact ⟨fun z hz => hb z (by simp [hz]), fun z hz => hb z (by simp [hz])⟩
theorem zero_str {a : List Int} (hb : ∀ z, z ∈ a → 0 ≤ z ∧ z ≤ 255) (h : (0 : Int) ∉ a) : zeroIn (strOfNums a) = false := by
  unfold zeroIn; rw [nums_str hb]; simpa using h
theorem dec_may {zs : List Int} {q : Tp} (hb : ∀ z, z ∈ zs → 0 ≤ z ∧ z ≤ 255) (h : decT zs = .ok q) : q.may = 0 ∧ q.norm = q := by
  unfold decT at h
  split at h
  · cases h
  · split at h
    · rename_i o1
      unfold decRd at h
      cases h1 : cutG (zs.drop 2) with
      | none => rw [h1] at h; cases h
      | some p =>
        obtain ⟨f, r1⟩ := p
        rw [h1] at h
        have b1 := cutG_bd (drop_bd hb 2) h1
        simp only at h
        split at h
        · cases h
        · rename_i hf
          cases h2 : cutG r1 with
          | none => rw [h2] at h; cases h
          | some p2 =>
            obtain ⟨m, r2⟩ := p2
            rw [h2] at h
            simp only at h
            split at h
            · cases h
            · cases h3 : readG [] r2 with
              | error e => rw [h3] at h; cases h
              | ok l =>
                rw [h3] at h
                simp only [Except.ok.injEq] at h
                subst h
                refine ⟨?_, rfl⟩
                have hz := zero_str b1.1 (cutG_inv h1).2
                have hsz : (strOfNums f).size = f.length := strOfNums_size f
                unfold Tp.may mayE
                dsimp only [Tp.nil]
                rw [if_pos rfl, if_neg (fun h => by
                  rcases h with h | h | h | h
                  · omega
                  · omega
                  · rw [hz] at h; cases h
                  · exact h rfl), if_pos (read_ok h3)]
    · split at h
      · rename_i o6
        cases h3 : readG [] (zs.drop 2) with
        | error e => rw [h3] at h; cases h
        | ok l =>
          rw [h3] at h
          simp only [Except.ok.injEq] at h
          subst h
          refine ⟨?_, rfl⟩
          unfold Tp.may mayE
          dsimp only [Tp.nil]
          rw [if_neg (by decide), if_pos rfl, if_pos (read_ok h3)]
      · split at h
        · rename_i ho
          unfold decNu at h
          have hbe := be2_bd (drop_bd hb 2)
          split at h
          · cases h
          · split at h
            · simp only [Except.ok.injEq] at h
              subst h
              refine ⟨?_, rfl⟩
              unfold Tp.may mayE
              dsimp only [Tp.nil]
              rw [if_neg (by decide), if_neg (by decide), if_pos (Or.inr rfl), if_neg (by omega)]
              rfl
            · split at h
              · split at h
                · cases h
                · rename_i hl
                  simp only [Except.ok.injEq] at h
                  subst h
                  refine ⟨?_, rfl⟩
                  unfold Tp.may mayE
                  dsimp only [Tp.nil]
                  rw [if_neg (by decide), if_neg (by decide), if_pos (Or.inl rfl), if_neg (by omega), if_neg (by omega)]
              · cases h1 : cutG ((zs.drop 2).drop 2) with
                | none => rw [h1] at h; cases h
                | some p =>
                  obtain ⟨s, r1⟩ := p
                  rw [h1] at h
                  simp only at h
                  split at h
                  · cases h
                  · rename_i hl
                    simp only [Except.ok.injEq] at h
                    subst h
                    have b1 := cutG_bd (drop_bd (drop_bd hb 2) 2) h1
                    have hz := zero_str b1.1 (cutG_inv h1).2
                    have hsz : (strOfNums s).size = s.length := strOfNums_size s
                    refine ⟨?_, rfl⟩
                    unfold Tp.may mayE
                    dsimp only [Tp.nil]
                    rw [if_neg (by decide), if_neg (by decide), if_neg (by decide), if_pos rfl, if_neg (by omega), if_neg (by rw [hz]; simp), if_neg (by rw [hsz]; omega)]
        · cases h
/-- three names are known. -/
theorem chOk_3 {l : List Ch} {n : Nat} (h : chOk l n = true) (hn : n ≤ l.length) : n ≤ 3 := by
  refine Nat.le_of_not_lt fun h4 => ?_
  have key : ∀ j k, j < k → k < n → (l.getD j Ch.nil).nm ≠ (l.getD k Ch.nil).nm := fun j k hjk hk e => by
    have h2 := (chOk_all h k hk).2.1
    unfold inB at h2
    rw [List.any_eq_false] at h2
    refine h2 (l.getD j Ch.nil) ?_ (by simpa using e)
    rw [List.getD_eq_getElem?_getD, List.getElem?_eq_getElem (by omega)]
    simp only [Option.getD_some]
    rw [List.mem_take_iff_getElem]
    exact ⟨j, by omega, rfl⟩
  have kn : ∀ k, k < n → (l.getD k Ch.nil).nm = nBlk ∨ (l.getD k Ch.nil).nm = nWin ∨ (l.getD k Ch.nil).nm = nTsz := fun k hk => by
    have := (chOk_all h k hk).1
    simp only [knownB, Bool.or_eq_true, decide_eq_true_eq] at this
    rcases this with (h | h) | h
    · exact Or.inl h
    · exact Or.inr (Or.inl h)
    · exact Or.inr (Or.inr h)
  have a01 := key 0 1 (by omega) (by omega)
  have a02 := key 0 2 (by omega) (by omega)
  have a03 := key 0 3 (by omega) (by omega)
  have a12 := key 1 2 (by omega) (by omega)
  have a13 := key 1 3 (by omega) (by omega)
  have a23 := key 2 3 (by omega) (by omega)
  have k0 := kn 0 (by omega)
  have k1 := kn 1 (by omega)
  have k2 := kn 2 (by omega)
  have k3 := kn 3 (by omega)
  generalize (l.getD 0 Ch.nil).nm = x0 at *
  generalize (l.getD 1 Ch.nil).nm = x1 at *
  generalize (l.getD 2 Ch.nil).nm = x2 at *
  generalize (l.getD 3 Ch.nil).nm = x3 at *
  clear key kn
  generalize nBlk = a at *
  generalize nWin = b at *
  generalize nTsz = c at *
  rcases k0 with rfl | rfl | rfl <;> rcases k1 with rfl | rfl | rfl <;> rcases k2 with rfl | rfl | rfl <;> rcases k3 with rfl | rfl | rfl <;> simp_all
theorem chB_bd (c : Ch) : ∀ z, z ∈ chB c → 0 ≤ z ∧ z ≤ 255 := fun z hz => by
  simp only [chB, List.mem_append, List.mem_cons, List.not_mem_nil, or_false] at hz
  rcases hz with h | h | h | h
  · exact nums_bd _ z h
  · omega
  · have := decB_bd _ z h; omega
  · omega
theorem chsB_bd (l : List Ch) : ∀ z, z ∈ chsB l → 0 ≤ z ∧ z ≤ 255 := fun z hz => by
  simp only [chsB, List.mem_flatMap] at hz
  obtain ⟨c, _, h⟩ := hz
  exact chB_bd c z h
theorem op2_bd' (n : Int) : ∀ z, z ∈ op2 n → 0 ≤ z ∧ z ≤ 255 := fun z hz => by simp [op2] at hz; omega
theorem enc_bd (p : Tp) (hd : ∀ z, z ∈ p.da → 0 ≤ z ∧ z ≤ 255) : ∀ z, z ∈ p.enc → 0 ≤ z ∧ z ≤ 255 := fun z hz => by
  unfold Tp.enc at hz
  split at hz
  · simp only [List.mem_append, List.mem_cons] at hz
    rcases hz with h | h | h | h | h | h
    · exact op2_bd' _ z h
    · exact nums_bd _ z h
    · omega
    · exact nums_bd _ z h
    · omega
    · exact chsB_bd _ z h
  · split at hz
    · simp only [List.mem_append] at hz
      rcases hz with h | h | h
      · exact op2_bd' _ z h
      · exact op2_bd' _ z h
      · exact hd z h
    · split at hz
      · simp only [List.mem_append] at hz
        rcases hz with h | h
        · exact op2_bd' _ z h
        · exact op2_bd' _ z h
      · split at hz
        · simp only [List.mem_append, List.mem_cons, List.not_mem_nil, or_false] at hz
          rcases hz with h | h | h | h
          · exact op2_bd' _ z h
          · exact op2_bd' _ z h
          · exact nums_bd _ z h
          · omega
        · simp only [List.mem_append] at hz
          rcases hz with h | h
          · exact op2_bd' _ z h
          · exact chsB_bd _ z h
theorem chB_len {c : Ch} (h1 : knownB c.nm = true) (h3 : 0 ≤ c.v ∧ c.v ≤ 2147483647) : (chB c).length ≤ 22 := by
  have h2 : (nums c.nm).length ≤ 10 := by
    simp only [knownB, Bool.or_eq_true, decide_eq_true_eq] at h1
    rw [nums_len]
    rcases h1 with (h | h) | h <;> rw [h] <;> decide
  have := decB_len10 (n := c.v.toNat) (by omega)
  simp only [chB, List.length_append, List.length_cons, List.length_nil]
  omega
theorem chsB_len : ∀ (l : List Ch), (∀ c ∈ l, knownB c.nm = true ∧ 0 ≤ c.v ∧ c.v ≤ 2147483647) → (chsB l).length ≤ l.length * 22
  | [], _ => by simp [chsB]
  | c :: l, h => by
    have h1 := h c (by simp)
    have h2 := chB_len h1.1 h1.2
    have h3 := chsB_len l (fun x hx => h x (by simp [hx]))
    have e : chsB (c :: l) = chB c ++ chsB l := rfl
    rw [e, List.length_append, List.length_cons]
    omega
theorem chOk_mem {l : List Ch} (h : chOk l l.length = true) : ∀ c ∈ l, knownB c.nm = true ∧ 0 ≤ c.v ∧ c.v ≤ 2147483647 := fun c hc => by
  obtain ⟨k, hk, e⟩ := List.mem_iff_getElem.1 hc
  have := chOk_all h k hk
  rw [show l.getD k Ch.nil = c from by rw [List.getD_eq_getElem?_getD, List.getElem?_eq_getElem hk, e]; rfl] at this
  exact ⟨this.1, this.2.2⟩
theorem chsB_66 {l : List Ch} (h : chOk l l.length = true) : (chsB l).length ≤ 66 := by
  have := chsB_len l (chOk_mem h)
  have := chOk_3 h (Nat.le_refl _)
  omega
/-! ### what is agreed on -/
theorem nBT : nBlk ≠ nTsz := by decide
theorem nWT : nWin ≠ nTsz := by decide
theorem wantB_in (l : List Ch) (nm : ByteArray) : wantB l nm = inB nm l := by
  unfold wantB wantF inB
  induction l with
  | nil => rfl
  | cons x l ih =>
    rw [List.find?_cons, List.any_cons]
    by_cases h : x.nm = nm
    · simp [h]
    · rw [decide_eq_false h]; simpa using ih
/-- a choice's value, or the usual one. -/
def agd (l : List Ch) (nm : ByteArray) (d : Int) : Int := if wantB l nm = true then wantV l nm else d
theorem want_snoc (l : List Ch) (c : Ch) (nm : ByteArray) : wantF (l ++ [c]) nm = (wantF l nm).or (if c.nm = nm then some c else none) := by
  unfold wantF
  rw [List.find?_append]
  congr 1
  by_cases h : c.nm = nm <;> simp [h]
theorem agd_snoc_ne {l : List Ch} {c : Ch} {nm : ByteArray} (h : c.nm ≠ nm) (d : Int) : agd (l ++ [c]) nm d = agd l nm d := by
  unfold agd wantB wantV
  rw [want_snoc, if_neg h]
  cases wantF l nm <;> rfl
theorem agd_snoc_eq {l : List Ch} {c : Ch} {nm : ByteArray} (h : c.nm = nm) (hn : inB nm l = false) (d : Int) : agd (l ++ [c]) nm d = c.v := by
  unfold agd wantB wantV
  rw [want_snoc, if_pos h]
  rw [← wantB_in] at hn
  unfold wantB at hn
  cases hw : wantF l nm with
  | none => rfl
  | some x => rw [hw] at hn; cases hn
/-- of each known name the first choice. -/
def fstL (l : List Ch) : Nat → List Ch
  | 0 => []
  | k + 1 => if knownB (l.getD k Ch.nil).nm = true ∧ inB (l.getD k Ch.nil).nm (fstL l k) = false then fstL l k ++ [l.getD k Ch.nil] else fstL l k
theorem inB_snoc (nm : ByteArray) (l : List Ch) (c : Ch) : inB nm (l ++ [c]) = (inB nm l || decide (c.nm = nm)) := by
  unfold inB; rw [List.any_append]; simp
theorem take_snoc' {l : List Ch} {k : Nat} (hk : k < l.length) : l.take (k + 1) = l.take k ++ [l.getD k Ch.nil] := by
  rw [List.take_add_one, List.getElem?_eq_getElem hk, List.getD_eq_getElem?_getD, List.getElem?_eq_getElem hk]; rfl
theorem fstL_in (l : List Ch) (nm : ByteArray) (h : knownB nm = true) : ∀ k, k ≤ l.length → inB nm (fstL l k) = inB nm (l.take k)
  | 0, _ => by simp [fstL, inB]
  | k + 1, hk => by
    have ih := fstL_in l nm h k (by omega)
    rw [take_snoc' (by omega), inB_snoc, ← ih, fstL]
    split
    · rw [inB_snoc]
    · rename_i hc
      by_cases he : (l.getD k Ch.nil).nm = nm
      · rw [decide_eq_true he, Bool.or_true]
        rw [he, h] at hc
        simp only [true_and, Bool.not_eq_false] at hc
        exact hc
      · rw [decide_eq_false he, Bool.or_false]
theorem fstL_len (l : List Ch) : ∀ k, (fstL l k).length ≤ k
  | 0 => by simp [fstL]
  | k + 1 => by
    have := fstL_len l k
    rw [fstL]; split
    · simp; omega
    · omega
/-- what is answered to a choice. -/
def ansC (block window size : Int) (x : Ch) : Option Ch :=
  if x.nm = nBlk ∧ 8 ≤ x.v then some ⟨x.nm, min x.v (wi block 8 65464)⟩
  else if x.nm = nWin ∧ 1 ≤ x.v then some ⟨x.nm, min x.v (wi window 1 65535)⟩
  else if x.nm = nTsz then some ⟨x.nm, wi size 0 2147483647⟩ else none
def ansL (block window size : Int) (l : List Ch) : List Ch := l.filterMap (ansC block window size)
theorem ansC_nm {b w s : Int} {x y : Ch} (h : ansC b w s x = some y) : y.nm = x.nm ∧ knownB x.nm = true := by
  unfold ansC at h
  split at h
  · rename_i hc; simp only [Option.some.injEq] at h; subst h; exact ⟨rfl, by rw [hc.1]; decide⟩
  · split at h
    · rename_i hc; simp only [Option.some.injEq] at h; subst h; exact ⟨rfl, by rw [hc.1]; decide⟩
    · split at h
      · rename_i hc; simp only [Option.some.injEq] at h; subst h; exact ⟨rfl, by rw [hc]; decide⟩
      · cases h
theorem ansL_in {b w s : Int} {nm : ByteArray} {l : List Ch} (h : inB nm l = false) : inB nm (ansL b w s l) = false := by
  unfold inB at h ⊢
  rw [List.any_eq_false] at h ⊢
  intro y hy
  obtain ⟨x, hx, e⟩ := List.mem_filterMap.1 hy
  rw [(ansC_nm e).1]
  exact h x hx
theorem ansL_snoc (b w s : Int) (l : List Ch) (x : Ch) : ansL b w s (l ++ [x]) = ansL b w s l ++ (ansC b w s x).toList := by
  unfold ansL
  rw [List.filterMap_append]
  cases hx : ansC b w s x <;> simp [hx]
def agT (b w s : Int) (f : List Ch) : Int × Int × List Ch := (agd (ansL b w s f) nBlk 512, agd (ansL b w s f) nWin 1, ansL b w s f)
theorem agS_eq (l : List Ch) (b w s : Int) : ∀ k, k ≤ l.length → agS l b w s k = agT b w s (fstL l k)
  | 0, _ => rfl
  | k + 1, hk => by
    have ih := agS_eq l b w s k (by omega)
    rw [agS, ih, fstL]
    obtain ⟨x, hx⟩ : ∃ x, x = l.getD k Ch.nil := ⟨_, rfl⟩
    rw [← hx]
    by_cases hi : inB x.nm (l.take k) = true
    · rw [if_pos hi, if_neg (fun h => by rw [fstL_in l x.nm h.1 k (by omega), hi] at h; cases h.2)]
    · rw [if_neg hi]
      have hi' : inB x.nm (l.take k) = false := by simpa using hi
      by_cases hkn : knownB x.nm = true
      · have hf : inB x.nm (fstL l k) = false := by rw [fstL_in l x.nm hkn k (by omega)]; exact hi'
        rw [if_pos (show knownB x.nm = true ∧ inB x.nm (fstL l k) = false from ⟨hkn, hf⟩)]
        unfold agT
        rw [ansL_snoc]
        have ha := ansL_in (b := b) (w := w) (s := s) hf
        unfold ansC
        by_cases c1 : x.nm = nBlk ∧ 8 ≤ x.v
        · rw [if_pos c1, if_pos c1]
          simp only [Option.toList_some]
          rw [agd_snoc_eq (c := ⟨x.nm, min x.v (wi b 8 65464)⟩) (nm := nBlk) c1.1 (by rw [← c1.1]; exact ha), agd_snoc_ne (nm := nWin) (by simp only; rw [c1.1]; exact nBlk_nWin)]
        · rw [if_neg c1, if_neg c1]
          by_cases c2 : x.nm = nWin ∧ 1 ≤ x.v
          · rw [if_pos c2, if_pos c2]
            simp only [Option.toList_some]
            rw [agd_snoc_eq (c := ⟨x.nm, min x.v (wi w 1 65535)⟩) (nm := nWin) c2.1 (by rw [← c2.1]; exact ha), agd_snoc_ne (nm := nBlk) (by simp only; rw [c2.1]; exact fun e => nBlk_nWin e.symm)]
          · rw [if_neg c2, if_neg c2]
            by_cases c3 : x.nm = nTsz
            · rw [if_pos c3, if_pos c3]
              simp only [Option.toList_some]
              rw [agd_snoc_ne (nm := nBlk) (by simp only; rw [c3]; exact fun e => nBT e.symm), agd_snoc_ne (nm := nWin) (by simp only; rw [c3]; exact fun e => nWT e.symm)]
            · rw [if_neg c3, if_neg c3]
              simp
      · rw [if_neg (show ¬ (knownB x.nm = true ∧ inB x.nm (fstL l k) = false) from fun h => hkn h.1)]
        simp only [knownB, Bool.or_eq_true, decide_eq_true_eq, not_or] at hkn
        rw [if_neg (fun h => hkn.1.1 h.1), if_neg (fun h => hkn.1.2 h.1), if_neg (fun h => hkn.2 h)]
/-! ### what is accepted -/
def mayA (x : Ch) (v : Int) : Bool :=
  if x.nm = nBlk then decide (8 ≤ x.v ∧ x.v ≤ v) else if x.nm = nWin then decide (1 ≤ x.v ∧ x.v ≤ v) else if x.nm = nTsz then decide (0 ≤ x.v) else false
def okA (asked answer : List Ch) (k : Nat) : Bool := wantB asked (answer.getD k Ch.nil).nm && !inB (answer.getD k Ch.nil).nm (answer.take k) && mayA (answer.getD k Ch.nil) (wantV asked (answer.getD k Ch.nil).nm)
def allA (asked answer : List Ch) (n : Nat) : Bool := (List.range n).all (okA asked answer)
theorem allA_succ (asked answer : List Ch) (n : Nat) : allA asked answer (n + 1) = (allA asked answer n && okA asked answer n) := by
  unfold allA; rw [List.range_succ, List.all_append]; simp
theorem accS_eq (asked answer : List Ch) : ∀ k, k ≤ answer.length → accS asked answer k = if allA asked answer k = true then some (agd (answer.take k) nBlk 512, agd (answer.take k) nWin 1) else none
  | 0, _ => rfl
  | k + 1, hk => by
    have ih := accS_eq asked answer k (by omega)
    rw [accS, ih, allA_succ, take_snoc' (by omega)]
    by_cases ha : allA asked answer k = true
    · rw [ha]
      simp only [if_true, Bool.true_and]
      unfold okA
      obtain ⟨x, hx⟩ : ∃ x, x = answer.getD k Ch.nil := ⟨_, rfl⟩
      rw [← hx]
      by_cases h1 : wantB asked x.nm = true
      · by_cases h2 : inB x.nm (answer.take k) = true
        · rw [if_pos (by simp [h2]), if_neg (by simp [h2])]
        · have h2' : inB x.nm (answer.take k) = false := by simpa using h2
          rw [h1, h2']
          simp only [Bool.not_true, Bool.or_false, Bool.not_false, Bool.true_and]
          unfold mayA knownB
          by_cases c1 : x.nm = nBlk
          · have n2 : ¬ x.nm = nWin := by rw [c1]; exact nBlk_nWin
            have n3 : ¬ x.nm = nTsz := by rw [c1]; exact nBT
            rw [decide_eq_true c1, if_pos c1, if_pos c1]
            simp only [Bool.true_or, Bool.not_true, Bool.false_or, decide_eq_true_eq]
            rw [agd_snoc_eq c1 (by rw [← c1]; exact h2'), agd_snoc_ne n2]
            by_cases hv : 8 ≤ x.v ∧ x.v ≤ wantV asked x.nm
            · rw [if_neg (by omega), if_neg (by omega), if_pos hv]
            · rw [if_neg hv]
              by_cases hz : x.v < 0
              · rw [if_pos hz]
              · rw [if_neg hz, if_pos (by omega)]
          · rw [if_neg c1, if_neg c1, decide_eq_false c1]
            by_cases c2 : x.nm = nWin
            · rw [decide_eq_true c2, if_pos c2, if_pos c2]
              simp only [Bool.true_or, Bool.not_true, Bool.false_or, decide_eq_true_eq]
              rw [agd_snoc_eq c2 (by rw [← c2]; exact h2'), agd_snoc_ne c1]
              by_cases hv : 1 ≤ x.v ∧ x.v ≤ wantV asked x.nm
              · rw [if_neg (by omega), if_neg (by omega), if_pos hv]
              · rw [if_neg hv]
                by_cases hz : x.v < 0
                · rw [if_pos hz]
                · rw [if_neg hz, if_pos (by omega)]
            · rw [if_neg c2, if_neg c2, decide_eq_false c2]
              by_cases c3 : x.nm = nTsz
              · rw [decide_eq_true c3, if_pos c3, agd_snoc_ne c1, agd_snoc_ne c2]
                simp only [Bool.or_true, Bool.not_true, Bool.false_or, decide_eq_true_eq]
                by_cases hz : x.v < 0
                · rw [if_pos hz, if_neg (by omega)]
                · rw [if_neg hz, if_pos (by omega)]
              · rw [decide_eq_false c3, if_neg c3]
                simp
      · rw [if_pos (by simp [h1]), if_neg (by simp [h1])]
    · have ha' : allA asked answer k = false := by simpa using ha
      rw [ha']
      simp
/-- what an answer comes to. -/
def accP (asked answer : List Ch) (most : Int) : Int × Int × Int :=
  if allA asked answer answer.length = true then (if wantB answer nTsz = true ∧ most < wantV answer nTsz then (0, 0, 2) else (agd answer nBlk 512, agd answer nWin 1, 0)) else (0, 0, 172)
theorem accF_eq (asked answer : List Ch) (most : Int) : accF asked answer most = accP asked answer most := by
  unfold accF accP
  rw [accS_eq asked answer answer.length (Nat.le_refl _), List.take_length]
  by_cases h : allA asked answer answer.length = true
  · rw [if_pos h, if_pos h]
  · rw [if_neg h, if_neg h]
theorem allA_mono (asked answer : List Ch) : ∀ (k d : Nat), allA asked answer k = false → allA asked answer (k + d) = false
  | k, 0, h => h
  | k, d + 1, h => by rw [← Nat.add_assoc, allA_succ, allA_mono asked answer k d h]; rfl
/-! ### what is agreed on is accepted -/
theorem fstL_first (l : List Ch) : ∀ k, k ≤ l.length → ∀ x ∈ fstL l k, wantF (l.take k) x.nm = some x
  | 0, _, x, h => by simp [fstL] at h
  | k + 1, hk, x, h => by
    have ih := fstL_first l k (by omega)
    rw [take_snoc' (by omega), want_snoc]
    rw [fstL] at h
    split at h
    · rename_i hc
      rcases List.mem_append.1 h with h | h
      · rw [ih x h]; rfl
      · simp only [List.mem_singleton] at h
        have h2 := hc.2
        rw [fstL_in l _ hc.1 k (by omega), ← wantB_in] at h2
        unfold wantB at h2
        rw [← h] at h2 ⊢
        rw [if_pos rfl]
        cases hw : wantF (l.take k) x.nm with
        | none => rfl
        | some y => rw [hw] at h2; cases h2
    · rw [ih x h]; rfl
theorem fstL_nodup (l : List Ch) : ∀ k, (fstL l k).Pairwise fun a b => a.nm ≠ b.nm
  | 0 => by simp [fstL]
  | k + 1 => by
    rw [fstL]
    split
    · rename_i hc
      rw [List.pairwise_append]
      refine ⟨fstL_nodup l k, by simp, fun a ha b hb => ?_⟩
      simp only [List.mem_singleton] at hb
      subst hb
      have h2 := hc.2
      unfold inB at h2
      rw [List.any_eq_false] at h2
      simpa using h2 a ha
    · exact fstL_nodup l k
theorem ansL_nodup (b w s : Int) (l : List Ch) (h : l.Pairwise fun a b => a.nm ≠ b.nm) : (ansL b w s l).Pairwise fun a b => a.nm ≠ b.nm := by
  unfold ansL
  rw [List.pairwise_filterMap]
  refine h.imp fun {x y} hxy a ha c hc => ?_
  rw [(ansC_nm ha).1, (ansC_nm hc).1]
  exact hxy
theorem nodup_in {l : List Ch} (h : l.Pairwise fun a b => a.nm ≠ b.nm) {k : Nat} (hk : k < l.length) : inB (l.getD k Ch.nil).nm (l.take k) = false := by
  unfold inB
  rw [List.any_eq_false]
  intro y hy
  obtain ⟨j, hj, e⟩ := List.mem_take_iff_getElem.1 hy
  have := List.pairwise_iff_getElem.1 h j k (by omega) hk (by omega)
  rw [List.getD_eq_getElem?_getD, List.getElem?_eq_getElem hk]
  simp only [Option.getD_some, decide_eq_true_eq]
  rw [← e]
  exact this
theorem ans_fact {asked : List Ch} {b w s : Int} {y : Ch} (h : y ∈ ansL b w s (fstL asked asked.length)) : wantB asked y.nm = true ∧ mayA y (wantV asked y.nm) = true ∧ knownB y.nm = true ∧ 0 ≤ y.v ∧ y.v ≤ 2147483647 ∧ (y.nm = nBlk → y.v ≤ 65464) ∧ (y.nm = nWin → 1 ≤ y.v) ∧ (y.nm = nTsz → y.v = wi s 0 2147483647) := by
  obtain ⟨x, hx, e⟩ := List.mem_filterMap.1 h
  have hw := fstL_first asked asked.length (Nat.le_refl _) x hx
  rw [List.take_length] at hw
  obtain ⟨e1, e2⟩ := ansC_nm e
  have hB : wantB asked y.nm = true := by unfold wantB; rw [e1, hw]; rfl
  have hV : wantV asked y.nm = x.v := by unfold wantV; rw [e1, hw]
  rw [hV]
  refine ⟨hB, ?_⟩
  rw [e1]
  unfold ansC at e
  unfold mayA
  rw [e1]
  by_cases c1 : x.nm = nBlk
  · have n2 : ¬ x.nm = nWin := by rw [c1]; exact nBlk_nWin
    have n3 : ¬ x.nm = nTsz := by rw [c1]; exact nBT
    split at e
    · rename_i hc
      simp only [Option.some.injEq] at e
      subst e
      simp only [if_pos c1, decide_eq_true_eq]
      unfold wi
      exact ⟨by omega, e2, by omega, by omega, fun _ => by omega, fun h => absurd h n2, fun h => absurd h n3⟩
    · simp [n2, n3] at e
  · rw [if_neg (show ¬ (x.nm = nBlk ∧ 8 ≤ x.v) from fun h => c1 h.1)] at e
    rw [if_neg c1]
    by_cases c2 : x.nm = nWin
    · have n3 : ¬ x.nm = nTsz := by rw [c2]; exact nWT
      split at e
      · rename_i hc
        simp only [Option.some.injEq] at e
        subst e
        simp only [if_pos c2, decide_eq_true_eq]
        unfold wi
        exact ⟨by omega, e2, by omega, by omega, fun h => absurd h c1, fun _ => by omega, fun h => absurd h n3⟩
      · simp [n3] at e
    · rw [if_neg (show ¬ (x.nm = nWin ∧ 1 ≤ x.v) from fun h => c2 h.1)] at e
      rw [if_neg c2]
      by_cases c3 : x.nm = nTsz
      · rw [if_pos c3] at e
        simp only [Option.some.injEq] at e
        subst e
        simp only [if_pos c3, decide_eq_true_eq]
        unfold wi
        exact ⟨by omega, e2, by omega, by omega, fun h => absurd h c1, fun h => absurd h c2, by intro _; first | rfl | trivial⟩
      · rw [if_neg c3] at e; cases e
theorem getD_mem' {l : List Ch} {k : Nat} (hk : k < l.length) : l.getD k Ch.nil ∈ l := by
  rw [List.getD_eq_getElem?_getD, List.getElem?_eq_getElem hk]
  exact List.getElem_mem hk
theorem agree_ok (asked : List Ch) (b w s : Int) : chOk (ansL b w s (fstL asked asked.length)) (ansL b w s (fstL asked asked.length)).length = true := by
  refine chOk_of fun k hk => ?_
  have h := ans_fact (getD_mem' hk)
  exact ⟨h.2.2.1, nodup_in (ansL_nodup b w s _ (fstL_nodup asked _)) hk, h.2.2.2.1, h.2.2.2.2.1⟩
theorem want_mem {l : List Ch} {nm : ByteArray} (h : wantB l nm = true) : ∃ x ∈ l, x.nm = nm ∧ wantV l nm = x.v := by
  unfold wantB at h
  cases hw : wantF l nm with
  | none => rw [hw] at h; cases h
  | some x =>
    refine ⟨x, List.mem_of_find?_eq_some hw, ?_, by unfold wantV; rw [hw]⟩
    have := List.find?_some hw
    simpa using this
/-- what is agreed on is accepted. -/
theorem agree_acc (asked : List Ch) (b w s most : Int) (hs : 0 ≤ s) (hm : s ≤ most) : accP asked (ansL b w s (fstL asked asked.length)) most = ((agT b w s (fstL asked asked.length)).1, (agT b w s (fstL asked asked.length)).2.1, 0) := by
  unfold accP
  rw [if_pos, if_neg]
  · rfl
  · rintro ⟨h1, h2⟩
    obtain ⟨x, hx, e1, e2⟩ := want_mem h1
    have := (ans_fact hx).2.2.2.2.2.2.2 e1
    rw [e2, this] at h2
    unfold wi at h2
    omega
  · unfold allA
    rw [List.all_eq_true]
    intro k hk
    have hk' := List.mem_range.1 hk
    have h := ans_fact (getD_mem' hk')
    unfold okA
    rw [h.1, nodup_in (ansL_nodup b w s _ (fstL_nodup asked _)) hk', h.2.1]
    rfl
theorem agree_bd (asked : List Ch) (b w s : Int) : (agT b w s (fstL asked asked.length)).1 ≤ 65464 ∧ 1 ≤ (agT b w s (fstL asked asked.length)).2.1 := by
  unfold agT agd
  constructor
  · simp only
    split
    · rename_i h
      obtain ⟨x, hx, e1, e2⟩ := want_mem h
      rw [e2]
      exact (ans_fact hx).2.2.2.2.2.1 e1
    · omega
  · simp only
    split
    · rename_i h
      obtain ⟨x, hx, e1, e2⟩ := want_mem h
      rw [e2]
      exact (ans_fact hx).2.2.2.2.2.2.1 e1
    · omega
end Go.Proofs.YtdcppiknomoigaaDoor
