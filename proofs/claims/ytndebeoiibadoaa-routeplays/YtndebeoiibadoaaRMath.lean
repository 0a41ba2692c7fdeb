/-
  Route: what masks do to addresses, and where the ways lead.
-/
import Derived.Test.YtndebeoiibadoaaRAct
namespace Go.Proofs.Ytndebeoiibadoaa
open Go.RowKit
set_option linter.all false

theorem inv_bit (m i : Nat) (h : m < 4294967296) : (4294967295 - m).testBit i = (decide (i < 32) && !m.testBit i) := by
  have e : 4294967295 - m = 2 ^ 32 - (m + 1) := by omega
  rw [e, Nat.testBit_two_pow_sub_succ (by omega)]
theorem nat_all (a m : Nat) (h : m < 4294967296) : (a ||| (4294967295 - m)) &&& m = a &&& m := by
  apply Nat.eq_of_testBit_eq
  intro i
  simp only [Nat.testBit_and, Nat.testBit_or, inv_bit m i h]
  cases a.testBit i <;> cases m.testBit i <;> simp
theorem nat_bare (x a m : Nat) (h : m < 4294967296) (hx : x < 4294967296) (e : x &&& m = a &&& m) : x &&& (4294967295 - m) = 0 ↔ x = a &&& m := by
  constructor
  · intro z
    rw [← e]
    apply Nat.eq_of_testBit_eq
    intro i
    have q : (x &&& (4294967295 - m)).testBit i = false := by rw [z]; simp
    simp only [Nat.testBit_and, inv_bit m i h] at q ⊢
    by_cases hi : i < 32
    · revert q
      simp only [hi, decide_true, Bool.true_and]
      cases x.testBit i <;> cases m.testBit i <;> simp
    · rw [Nat.testBit_lt_two_pow (Nat.lt_of_lt_of_le (show x < 2 ^ 32 by omega) (Nat.pow_le_pow_right (by omega) (by omega)))]
      simp
  · intro z
    apply Nat.eq_of_testBit_eq
    intro i
    rw [z]
    simp only [Nat.testBit_and, inv_bit m i h, Nat.zero_testBit]
    cases a.testBit i <;> cases m.testBit i <;> simp
theorem bcV_bd (ip m : Int) (hi : U32 ip) (hm : U32 m) : U32 (bcV ip m) ∧ bcV ip m = ((ip.toNat ||| (4294967295 - m.toNat) : Nat) : Int) := by
  unfold U32 at hi hm
  have e : bcV ip m = ((ip.toNat ||| (4294967295 - m.toNat) : Nat) : Int) := by
    unfold bcV
    rw [not_u32 m hm.1 hm.2, u32_or _ _ hi.1 (by omega) (by omega) (by omega)]
    rw [show (4294967295 - m).toNat = 4294967295 - m.toNat from by omega]
  have hlt : ip.toNat ||| (4294967295 - m.toNat) < 2 ^ 32 := Nat.or_lt_two_pow (by omega) (by omega)
  exact ⟨by rw [e]; exact ⟨by omega, by omega⟩, e⟩
theorem all_in (ip m : Int) (hi : U32 ip) (hm : U32 m) : bits BinOp.and IntKind.u32 (bcV ip m) m = bits BinOp.and IntKind.u32 ip m := by
  obtain ⟨hb, e⟩ := bcV_bd ip m hi hm
  unfold U32 at hi hm hb
  rw [u32_and _ _ hb.1 (by omega) hm.1 (by omega), u32_and _ _ hi.1 (by omega) hm.1 (by omega), e, Int.toNat_natCast, nat_all _ _ (by omega)]
theorem bare_in (x ip m : Int) (hx : U32 x) (hi : U32 ip) (hm : U32 m) (h : bits BinOp.and IntKind.u32 x m = bits BinOp.and IntKind.u32 ip m) : (bits BinOp.andNot IntKind.u32 x m == 0) = (x == bits BinOp.and IntKind.u32 ip m) := by
  unfold U32 at hx hi hm
  rw [u32_and _ _ hx.1 (by omega) hm.1 (by omega), u32_and _ _ hi.1 (by omega) hm.1 (by omega)] at h
  have h' : x.toNat &&& m.toNat = ip.toNat &&& m.toNat := by exact_mod_cast h
  have k := nat_bare x.toNat ip.toNat m.toNat (by omega) (by omega) h'
  rw [u32_andNot _ _ hx.1 (by omega) hm.1 (by omega), u32_and _ _ hi.1 (by omega) hm.1 (by omega), Bool.eq_iff_iff]
  simp only [beq_iff_eq]
  constructor
  · intro z
    have := k.1 (by exact_mod_cast z)
    omega
  · intro z
    have := k.2 (by omega)
    exact_mod_cast this

theorem host_pos {x : Int} (h : hostB x = true) : 16777216 ≤ x := by
  unfold hostB at h
  rw [decide_eq_true_eq] at h
  omega
/-- what a place that may stand in a table is. -/
structure Good (p : Pl) : Prop where
  host : hostB p.ip = true
  m0 : ¬ p.m = 0
  mask : (onesV p.m != -1) = true
  own : hostN p.ip p.m p.ip = true
  way : p.r = 0 ∨ hostN p.ip p.m p.r = true
  ne : ¬ p.r = p.ip
theorem good_of {p : Pl} (h : faultV p = 0) : Good p := by
  unfold faultV at h
  by_cases h1 : hostB p.ip = false
  · rw [if_pos h1] at h; simp at h
  rw [if_neg h1] at h
  by_cases h2 : (p.m == 0) = true
  · rw [if_pos h2] at h; simp at h
  rw [if_neg h2] at h
  by_cases h3 : (onesV p.m != -1) = false
  · rw [if_pos h3] at h; simp at h
  rw [if_neg h3] at h
  by_cases h4 : hostN p.ip p.m p.ip = false
  · rw [if_pos h4] at h; simp at h
  rw [if_neg h4] at h
  by_cases h5 : (p.r != 0) = true ∧ hostN p.ip p.m p.r = false
  · rw [if_pos h5] at h; simp at h
  rw [if_neg h5] at h
  by_cases h6 : (p.r == p.ip) = true
  · rw [if_pos h6] at h; simp at h
  refine ⟨by simpa using h1, by simpa using h2, by simpa using h3, by simpa using h4, ?_, by simpa using h6⟩
  by_cases hr : p.r = 0
  · exact Or.inl hr
  · right
    have : (p.r != 0) = true := by simpa using hr
    have h7 : ¬ hostN p.ip p.m p.r = false := fun e => h5 ⟨this, e⟩
    simpa using h7
theorem Good.some {p : Pl} (h : Good p) : noneB p = false := by
  unfold noneB
  rw [decide_eq_false_iff_not]
  intro e
  have := host_pos h.host
  rw [e] at this
  simp [Pl.zero] at this
theorem none_zero : noneB Pl.zero = true := rfl
theorem takes_zero (d : Int) : takesB Pl.zero d = (d == 4294967295) := by
  unfold takesB
  rw [none_zero]
  simp
theorem hop_zero (d : Int) : hopV Pl.zero d = if (d == 4294967295) = true then (1, d) else (0, 0) := by
  unfold hopV
  rw [none_zero]
  simp
theorem takes_own {p : Pl} (h : Good p) : takesB p p.ip = true := by
  unfold takesB
  rw [h.some]
  simp
theorem hostN_in {ip m x : Int} (h : hostN ip m x = true) : inB ip m x = true := by
  unfold hostN at h
  simp only [Bool.and_eq_true] at h
  exact h.1.1.2
/-- where the ways lead. -/
theorem hop_cases {p : Pl} (hp : p.ok) (h : Good p) (d : Int) :
    hopV p d = (0, 0) ∨
    (hopV p d = (1, d) ∧ takesB p d = true ∧ ((d == 4294967295) = true ∨ (d == 4294967295) = false ∧ (bits BinOp.and IntKind.u32 d p.m == bits BinOp.and IntKind.u32 p.ip p.m) = true)) ∨
    (hopV p d = (2, d) ∧ (d != p.ip) = true ∧ (bits BinOp.and IntKind.u32 d p.m == bits BinOp.and IntKind.u32 p.ip p.m) = true ∧ takesB p d = false) ∨
    (hopV p d = (3, p.r) ∧ (p.r != 0) = true ∧ (p.r != p.ip) = true ∧ (bits BinOp.and IntKind.u32 p.r p.m == bits BinOp.and IntKind.u32 p.ip p.m) = true ∧ (bits BinOp.and IntKind.u32 d p.m != bits BinOp.and IntKind.u32 p.ip p.m) = true ∧ takesB p d = false) := by
  have hn := h.some
  unfold hopV takesB
  rw [hn]
  by_cases h1 : (d == 4294967295) = true
  · right; left
    rw [if_pos h1, h1]
    exact ⟨rfl, rfl, Or.inl rfl⟩
  rw [if_neg h1]
  have h1' : (d == 4294967295) = false := by simpa using h1
  by_cases h2 : hostB d = false
  · left; rw [if_pos h2]
  rw [if_neg h2, if_neg (by simp)]
  by_cases h3 : (d == p.ip) = true
  · left; rw [if_pos h3]
  rw [if_neg h3]
  have h3' : (d == p.ip) = false := by simpa using h3
  have h3n : (d != p.ip) = true := by simp only [bne, h3', Bool.not_false]
  by_cases h4 : allB p.ip p.m d = true
  · right; left
    rw [if_pos h4]
    refine ⟨rfl, by rw [h4]; simp, Or.inr ⟨h1', ?_⟩⟩
    unfold allB at h4
    simp only [Bool.and_eq_true, beq_iff_eq] at h4
    rw [h4.2, all_in _ _ hp.1 hp.2.1]
    simp
  rw [if_neg h4]
  have h4' : allB p.ip p.m d = false := by simpa using h4
  by_cases h5 : inB p.ip p.m d = true
  · right; right; left
    rw [if_pos h5]
    exact ⟨rfl, h3n, h5, by rw [h1', h3', h4']; rfl⟩
  rw [if_neg h5]
  by_cases h6 : (p.r != 0) = true
  · right; right; right
    rw [if_pos h6]
    have hr0 : ¬ p.r = 0 := by simpa using h6
    refine ⟨rfl, h6, by simpa using h.ne, hostN_in (h.way.resolve_left hr0), ?_, by rw [h1', h3', h4']; rfl⟩
    have h5' : inB p.ip p.m d = false := by simpa using h5
    unfold inB at h5'
    simp only [bne, h5', Bool.not_false]
  · left; rw [if_neg h6]
end Go.Proofs.Ytndebeoiibadoaa
