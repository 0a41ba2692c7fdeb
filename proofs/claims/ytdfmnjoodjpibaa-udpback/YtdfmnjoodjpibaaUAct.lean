/-
  The small functions of udp: isPort, word, address, wordAt, joined, sumOf.
-/
import Derived.Test.YtdfmnjoodjpibaaBNum
import Derived.Test.YtdfmnjoodjpibaaBGet
import Derived.Test.YtdfmnjoodjpibaaBSum
import Derived.Test.YtdfmnjoodjpibaaBAns
namespace Go.Proofs.Ytdfmnjoodjpibaa
open Go.RowKit
set_option linter.all false

def portB (n : Int) : Bool := decide (0 ≤ n) && decide (n ≤ 65535)
set_option maxHeartbeats 400000 in
theorem isPort_any (n : Int) (w : World) :
    Calls Try.prog 19 #[.int .i64 n] w fun e w' => e = .returned (.bool (portB n)) ∧ w' = w := by
  unfold portB
  by_cases h1 : 0 ≤ n
  · by_cases h2 : n ≤ 65535
    · rw [decide_eq_true h1, decide_eq_true h2]
      go_enter Try.func19, Try.ntmps19
      go_wp2
      go_ret
      exact ⟨rfl, rfl⟩
    · rw [decide_eq_true h1, decide_eq_false h2]
      go_enter Try.func19, Try.ntmps19
      go_wp2
      go_ret
      exact ⟨rfl, rfl⟩
  · rw [decide_eq_false h1]
    go_enter Try.func19, Try.ntmps19
    go_wp2
    go_ret
    exact ⟨rfl, rfl⟩

set_option maxHeartbeats 400000 in
theorem word_any (n : Int) (w : World) (h3 : 0 ≤ n) (h4 : n ≤ 9223372036854775807) :
    Calls Try.prog 21 #[.int .i64 n] w fun e w' => e = .returned (.slice (some ⟨w.heap.size, 0, none⟩) 2 2) ∧ w' = w.alloc (.cells (u8s (op2 n)).toArray 5) := by
  have HP : Hid (∀ w, Calls Try.prog 27 #[.int .u64 n, .int .i64 2] w fun e w' => e = .returned (.slice (some ⟨w.heap.size, 0, none⟩) 2 2) ∧ w' = w.alloc (.cells (u8s (op2 n)).toArray 5)) := fun w => put2_any n w h3 (by omega)
  have hk : IntKind.u64.wrap n = n := by simp only [IntKind.wrap_u64]; omega
  clear h3 h4
  generalize op2 n = X at *
  go_enter Try.func21, Try.ntmps21
  go_wp2_with fail
  refine (HP.out _).mono ?_
  rintro e w1 ⟨rfl, hw⟩
  subst w1
  go_wp2
  go_ret
  exact ⟨rfl, rfl⟩
set_option maxHeartbeats 400000 in
theorem address_any (n : Int) (w : World) (h3 : 0 ≤ n) (h4 : n ≤ 4294967295) :
    Calls Try.prog 29 #[.int .u32 n] w fun e w' => e = .returned (.slice (some ⟨w.heap.size, 0, none⟩) 4 4) ∧ w' = w.alloc (.cells (u8s (ip4 n)).toArray 5) := by
  have HP : Hid (∀ w, Calls Try.prog 27 #[.int .u64 n, .int .i64 4] w fun e w' => e = .returned (.slice (some ⟨w.heap.size, 0, none⟩) 4 4) ∧ w' = w.alloc (.cells (u8s (ip4 n)).toArray 5)) := fun w => put4_any n w h3 (by omega)
  have hk : IntKind.u64.wrap n = n := by simp only [IntKind.wrap_u64]; omega
  clear h3 h4
  generalize ip4 n = X at *
  go_enter Try.func29, Try.ntmps29
  go_wp2_with fail
  refine (HP.out _).mono ?_
  rintro e w1 ⟨rfl, hw⟩
  subst w1
  go_wp2
  go_ret
  exact ⟨rfl, rfl⟩

/-- the number at a place. -/
def numAt (zs : List Int) (a : Nat) : Int := zs.getD a 0 * 256 + zs.getD (a + 1) 0
theorem numAt_bd {zs : List Int} (h : ∀ z, z ∈ zs → 0 ≤ z ∧ z ≤ 255) (a : Nat) : 0 ≤ numAt zs a ∧ numAt zs a ≤ 65535 := by
  have h1 := getD_mem_bd h a
  have h2 := getD_mem_bd h (a + 1)
  unfold numAt
  omega
set_option maxHeartbeats 400000 in
theorem wordAt_any (pt : Part) (a : Nat) (w : World) (hok : pt.ok w) (hl : pt.zs.length ≤ 281474976710656) (ha : a + 2 ≤ pt.zs.length) :
    Calls Try.prog 24 #[pt.val, .int .i64 a] w fun e w' => e = .returned (.int .i64 (numAt pt.zs a)) ∧ w' = w := by
  have HG : Hid (∀ w', Below w.heap.size w w' → Calls Try.prog 30 #[pt.val, .int .i64 a, .int .i64 2] w' fun e w'' => e = .returned (.tuple #[.int .u64 (numAt pt.zs a), .int .i64 0]) ∧ w'' = w') := fun w' hb => by
    have h := get_part pt a 2 w' (Part.ok_below hok hb) hl
    have e : getAns pt.zs a 2 = (numAt pt.zs a, 0) := by
      unfold getAns
      rw [if_neg (by omega), if_neg (by omega)]
      simp [numAt, getTo, show (2 : Int).toNat = 2 from rfl]
    rw [e] at h
    exact h
  have hb := numAt_bd hok.1 a
  have hw : IntKind.i64.wrap (numAt pt.zs a) = numAt pt.zs a := by
    simp only [IntKind.wrap_i64]
    omega
  clear hok hb
  generalize numAt pt.zs a = N at *
  unfold Part.val at *
  generalize pt.zs.length = l at *
  go_enter Try.func24, Try.ntmps24
  go_wp2_with (first | (go_at_call 30; refine (HG.out _ (Below.refl _ _)).mono ?_; rintro e w1 ⟨rfl, hw1⟩; subst w1) | fail)
  go_ret
  exact ⟨rfl, rfl⟩

set_option maxRecDepth 20000 in
set_option maxHeartbeats 1000000 in
theorem joined_any (b off cap : Nat) (ps : List Part) (w : World) (hp : ∀ i, i < ps.length → w.cell? ⟨b, off + i, none⟩ = some (ps.getD i Part.nil).val)
    (hok : ∀ p, p ∈ ps → p.ok w) (hl : (flat ps).length ≤ 140737488355328) (hn : ps.length ≤ 1000) :
    Calls Try.prog 20 #[.slice (some ⟨b, off, none⟩) ps.length cap] w fun e w' => ∃ a n c, e = .returned (.slice a n c) ∧ Ans w w' (flat ps) a n c := by
  obtain ⟨N, hN⟩ : ∃ N, N = ps.length := ⟨_, rfl⟩
  have HN : Hid (N = ps.length) := hN
  have HP : Hid (∀ i, i < ps.length → w.cell? ⟨b, off + i, none⟩ = some (ps.getD i Part.nil).val) := hp
  have HO : Hid (∀ p, p ∈ ps → p.ok w) := hok
  have HL := hid hl
  rw [← hN] at hn ⊢
  clear hN hp hok hl
  go_enter Try.func20, Try.ntmps20
  go_wp2
  go_loopw [3, 8] (fun v i wr => ∃ (k : Nat) (a : Option Addr) (n c : Nat), k ≤ N ∧ i = .int .i64 k ∧ v = .slice a n c ∧ Hid (OwnB w.heap.size (flat (ps.take k)) a n c wr ∧ Below w.heap.size w wr)) (fun _ i _ => N - (intOf i).toNat)
  case atStart => exact ⟨0, none, 0, 0, Nat.zero_le _, rfl, rfl, OwnB.nil w, Below.refl _ _⟩
  case round =>
    obtain ⟨k, a, n, c, hk, rfl, rfl, HR⟩ := hrel
    by_cases hlt : k < N
    · have hkp : k < ps.length := by rw [← HN.out]; exact hlt
      obtain ⟨p, hp0⟩ : ∃ p, p = ps.getD k Part.nil := ⟨_, rfl⟩
      have hc0 := HP.out k hkp
      have hpk : p ∈ ps := by rw [hp0, List.getD_eq_getElem?_getD, List.getElem?_eq_getElem hkp]; exact List.getElem_mem hkp
      have hft := flat_take ps k hkp
      have hfl := flat_len ps k hkp
      rw [← hp0] at hc0 hft hfl
      have hcell : wr.cell? ⟨b, off + k, none⟩ = some (.slice p.a p.zs.length p.c) := by
        rw [HR.out.2.cell (p := ⟨b, off + k, none⟩) (World.block_lt_of_cell? w _ hc0), hc0]; rfl
      obtain ⟨a', n', c', w', h1, h2, h3⟩ := HR.out.1.app p (Part.ok_below (HO.out p hpk) HR.out.2) (by have := HL.out; omega) 24
      rw [← hft] at h2
      have HRUN := hid h1
      have HE : Hid (OwnB w.heap.size (flat (ps.take (k + 1))) a' n' c' w' ∧ Below w.heap.size w w') := ⟨h2, HR.out.2.trans h3⟩
      clear h1 h2 h3 hft hfl hc0 hp0 hpk hkp HR
      unfold Part.val at HRUN
      generalize p.zs.length = pl at *
      generalize p.a = pa at *
      generalize p.c = pc at *
      clear HO HP
      go_wp2_with (first | (at_builtin; refine wpList_append_run _ rfl _ _ 24 24 rfl _ _ rfl rfl HRUN.out ?_) | fail)
      go_roundw
      case rel => exact ⟨k + 1, a', n', c', by omega, by go_num, rfl, HE⟩
      case measure => simp [intOf]; omega
    · have hkn : ps.take k = ps := List.take_of_length_le (by rw [← HN.out]; omega)
      rw [hkn] at HR
      clear hkn HO HP
      go_wp2
      go_ret
      exact ⟨_, _, _, rfl, HR.out.1.1, HR.out.1.2.1, HR.out.2⟩
end Go.Proofs.Ytdfmnjoodjpibaa
