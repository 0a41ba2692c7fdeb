/-
  Port: the statement's looked.
-/
import Derived.Test.YtkgjlfbnjccckaaPRowO
namespace Go.Proofs.Ytkgjlfbnjccckaa
open Go.RowKit
set_option linter.all false

theorem drewN_add (w : World) (a b : Nat) : (w.drewN a).drewN b = w.drewN (a + b) := by simp [World.drewN, Nat.add_assoc]
def ins (x : Pa) : Bool := decide (100 ≤ x.n) && decide (x.n < 103)
def cnt (l : List Pa) : Nat := (l.filter ins).length
theorem cnt_all {M D : Int} {S : List Pa} (h : AOk M D S) {X : Nat → Pa} (ha : ∀ i : Nat, i < 3 → alook S (100 + i) = some (X i)) : cnt S = 3 := by
  have hr : ((S.filter ins).map (·.n)).Pairwise (· < ·) := List.pairwise_map.2 (List.Pairwise.filter _ h.rise)
  have hn : ((S.filter ins).map (·.n)).Nodup := hr.imp fun h e => by omega
  have hp : ((S.filter ins).map (·.n)).Perm [100, 101, 102] := by
    rw [List.perm_ext_iff_of_nodup hn (by decide)]
    intro a
    constructor
    · intro hm
      obtain ⟨x, hx, rfl⟩ := List.mem_map.1 hm
      have := (List.mem_filter.1 hx).2
      simp only [ins, Bool.and_eq_true, decide_eq_true_eq] at this
      simp only [List.mem_cons, List.mem_nil_iff, or_false]
      omega
    · intro hm
      have key : ∀ i : Nat, i < 3 → (100 + (i : Int)) ∈ (S.filter ins).map (·.n) := fun i hi => by
        obtain ⟨h1, h2⟩ := alook_mem (ha i hi)
        refine List.mem_map.2 ⟨X i, List.mem_filter.2 ⟨h1, ?_⟩, h2⟩
        simp only [ins, Bool.and_eq_true, decide_eq_true_eq]
        omega
      simp only [List.mem_cons, List.mem_nil_iff, or_false] at hm
      rcases hm with rfl | rfl | rfl
      · exact key 0 (by omega)
      · exact key 1 (by omega)
      · exact key 2 (by omega)
  have := hp.length_eq
  simpa [cnt] using this
theorem cnt_succ {S : List Pa} {k : Nat} {y : Pa} (hy : S[k]? = some y) : cnt (S.take (k + 1)) = cnt (S.take k) + (if ins y then 1 else 0) := by
  unfold cnt
  rw [List.take_add_one, hy, List.filter_append, List.length_append]
  by_cases h : ins y <;> simp [h]
theorem ins_in {y : Pa} (h1 : 100 ≤ y.n) (h2 : y.n < 103) : ins y = true := by simp [ins, h1, h2]
theorem ins_lo {y : Pa} (h1 : y.n < 100) : ins y = false := by simp [ins]; omega
theorem ins_hi {y : Pa} (h1 : 103 ≤ y.n) : ins y = false := by simp [ins]; omega
/-- what the statement keeps beside the table, as looked reads it. -/
structure LkdI (w : World) (gw gd : Nat) (V : Nat → Value) (X : Nat → Pa) : Prop where
  vw : ∀ i, i < 3 → w.cell? ⟨gw, i, none⟩ = some (V i)
  vd : ∀ i, i < 3 → w.cell? ⟨gd, i, none⟩ = some (.int .i64 (X i).dr)
  fm : ∀ i, i < 3 → ∃ a c, V i = .slice a (X i).ds.length c
set_option maxRecDepth 40000 in
set_option maxHeartbeats 4000000 in
theorem looked_any (w : World) (a : Option Addr) (cp : Nat) (M D : Int) (S : List Pa) (gw gd : Nat) (V : Nat → Value) (X : Nat → Pa) (hS : AOk M D S) (h8 : S.length ≤ 8) (hX : ∀ i : Nat, i < 3 → alook S (100 + i) = some (X i))
    (h1 : RowS w 72 3 (.slice a S.length cp) S.length (pst S)) (hI : LkdI w gw gd V X) :
    Calls Try.prog 22 #[.slice a S.length cp, .slice (some ⟨gw, 0, none⟩) 3 3, .slice (some ⟨gd, 0, none⟩) 3 3] w fun e w' => e = .returned (.bool true) ∧ ∃ k, w' = w.drewN k := by
  have H1 := hid h1
  have HI := hid hI
  have HS := hid hS
  have HX := hid hX
  have HC := hid (cnt_all hS hX)
  obtain ⟨N, hN⟩ : ∃ n, n = S.length := ⟨_, rfl⟩
  rw [← hN] at h8 ⊢
  have HN := hid hN
  clear h1 hI hS hX hN
  go_enter Try.func22, Try.ntmps22
  go_wp2_with fail
  go_loopw [7, 8] (fun vn v wr => ∃ (k q n : Nat), vn = .int .i64 n ∧ v = .int .i64 k ∧ k ≤ N ∧ n ≤ k ∧ Hid (n = cnt (S.take k)) ∧ wr = w.drewN q) (fun _ v _ => N - (intOf3 v).toNat)
  case atStart => exact ⟨0, 0, 0, rfl, rfl, Nat.zero_le _, Nat.zero_le _, rfl, rfl⟩
  case round =>
    obtain ⟨k, q, n, rfl, rfl, hk, hnk, HCN, hwr⟩ := hrel
    have HW := hid hwr
    clear hwr
    have e9 : IntKind.i64.wrap ((k : Int) + 1) = (k : Int) + 1 := by simp only [IntKind.wrap_i64]; omega
    have e8 : IntKind.i64.wrap ((n : Int) + 1) = (n : Int) + 1 := by simp only [IntKind.wrap_i64]; omega
    by_cases hkl : k < N
    · obtain ⟨y, hy⟩ : ∃ p, S[k]? = some p := ⟨_, List.getElem?_eq_getElem (by have := HN.out; omega)⟩
      have hyS : y ∈ S := List.mem_of_getElem? hy
      have hbel : Below w.heap.size w wr := by rw [HW.out]; exact below_drewN w q
      have hrow := H1.out.below hbel
      obtain ⟨g, hga, hc⟩ := ps_ent (by have := HN.out; exact hrow) hy
      subst hga
      have hnum := HS.out.nums y hyS
      have n1 := hnum.1
      have n2 := hnum.2
      have c0 : wr.cell? ⟨g, k * 3, none⟩ = some (.int .i64 y.n) := hc 0 (by omega)
      have c1 : wr.cell? ⟨g, k * 3 + 1, none⟩ = some (.int .i64 y.ds.length) := hc 1 (by omega)
      have c2 : wr.cell? ⟨g, k * 3 + 2, none⟩ = some (.int .i64 y.dr) := hc 2 (by omega)
      have e1 : IntKind.i64.wrap (y.n - 100) = y.n - 100 := by simp only [IntKind.wrap_i64]; omega
      have hk0 : (0 : Int) ≤ (k : Int) := by omega
      have hkm : (k : Int) < (N : Int) := by omega
      have HSU := hid (cnt_succ hy)
      -- the one ahead
      have HPV : Hid (k = 0 ∨ ∃ (k' : Nat) (zn : Int), k = k' + 1 ∧ wr.cell? ⟨g, k' * 3, none⟩ = some (.int .i64 zn) ∧ zn < y.n) := by
        rcases Nat.eq_zero_or_pos k with h0 | h0
        · exact Or.inl h0
        · obtain ⟨z, hz⟩ : ∃ p, S[k - 1]? = some p := ⟨_, List.getElem?_eq_getElem (by have := HN.out; omega)⟩
          obtain ⟨g', hg', hcz⟩ := ps_ent hrow hz
          simp only [Option.some.injEq, Addr.mk.injEq, and_true] at hg'
          subst hg'
          refine Or.inr ⟨k - 1, z.n, by omega, hcz 0 (by omega), ?_⟩
          obtain ⟨i1, j1⟩ := List.getElem?_eq_some_iff.1 hy
          obtain ⟨i2, j2⟩ := List.getElem?_eq_some_iff.1 hz
          have := List.pairwise_iff_getElem.1 HS.out.rise (k - 1) k i2 i1 (by omega)
          rw [j1, j2] at this
          exact this
      -- what is kept of it
      have HKP : Hid (100 ≤ y.n → y.n < 103 → ∃ (j : Nat) (va : Option Addr) (vc : Nat), y.n = 100 + (j : Int) ∧ j < 3 ∧ wr.cell? ⟨gw, j, none⟩ = some (.slice va y.ds.length vc) ∧ wr.cell? ⟨gd, j, none⟩ = some (.int .i64 y.dr)) := fun m1 m2 => by
        have hj : (y.n - 100).toNat < 3 := by omega
        have hyn : y.n = 100 + ((y.n - 100).toNat : Int) := by omega
        have hx := HX.out _ hj
        rw [← hyn] at hx
        have hxy : X (y.n - 100).toNat = y := by
          obtain ⟨i1, i2⟩ := alook_mem hx
          obtain ⟨k1, hk1, e1⟩ := List.getElem_of_mem i1
          obtain ⟨k2, hk2, e2⟩ := List.getElem_of_mem hyS
          have hp := List.pairwise_iff_getElem.1 HS.out.rise
          rcases Nat.lt_trichotomy k1 k2 with h | h | h
          · have := hp k1 k2 hk1 hk2 h; rw [e1, e2] at this; omega
          · subst h; rw [← e1, e2]
          · have := hp k2 k1 hk2 hk1 h; rw [e1, e2] at this; omega
        obtain ⟨va, vc, hv⟩ := HI.out.fm _ hj
        have f1 := HI.out.vw _ hj
        have f2 := HI.out.vd _ hj
        rw [hv, hxy] at f1
        rw [hxy] at f2
        exact ⟨_, va, vc, hyn, hj, cell_later hbel f1, cell_later hbel f2⟩
      clear hc hrow hbel hy hyS hnum
      generalize y.ds.length = yl at *
      have HY := hid (And.intro (ins_in (y := y)) (And.intro (ins_lo (y := y)) (ins_hi (y := y))))
      rcases HPV.out with h0 | ⟨k', zn, hkk, cz, hz⟩
      · have q0 : ¬ (0 : Int) < (k : Int) := by omega
        have qd : decide (0 < k) = false := by simp; omega
        clear h0 HPV
        by_cases m1 : y.n < 100
        · have p1 : ¬ (0 : Int) ≤ y.n - 100 := by omega
          go_wp2_with fail
          go_quiet (fail)
          go_wp2_with fail
          go_roundw
          case rel => exact ⟨k + 1, q + nq, n, rfl, by first | rfl | (congr 1; omega), by omega, by omega, by unfold Hid; rw [HSU.out, HY.out.2.1 m1, HCN.out]; rfl, by rw [HW.out]; simp [World.drewN, Nat.add_assoc]⟩
          case measure => simp only [intOf3]; omega
        · by_cases m2 : 103 ≤ y.n
          · have p1 : (0 : Int) ≤ y.n - 100 := by omega
            have p2 : ¬ (y.n - 100 < 3) := by omega
            go_wp2_with fail
            go_quiet (fail)
            go_wp2_with fail
            go_roundw
            case rel => exact ⟨k + 1, q + nq, n, rfl, by first | rfl | (congr 1; omega), by omega, by omega, by unfold Hid; rw [HSU.out, HY.out.2.2 m2, HCN.out]; rfl, by rw [HW.out]; simp [World.drewN, Nat.add_assoc]⟩
            case measure => simp only [intOf3]; omega
          · obtain ⟨j, va, vc, hyn, hj3, d1, d2⟩ := HKP.out (by omega) (by omega)
            have p1 : (0 : Int) ≤ (j : Int) := by omega
            have p2 : (j : Int) < 3 := by omega
            have HIN := hid (HY.out.1 (by omega) (by omega))
            clear m1 m2 HKP HY
            generalize y.n = yn at *
            subst hyn
            have p3 : (100 : Int) + (j : Int) - 100 = (j : Int) := by omega
            go_wp2_with fail
            go_quiet (fail)
            go_wp2_with fail
            go_quiet (fail)
            go_wp2_with fail
            go_roundw
            case rel =>
              rw [HW.out, drewN_add]
              exact ⟨k + 1, _, n + 1, by first | rfl | (congr 1; omega), by first | rfl | (congr 1; omega), by omega, by omega, by unfold Hid; rw [HSU.out, HIN.out, HCN.out]; rfl, rfl⟩
            case measure => simp only [intOf3]; omega
      · have q0 : (0 : Int) < (k : Int) := by omega
        have e7 : IntKind.i64.wrap ((k : Int) - 1) = (k' : Int) := by simp only [IntKind.wrap_i64]; omega
        have q1 : (0 : Int) ≤ (k' : Int) := by omega
        have q2 : (k' : Int) < (N : Int) := by omega
        have q3 : ¬ y.n ≤ zn := by omega
        have qd : decide (0 < k) = true := by simp; omega
        clear HPV hkk
        by_cases m1 : y.n < 100
        · have p1 : ¬ (0 : Int) ≤ y.n - 100 := by omega
          go_wp2_with fail
          go_quiet (fail)
          go_wp2_with fail
          go_roundw
          case rel => exact ⟨k + 1, q + nq, n, rfl, by first | rfl | (congr 1; omega), by omega, by omega, by unfold Hid; rw [HSU.out, HY.out.2.1 m1, HCN.out]; rfl, by rw [HW.out]; simp [World.drewN, Nat.add_assoc]⟩
          case measure => simp only [intOf3]; omega
        · by_cases m2 : 103 ≤ y.n
          · have p1 : (0 : Int) ≤ y.n - 100 := by omega
            have p2 : ¬ (y.n - 100 < 3) := by omega
            go_wp2_with fail
            go_quiet (fail)
            go_wp2_with fail
            go_roundw
            case rel => exact ⟨k + 1, q + nq, n, rfl, by first | rfl | (congr 1; omega), by omega, by omega, by unfold Hid; rw [HSU.out, HY.out.2.2 m2, HCN.out]; rfl, by rw [HW.out]; simp [World.drewN, Nat.add_assoc]⟩
            case measure => simp only [intOf3]; omega
          · obtain ⟨j, va, vc, hyn, hj3, d1, d2⟩ := HKP.out (by omega) (by omega)
            have p1 : (0 : Int) ≤ (j : Int) := by omega
            have p2 : (j : Int) < 3 := by omega
            have HIN := hid (HY.out.1 (by omega) (by omega))
            clear m1 m2 HKP HY
            generalize y.n = yn at *
            subst hyn
            have p3 : (100 : Int) + (j : Int) - 100 = (j : Int) := by omega
            go_wp2_with fail
            go_quiet (fail)
            go_wp2_with fail
            go_quiet (fail)
            go_wp2_with fail
            go_roundw
            case rel =>
              rw [HW.out, drewN_add]
              exact ⟨k + 1, _, n + 1, by first | rfl | (congr 1; omega), by first | rfl | (congr 1; omega), by omega, by omega, by unfold Hid; rw [HSU.out, HIN.out, HCN.out]; rfl, rfl⟩
            case measure => simp only [intOf3]; omega
    · have hkk : k = N := by omega
      subst hkk
      have hn3 : n = 3 := by
        have := HCN.out
        rw [List.take_of_length_le (by have := HN.out; omega), HC.out] at this
        exact this
      subst hn3
      have h8' : (k : Int) ≤ 8 := by omega
      clear hkl
      go_wp2_with fail
      go_ret
      exact ⟨rfl, q, HW.out⟩
end Go.Proofs.Ytkgjlfbnjccckaa
