/-
  The document's numberAt, text and without.
-/
import Derived.Test.YtoifblndpcelkaaBoMor
import Derived.Test.YtoifblndpcelkaaBoTxt
import Derived.Test.YtoifblndpcelkaaOFrJ
import Derived.Test.YtoifblndpcelkaaBNumJ
namespace Go.Proofs.Ytoifblndpcelkaa
open Go.RowKit
set_option linter.all false

theorem refNumAt_any (pt : Part) (a m : Nat) (w : World) (hok : pt.ok w) (hl : pt.zs.length ≤ 140737488353280) (h1 : 1 ≤ m) (h2 : m ≤ 8) (h3 : a + m ≤ pt.zs.length) :
    Calls Try.prog 46 #[pt.val, .int .i64 a, .int .i64 m] w fun e w' => e = .returned (.int .u64 (getTo pt.zs a m)) ∧ w' = w := by
  have C := refGet_part pt a m w hok hl (by omega)
  have hg : getAns pt.zs a m = (getTo pt.zs a m, 0) := by
    unfold getAns
    rw [if_neg (by omega), if_neg (by omega)]
    simp
  rw [hg] at C
  have HC := hid C
  clear C hg
  generalize pt.val = v at *
  generalize getTo pt.zs a m = x at *
  go_enter Try.func46, Try.ntmps46
  go_wp2_with (first
    | (go_at_call 92; refine HC.out.mono ?_; rintro e w1 ⟨rfl, hw⟩; subst w1)
    | fail)
  go_ret
  exact ⟨rfl, rfl⟩
theorem ownB_one {B : Nat} {zs : List Int} {a : Option Addr} {n c : Nat} {w : World} (h : OwnB B zs a n c w) (x : Int) (hx : 0 ≤ x ∧ x ≤ 255) (hl : zs.length + 1 ≤ 140737488355328) :
    ∃ a' n' c' w', (Builtin.append_ #[33, 33] 33 #[.slice a n c, .slice (some ⟨w.heap.size, 0, none⟩) 1 1]).run Try.prog (w.alloc (.cells #[.int .u8 x] 5)) = .ok (.slice a' n' c') w' ∧ OwnB B (zs ++ [x]) a' n' c' w' ∧ Below B w w' := by
  have bl := bpush (Below.refl w.heap.size w) (.cells #[.int .u8 x] 5)
  obtain ⟨a', n', c', w', h1, h2, h3⟩ := (h.below bl).app ⟨some ⟨w.heap.size, 0, none⟩, 1, [x]⟩ (Part.of_row (zs := [x]) (heap_new w _) (by simp) (by simpa using hx)) (by simpa using hl) 33
  exact ⟨a', n', c', w', h1, h2, (bl.mono h.2.2).trans h3⟩
theorem txt_take {zs : List Int} {k : Nat} (h : ∀ z ∈ zs.take k, z ≠ 0) (he : zs.length ≤ k ∨ zs.getD k 0 = 0) (hk : k ≤ zs.length) : txt zs = zs.take k := by
  induction zs generalizing k with
  | nil => simp [txt]
  | cons z zs ih =>
    cases k with
    | zero =>
      rcases he with h1 | h1
      · simp at h1
      · simp at h1; subst h1; simp [txt]
    | succ k =>
      have hz : z ≠ 0 := h z (by simp)
      have := ih (k := k) (fun y hy => h y (by simp [hy])) (by simpa using he) (by simpa using hk)
      rw [List.take_succ_cons, ← this]
      simp [txt, hz]
set_option maxRecDepth 20000 in
set_option maxHeartbeats 1000000 in
theorem refText_any (pt : Part) (w : World) (hok : pt.ok w) (hl : pt.zs.length ≤ 140737488353280) :
    Calls Try.prog 49 #[pt.val] w fun e w' => e = .returned (.string (strOfNums (txt pt.zs))) ∧ Hid (Below w.heap.size w w') := by
  have HO := hid hok
  have HV : Hid (pt.val = .slice pt.a pt.zs.length pt.c) := rfl
  rw [HV.out]
  obtain ⟨l, Hl⟩ : ∃ l, Hid (pt.zs.length = l) := ⟨_, rfl⟩
  rw [Hl.out] at hl ⊢
  clear hok
  go_enter Try.func49, Try.ntmps49
  go_wp2
  go_loopw [3, 4] (fun v i wr => ∃ (k : Nat) (a : Option Addr) (n c : Nat), k ≤ l ∧ i = .int .i64 k ∧ v = .slice a n c ∧ Hid (OwnB w.heap.size (pt.zs.take k) a n c wr ∧ (∀ z ∈ pt.zs.take k, z ≠ 0) ∧ Below w.heap.size w wr)) (fun _ i _ => l - (intOf i).toNat)
  case atStart => exact ⟨0, none, 0, 0, Nat.zero_le _, rfl, rfl, OwnB.nil w, by simp, Below.refl _ _⟩
  case round =>
    obtain ⟨k, a, n, c, hk, rfl, rfl, HR⟩ := hrel
    have HCV : Hid ((convert 33 9 (.slice a n c)).run Try.prog wr = .ok (.string (strOfNums (pt.zs.take k))) wr) := HR.out.1.1.conv0 (fun z hz => HO.out.1 z (List.mem_of_mem_take hz))
    by_cases hlt : k < l
    · have hlt' : (k : Int) < (l : Int) := by omega
      obtain ⟨b, o, hpa, hc⟩ : ∃ b o, pt.a = some ⟨b, o, none⟩ ∧ wr.cell? ⟨b, o + k, none⟩ = some (.int .u8 (pt.zs.getD k 0)) := by
        rcases (Part.ok_below HO.out HR.out.2.2).2.2 with he | ⟨b, o, ha, hc⟩
        · have := Hl.out; rw [he] at this; simp at this; omega
        · exact ⟨b, o, ha, hc k (by rw [Hl.out]; exact hlt)⟩
      obtain ⟨z, hz⟩ : ∃ z, z = pt.zs.getD k 0 := ⟨_, rfl⟩
      have HZ := hid hz
      rw [← hz] at hc
      have hzb : 0 ≤ z ∧ z ≤ 255 := by rw [hz]; exact getD_mem_bd HO.out.1 k
      rw [hpa]
      clear hpa hz
      by_cases h0 : z = 0
      · have h0' : (z != 0) = false := by simp [h0]
        have HT : Hid (txt pt.zs = pt.zs.take k) := hid (txt_take HR.out.2.1 (Or.inr (by rw [← HZ.out]; exact h0)) (by rw [Hl.out]; omega))
        have HB := hid HR.out.2.2
        have hcv := HCV.out
        clear HR h0
        generalize hS : strOfNums (pt.zs.take k) = S at *
        have HS := hid hS
        clear hS
        go_wp2
        go_ret
        rw [HT.out, HS.out]
        exact ⟨rfl, HB.out⟩
      · have h0' : (z != 0) = true := by simpa using h0
        obtain ⟨a', n', c', w', h1, h2, h3⟩ := ownB_one HR.out.1 z hzb (by simp; omega)
        have ht : pt.zs.take k ++ [z] = pt.zs.take (k + 1) := by
          rw [HZ.out, List.take_succ_eq_append_getElem (by rw [Hl.out]; exact hlt)]; simp [List.getD_eq_getElem?_getD, show k < pt.zs.length by rw [Hl.out]; exact hlt]
        rw [ht] at h2
        have hne : ∀ y ∈ pt.zs.take (k + 1), y ≠ 0 := fun y hy => by
          rw [← ht] at hy
          rcases List.mem_append.1 hy with hy | hy
          · exact HR.out.2.1 y hy
          · simp at hy; subst hy; exact h0
        have HR' := hid (And.intro h2 (And.intro hne (HR.out.2.2.trans h3)))
        have HRUN := hid h1
        clear h1 h2 h3 ht hne HR HCV h0
        go_wp2_with (first | (at_builtin; refine wpList_append_run _ rfl _ _ 33 33 rfl _ _ rfl rfl HRUN.out ?_) | fail)
        go_roundw
        case rel => exact ⟨k + 1, a', n', c', by omega, by go_num, rfl, HR'⟩
        case measure => simp [intOf]; omega
    · have hge : ¬ (k : Int) < (l : Int) := by omega
      have HT : Hid (txt pt.zs = pt.zs.take k) := hid (txt_take HR.out.2.1 (Or.inl (by rw [Hl.out]; omega)) (by rw [Hl.out]; omega))
      have HB := hid HR.out.2.2
      have hcv := HCV.out
      clear HR
      generalize hS : strOfNums (pt.zs.take k) = S at *
      have HS := hid hS
      clear hS
      go_wp2
      go_ret
      rw [HT.out, HS.out]
      exact ⟨rfl, HB.out⟩
set_option maxRecDepth 20000 in
set_option maxHeartbeats 2000000 in
theorem refWithout_any (B : Nat) (a : Option Addr) (n c : Nat) (E : List (Opt × Value)) (code : Int) (w : World) (h : OwnO B w (.slice a n c) E) (hB : B ≤ w.heap.size) (hf : E.length ≤ 64) (hc : ∀ p ∈ E, -9223372036854775808 ≤ p.1.1 ∧ p.1.1 ≤ 9223372036854775807) :
    Calls Try.prog 50 #[.slice a n c, .int .i64 code] w fun e w' => ∃ a' n' c', e = .returned (.slice a' n' c') ∧ Hid (OwnO B w' (.slice a' n' c') (E.filter fun p => p.1.1 != code) ∧ Below w.heap.size w w') := by
  have HE := hid h
  have HN : Hid (n = E.length) := hid (by
    obtain ⟨a', c', e', _⟩ := h.form
    simp only [Value.slice.injEq] at e'
    exact e'.2.1)
  have HC := hid hc
  have hn : n ≤ 64 := by rw [HN.out]; exact hf
  clear h hc hf
  go_enter Try.func50, Try.ntmps50
  go_wp2
  go_loopw [5, 6] (fun v i wr => ∃ (k : Nat) (a' : Option Addr) (n' c' : Nat), k ≤ n ∧ i = .int .i64 k ∧ v = .slice a' n' c' ∧ Hid (OwnO B wr (.slice a' n' c') ((E.take k).filter fun p => p.1.1 != code) ∧ (∀ b, (Value.slice a' n' c').ownBlock = some b → w.heap.size ≤ b) ∧ Below w.heap.size w wr)) (fun _ i _ => n - (intOf i).toNat)
  case atStart => exact ⟨0, none, 0, 0, Nat.zero_le _, rfl, rfl, OwnO.nil _ _, by simp [Value.ownBlock], Below.refl _ _⟩
  case round =>
    obtain ⟨k, a1, n1, c1, hk, rfl, rfl, HR⟩ := hrel
    by_cases hlt : k < n
    · have hlt' : (k : Int) < (n : Int) := by omega
      have hkE : k < E.length := by rw [← HN.out]; exact hlt
      obtain ⟨⟨⟨cd, zs⟩, d⟩, hp⟩ : ∃ p, E[k]? = some p := ⟨E[k], List.getElem?_eq_getElem hkE⟩
      have hpm := List.mem_of_getElem? hp
      have hEr := HE.out.below HR.out.2.2
      obtain ⟨ga, cc, ea, _, _⟩ := hEr.row.some_of (by omega)
      simp only [Value.slice.injEq] at ea
      obtain ⟨rfl, -, rfl⟩ := ea
      have hrow := hEr.row
      rw [HN.out] at hrow
      have e0 := hrow.cell (flatE_at E k _ hp).1
      have e1 := hrow.cell (flatE_at E k _ hp).2
      clear hrow
      have hdr := hEr.data _ hpm
      simp only at e0 e1 hdr
      obtain ⟨da, dc, ed, _⟩ := hdr.form
      subst ed
      have htk : E.take (k + 1) = E.take k ++ [((cd, zs), .slice da (u8s zs).length dc)] := by
        rw [List.take_succ_eq_append_getElem hkE]
        rw [List.getElem?_eq_getElem hkE] at hp
        simp only [Option.some.injEq] at hp
        rw [hp]
      by_cases hcd : cd = code
      · have hcd' : (cd != code) = false := by simp [hcd]
        have HF : Hid (((E.take (k + 1)).filter fun p => p.1.1 != code) = (E.take k).filter fun p => p.1.1 != code) := hid (by
          rw [htk, List.filter_append]
          simp [hcd])
        clear hcd hdr htk e1 hp hpm hEr
        go_wp2
        go_roundw
        case rel => exact ⟨k + 1, a1, n1, c1, by omega, by go_num, rfl, by rw [HF.out]; exact HR⟩
        case measure => simp [intOf]; omega
      · have hcd' : (cd != code) = true := by simpa using hcd
        have HF : Hid (((E.take (k + 1)).filter fun p => p.1.1 != code) = ((E.take k).filter fun p => p.1.1 != code) ++ [((cd, zs), .slice da (u8s zs).length dc)]) := hid (by
          rw [htk, List.filter_append]
          simp [hcd])
        have hfl : ((E.take k).filter fun p => p.1.1 != code).length ≤ 64 := Nat.le_trans (List.length_filter_le _ _) (by simp; omega)
        obtain ⟨a3, n3, c3, w3, r3, O3, Z3, K3, L3⟩ := (HR.out.1).app2 (Nat.le_trans hB HR.out.2.2.size) (by omega) cd zs (.slice da (u8s zs).length dc) hdr (fun z hz => hEr.oks _ hpm z hz) (fun b hb => ⟨hEr.dlow _ hpm b hb, fun p hpf e => by
          obtain ⟨hpt, _⟩ := List.mem_filter.1 hpf
          obtain ⟨i, hi⟩ := List.getElem?_of_mem hpt
          have hik : i < k := by have := (List.getElem?_eq_some_iff.1 hi).1; simp at this; omega
          rw [List.getElem?_take_of_lt hik] at hi
          exact HE.out.apart i k p _ b (by omega) hi hp e hb⟩)
        have HR3 := hid r3
        have HO3 : Hid (OwnO B w3 (.slice a3 n3 c3) ((E.take (k + 1)).filter fun p => p.1.1 != code) ∧ (∀ b, (Value.slice a3 n3 c3).ownBlock = some b → w.heap.size ≤ b) ∧ Below w.heap.size w w3) := by
          have hsz := HR.out.2.2.size
          have B3 : Below w.heap.size wr w3 := ⟨Z3.os, Z3.tape, Z3.output, Z3.size, fun q hq => K3 q (by omega) (fun e => by have := HR.out.2.1 q e; omega)⟩
          refine ⟨by rw [HF.out]; exact O3, fun b hb => ?_, HR.out.2.2.trans B3⟩
          rcases L3 b hb with h1 | h1
          · exact HR.out.2.1 b h1
          · omega
        clear r3 O3 Z3 K3 L3 hcd hdr htk hp hpm hEr hfl HF
        generalize (u8s zs).length = lz at *
        go_wp2_with (first
          | (at_builtin; refine wpList_append_run _ rfl _ _ _ _ rfl _ _ rfl rfl HR3.out ?_; clear HR3)
          | fail)
        go_roundw
        case rel => exact ⟨k + 1, a3, n3, c3, by omega, by go_num, rfl, HO3⟩
        case measure => simp [intOf]; omega
    · have hge : ¬ (k : Int) < (n : Int) := by omega
      have HF : Hid (E.take k = E) := hid (List.take_of_length_le (by rw [← HN.out]; omega))
      have HO : Hid (OwnO B wr (.slice a1 n1 c1) (E.filter fun p => p.1.1 != code) ∧ Below w.heap.size w wr) := by
        have h1 := HR.out
        rw [HF.out] at h1
        exact ⟨h1.1, h1.2.2⟩
      clear HR
      go_wp2
      go_ret
      exact ⟨a1, n1, c1, rfl, HO.out⟩
end Go.Proofs.Ytoifblndpcelkaa
