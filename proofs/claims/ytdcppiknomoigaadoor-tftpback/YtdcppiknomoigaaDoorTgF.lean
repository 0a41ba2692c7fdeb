/-
  Tftp: what the program's Encode can't lay.
-/
import Derived.Test.YtdcppiknomoigaaDoorTgE
import Derived.Deep.DeepCutAuto
import Derived.Deep.CutRange
import Derived.Deep.RegionHeld3
import Derived.Deep.RegionHeldLaw
import Derived.BigQuiet
namespace Go.Proofs.YtdcppiknomoigaaDoor
open Go.RowKit
set_option linter.all false

theorem index_zero : ∀ l : List UInt8, (Lib.indexByte l 0 = -1 ∧ (0 : UInt8) ∉ l) ∨ (0 ≤ Lib.indexByte l 0 ∧ (0 : UInt8) ∈ l)
  | [] => Or.inl ⟨rfl, by simp⟩
  | x :: l => by
    unfold Lib.indexByte
    by_cases hx : x = 0
    · subst hx
      exact Or.inr ⟨by simp, by simp⟩
    · have hb : (x == 0) = false := by simpa using hx
      rw [hb]
      simp only [Bool.false_eq_true, if_false]
      rcases index_zero l with ⟨h1, h2⟩ | ⟨h1, h2⟩
      · rw [h1]
        exact Or.inl ⟨by simp, by simp; exact ⟨fun e => hx e.symm, h2⟩⟩
      · have hn : (Lib.indexByte l 0 == -1) = false := by simp; omega
        rw [hn]
        exact Or.inr ⟨by simp; omega, by simp [h2]⟩
theorem zeroIn_is (s : ByteArray) : zeroIn s = decide ((0 : UInt8) ∈ s.data.toList) := by
  unfold zeroIn nums
  congr 1
  simp only [List.mem_map, eq_iff_iff]
  constructor
  · rintro ⟨x, hx, e⟩
    have : x = 0 := by
      apply UInt8.toNat_inj.1
      simp only [UInt8.toNat_zero]
      omega
    rw [← this]
    exact hx
  · intro h
    exact ⟨0, h, rfl⟩
set_option maxHeartbeats 1000000 in
theorem hasZero_any (s : ByteArray) (w : World) :
    Calls Tryd.prog 74 #[.string s] w fun e w' => e = .returned (.bool (zeroIn s)) ∧ w' = w := by
  have C := Tryd.strings_IndexByte s 0 w
  have e0 : (Int.toNat 0).toUInt8 = 0 := rfl
  rw [e0] at C
  rw [zeroIn_is]
  rcases index_zero s.data.toList with ⟨h1, h2⟩ | ⟨h1, h2⟩
  · rw [h1] at C
    simp only [h2, decide_false]
    go_enter Tryd.func74, Tryd.ntmps74
    go_wp2_with (first
      | (go_at_call 79; refine C.mono ?_; rintro e w1 ⟨rfl, hw⟩; subst w1)
      | fail)
    go_ret
    exact ⟨rfl, rfl⟩
  · generalize Lib.indexByte s.data.toList 0 = N at C h1
    simp only [h2, decide_true]
    have hn : (N != -1) = true := by simp; omega
    go_enter Tryd.func74, Tryd.ntmps74
    go_wp2_with (first
      | (go_at_call 79; refine C.mono ?_; rintro e w1 ⟨rfl, hw⟩; subst w1)
      | fail)
    go_ret
    exact ⟨by first | rfl | simp_all, rfl⟩
def fileB (s : ByteArray) : Bool := decide (0 < s.size) && decide (s.size ≤ 64) && !zeroIn s
set_option maxHeartbeats 1000000 in
theorem isFile_any (s : ByteArray) (w : World) :
    Calls Tryd.prog 56 #[.string s] w fun e w' => e = .returned (.bool (fileB s)) ∧ w' = w := by
  have C := hid (hasZero_any s w)
  unfold fileB
  generalize zeroIn s = z at *
  by_cases h0 : 0 < s.size
  · by_cases h1 : s.size ≤ 64
    · rw [decide_eq_true h0, decide_eq_true h1]
      have h1' : (s.size : Int) ≤ 64 := by omega
      cases z
      · go_enter Tryd.func56, Tryd.ntmps56
        go_wp2_with (first
          | (go_at_call 74; refine C.out.mono ?_; rintro e w1 ⟨rfl, hw⟩; subst w1)
          | fail)
        go_ret
        exact ⟨rfl, rfl⟩
      · go_enter Tryd.func56, Tryd.ntmps56
        go_wp2_with (first
          | (go_at_call 74; refine C.out.mono ?_; rintro e w1 ⟨rfl, hw⟩; subst w1)
          | fail)
        go_ret
        exact ⟨rfl, rfl⟩
    · rw [decide_eq_false h1]
      have h1' : ¬ (s.size : Int) ≤ 64 := by omega
      simp only [Bool.and_false, Bool.false_and]
      go_enter Tryd.func56, Tryd.ntmps56
      go_wp2_with fail
      go_ret
      exact ⟨rfl, rfl⟩
  · rw [decide_eq_false h0]
    simp only [Bool.false_and]
    go_enter Tryd.func56, Tryd.ntmps56
    go_wp2_with fail
    go_ret
    exact ⟨rfl, rfl⟩
def numE (x : Int) : Int := if x < 0 ∨ 65535 < x then 1 else 0
set_option maxHeartbeats 1000000 in
theorem badNumber_any (x : Int) (w : World) :
    Calls Tryd.prog 59 #[.int .i64 x] w fun e w' => e = .returned (.int .i64 (numE x)) ∧ w' = w := by
  by_cases h0 : x < 0
  · have e : numE x = 1 := if_pos (Or.inl h0)
    rw [e]
    clear e
    go_enter Tryd.func59, Tryd.ntmps59
    go_wp2_with fail
    go_ret
    exact ⟨rfl, rfl⟩
  · by_cases h1 : 65535 < x
    · have e : numE x = 1 := if_pos (Or.inr h1)
      rw [e]
      clear e
      go_enter Tryd.func59, Tryd.ntmps59
      go_wp2_with fail
      go_ret
      exact ⟨rfl, rfl⟩
    · have e : numE x = 0 := if_neg (by omega)
      rw [e]
      clear e
      go_enter Tryd.func59, Tryd.ntmps59
      go_wp2_with fail
      go_ret
      exact ⟨rfl, rfl⟩
theorem ChV.take {w : World} {a : Option Addr} {l : List Ch} (h : ChV w a l) (k : Nat) : ChV w a (l.take k) := by
  rcases h with rfl | ⟨b, o, h1, h2⟩
  · left; simp
  · refine Or.inr ⟨b, o, h1, fun j x hx => h2 j x ?_⟩
    rw [List.getElem?_take] at hx
    split at hx
    · exact hx
    · cases hx
def okE (b : Bool) : Int := if b = true then 0 else 172
set_option maxRecDepth 20000 in
set_option maxHeartbeats 4000000 in
theorem badChoices_any (l : List Ch) (a : Option Addr) (n c : Nat) (w : World) (h : ChV w a l) (hn : n = l.length) (hcp : n ≤ c) (hbig : n ≤ 9223372036854775807) :
    Calls Tryd.prog 57 #[.slice a n c] w fun e w' => e = .returned (.int .i64 (okE (chOk l n))) ∧ Hid (Below w.heap.size w w') := by
  have HV := hid h
  have HN := hid hn
  clear h hn
  go_enter Tryd.func57, Tryd.ntmps57
  go_wp2_with fail
  go_loopw [9] (fun vi wr => ∃ k : Nat, vi = .int .i64 k ∧ k ≤ n ∧ Hid (Below w.heap.size w wr) ∧ Hid (chOk l k = true)) (fun vi _ => n - (intOfT vi).toNat)
  case atStart => exact ⟨0, rfl, Nat.zero_le _, Below.refl _ _, by simp [chOk, Hid]⟩
  case round =>
    obtain ⟨k, rfl, hk, HB, HI⟩ := hrel
    have HVR := hid (HV.out.below HB.out)
    by_cases hkl : k < n
    · obtain ⟨y, hy⟩ : ∃ y, l[k]? = some y := ⟨_, List.getElem?_eq_getElem (by rw [← HN.out]; omega)⟩
      obtain ⟨g, o, rfl, c0, c1⟩ := HVR.out.ent hy
      have hkz : (0 : Int) ≤ (k : Int) := by omega
      have hkn : (k : Int) < (n : Int) := by omega
      have hkc : (k : Int) ≤ (c : Int) := by omega
      have HSU : Hid (chOk l (k + 1) = (knownB y.nm && !inB y.nm (l.take k) && decide (0 ≤ y.v) && decide (y.v ≤ 2147483647))) := by
        unfold Hid
        rw [chOk_succ, HI.out, show l.getD k Ch.nil = y from by rw [List.getD_eq_getElem?_getD, hy]; rfl]
        rfl
      have HMO : Hid (chOk l (k + 1) = false → chOk l n = false) := fun e => by
        have := chOk_mono l (k + 1) (n - (k + 1)) e
        rwa [show k + 1 + (n - (k + 1)) = n from by omega] at this
      clear hy
      go_upto_region 4 with fail
      have HB3 := hid (bstep HB.out (bpush (Below.refl wr.heap.size wr) (.cells #[.string y.nm, .int .i64 y.v] 56)))
      have HV3 := hid (HVR.out.below (bpush (Below.refl wr.heap.size wr) (.cells #[.string y.nm, .int .i64 y.v] 56)))
      have HBX := hid (heap_new wr (.cells #[.string y.nm, .int .i64 y.v] 56))
      clear c0 c1 HVR HB
      generalize wr.alloc (.cells #[.string y.nm, .int .i64 y.v] 56) = W at *
      generalize wr.heap.size = bx at *
      have hx0 : W.cell? ⟨bx, 0, none⟩ = some (.string y.nm) := cell_of_heap HBX.out 0
      obtain ⟨b2, hb2⟩ : ∃ b, b = inB y.nm (l.take k) := ⟨_, rfl⟩
      obtain ⟨vx, hvx⟩ : ∃ v, v = wantV (l.take k) y.nm := ⟨_, rfl⟩
      have HW : Hid (∀ W', Below W.heap.size W W' → Calls Tryd.prog 21 #[.slice (some ⟨g, o, none⟩) k c, .string y.nm] W' fun e w' => e = .returned (.tuple #[.int .i64 vx, .bool b2]) ∧ Hid (Below W'.heap.size W' w')) := fun W' hw => by
        rw [hb2, ← wantB_in, hvx]
        exact pwant_any (l.take k) _ k c y.nm W' ((HV3.out.take k).below hw) (by rw [List.length_take, ← HN.out]; omega) (by omega)
      have HW0 := hid (HW.out W (Below.refl _ _))
      have HW1 := hid (HW.out W.drew (bdrewT W 1))
      rw [← hb2] at HSU
      clear hb2 hvx HW
      go_cut [6] (fun v wx => v = .bool b2 ∧ ∃ wy, wy = wx ∧ Hid (Below W.heap.size W wy))
      case first =>
        go_region_held3 (fun s => s.cell? ⟨bx, 0, none⟩ = some (.string y.nm)) (first | assumption | exact hx0) (first
          | (go_at_call 21; (with_reducible refine HW0.out.mono ?_); rintro e w5 ⟨rfl, HB5⟩; have hq5 := HB5; have hx5 : w5.cell? ⟨bx, 0, none⟩ = some (.string y.nm) := cell_of_heap (w := w5) ((hq5.out.block _ (heap_lt HBX.out)).trans HBX.out) 0)
          | (go_at_call 21; (with_reducible refine HW1.out.mono ?_); rintro e w5 ⟨rfl, HB5⟩; have hq5 : Hid (Below W.heap.size W w5) := bstep (Below.refl _ _).drew HB5.out; have hx5 : w5.cell? ⟨bx, 0, none⟩ = some (.string y.nm) := cell_of_heap (w := w5) ((hq5.out.block _ (heap_lt HBX.out)).trans HBX.out) 0)
          | fail)
        all_goals
          go_wp2_with fail
          go_meet
          case rel => exact ⟨rfl, _, rfl, hq5⟩
      case rest =>
        obtain ⟨rfl, wy, rfl, HBY⟩ := hcut
        have hz : bx < W.heap.size := heap_lt HBX.out
        have hy0 : wy.cell? ⟨bx, 0, none⟩ = some (.string y.nm) := cell_of_heap (w := wy) ((HBY.out.block _ hz).trans HBX.out) 0
        have hy1 : wy.cell? ⟨bx, 1, none⟩ = some (.int .i64 y.v) := cell_of_heap (w := wy) ((HBY.out.block _ hz).trans HBX.out) 1
        have HBW := hid (bstep HB3.out HBY.out)
        have CK := hid (pknown_any y.nm wy)
        have CV := hid (pvalue_any y.v wy)
        have ev : (decide (0 ≤ y.v) && decide (y.v ≤ 2147483647)) = isVal y.v := by unfold isVal; simp
        have HSU2 : Hid (chOk l (k + 1) = (knownB y.nm && !b2 && isVal y.v)) := by unfold Hid; rw [HSU.out, ← ev, Bool.and_assoc]
        clear HSU ev hz hx0 HW0 HW1 HBX HB3 HV3 HBY
        generalize knownB y.nm = b1 at *
        generalize isVal y.v = b3 at *
        cases b2
        · cases b1
          · go_wp2_with (first
              | (go_at_call 70; refine CK.out.mono ?_; rintro e w1 ⟨rfl, hw⟩; subst w1)
              | fail)
            go_ret
            exact ⟨by rw [HMO.out (by rw [HSU2.out]; rfl)]; rfl, HBW⟩
          · cases b3
            · go_wp2_with (first
                | (go_at_call 70; refine CK.out.mono ?_; rintro e w1 ⟨rfl, hw⟩; subst w1)
                | (go_at_call 75; refine CV.out.mono ?_; rintro e w1 ⟨rfl, hw⟩; subst w1)
                | fail)
              go_ret
              exact ⟨by rw [HMO.out (by rw [HSU2.out]; rfl)]; rfl, HBW⟩
            · go_wp2_with (first
                | (go_at_call 70; refine CK.out.mono ?_; rintro e w1 ⟨rfl, hw⟩; subst w1)
                | (go_at_call 75; refine CV.out.mono ?_; rintro e w1 ⟨rfl, hw⟩; subst w1)
                | fail)
              go_roundw
              case rel => exact ⟨k + 1, by first | rfl | (congr 1; omega), by omega, HBW, by unfold Hid; rw [HSU2.out]; rfl⟩
              case measure => simp only [intOfT]; omega
        · go_wp2_with fail
          go_ret
          exact ⟨by rw [HMO.out (by rw [HSU2.out]; simp)]; rfl, HBW⟩
    · obtain rfl : k = n := by omega
      clear hkl
      go_wp2_with fail
      go_ret
      exact ⟨by rw [HI.out]; rfl, HB⟩
/-- a packet, as it is handed in. -/
def tpC (p : Tp) (ca : Option Addr) (cc : Nat) (da : Option Addr) (dc : Nat) : Array Value := #[.int .i64 p.op, .string p.fl, .string p.md, .slice ca p.ch.length cc, .int .i64 p.bk, .slice da p.da.length dc, .int .i64 p.cd, .string p.tx]
structure TpS (p : Tp) (ca : Option Addr) (cc : Nat) (da : Option Addr) (dc : Nat) (w : World) : Prop where
  ch : ChV w ca p.ch
  cc : p.ch.length ≤ cc
  cn : p.ch.length ≤ 5864062014700
  da : Part.ok w ⟨da, dc, p.da⟩
  dn : p.da.length ≤ 140737488353280
  fl : p.fl.size ≤ 140737488353280
  md : p.md.size ≤ 140737488353280
  tx : p.tx.size ≤ 140737488353280
theorem TpS.below {p : Tp} {ca : Option Addr} {cc : Nat} {da : Option Addr} {dc : Nat} {w w' : World} (h : TpS p ca cc da dc w) (hb : Below w.heap.size w w') : TpS p ca cc da dc w' :=
  { h with ch := h.ch.below hb, da := Part.ok_below h.da hb }
def dataE (x : Int) (n : Nat) : Int := if x < 0 ∨ 65535 < x then 1 else if 65464 < n then 2 else 0
set_option maxHeartbeats 2000000 in
theorem badData_any (p : Tp) (ca : Option Addr) (cc : Nat) (da : Option Addr) (dc : Nat) (w : World) :
    Calls Tryd.prog 58 #[.agg (tpC p ca cc da dc)] w fun e w' => e = .returned (.int .i64 (dataE p.bk p.da.length)) ∧ Hid (Below w.heap.size w w') := by
  have HB := hid (bpush (Below.refl w.heap.size w) (.cells (tpC p ca cc da dc) 26))
  have C := hid (fun W => badNumber_any p.bk W)
  obtain ⟨x, hx⟩ : ∃ x, x = dataE p.bk p.da.length := ⟨_, rfl⟩
  rw [← hx]
  unfold dataE at hx
  unfold numE at C
  unfold tpC at HB ⊢
  obtain ⟨op, fl, md, ch, bk, dl, cd, tx⟩ := p
  simp only at *
  by_cases h : bk < 0 ∨ 65535 < bk
  · rw [if_pos h] at C hx
    subst hx
    clear h
    go_enter Tryd.func58, Tryd.ntmps58
    go_wp2_with (first
      | (go_at_call 59; refine (C.out _).mono ?_; rintro e w1 ⟨rfl, hw⟩; subst w1)
      | fail)
    go_ret
    exact ⟨rfl, HB⟩
  · rw [if_neg h] at C hx
    clear h
    by_cases hl : 65464 < dl.length
    · rw [if_pos hl] at hx
      subst hx
      have hl' : (65464 : Int) < (dl.length : Int) := by omega
      generalize dl.length = n at *
      go_enter Tryd.func58, Tryd.ntmps58
      go_wp2_with (first
        | (go_at_call 59; refine (C.out _).mono ?_; rintro e w1 ⟨rfl, hw⟩; subst w1)
        | fail)
      go_ret
      exact ⟨rfl, HB⟩
    · rw [if_neg hl] at hx
      subst hx
      have hl' : ¬ (65464 : Int) < (dl.length : Int) := by omega
      generalize dl.length = n at *
      go_enter Tryd.func58, Tryd.ntmps58
      go_wp2_with (first
        | (go_at_call 59; refine (C.out _).mono ?_; rintro e w1 ⟨rfl, hw⟩; subst w1)
        | fail)
      go_ret
      exact ⟨rfl, HB⟩
def errE (x : Int) (z : Bool) (n : Nat) : Int := if x < 0 ∨ 65535 < x then 1 else if z = true then 171 else if 255 < n then 2 else 0
set_option maxHeartbeats 2000000 in
theorem badError_any (p : Tp) (ca : Option Addr) (cc : Nat) (da : Option Addr) (dc : Nat) (w : World) :
    Calls Tryd.prog 60 #[.agg (tpC p ca cc da dc)] w fun e w' => e = .returned (.int .i64 (errE p.cd (zeroIn p.tx) p.tx.size)) ∧ Hid (Below w.heap.size w w') := by
  have HB := hid (bpush (Below.refl w.heap.size w) (.cells (tpC p ca cc da dc) 26))
  have C := hid (fun W => badNumber_any p.cd W)
  have CZ := hid (fun W => hasZero_any p.tx W)
  obtain ⟨x, hx⟩ : ∃ x, x = errE p.cd (zeroIn p.tx) p.tx.size := ⟨_, rfl⟩
  rw [← hx]
  unfold errE at hx
  unfold numE at C
  unfold tpC at HB ⊢
  obtain ⟨op, fl, md, ch, bk, dl, cd, tx⟩ := p
  simp only at *
  generalize zeroIn tx = z at *
  by_cases h : cd < 0 ∨ 65535 < cd
  · rw [if_pos h] at C hx
    subst hx
    clear h
    go_enter Tryd.func60, Tryd.ntmps60
    go_wp2_with (first
      | (go_at_call 59; refine (C.out _).mono ?_; rintro e w1 ⟨rfl, hw⟩; subst w1)
      | fail)
    go_ret
    exact ⟨rfl, HB⟩
  · rw [if_neg h] at C hx
    clear h
    cases z
    · rw [if_neg (by simp)] at hx
      by_cases hl : 255 < tx.size
      · rw [if_pos hl] at hx
        subst hx
        have hl' : (255 : Int) < (tx.size : Int) := by omega
        go_enter Tryd.func60, Tryd.ntmps60
        go_wp2_with (first
          | (go_at_call 59; refine (C.out _).mono ?_; rintro e w1 ⟨rfl, hw⟩; subst w1)
          | (go_at_call 74; refine (CZ.out _).mono ?_; rintro e w1 ⟨rfl, hw⟩; subst w1)
          | fail)
        go_ret
        exact ⟨rfl, HB⟩
      · rw [if_neg hl] at hx
        subst hx
        have hl' : ¬ (255 : Int) < (tx.size : Int) := by omega
        go_enter Tryd.func60, Tryd.ntmps60
        go_wp2_with (first
          | (go_at_call 59; refine (C.out _).mono ?_; rintro e w1 ⟨rfl, hw⟩; subst w1)
          | (go_at_call 74; refine (CZ.out _).mono ?_; rintro e w1 ⟨rfl, hw⟩; subst w1)
          | fail)
        go_ret
        exact ⟨rfl, HB⟩
    · rw [if_pos rfl] at hx
      subst hx
      go_enter Tryd.func60, Tryd.ntmps60
      go_wp2_with (first
        | (go_at_call 59; refine (C.out _).mono ?_; rintro e w1 ⟨rfl, hw⟩; subst w1)
        | (go_at_call 74; refine (CZ.out _).mono ?_; rintro e w1 ⟨rfl, hw⟩; subst w1)
        | fail)
      go_ret
      exact ⟨rfl, HB⟩
end Go.Proofs.YtdcppiknomoigaaDoor
