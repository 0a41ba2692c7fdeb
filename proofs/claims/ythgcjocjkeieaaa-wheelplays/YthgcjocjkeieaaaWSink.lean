/-
  sink, of a wheel's heap.
-/
import Derived.Test.YthgcjocjkeieaaaWRise
namespace Go.Proofs.Ythgcjocjkeieaaa
open Go.RowKit
set_option linter.all false

/-- m is the least of i and the first k below it. -/
structure LeastK (f : Int → Int) (H : List Int) (i k m : Nat) : Prop where
  lt : m < H.length
  who : m = i ∨ (∃ t, t < k ∧ m = 2 * i + 1 + t ∧ ahead f (nth H m) (nth H i))
  all : ∀ t, t < k → 2 * i + 1 + t < H.length → ¬ ahead f (nth H (2 * i + 1 + t)) (nth H m)
theorem LeastK.start (f : Int → Int) (H : List Int) (i : Nat) (hi : i < H.length) : LeastK f H i 0 i := ⟨hi, Or.inl rfl, fun t ht => by omega⟩
theorem LeastK.stay {f : Int → Int} {H : List Int} {i k m : Nat} (h : LeastK f H i k m) (hn : 2 * i + 1 + k < H.length → ¬ ahead f (nth H (2 * i + 1 + k)) (nth H m)) : LeastK f H i (k + 1) m := by
  refine ⟨h.lt, ?_, fun t ht hl => ?_⟩
  · rcases h.who with h1 | ⟨t, h1, h2⟩
    · exact Or.inl h1
    · exact Or.inr ⟨t, by omega, h2⟩
  · by_cases e : t = k
    · subst e; exact hn hl
    · exact h.all t (by omega) hl
theorem LeastK.go {f : Int → Int} {H : List Int} {i k m : Nat} (h : LeastK f H i k m) (hl : 2 * i + 1 + k < H.length) (ha : ahead f (nth H (2 * i + 1 + k)) (nth H m)) : LeastK f H i (k + 1) (2 * i + 1 + k) := by
  refine ⟨hl, Or.inr ⟨k, by omega, rfl, ?_⟩, fun t ht hl' => ?_⟩
  · rcases h.who with h1 | ⟨t, h1, h2, h3⟩
    · subst h1; exact ha
    · exact ahead_trans ha h3
  · by_cases e : t = k
    · subst e; unfold ahead; omega
    · intro h4
      exact h.all t (by omega) hl' (ahead_trans h4 ha)
theorem LeastK.done {f : Int → Int} {H : List Int} {i m : Nat} (h : LeastK f H i 2 m) : Least f H i m := by
  refine ⟨?_, fun j h0 hl hp => ?_⟩
  · rcases h.who with h1 | ⟨t, h1, h2, h3⟩
    · exact Or.inl h1
    · exact Or.inr ⟨by omega, by omega, h.lt, h3⟩
  · obtain ⟨t, ht, rfl⟩ : ∃ t, t < 2 ∧ j = 2 * i + 1 + t := ⟨j - (2 * i + 1), by omega, by omega⟩
    exact h.all t ht hl
/-- how sinking stands. -/
structure SkI (f : Int → Int) (H : List Int) (i c : Nat) : Prop where
  lt : c < H.length
  loose : Loose f H c
  dn : c = i ∨ HeapDn f H c
theorem SkI.stop {f : Int → Int} {H : List Int} {i c : Nat} (h : SkI f H i c) (hm : Least f H c c) : HeapUp f H i := by
  rcases h.dn with rfl | h1
  · exact sink_stop h.loose hm
  · exact (dn_stop h1 hm).up i
theorem SkI.next {f : Int → Int} {H : List Int} {i c m : Nat} (h : SkI f H i c) (hm : Least f H c m) (hl : m < H.length) (hne : m ≠ c) : SkI f (swp H c m) i m := by
  have := sink_go h.loose h.lt hm hne
  exact ⟨by rw [swp_len]; exact hl, this.loose, Or.inr this⟩
theorem two0 (u v : Int) (w : World) : (Instr.index 79 (.agg #[.int .i64 u, .int .i64 v]) (.int .i64 0)).run Try.prog w = .ok (.int .i64 u) w := by kernel_rfl
theorem two1 (u v : Int) (w : World) : (Instr.index 79 (.agg #[.int .i64 u, .int .i64 v]) (.int .i64 1)).run Try.prog w = .ok (.int .i64 v) w := by kernel_rfl
set_option maxHeartbeats 4000000 in
theorem sink_any (b m : Nat) (now last : Int) (T : List Tm) (V : Nat → Value) (R : Nat → List Int) (H0 : List Int) (i0 : Nat) (hi : i0 < H0.length) (hu : Loose (keyT T) H0 i0) (hf : ∀ a ∈ R 256, fits a) (hlen : (R 256).length ≤ 1048576) (w0 w : World) (x : HpI w0 b m now last T V R H0 w) :
    Calls Try.prog 48 #[.pointer (some ⟨b, 259, none⟩), .int .i64 i0] w fun e w' => e = .returned (.tuple #[]) ∧ ∃ H, Hid (HpI w0 b m now last T V R H w') ∧ Hid (HeapUp (keyT T) H i0 ∧ i0 < H.length) := by
  have HX := hid x
  have HU : Hid (SkI (keyT T) H0 i0 i0) := ⟨hi, hu, Or.inl rfl⟩
  have HF := hid hf
  have HN := hid hlen
  have HL0 : Hid (H0.length = (R 256).length) := x.perm.length_eq
  have HI0 : Hid (i0 < (R 256).length) := by have := HL0.out; unfold Hid; omega
  clear x hu hi hf hlen
  go_enter Try.func48, Try.ntmps48
  go_wp2
  go_loopw [1, 4, 6] (fun v _ _ wr => ∃ (i : Nat) (H : List Int), v = .int .i64 i ∧ Hid (SkI (keyT T) H i0 i) ∧ Hid (HpI w0 b m now last T V R H wr)) (fun v _ _ _ => (R 256).length - (intOf v).toNat)
  case atStart => exact ⟨i0, H0, rfl, HU, HX⟩
  case round =>
    clear HX HU HL0
    obtain ⟨i, H, rfl, HU, HX⟩ := hrel
    have hil := HU.out.lt
    have hHl : H.length = (R 256).length := HX.out.perm.length_eq
    have hlen := HN.out
    have hib : (i : Int) ≤ 1048576 := by omega
    have HHL := hid hHl
    have HNN : Hid (H.length ≤ 1048576) := by unfold Hid; omega
    clear hHl hlen HN
    obtain ⟨B0, hB0⟩ : ∃ B, B = 2 * i + 1 := ⟨_, rfl⟩
    obtain ⟨B1, hB1⟩ : ∃ B, B = 2 * i + 2 := ⟨_, rfl⟩
    have HB0 := hid hB0
    have HB1 := hid hB1
    clear hB0 hB1
    go_wp2
    rw [show (2 * (i : Int) + 1) = B0 from by have := HB0.out; omega, show (2 * (i : Int) + 2) = B1 from by have := HB1.out; omega]
    go_loopw [4, 6, 15] (fun v _ kv wr => ∃ (k l : Nat), v = .int .i64 l ∧ kv = .int .i64 k ∧ Hid (k ≤ 2) ∧ Hid (LeastK (keyT T) H i k l) ∧ Hid (HpI w0 b m now last T V R H wr)) (fun _ _ kv _ => 2 - (intOf kv).toNat)
    case atStart => exact ⟨0, i, rfl, rfl, by unfold Hid; omega, LeastK.start _ _ _ hil, HX⟩
    case round =>
      clear HX
      obtain ⟨k, l, rfl, rfl, HK, HLK, HX⟩ := hrel
      have hk2 := HK.out
      have hlm := HLK.out.lt
      obtain ⟨g, cap, hC⟩ := HX.out.cells (by omega)
      have c1 := hC.first
      unfold firstV at c1
      have c2 := hC.ids
      have hmx := hC.max
      have HCA := hid hC.at_
      clear hC
      have t0 := two0
      have t1 := two1
      by_cases hk : k < 2
      · obtain ⟨B, hB⟩ : ∃ B, B = 2 * i + 1 + k := ⟨_, rfl⟩
        have HBB := hid hB
        have hbi : (B : Int) = 2 * i + 1 + k := by omega
        by_cases hbl : B < H.length
        · have hbl2 : (B : Int) < H.length := by omega
          have hll2 : (l : Int) < H.length := by omega
          have c3 := HCA.out B hbl
          have c4 := HCA.out l hlm
          have HB := hid (fun n => HX.out.bef HF.out hbl hlm n)
          have HX3 := hid (fun n => HX.out.drewN n)
          by_cases ha : ahead (keyT T) (nth H B) (nth H l)
          · have hd : decide (ahead (keyT T) (nth H B) (nth H l)) = true := by simp [ha]
            rw [hd] at HB
            have HLK2 : Hid (LeastK (keyT T) H i (k + 1) B) := by
              have := HLK.out.go (by rw [← HBB.out]; exact hbl) (by rw [← HBB.out]; exact ha)
              rw [← HBB.out] at this; exact this
            clear hd ha HX HLK HF HCA HU HBB HHL HI0 hlm hil
            generalize nth H B = y at *
            generalize nth H l = z at *
            obtain ⟨rfl, rfl⟩ | ⟨rfl, rfl⟩ : (k = 0 ∧ B = B0) ∨ (k = 1 ∧ B = B1) := by have := HB0.out; have := HB1.out; omega
            all_goals
              clear hB hbi HB0 HB1 hk hk2 hib
              go_wp2_with fail
              skip
              go_quiet (first | (go_at_call 20; refine Calls.quiet_of (HB.out _)))
              go_wp2_with fail
              go_roundw
              case rel => first | exact ⟨1, B, rfl, rfl, by unfold Hid; omega, HLK2, HX3.out _⟩ | exact ⟨2, B, rfl, rfl, by unfold Hid; omega, HLK2, HX3.out _⟩ | fail
              case measure => simp [intOf]
          · have hd : decide (ahead (keyT T) (nth H B) (nth H l)) = false := by simp [ha]
            rw [hd] at HB
            have HLK2 : Hid (LeastK (keyT T) H i (k + 1) l) := HLK.out.stay (fun _ => by rw [← HBB.out]; exact ha)
            clear hd ha HX HLK HF HCA HU HBB HHL HI0 hlm hil
            generalize nth H B = y at *
            generalize nth H l = z at *
            obtain ⟨rfl, rfl⟩ | ⟨rfl, rfl⟩ : (k = 0 ∧ B = B0) ∨ (k = 1 ∧ B = B1) := by have := HB0.out; have := HB1.out; omega
            all_goals
              clear hB hbi HB0 HB1 hk hk2 hib
              go_wp2_with fail
              skip
              go_quiet (first | (go_at_call 20; refine Calls.quiet_of (HB.out _)))
              go_wp2_with fail
              go_roundw
              case rel => first | exact ⟨1, l, rfl, rfl, by unfold Hid; omega, HLK2, HX3.out _⟩ | exact ⟨2, l, rfl, rfl, by unfold Hid; omega, HLK2, HX3.out _⟩ | fail
              case measure => simp [intOf]
        · have hbl2 : ¬ (B : Int) < H.length := by omega
          have hbl3 : decide ((B : Int) < H.length) = false := by simp; omega
          have hbl4 : decide (B < H.length) = false := by simp; omega
          have HX3 := hid (fun n => HX.out.drewN n)
          have HLK2 : Hid (LeastK (keyT T) H i (k + 1) l) := HLK.out.stay (fun h => absurd (show B < H.length from by rw [HBB.out]; exact h) hbl)
          clear HX HLK HF HCA HU HBB HHL HI0 hlm hil
          obtain ⟨rfl, rfl⟩ | ⟨rfl, rfl⟩ : (k = 0 ∧ B = B0) ∨ (k = 1 ∧ B = B1) := by have := HB0.out; have := HB1.out; omega
          all_goals
            clear hB hbi HB0 HB1 hk hk2 hib
            go_wp2_with fail
            go_quiet (fail)
            go_wp2_with fail
            go_roundw
            case rel => first | exact ⟨1, l, rfl, rfl, by unfold Hid; omega, HLK2, HX3.out _⟩ | exact ⟨2, l, rfl, rfl, by unfold Hid; omega, HLK2, HX3.out _⟩ | fail
            case measure => simp [intOf]
      · have hke : k = 2 := by omega
        subst hke
        have HD := hid HLK.out.done
        have hlR : l < (R 256).length := by have := HHL.out; omega
        by_cases hli : l = i
        · subst hli
          have HE : Hid (HeapUp (keyT T) H i0 ∧ i0 < H.length) := ⟨HU.out.stop HD.out, by have := HI0.out; have := HHL.out; omega⟩
          clear HU HD HLK HHL HI0 HCA hlR
          go_wp2
          exact bodyPost_ret (v := .tuple #[]) (by simp [results, Try.results48, go_sem]) rfl ⟨rfl, H, HX, HE⟩
        · have HS := hid (HX.out.swap hil hlm (fun e => hli e.symm))
          have HU2 := hid (HU.out.next HD.out hlm hli)
          have hgt : i < l := by
            rcases HLK.out.who with h | ⟨t, h1, h2, _⟩
            · exact absurd h hli
            · omega
          have hli2 : ¬ (l : Int) = i := by omega
          clear HU HD HLK HHL HI0 HCA HX HF hlm hil c1 c2
          generalize swp H i l = H' at *
          go_wp2_with (first | (go_at_call 47; refine HS.out.mono ?_; rintro e w' ⟨rfl, HX2⟩) | fail)
          go_roundw
          case rel => exact ⟨l, H', rfl, HU2, HX2⟩
          case measure => simp [intOf]; omega
end Go.Proofs.Ythgcjocjkeieaaa
