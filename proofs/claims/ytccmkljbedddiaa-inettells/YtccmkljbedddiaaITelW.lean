/-
  The walk of the statement InetTells.
-/
import Derived.Test.YtccmkljbedddiaaIBackM
namespace Go.Proofs.Ytccmkljbedddiaa
open Go.RowKit
set_option linter.all false

theorem encE_zero {h : Ip} {zs : List Int} (he : encE h zs = 0) : layB h = true ∧ zs.length ≤ 1480 := by
  unfold encE at he
  split at he
  · rename_i h1
    split at he
    · rename_i h2
      exact ⟨h1, h2⟩
    · omega
  · omega
theorem xor_turn (z : Int) (k : Nat) (h0 : 0 ≤ z) (h1 : z ≤ 255) (hk : k < 8) : bits BinOp.xor IntKind.u8 z (2 ^ k % 256) = ((z.toNat ^^^ 2 ^ k : Nat) : Int) := by
  have e : ((2 : Int) ^ k % 256) = ((2 ^ k : Nat) : Int) ∧ (2 : Nat) ^ k < 256 := by
    match k, hk with
    | 0, _ => decide
    | 1, _ => decide
    | 2, _ => decide
    | 3, _ => decide
    | 4, _ => decide
    | 5, _ => decide
    | 6, _ => decide
    | 7, _ => decide
  rw [e.1, u8_xor z _ h0 (by omega) (by omega) (by omega), Int.toNat_natCast]
set_option maxRecDepth 20000 in
set_option maxHeartbeats 2000000 in
theorem inetTells_walk (h : Ip) (pt : Part) (bit : Int) (w : World) (hok : h.ok) (ho : pt.ok w) (hz : pt.zs.length ≤ 140737488351232) (hbit : -9223372036854775808 ≤ bit ∧ bit ≤ 9223372036854775807) :
    Calls Try.prog 7 #[h.val, pt.val, .int .i64 bit] w fun e w' => e = .returned (.bool true) ∧ Below w.heap.size w w' := by
  by_cases hE : encE h pt.zs = 0
  · obtain ⟨hh, hl⟩ := encE_zero hE
    have E1 : Hid (∀ w', Below w.heap.size w w' → _) := fun w' hb => encode_ok h pt w' hok hh (Part.ok_below ho hb) hl
    obtain ⟨N, hN⟩ : ∃ N, 20 + pt.zs.length = N := ⟨_, rfl⟩
    have HLN : Hid ((encL h pt.zs).length = N) := by unfold Hid; rw [encL_len, hN]
    have HLB := hid (encL_bd h pt.zs ho.1)
    -- the bit's place
    have hA : ∃ A : Nat, Int.tmod (Int.tmod bit 160 + 160) 160 = (A : Int) ∧ A < 160 := by
      have h1 := Int.tmod_lt_of_pos bit (show (0 : Int) < 160 by omega)
      have h2 := Int.lt_tmod_of_pos bit (show (0 : Int) < 160 by omega)
      have h3 := Int.tmod_lt_of_pos (Int.tmod bit 160 + 160) (show (0 : Int) < 160 by omega)
      have h4 := Int.tmod_nonneg 160 (show 0 ≤ Int.tmod bit 160 + 160 by omega)
      exact ⟨(Int.tmod (Int.tmod bit 160 + 160) 160).toNat, by omega, by omega⟩
    have hT := Int.tmod_lt_of_pos bit (show (0 : Int) < 160 by omega)
    have hT2 := Int.lt_tmod_of_pos bit (show (0 : Int) < 160 by omega)
    obtain ⟨A, hA1, hA2⟩ := hA
    have hkw : IntKind.i64.wrap (Int.tmod bit 160 + 160) = Int.tmod bit 160 + 160 := by simp only [IntKind.wrap_i64]; omega
    have q1 : Int.tdiv (A : Int) 8 = ((A / 8 : Nat) : Int) := by rw [Int.tdiv_eq_ediv_of_nonneg (by omega)]; omega
    have q2 : Int.tmod (A : Int) 8 = ((A % 8 : Nat) : Int) := by rw [Int.tmod_eq_emod_of_nonneg (by omega)]; omega
    have HDC : Hid (∀ (g : Nat) (w' : World) (X : List Int), X.length = N → (∀ z, z ∈ X → 0 ≤ z ∧ z ≤ 255) → w'.heap[g]? = some (.cells (u8s X).toArray 5 (0, 0)) → Calls Try.prog 16 #[.slice (some ⟨g, 0, none⟩) N N] w' fun e w'' => ∃ p : Ip, ∃ a n c, e = .returned (.tuple #[p.val, .slice a n c, .int .i64 (decE X)]) ∧ Below w'.heap.size w' w'') := fun g w' X hX hXb hg => by
      have := decode_u ⟨some ⟨g, 0, none⟩, N, X⟩ w' (Part.of_row hg (by omega) hXb) (show X.length ≤ 281474976710656 by omega)
      simp only [Part.val, hX] at this
      exact this.mono fun e w'' ⟨a, n, c, he, an⟩ => ⟨_, a, n, c, he, an.2.2⟩
    have HTD := hid (told h pt.zs (A / 8) (A % 8) (by omega) (by omega) ho.1)
    have hJ : A / 8 < 20 := by omega
    have hKb : A % 8 < 8 := by omega
    generalize A / 8 = J at *
    generalize A % 8 = Kb at *
    have HN20 : Hid (20 ≤ N) := by unfold Hid; omega
    have hNJ : (J : Int) < (N : Int) := by omega
    have hN20 : ¬ (N : Int) < 20 := by omega
    have kKb : IntKind.u64.wrap (Kb : Int) = (Kb : Int) := by simp only [IntKind.wrap_u64]; omega
    rw [hN] at E1
    have HCJ : Hid (∀ (g : Nat) (w' : World), w'.heap[g]? = some (.cells (u8s (encL h pt.zs)).toArray 5 (0, 0)) → w'.cell? ⟨g, J, none⟩ = some (.int .u8 ((encL h pt.zs).getD J 0))) := fun g w' hg => by
      rw [cell_of_heap hg, u8s_at _ _ (by rw [HLN.out]; omega)]
    have hzb := getD_mem_bd HLB.out J
    clear hok ho hE hh
    obtain ⟨pa, pc, ps⟩ := pt
    simp only [Part.val] at *
    generalize encL h ps = L at *
    generalize hzj : L.getD J 0 = zj at *
    obtain ⟨XV, hXV⟩ : ∃ XV, ((zj.toNat ^^^ 2 ^ Kb : Nat) : Int) = XV := ⟨_, rfl⟩
    have hxr := xor_turn zj Kb hzb.1 hzb.2 hKb
    have hXB := (bit_turned zj.toNat (by omega) Kb hKb).1
    rw [hXV] at hxr HTD
    have HXB : Hid (0 ≤ XV ∧ XV ≤ 255) := by unfold Hid; omega
    clear hXV hXB
    generalize ps.length = l at *
    obtain ⟨ht, hi, hl', hp, hk, hs, hd⟩ := h
    simp only [Ip.val] at E1 ⊢
    go_enter Try.func7, Try.ntmps7
    go_wp2_with fail
    refine (awake_any _).mono ?_
    rintro e w1 ⟨rfl, hb1⟩
    have HF1 := hid (kept (heap_new w (.cells #[.int .i64 ht, .int .i64 hi, .int .i64 hl', .int .i64 hp, .bool hk, .int .u32 hs, .int .u32 hd] 27)) hb1)
    have HB1 := hid (bstep (bpush (Below.refl _ w) (.cells #[.int .i64 ht, .int .i64 hi, .int .i64 hl', .int .i64 hp, .bool hk, .int .u32 hs, .int .u32 hd] 27)) hb1)
    clear hb1
    have cc : ∀ q, w1.cell? ⟨w.heap.size, q, none⟩ = (#[.int .i64 ht, .int .i64 hi, .int .i64 hl', .int .i64 hp, .bool hk, .int .u32 hs, .int .u32 hd] : Array Value)[q]? := fun q => cell_of_heap HF1.out q
    go_wp2_with fail
    refine (E1.out _ HB1.out).mono ?_
    rintro e w2 ⟨gb, rfl, hgb, hg2, hb2⟩
    have HG2 := hid hg2
    have HB2 := hid (bstep HB1.out hb2)
    have hgb' : w.heap.size ≤ gb := by have := HB1.out.size; omega
    have cj := HCJ.out gb w2 hg2
    have fj : w2.frozen? ⟨gb, J, none⟩ = false := frozen_of_heap hg2 J
    clear hg2 hb2 cc HF1 HB1 hgb
    have HG3 : Hid ((w2.setCell ⟨gb, J, none⟩ (.int .u8 XV)).heap[gb]? = some (.cells (u8s (L.set J XV)).toArray 5 (0, 0))) := by
      have := heap_setCell (j := J) (v := .int .u8 XV) HG2.out
      rw [List.setIfInBounds_toArray] at this
      unfold Hid
      simpa [u8s, List.map_set] using this
    have HB3 : Hid (Below w.heap.size w (w2.setCell ⟨gb, J, none⟩ (.int .u8 XV))) := bbut HB2.out (But.setCell gb w2 J _) hgb'
    go_wp2_with fail
    refine (HDC.out gb _ (L.set J XV) (by rw [List.length_set, HLN.out]) (fun z hm => by
      rcases List.mem_or_eq_of_mem_set hm with hm | rfl
      · exact HLB.out z hm
      · exact HXB.out) HG3.out).mono ?_
    rintro e w4 ⟨⟨pt1, pt2, pt3, pt4, pt5, pt6, pt7⟩, a4, n4, c4, rfl, hb4⟩
    have HB4 := hid (bstep HB3.out hb4)
    clear hb4 HB3 HG3 cj fj HG2 HB2
    simp only [Ip.val]
    generalize decE (L.set J XV) = DE at *
    have qd : (DE != 0) = true := by have := HTD.out; simpa using this
    go_wp2
    go_ret
    exact ⟨by simp [qd], bpush HB4.out _⟩
  · have E1 : Hid (∀ w', Below w.heap.size w w' → _) := fun w' hb => encode_u h pt w' hok (Part.ok_below ho hb)
    clear hok ho
    obtain ⟨pa, pc, ps⟩ := pt
    simp only [Part.val] at *
    generalize encB h ps = L at *
    generalize encE h ps = EE at *
    generalize ps.length = l at *
    have qd : (EE != 0) = true := by simpa using hE
    obtain ⟨ht, hi, hl', hp, hk, hs, hd⟩ := h
    simp only [Ip.val] at E1 ⊢
    go_enter Try.func7, Try.ntmps7
    go_wp2_with fail
    refine (awake_any _).mono ?_
    rintro e w1 ⟨rfl, hb1⟩
    have HF1 := hid (kept (heap_new w (.cells #[.int .i64 ht, .int .i64 hi, .int .i64 hl', .int .i64 hp, .bool hk, .int .u32 hs, .int .u32 hd] 27)) hb1)
    have HB1 := hid (bstep (bpush (Below.refl _ w) (.cells #[.int .i64 ht, .int .i64 hi, .int .i64 hl', .int .i64 hp, .bool hk, .int .u32 hs, .int .u32 hd] 27)) hb1)
    clear hb1
    have cc : ∀ q, w1.cell? ⟨w.heap.size, q, none⟩ = (#[.int .i64 ht, .int .i64 hi, .int .i64 hl', .int .i64 hp, .bool hk, .int .u32 hs, .int .u32 hd] : Array Value)[q]? := fun q => cell_of_heap HF1.out q
    go_wp2_with fail
    refine (E1.out _ HB1.out).mono ?_
    rintro e w2 ⟨a2, n2, c2, rfl, an⟩
    have HB2 := hid (bstep HB1.out an.2.2)
    clear an cc HF1 HB1
    go_wp2
    go_ret
    exact ⟨by simp [qd], HB2.out⟩
end Go.Proofs.Ytccmkljbedddiaa
