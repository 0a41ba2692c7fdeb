/-
  The walk of the statement DigestWrites.
-/
import Derived.Test.YtlephdpplfpliaaDWr2
import Derived.Deep.DeepCutAuto
namespace Go.Proofs.Ytlephdpplfpliaa
open Go.RowKit
set_option linter.all false

theorem DW.init {w w2 : World} (hb : Below w.heap.size w w2) (xs : List OpR) : WI w ((((((((w2.alloc (.cells hsI.cells.toArray 51)).alloc (.cells hsI.cells.toArray 51)).alloc (.cells #[.pointer (some ⟨w2.heap.size, 0, none⟩), .pointer (some ⟨w2.heap.size + 1, 0, none⟩)] 31)).alloc (.cells (u32s iv.l).toArray 47)).alloc (.cells #[.slice (some ⟨w2.heap.size + 1 + 1 + 1, 0, none⟩) 8 8, .slice none 0 0, .int .i64 0] 45)).alloc (.cells (u32s iv.l).toArray 47)).alloc (.cells #[.slice (some ⟨w2.heap.size + 1 + 1 + 1 + 1 + 1, 0, none⟩) 8 8, .slice none 0 0, .int .i64 0] 45)).alloc (.cells #[.pointer (some ⟨w2.heap.size + 1 + 1 + 1 + 1, 0, none⟩), .pointer (some ⟨w2.heap.size + 1 + 1 + 1 + 1 + 1 + 1, 0, none⟩)] 34)) (w2.heap.size + 1 + 1) (w2.heap.size + 1 + 1 + 1 + 1 + 1 + 1 + 1) xs 0 := by
  have HH := ((((((((Holds.nil w2).push (.cells hsI.cells.toArray 51)).push (.cells hsI.cells.toArray 51)).push (.cells #[.pointer (some ⟨w2.heap.size, 0, none⟩), .pointer (some ⟨w2.heap.size + 1, 0, none⟩)] 31)).push (.cells (u32s iv.l).toArray 47)).push (.cells #[.slice (some ⟨w2.heap.size + 1 + 1 + 1, 0, none⟩) 8 8, .slice none 0 0, .int .i64 0] 45)).push (.cells (u32s iv.l).toArray 47)).push (.cells #[.slice (some ⟨w2.heap.size + 1 + 1 + 1 + 1 + 1, 0, none⟩) 8 8, .slice none 0 0, .int .i64 0] 45)).push (.cells #[.pointer (some ⟨w2.heap.size + 1 + 1 + 1 + 1, 0, none⟩), .pointer (some ⟨w2.heap.size + 1 + 1 + 1 + 1 + 1 + 1, 0, none⟩)] 34)
  have hB := bpush (bpush (bpush (bpush (bpush (bpush (bpush (bpush hb (.cells hsI.cells.toArray 51)) (.cells hsI.cells.toArray 51)) (.cells #[.pointer (some ⟨w2.heap.size, 0, none⟩), .pointer (some ⟨w2.heap.size + 1, 0, none⟩)] 31)) (.cells (u32s iv.l).toArray 47)) (.cells #[.slice (some ⟨w2.heap.size + 1 + 1 + 1, 0, none⟩) 8 8, .slice none 0 0, .int .i64 0] 45)) (.cells (u32s iv.l).toArray 47)) (.cells #[.slice (some ⟨w2.heap.size + 1 + 1 + 1 + 1 + 1, 0, none⟩) 8 8, .slice none 0 0, .int .i64 0] 45)) (.cells #[.pointer (some ⟨w2.heap.size + 1 + 1 + 1 + 1, 0, none⟩), .pointer (some ⟨w2.heap.size + 1 + 1 + 1 + 1 + 1 + 1, 0, none⟩)] 34)
  have hs := hb.size
  simp only [World.size_alloc] at HH
  generalize ((((((((w2.alloc (.cells hsI.cells.toArray 51)).alloc (.cells hsI.cells.toArray 51)).alloc (.cells #[.pointer (some ⟨w2.heap.size, 0, none⟩), .pointer (some ⟨w2.heap.size + 1, 0, none⟩)] 31)).alloc (.cells (u32s iv.l).toArray 47)).alloc (.cells #[.slice (some ⟨w2.heap.size + 1 + 1 + 1, 0, none⟩) 8 8, .slice none 0 0, .int .i64 0] 45)).alloc (.cells (u32s iv.l).toArray 47)).alloc (.cells #[.slice (some ⟨w2.heap.size + 1 + 1 + 1 + 1 + 1, 0, none⟩) 8 8, .slice none 0 0, .int .i64 0] 45)).alloc (.cells #[.pointer (some ⟨w2.heap.size + 1 + 1 + 1 + 1, 0, none⟩), .pointer (some ⟨w2.heap.size + 1 + 1 + 1 + 1 + 1 + 1, 0, none⟩)] 34)) = W at HH hB ⊢
  have words : ∀ g, W.heap[g]? = some (.cells (u32s iv.l).toArray 47 (0, 0)) → Bk.Row W 47 (.slice (some ⟨g, 0, none⟩) 8 8) (u32s hsI.st.l) := fun g hg => by
    have := Bk.Row.of_heap (vs := u32s iv.l) (w := W) hg (by rw [u32s_len, l_len]; unfold maxLen; omega)
    rw [u32s_len, l_len] at this
    exact this
  have nil : Bk.Row W 5 (.slice none 0 0) (u8s hsI.rest) := by
    have e : hsI.rest = [] := rfl
    rw [e]
    exact Bk.Row.nil _ _
  refine ⟨fun i => if i = 0 then ⟨w2.heap.size, w2.heap.size + 1 + 1 + 1 + 1, w2.heap.size + 1 + 1 + 1, 8, .slice none 0 0, hsI, hsI⟩ else ⟨w2.heap.size + 1, w2.heap.size + 1 + 1 + 1 + 1 + 1 + 1, w2.heap.size + 1 + 1 + 1 + 1 + 1, 8, .slice none 0 0, hsI, hsI⟩, ⟨HH.at 5 _ _ rfl, HH.at 0 _ _ rfl, fun k hk => ?_, fun k hk => ?_, fun k hk => ?_, fun i j hi hj hij => ?_, ⟨by omega, by omega, fun k hk => ?_⟩, hB⟩, fun k hk => ?_⟩
  · match k, hk with
    | 0, _ => exact HH.at 7 _ _ rfl
    | 1, _ => exact HH.at 6 _ _ rfl
  · match k, hk with
    | 0, _ => exact ⟨HH.at 3 _ _ rfl, words _ (HH.at 4 _ _ rfl), nil, hsI_ok⟩
    | 1, _ => exact ⟨HH.at 1 _ _ rfl, words _ (HH.at 2 _ _ rfl), nil, hsI_ok⟩
  · match k, hk with
    | 0, _ => exact hsI_ok
    | 1, _ => exact hsI_ok
  · have : (i = 0 ∧ j = 1) ∨ (i = 1 ∧ j = 0) := by omega
    rcases this with ⟨rfl, rfl⟩ | ⟨rfl, rfl⟩
    · exact ⟨by simp <;> omega, by simp <;> omega, by simp [Value.ownBlock]⟩
    · exact ⟨by simp <;> omega, by simp <;> omega, by simp [Value.ownBlock]⟩
  · match k, hk with
    | 0, _ => exact ⟨by simp; omega, by simp; omega, by simp [Value.ownBlock]⟩
    | 1, _ => exact ⟨by simp; omega, by simp; omega, by simp [Value.ownBlock]⟩
  · match k, hk with
    | 0, _ => exact ⟨rfl, Nat.zero_le _⟩
    | 1, _ => exact ⟨rfl, Nat.zero_le _⟩
/-- what is known at the head of the loop's round. -/
structure Rd (wr : World) (gh gx p q j : Nat) : Prop where
  c1 : wr.cell? ⟨gh, j, none⟩ = some (.pointer (some ⟨p, 0, none⟩))
  c2 : wr.cell? ⟨gx, j, none⟩ = some (.pointer (some ⟨q, 0, none⟩))
  f1 : wr.frozen? ⟨gh, j, none⟩ = false
  f2 : wr.frozen? ⟨gx, j, none⟩ = false
  l1 : gh < wr.heap.size
  l2 : gx < wr.heap.size
theorem DW.rd {w wr : World} {gh gx : Nat} {s : Nat → Sl} (h : DW w wr gh gx s) (j : Nat) (hj : j < 2) : Rd wr gh gx (s j).p (s j).q j :=
  ⟨h.ptrH j hj, h.ptrX j hj, Bk.frozen_of_heap h.ah j, Bk.frozen_of_heap h.ax j, heap_lt' h.ah, heap_lt' h.ax⟩
theorem WI.below {w wr w' : World} {gh gx : Nat} {xs : List OpR} {k : Nat} (h : WI w wr gh gx xs k) (hb : Below wr.heap.size wr w') : WI w w' gh gx xs k := by
  obtain ⟨s, hD, hE⟩ := h.ex
  exact ⟨s, hD.below hb, hE⟩
set_option maxRecDepth 20000 in
set_option maxHeartbeats 4000000 in
theorem writes_in (xs : List OpR) (a : Option Addr) (cc : Nat) (w : World) (hops : OpsAt w a xs) (hs : xs.length * 40 ≤ 140737488351232 ∧ ∀ i, i < xs.length → (xs.getD i OpR.nil).pt.zs.length ≤ 140737488351232) (hbk : bulk (opParts xs) ≤ 2147483647) :
    Calls Try.prog 4 #[.slice a xs.length cc] w fun e w' => e = .returned (.bool true) ∧ Below w.heap.size w w' := by
  have K1 : ∀ w1, Below w.heap.size w w1 → Calls Try.prog 11 #[.slice a xs.length cc] w1 fun e w' => e = .returned (.bool false) ∧ Below w1.heap.size w1 w' := fun w1 hb => by
    have := beyond_any a cc xs w1 (fun j hj => by
      obtain ⟨b, o, ha, e1, e2, e3, ok⟩ := hops j hj
      exact ⟨b, o, ha, by rw [hb.cell (World.block_lt_of_cell? w _ e1), e1], by rw [hb.cell (World.block_lt_of_cell? w _ e2), e2], by rw [hb.cell (World.block_lt_of_cell? w _ e3), e3], ok.1, ok.2.1, Part.ok_below ok.2.2 hb⟩) (fun i hi => by have := hs.2 i hi; omega) (by omega)
    rw [decide_eq_false (by omega)] at this
    exact this
  have hwi := bulk_within (opParts xs) hbk
  have HFL : Hid (∀ k, k < xs.length → (flat ((opParts xs).take k)).length + (xs.getD k OpR.nil).pt.zs.length ≤ 2147483647) := fun k hk => by
    have h1 := flat_len (opParts xs) k (by simpa [opParts] using hk)
    rw [opParts_getD] at h1
    omega
  have HFA : Hid ((flat ((opParts xs).take xs.length)).length ≤ 2147483647) := by
    unfold Hid
    rw [List.take_of_length_le (by simp [opParts])]
    omega
  have HOPS := Bk.hid hops
  have hn : xs.length ≤ 3518437208780 := by omega
  obtain ⟨N, hN⟩ : ∃ N, N = xs.length := ⟨_, rfl⟩
  have HN := Bk.hid hN
  rw [← hN] at hn K1 HFA ⊢
  replace K1 := Bk.hid K1
  clear hops hs hbk hwi hN
  go_enter Try.func4, Try.ntmps4
  go_wp2_with fail
  refine (live_any _).mono ?_
  rintro e w1 ⟨rfl, hb1⟩
  have HB1 : Hid (Below w.heap.size w w1) := hb1
  clear hb1
  go_wp2_with fail
  refine (K1.out w1 HB1.out).mono ?_
  rintro e w2 ⟨rfl, hb2⟩
  have HWI := Bk.hid (DW.init (bstep HB1.out hb2) xs)
  clear hb2 HB1 K1
  go_wp2_with (first
    | (go_at_call 12; refine (new_any _).mono ?_; rintro en w' ⟨rfl, rfl⟩)
    | (go_at_call 13; refine (refNew_any _).mono ?_; rintro en w' ⟨rfl, rfl⟩))
  go_loopw [7] (fun i wr => ∃ k : Nat, k ≤ N ∧ i = .int .i64 k ∧ Hid (WI w wr (w2.heap.size + 1 + 1) (w2.heap.size + 1 + 1 + 1 + 1 + 1 + 1 + 1) xs k)) (fun i _ => N - (intOf i).toNat)
  case atStart => exact ⟨0, Nat.zero_le _, rfl, HWI⟩
  case round =>
    clear HWI
    obtain ⟨k, hk, rfl, HI⟩ := hrel
    generalize w2.heap.size + 1 + 1 + 1 + 1 + 1 + 1 + 1 = gx at *
    generalize w2.heap.size + 1 + 1 = gh at *
    by_cases hlt : k < N
    · have hlt2 : (k : Int) < N := by omega
      have hkp : k < xs.length := by rw [← HN.out]; exact hlt
      obtain ⟨s, hD, hE⟩ := HI.out.ex
      obtain ⟨b, o, ha, e1, e2, e3, ok⟩ := HOPS.out k hkp
      have hfl := HFL.out k hkp
      subst ha
      obtain ⟨j, hj, hand⟩ := and_one (xs.getD k OpR.nil).i
      have hnj := (hE j hj).2
      have hW := fun w5 (h : DW w w5 gh gx (setX s j (absorb (s j).X (xs.getD k OpR.nil).pt.zs))) => WI.write hkp hj hE h ok.2.2 (by omega) _ _ _ rfl
      have hokw := ok.2.2
      generalize xs.getD k OpR.nil = qq at *
      obtain ⟨kd, ki, pa, pc, zs⟩ := qq
      simp only at hfl e1 e2 e3 hand hW hokw
      simp only [Part.val] at e3 hW
      have HD := Bk.hid hD
      have HE := Bk.hid (hE j hj)
      have HEA := Bk.hid hE
      have HOK := Bk.hid hokw
      have HW := Bk.hid hW
      replace e1 : wr.cell? _ = _ := (hD.bel.cell (World.block_lt_of_cell? w _ e1)).trans e1
      replace e2 : wr.cell? _ = _ := (hD.bel.cell (World.block_lt_of_cell? w _ e2)).trans e2
      replace e3 : wr.cell? _ = _ := (hD.bel.cell (World.block_lt_of_cell? w _ e3)).trans e3
      obtain ⟨c1, c2, f1, f2, l1, l2⟩ := hD.rd j hj
      have hj2 : (j : Int) < 2 := by omega
      have HNJ := Bk.hid hnj
      have HFL2 := Bk.hid hfl
      clear hD hE ok hW hokw hnj hfl
      obtain ⟨l, hl⟩ : ∃ l, l = zs.length := ⟨_, rfl⟩
      have HLZ := Bk.hid hl
      rw [← hl] at e3 HW
      clear hl
      by_cases k1 : kd = 1
      · subst k1
        have BA : Below wr.heap.size wr ((wr.alloc (.cells #[.int .i64 1, .int .i64 ki, .slice pa l pc] 39)).alloc (.cells #[.slice pa l pc] 37)) := bpush (bpush (Below.refl _ _) _) _
        have HOa : ((wr.alloc (.cells #[.int .i64 1, .int .i64 ki, .slice pa l pc] 39)).alloc (.cells #[.slice pa l pc] 37)).heap[wr.heap.size]? = some (.cells #[.int .i64 1, .int .i64 ki, .slice pa l pc] 39) := heap_alloc2_old wr _ _
        have HLa : ((wr.alloc (.cells #[.int .i64 1, .int .i64 ki, .slice pa l pc] 39)).alloc (.cells #[.slice pa l pc] 37)).heap[wr.heap.size + 1]? = some (.cells #[.slice pa l pc] 37) := heap_alloc2_new wr _ _
        replace BA := Bk.hid BA
        replace HOa := Bk.hid HOa
        replace HLa := Bk.hid HLa
        go_wp2_with fail
        generalize (wr.alloc (.cells #[.int .i64 1, .int .i64 ki, .slice pa l pc] 39)).alloc (.cells #[.slice pa l pc] 37) = wa at BA HOa HLa ⊢
        have hval : (Part.val ⟨pa, pc, zs⟩) = .slice pa l pc := by simp [Part.val, HLZ.out]
        have okA : Part.ok wa ⟨pa, pc, zs⟩ := Part.ok_below (Part.ok_below HOK.out HD.out.bel) BA.out
        have hzl : zs.length ≤ 2147483647 := by have := HFL2.out; omega
        refine (lent1 wa (wr.heap.size + 1) ⟨pa, pc, zs⟩ (by rw [hval]; exact HLa.out) okA hzl).mono ?_
        rintro e w3 ⟨gv, vc, g0, c0, rfl, hL⟩
        have hDa := HD.out.below BA.out
        have hc := lent1_cell hL
        rw [show (Part.mk pa pc zs).zs.length = l from HLZ.out.symm] at hc
        have hwr : ∀ wz, Below w3.heap.size w3 wz → Calls Try.prog 14 #[.pointer (some ⟨(s j).p, 0, none⟩), .slice (some ⟨g0, 0, none⟩) l c0] wz fun e w4 => e = .returned (.tuple #[]) ∧ w4.heap[(s j).p]? = some (.cells (absorb (s j).X zs).cells.toArray 51 (0, 0)) ∧ But (s j).p w3 w4 := fun wz hz =>
          (writeL (hL.below hz) okA (hDa.hp j hj) (hDa.okX j hj) (by have h1 := HNJ.out; have h2 := HFL2.out; show _ + zs.length ≤ _; omega) l HLZ.out).mono fun e w4 ⟨h1, h2, h3⟩ => ⟨h1, h2, (But.of_below hz).trans h3⟩
        have hD3 := hDa.below hL.bel
        have ho3 := (hL.bel.block _ (heap_lt' HOa.out)).trans HOa.out
        have o2 : w3.cell? ⟨wr.heap.size, 2, none⟩ = some (.slice pa l pc) := by rw [Bk.cell_of_heap ho3]; rfl
        have hopn : wr.heap.size ≠ (s j).p := apart HOa.out (hDa.hp j hj) (by decide)
        have hva := hval
        have HKP := Bk.hid (fun w4 (hB : But (s j).p w3 w4) => kept1 hL HOK.out hDa.bel (hDa.lo.2.2 j hj).1 (hDa.hp j hj) hB hzl none pa l pc hval)
        have HDA := Bk.hid hDa
        have HD3 := Bk.hid hD3
        have HWR := Bk.hid hwr
        have HO3 := Bk.hid ho3
        have HOKZ : Hid (absorb (s j).X zs).ok := absorb_ok _ _ (hDa.okX j hj) HOK.out.1
        clear c1 c2 f1 f2 l1 l2 e1 e2 e3 hL hDa hD3 hwr ho3 hval hva okA hzl HLa
        obtain ⟨c1, c2, f1, f2, l1, l2⟩ := HD3.out.rd j hj
        generalize wr.heap.size = go at *
        go_wp2_with fail
        go_region_with (first | (go_at_call 14; refine (HWR.out _ (by first | exact Below.refl _ _ | exact (Below.refl _ _).drew)).mono ?_; rintro e w4 ⟨rfl, hp4, hB4⟩; have HP4 := Bk.hid hp4; have HK := Bk.hid (HKP.out w4 hB4); have ho4 := (hB4.block _ hopn (heap_lt' HO3.out)).trans HO3.out; have o4 : w4.cell? ⟨go, 2, none⟩ = some (.slice pa l pc) := (by rw [Bk.cell_of_heap ho4]; rfl); have lo : go < w4.heap.size := heap_lt' ho4; clear hp4 hB4 ho4 HKP o2 c1 c2 f1 f2 l1 l2 hc))
        all_goals
          go_wp2_with fail
          refine HK.out.mono ?_
          rintro e w5 ⟨rfl, hB5, hp5⟩
          have hD5 := HDA.out.putX hj hB5 (hp5.trans HP4.out) HOKZ.out
          have ho5 := (hB5.block _ hopn (heap_lt' HOa.out)).trans HOa.out
          have HW5 := Bk.hid (fun wz (hz : Below w5.heap.size w5 wz) => HW.out wz (hD5.below hz))
          clear o4 lo hB5 hp5 HK
          have o2 : w5.cell? ⟨go, 2, none⟩ = some (.slice pa l pc) := by rw [Bk.cell_of_heap ho5]; rfl
          obtain ⟨c1, c2, f1, f2, l1, l2⟩ := hD5.rd j hj
          replace c2 : w5.cell? ⟨gx, j, none⟩ = some (.pointer (some ⟨(s j).q, 0, none⟩)) := c2
          clear hD5 ho5 c1 f1
          go_wp2_with fail
          go_region_with (first | (go_at_call 15; refine (HW5.out _ (by first | exact Below.refl _ _ | exact (Below.refl _ _).drew)).mono ?_; rintro e w6 ⟨rfl, HI2⟩))
          all_goals
            try go_wp2_with fail
            go_roundw
            case rel => exact ⟨k + 1, by omega, by go_num, HI2⟩
            case measure => simp [intOf]; omega
      · by_cases k2 : kd = 2
        · subst k2
          have HBO : Hid (Below wr.heap.size wr (wr.alloc (.cells #[.int .i64 2, .int .i64 ki, .slice pa l pc] 39))) := bpush (Below.refl _ _) _
          have hDo := HD.out.below HBO.out
          have HS1 := Bk.hid (hsum_any (s j).p (s j).X (wr.alloc (.cells #[.int .i64 2, .int .i64 ki, .slice pa l pc] 39)) (hDo.okX j hj) (hDo.hp j hj) (by have h1 := HNJ.out; have h2 := HFL2.out; omega))
          have HDO := Bk.hid hDo
          have HBD : Hid ((sumL (s j).X).length = 32 ∧ ∀ z, z ∈ sumL (s j).X → 0 ≤ z ∧ z ≤ 255) := ⟨rfl, sumL_bd _ (hDo.okX j hj) (by have h1 := HNJ.out; have h2 := HFL2.out; omega)⟩
          clear hDo
          go_wp2_with fail
          refine HS1.out.mono ?_
          rintro e w3 ⟨rfl, hb3⟩
          have HS2 : Hid (∀ wz, DW w wz gh gx s → Calls Try.prog 17 #[.pointer (some ⟨(s j).q, 0, none⟩)] wz fun e w' => e = .returned (.agg (u8s (sumL (s j).X)).toArray) ∧ Below wz.heap.size wz w') := fun wz hz => by
            rw [HE.out.1]
            exact refHsum_any (s j).q (s j).Y _ _ _ wz (hz.hq j hj) (by rw [← HE.out.1]; have h1 := HNJ.out; have h2 := HFL2.out; omega)
          generalize sumL (s j).X = S at *
          have hlS : (u8s S).length = 32 := by rw [u8s_len, HBD.out.1]
          have hsS := store_new 26 (u8s S) 32 size32 hlS (u8s_one S)
          have eS : ∀ w, (Op.equalIn 10000 26 (.agg (u8s S).toArray) (.agg (u8s S).toArray)).run Try.prog w = .ok true w := fun w => by
            rw [dig_eq S S HBD.out.1 HBD.out.1 HBD.out.2 HBD.out.2, decide_eq_true rfl]
          have hzl := z32_len
          have hD4 := (HDO.out.below hb3).below (bpush (Below.refl _ _) (.cells (u8s S).toArray 26))
          have HB4 : Hid (Below wr.heap.size wr (w3.alloc (.cells (u8s S).toArray 26))) := bpush (bstep HBO.out hb3) _
          have HH4 : Hid (Holds (w3.alloc (.cells (u8s S).toArray 26)) _) := (Holds.nil w3).push (.cells (u8s S).toArray 26)
          have HD4 := Bk.hid hD4
          clear c1 c2 f1 f2 l1 l2 e1 e2 e3 hb3 HS1
          obtain ⟨c1, c2, f1, f2, l1, l2⟩ := hD4.rd j hj
          clear hD4 f1 f2
          go_wp2_with (first
            | (refine wpList_alloc_to rfl 26 rfl (u8s z32).toArray (by kernel_rfl) ?_))
          refine (HS2.out _ HD4.out).mono ?_
          rintro e w5 ⟨rfl, hb5⟩
          have HB5 : Hid (Below wr.heap.size wr (w5.alloc (.cells (u8s S).toArray 26))) := bpush (bstep HB4.out hb5) _
          have HH5 : Hid (Holds (w5.alloc (.cells (u8s S).toArray 26)) _) := (HH4.out.below hb5).push (.cells (u8s S).toArray 26)
          clear hb5 HB4 HH4 HD4 c1 c2 l1 l2
          generalize w3.heap.size = g3 at *
          go_wp2_with (first
            | (refine wpList_alloc_to rfl 26 rfl (u8s z32).toArray (by kernel_rfl) ?_)
            | (refine wpList_load_w (by rfl) 26 _ rfl w5.heap.size rfl 26 (u8s S).toArray (0, 0) _ (HH5.out.at 0 _ _ rfl) Try.underlying26 rfl (by rw [size32]; simp [hlS]) ?_)
            | (refine wpList_load_w (by rfl) 26 _ rfl g3 rfl 26 (u8s S).toArray (0, 0) _ (HH5.out.at 1 _ _ rfl) Try.underlying26 rfl (by rw [size32]; simp [hlS]) ?_))
          go_roundw
          case rel => exact ⟨k + 1, by omega, by go_num, HI.out.same hkp HB5.out⟩
          case measure => simp [intOf]; omega
        · by_cases k3 : kd = 3
          · subst k3
            have HBO : Hid (Below wr.heap.size wr (wr.alloc (.cells #[.int .i64 3, .int .i64 ki, .slice pa l pc] 39))) := bpush (Below.refl _ _) _
            have hDo := HD.out.below HBO.out
            have HS1 := Bk.hid (len_any (s j).p (s j).X (wr.alloc (.cells #[.int .i64 3, .int .i64 ki, .slice pa l pc] 39)) (hDo.okX j hj).2.1 (hDo.hp j hj))
            have HS2 := refLen_any (s j).q (s j).Y _ _ _ _ (wr.alloc (.cells #[.int .i64 3, .int .i64 ki, .slice pa l pc] 39)) (hDo.hq j hj)
            rw [← HE.out.1] at HS2
            replace HS2 := Bk.hid HS2
            clear hDo
            generalize (s j).X.n = n at *
            go_wp2_with fail
            refine HS1.out.mono ?_
            rintro e w3 ⟨rfl, h3⟩
            subst w3
            go_wp2_with fail
            refine HS2.out.mono ?_
            rintro e w3 ⟨rfl, h3⟩
            subst w3
            go_wp2_with fail
            go_roundw
            case rel => exact ⟨k + 1, by omega, by go_num, HI.out.same hkp HBO.out⟩
            case measure => simp [intOf]; omega
          · have hD1 := HD.out.below (bpush (Below.refl _ _) (.cells #[.int .i64 kd, .int .i64 ki, .slice pa l pc] 39))
            have hE2 := HI.out
            have HD1 := Bk.hid hD1
            have HEE : Hid (∀ j, j < 2 → (s j).X = (s j).Y ∧ (s j).X.n ≤ (flat ((opParts xs).take k)).length) := HEA.out
            clear hD1 hE2
            go_wp2_with fail
            refine (new_any _).mono ?_
            rintro e w3 ⟨rfl, hw3⟩
            have hD3 : DW w (w3.setCell ⟨gh, j, none⟩ (.pointer (some ⟨wr.heap.size + 1, 0, none⟩))) gh gx (setP s j (wr.heap.size + 1)) := by
              have := HD1.out.newX hj
              rw [World.size_alloc, ← hw3] at this
              exact this
            have r3 : Rd w3 gh gx (s j).p (s j).q j := by rw [hw3]; exact (HD1.out.below (bpush (Below.refl _ _) _)).rd j hj
            have HD3 := Bk.hid hD3
            clear c1 c2 f1 f2 l1 l2 e1 e2 e3 hw3 hD3
            obtain ⟨c1, c2, f1, f2, l1, l2⟩ := r3
            go_wp2_with fail
            refine (refNew_any _).mono ?_
            rintro e w5 ⟨rfl, hw5⟩
            have e5 : (w3.setCell ⟨gh, j, none⟩ (.pointer (some ⟨(wr.heap.size + 1), 0, none⟩))).heap.size = w3.heap.size := by simp [World.setCell]
            have hD5 : DW w (w5.setCell ⟨gx, j, none⟩ (.pointer (some ⟨w3.heap.size + 1, 0, none⟩))) gh gx (setQ (setP s j (wr.heap.size + 1)) j w3.heap.size) := by
              have := HD3.out.newY hj
              rw [e5] at this
              rw [e5] at hw5
              rw [← hw5] at this
              exact this
            have r5 : Rd w5 gh gx (setP s j (wr.heap.size + 1) j).p (s j).q j := by
              rw [hw5]
              exact (HD3.out.below (bpush (bpush (Below.refl _ _) _) _)).rd j hj
            have HFR : Hid (WI w (w5.setCell ⟨gx, j, none⟩ (.pointer (some ⟨w3.heap.size + 1, 0, none⟩))) gh gx xs (k + 1)) := ⟨_, hD5, fun i hi => by
              rw [flat_more xs k hkp]
              by_cases e : i = j
              · simp only [setQ, setP, if_pos e]
                exact ⟨trivial, Nat.zero_le _⟩
              · simp only [setQ, setP, if_neg e]
                exact ⟨(HEE.out i hi).1, by have := (HEE.out i hi).2; omega⟩⟩
            clear c1 c2 f1 f2 l1 l2 hw5 hD5
            obtain ⟨c1, c2, f1, f2, l1, l2⟩ := r5
            clear c1 f1
            go_wp2_with fail
            go_roundw
            case rel => exact ⟨k + 1, by omega, by go_num, HFR⟩
            case measure => simp [intOf]; omega
    · have hge : ¬ (k : Int) < N := by omega
      have hkn : k = N := by omega
      subst hkn
      go_wp2_with fail
      go_loopw [16] (fun i wz => ∃ m : Nat, m ≤ 2 ∧ i = .int .i64 m ∧ Hid (WI w wz gh gx xs k)) (fun i _ => 2 - (intOf i).toNat)
      case atStart => exact ⟨0, by omega, rfl, HI⟩
      case round =>
        clear HI
        obtain ⟨j, hm, rfl, HI⟩ := hrel
        by_cases hj : j < 2
        · have hj2 : (j : Int) < 2 := by omega
          obtain ⟨s, hD, hE⟩ := HI.out.ex
          have hnj : (s j).X.n ≤ 1152921504606840000 := by have h1 := (hE j hj).2; have h2 := HFA.out; omega
          have HS1 := Bk.hid (hsum_any (s j).p (s j).X wr (hD.okX j hj) (hD.hp j hj) hnj)
          have HBD : Hid ((sumL (s j).X).length = 32 ∧ ∀ z, z ∈ sumL (s j).X → 0 ≤ z ∧ z ≤ 255) := ⟨rfl, sumL_bd _ (hD.okX j hj) (by omega)⟩
          have HS2 : Hid (∀ wz, DW w wz gh gx s → Calls Try.prog 17 #[.pointer (some ⟨(s j).q, 0, none⟩)] wz fun e w' => e = .returned (.agg (u8s (sumL (s j).X)).toArray) ∧ Below wz.heap.size wz w') := fun wz hz => by
            rw [(hE j hj).1]
            exact refHsum_any (s j).q (s j).Y _ _ _ wz (hz.hq j hj) (by rw [← (hE j hj).1]; exact hnj)
          have HS3 : Hid (∀ wz, DW w wz gh gx s → Calls Try.prog 18 #[.pointer (some ⟨(s j).p, 0, none⟩)] wz fun e w' => e = .returned (.int .i64 (s j).X.n) ∧ w' = wz) := fun wz hz => len_any (s j).p (s j).X wz (hz.okX j hj).2.1 (hz.hp j hj)
          have HCN : Hid (∀ wz, DW w wz gh gx s → wz.cell? ⟨(s j).q, 2, none⟩ = some (.int .i64 (s j).X.n)) := fun wz hz => by rw [Bk.cell_of_heap (hz.hq j hj).at_, (hE j hj).1]; rfl
          obtain ⟨c1, c2, f1, f2, l1, l2⟩ := hD.rd j hj
          have HD := Bk.hid hD
          clear hD hE hnj
          generalize (s j).X.n = n at *
          go_wp2_with fail
          refine HS1.out.mono ?_
          rintro e w3 ⟨rfl, hb3⟩
          generalize sumL (s j).X = S at *
          have hlS : (u8s S).length = 32 := by rw [u8s_len, HBD.out.1]
          have hsS := store_new 26 (u8s S) 32 size32 hlS (u8s_one S)
          have eS : ∀ w, (Op.equalIn 10000 26 (.agg (u8s S).toArray) (.agg (u8s S).toArray)).run Try.prog w = .ok true w := fun w => by
            rw [dig_eq S S HBD.out.1 HBD.out.1 HBD.out.2 HBD.out.2, decide_eq_true rfl]
          have hzl := z32_len
          have hD4 := (HD.out.below hb3).below (bpush (Below.refl _ _) (.cells (u8s S).toArray 26))
          have HB4 : Hid (Below wr.heap.size wr (w3.alloc (.cells (u8s S).toArray 26))) := bpush hb3 _
          have HH4 : Hid (Holds (w3.alloc (.cells (u8s S).toArray 26)) _) := (Holds.nil w3).push (.cells (u8s S).toArray 26)
          have HD4 := Bk.hid hD4
          clear c1 c2 f1 f2 l1 l2 hb3 HS1
          obtain ⟨c1, c2, f1, f2, l1, l2⟩ := hD4.rd j hj
          clear hD4 f1 f2
          go_wp2_with (first
            | (refine wpList_alloc_to rfl 26 rfl (u8s z32).toArray (by kernel_rfl) ?_))
          refine (HS2.out _ HD4.out).mono ?_
          rintro e w5 ⟨rfl, hb5⟩
          have hD5 := (HD4.out.below hb5).below (bpush (Below.refl _ _) (.cells (u8s S).toArray 26))
          have HB5 : Hid (Below wr.heap.size wr (w5.alloc (.cells (u8s S).toArray 26))) := bpush (bstep HB4.out hb5) _
          have HH5 : Hid (Holds (w5.alloc (.cells (u8s S).toArray 26)) _) := (HH4.out.below hb5).push (.cells (u8s S).toArray 26)
          have HD5 := Bk.hid hD5
          clear hb5 HB4 HH4 HD4 c1 c2 l1 l2
          generalize w3.heap.size = g3 at *
          obtain ⟨c1, c2, f1, f2, l1, l2⟩ := hD5.rd j hj
          have cn := HCN.out _ hD5
          clear hD5 f1 f2
          go_wp2_with (first
            | (refine wpList_alloc_to rfl 26 rfl (u8s z32).toArray (by kernel_rfl) ?_))
          refine (HS3.out _ HD5.out).mono ?_
          rintro e w6 ⟨rfl, h6⟩
          rw [← h6] at c1 c2 cn l1 l2 HB5 HH5
          clear h6 HD5
          generalize w5.heap.size = g5 at *
          go_wp2_with (first
            | (refine wpList_load_w (by rfl) 26 _ rfl g5 rfl 26 (u8s S).toArray (0, 0) _ (HH5.out.at 0 _ _ rfl) Try.underlying26 rfl (by rw [size32]; simp [hlS]) ?_)
            | (refine wpList_load_w (by rfl) 26 _ rfl g3 rfl 26 (u8s S).toArray (0, 0) _ (HH5.out.at 1 _ _ rfl) Try.underlying26 rfl (by rw [size32]; simp [hlS]) ?_))
          go_roundw
          case rel => exact ⟨j + 1, by omega, by go_num, HI.out.below HB5.out⟩
          case measure => simp [intOf]; omega
        · have hge2 : ¬ (j : Int) < 2 := by omega
          obtain ⟨s, hD, hE⟩ := HI.out.ex
          have HBF := Bk.hid hD.bel
          clear hD hE
          go_wp2_with fail
          go_ret
          exact ⟨rfl, HBF.out⟩
/-- the walk of DigestWrites. -/
theorem digestWrites_walk (xs : List OpR) (a : Option Addr) (cc : Nat) (w : World) (hops : OpsAt w a xs) (hs : xs.length * 40 ≤ 140737488351232 ∧ ∀ i, i < xs.length → (xs.getD i OpR.nil).pt.zs.length ≤ 140737488351232) :
    Calls Try.prog 4 #[.slice a xs.length cc] w fun e w' => e = .returned (.bool true) ∧ Below w.heap.size w w' := by
  by_cases hbk : bulk (opParts xs) ≤ 2147483647
  · exact writes_in xs a cc w hops hs hbk
  · have K1 : ∀ w1, Below w.heap.size w w1 → Calls Try.prog 11 #[.slice a xs.length cc] w1 fun e w' => e = .returned (.bool true) ∧ Below w1.heap.size w1 w' := fun w1 hb => by
      have := beyond_any a cc xs w1 (fun j hj => by
        obtain ⟨b, o, ha, e1, e2, e3, ok⟩ := hops j hj
        exact ⟨b, o, ha, by rw [hb.cell (World.block_lt_of_cell? w _ e1), e1], by rw [hb.cell (World.block_lt_of_cell? w _ e2), e2], by rw [hb.cell (World.block_lt_of_cell? w _ e3), e3], ok.1, ok.2.1, Part.ok_below ok.2.2 hb⟩) (fun i hi => by have := hs.2 i hi; omega) (by omega)
      rw [decide_eq_true (by omega)] at this
      exact this
    replace K1 := Bk.hid K1
    clear hops hs hbk
    generalize xs.length = N at *
    go_enter Try.func4, Try.ntmps4
    go_wp2_with fail
    refine (live_any _).mono ?_
    rintro e w1 ⟨rfl, hb1⟩
    have HB1 : Hid (Below w.heap.size w w1) := hb1
    clear hb1
    go_wp2_with fail
    refine (K1.out w1 HB1.out).mono ?_
    rintro e w2 ⟨rfl, hb2⟩
    have HB2 : Hid (Below w.heap.size w w2) := bstep HB1.out hb2
    clear hb2
    go_wp2_with fail
    go_ret
    exact ⟨rfl, HB2.out⟩
end Go.Proofs.Ytlephdpplfpliaa
