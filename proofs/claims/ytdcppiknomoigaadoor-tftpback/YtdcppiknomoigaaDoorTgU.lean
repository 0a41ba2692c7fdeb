/-
  Tftp: the program's reader: choices.
-/
import Derived.Test.YtdcppiknomoigaaDoorTgV
namespace Go.Proofs.YtdcppiknomoigaaDoor
open Go.RowKit
set_option linter.all false

/-- what two texts do to a fault. -/
def twoF (zs : List Int) (er : Int) : Int := txtF (txtR zs) (txtF zs er)
theorem fst_ne {er : Int} (h : er ≠ 0) (x : Int) : fstE er x = er := if_neg h
theorem txtF_ne {er : Int} (h : er ≠ 0) (zs : List Int) : txtF zs er = er := by
  unfold txtF
  cases cutG zs with
  | none => exact fst_ne h 5
  | some x => rfl
theorem twoF_ne {er : Int} (h : er ≠ 0) (zs : List Int) : twoF zs er = er := by
  unfold twoF; rw [txtF_ne h, txtF_ne h]
theorem twoF_zero {zs : List Int} (h0 : zs ≠ []) : (twoF zs 0 = 0 ∧ ∃ nm r1 vs r2, cutG zs = some (nm, r1) ∧ cutG r1 = some (vs, r2)) ∨ (twoF zs 0 = 5 ∧ ∀ acc, readG acc zs = .error 5) := by
  unfold twoF
  cases h1 : cutG zs with
  | none =>
    right
    have e1 : txtF zs 0 = 5 := by unfold txtF; rw [h1]; rfl
    rw [e1, txtF_ne (by omega)]
    exact ⟨rfl, fun acc => readG_short1 acc h0 h1⟩
  | some x =>
    obtain ⟨nm, r1⟩ := x
    have e1 : txtF zs 0 = 0 := by unfold txtF; rw [h1]
    have e2 : txtR zs = r1 := by unfold txtR; rw [h1]
    rw [e1, e2]
    cases h2 : cutG r1 with
    | none =>
      right
      exact ⟨by unfold txtF; rw [h2]; rfl, fun acc => readG_short2 acc h1 h2⟩
    | some y =>
      obtain ⟨vs, r2⟩ := y
      left
      exact ⟨by unfold txtF; rw [h2], nm, r1, vs, r2, rfl, h2⟩
/-- the choices' fault. -/
def chE (er : Int) (zs : List Int) : Int := if er = 0 then (match readG [] zs with | .error e => e | .ok _ => 0) else er
theorem chE_ne {er : Int} (h : er ≠ 0) (zs : List Int) : chE er zs = er := if_neg h
theorem chE_ok {zs : List Int} {l : List Ch} (h : readG [] zs = .ok l) : chE 0 zs = 0 := by unfold chE; rw [if_pos rfl, h]
theorem chE_er {zs : List Int} {e : Int} (h : readG [] zs = .error e) : chE 0 zs = e := by unfold chE; rw [if_pos rfl, h]
theorem valA_form (ds : List Int) : ∃ (n : Int) (b : Bool), valA ds = .tuple #[.int .i64 n, .bool b] ∧ (b = true → valF ds = some n.toNat ∧ 0 ≤ n ∧ n ≤ 2147483647) ∧ (b = false → valF ds = none) := by
  unfold valA
  cases h : valF ds with
  | none => exact ⟨0, false, rfl, by simp, fun _ => rfl⟩
  | some n =>
    have := (valF_some h).2
    exact ⟨n, true, rfl, fun _ => ⟨by simp, by omega, by omega⟩, by simp⟩
/-- the reader beside the row of choices that is being made. -/
structure LpJ (w W : World) (g : Nat) (wr : World) (a : Option Addr) (n cp : Nat) (l : List Ch) (zs : List Int) (er : Int) : Prop where
  rd : Rd w g wr zs er
  row : RowS wr 56 2 (.slice a n cp) n (chs l)
  new : ∀ b, (Value.slice a n cp).ownBlock = some b → W.heap.size ≤ b
  but : But g W wr
  gl : g < W.heap.size
theorem LpJ.off {w W : World} {g : Nat} {wr : World} {a : Option Addr} {n cp : Nat} {l : List Ch} {zs : List Int} {er : Int} (h : LpJ w W g wr a n cp l zs er) (e : (Value.slice a n cp).ownBlock = some g) : False := by
  obtain ⟨cur, h1⟩ := h.row.obj e
  obtain ⟨b, o, c, h2, _⟩ := h.rd
  rw [h1] at h2
  simp at h2
theorem LpJ.turn {w W : World} {g : Nat} {wr w' : World} {a : Option Addr} {n cp : Nat} {l : List Ch} {zs zs' : List Int} {er er' : Int} (h : LpJ w W g wr a n cp l zs er) (k : Rd w g w' zs' er' ∧ But g wr w') : LpJ w W g w' a n cp l zs' er' :=
  ⟨k.1, h.row.keep fun b hb => k.2.block b (fun e => h.off (e ▸ hb)) (h.row.lt hb), h.new, h.but.trans k.2, h.gl⟩
theorem LpJ.below {w W : World} {g : Nat} {wr w' : World} {a : Option Addr} {n cp : Nat} {l : List Ch} {zs : List Int} {er : Int} (h : LpJ w W g wr a n cp l zs er) (k : Below wr.heap.size wr w') : LpJ w W g w' a n cp l zs er :=
  ⟨h.rd.below k, h.row.below k, h.new, h.but.trans (But.of_below k), h.gl⟩
theorem LpJ.chv {w W : World} {g : Nat} {wr : World} {a : Option Addr} {n cp : Nat} {l : List Ch} {zs : List Int} {er : Int} (h : LpJ w W g wr a n cp l zs er) : n = l.length ∧ ChV wr a l := by
  have h1 := h.row.1
  rw [chs_len] at h1
  have hn : n = l.length := by omega
  refine ⟨hn, ?_⟩
  by_cases h0 : n = 0
  · left
    exact List.eq_nil_of_length_eq_zero (by omega)
  · obtain ⟨g, rfl, hc⟩ := h.row.at0 (by omega)
    refine Or.inr ⟨g, 0, rfl, fun k x hx => ?_⟩
    rw [Nat.zero_add]
    exact ⟨hc _ _ (chs_get hx (j := 0) (by omega)), hc _ _ (chs_get hx (j := 1) (by omega))⟩
theorem LpJ.one {w W : World} {g : Nat} {wr : World} {a : Option Addr} {n cp : Nat} {l : List Ch} {zs : List Int} {er : Int} (h : LpJ w W g wr a n cp l zs er) (y : Ch) (hl : n ≤ 1000) :
    ∃ a' cp' w7, (Builtin.append_ #[23, 23] 23 #[.slice a n cp, .slice (some ⟨wr.heap.size, 0, none⟩) 1 1]).run Tryd.prog (wr.alloc (.cells #[.string y.nm, .int .i64 y.v] 56)) = .ok (.slice a' (n + 1) cp') w7 ∧ Hid (LpJ w W g w7 a' (n + 1) cp' (l ++ [y]) zs er) := by
  have hbp := bpush (Below.refl wr.heap.size wr) (.cells #[.string y.nm, .int .i64 y.v] 56)
  have h2 := h.below hbp
  have hnew : (wr.alloc (.cells #[.string y.nm, .int .i64 y.v] 56)).heap[wr.heap.size]? = some (.cells #[.string y.nm, .int .i64 y.v] 56 (0, 0)) := heap_new _ _
  have hsz : wr.heap.size < (wr.alloc (.cells #[.string y.nm, .int .i64 y.v] 56)).heap.size := by simp
  have hW := h.but.size
  have hgw := h.rd.lt
  generalize wr.alloc (.cells #[.string y.nm, .int .i64 y.v] 56) = w5 at *
  obtain ⟨v', w7, hrun, hrow, hgr, hloc⟩ := append_s 23 23 56 _ 2 24 Tryd.underlying23 infoCh rfl (by omega) h2.row ⟨wr.heap.size, 0, none⟩ 1 1 (chC y).toList (by simp [chC])
    (fun j u hj => by
      rw [show (⟨wr.heap.size, 0, none⟩ : Addr).add j = ⟨wr.heap.size, j, none⟩ from by unfold Addr.add; split <;> simp_all, cell_of_heap hnew, ← Array.getElem?_toList]
      exact hj)
    (fun u hu => by simp [chC] at hu; rcases hu with rfl | rfl <;> rfl) (by unfold maxLen; omega) (by omega)
  obtain ⟨a', cp', hv', _⟩ := hrow.form
  subst hv'
  rw [← chs_snoc] at hrow
  refine ⟨a', cp', w7, hrun, ?_⟩
  have keepT : ∀ b, b < w5.heap.size → (Value.slice a n cp).ownBlock ≠ some b → w7.heap[b]? = w5.heap[b]? := fun b hlt hne => hgr.block b hlt (fun e => hne (by simpa using e.symm))
  obtain ⟨b0, o0, c0, k1, k2, k3, k4⟩ := h2.rd
  have hg5 : g < w5.heap.size := heap_lt k1
  have hgl := h.gl
  refine ⟨⟨b0, o0, c0, (keepT g hg5 (fun e => h2.off e)).trans k1, k2, k3, ?_⟩, hrow, fun b hb' => ?_, ?_, h.gl⟩
  · exact ⟨hgr.os.trans k4.os, hgr.tape.trans k4.tape, hgr.output.trans k4.output, Nat.le_trans k4.size hgr.size, fun i hi => (keepT i (by omega) (fun e => by have := h.new i e; have := h.but.size; have := k4.size; omega)).trans (k4.block i hi)⟩
  · rcases hloc b (by cases a' <;> simpa [Value.ownBlock] using hb') with h2 | h2
    · exact h.new b (by cases a <;> simpa [Value.ownBlock] using h2)
    · omega
  · have := h2.but
    exact ⟨hgr.os.trans this.os, hgr.tape.trans this.tape, hgr.output.trans this.output, Nat.le_trans this.size hgr.size, fun k hk hl => (keepT k (by have := this.size; omega) (fun e => by have := h.new k e; omega)).trans (this.block k hk hl)⟩
def rdN (g : Nat) (w : World) : Nat := match w.cell? ⟨g, 0, none⟩ with | some (.slice _ n _) => n | _ => 0
theorem Rd.n {w : World} {g : Nat} {W : World} {zs : List Int} {er : Int} (h : Rd w g W zs er) : rdN g W = zs.length := by
  obtain ⟨b, o, c, h1, _⟩ := h
  unfold rdN
  rw [cell_of_heap h1]
  rfl
set_option maxRecDepth 20000 in
set_option maxHeartbeats 8000000 in
theorem pchoices_any (w : World) (g : Nat) (W : World) (zs0 : List Int) (er : Int) (hE : Env w) (h : Rd w g W zs0 er) (hl : zs0.length ≤ 140737488353280) :
    Calls Tryd.prog 42 #[.pointer (some ⟨g, 0, none⟩)] W fun e w' => ∃ a n cp l zs', e = .returned (.slice a n cp) ∧ Hid (LpJ w W g w' a n cp l zs' (chE er zs0) ∧ (er = 0 → ∀ l', readG [] zs0 = .ok l' → l = l')) := by
  have HE := hid hE
  have H0 : Hid (LpJ w W g W none 0 0 [] zs0 er) := ⟨h, RowS.nil _ _ _, by simp [Value.ownBlock], But.refl _ _, h.lt⟩
  clear h hE
  go_enter Tryd.func42, Tryd.ntmps42
  go_wp2_with fail
  go_step3
  go_wp2_with fail
  go_step3
  go_wp2_with fail
  go_loopw [3] (fun vl wr => ∃ (a : Option Addr) (n cp : Nat) (l : List Ch) (zs : List Int), vl = .slice a n cp ∧ zs.length ≤ 140737488353280 ∧ n ≤ 3 ∧ Hid (LpJ w W g wr a n cp l zs er ∧ chOk l l.length = true ∧ (er = 0 → readG [] zs0 = readG l zs))) (fun _ wr => rdN g wr)
  case atStart => exact ⟨none, 0, 0, [], zs0, rfl, hl, by omega, H0.out, rfl, fun _ => rfl⟩
  case round =>
    obtain ⟨a, n, cp, l, zs, rfl, hzl, hn3, HJ⟩ := hrel
    clear H0
    have hc0 : ∃ ad c, wr.cell? ⟨g, 0, none⟩ = some (.slice ad zs.length c) := by
      obtain ⟨b, o, c, h1, _⟩ := HJ.out.1.rd
      exact ⟨_, _, cell_of_heap h1 0⟩
    obtain ⟨ad, c0, hc0⟩ := hc0
    have HM : Hid (rdN g wr = zs.length) := HJ.out.1.rd.n
    by_cases hz : zs = []
    · subst hz
      simp only [List.length_nil] at hc0
      go_wp2_with fail
      try rw [Exit.noGoto_ret]
      go_ret
      refine ⟨a, n, cp, l, [], rfl, ?_, fun e l' hl' => ?_⟩
      · have h1 := HJ.out.1
        by_cases he : er = 0
        · subst he
          rw [chE_ok ((HJ.out.2.2 rfl).trans (readG_nil l))]
          exact h1
        · rw [chE_ne he]; exact h1
      · have := (HJ.out.2.2 e).trans (readG_nil l)
        rw [hl'] at this
        simpa using this.symm
    · have hlen : 0 < zs.length := List.length_pos_iff.2 hz
      have hlen' : (0 : Int) < (zs.length : Int) := by omega
      have HZ := hid hz
      have CT1 := hid (text_any w g wr zs er HJ.out.1.rd hzl)
      have hs1 := txtS_sz zs
      have hr1 := txtR_le zs
      have hs2 := txtS_sz (txtR zs)
      have CS := hid (fun W' => small_any (txtS zs) W' (by omega))
      have CT2 := hid (fun W' (h' : Rd w g W' (txtR zs) (txtF zs er)) => text_any w g W' (txtR zs) (txtF zs er) h' (by omega))
      have CV := hid (fun W' (h' : Below w.heap.size w W') => valueOf_any (txtS (txtR zs)) W' (HE.out.below h') (by omega))
      obtain ⟨nv, bv, hva, hv1, hv2⟩ := valA_form (nums (txtS (txtR zs)))
      rw [hva] at CV
      have HV1 := hid hv1
      have HV2 := hid hv2
      have CW := hid (fun W' (h' : n = l.length ∧ ChV W' a l) => pwant_any l a n cp (smallS (nums (txtS zs))) W' h'.2 h'.1 (by omega))
      have CK := hid (fun W' => pknown_any (smallS (nums (txtS zs))) W')
      have HNM : Hid (∀ t r, cutG zs = some (t, r) → nums (txtS zs) = t) := txtS_nums HJ.out.1.rd
      have HNV : Hid (∀ t r t' r', cutG zs = some (t, r) → cutG r = some (t', r') → nums (txtS (txtR zs)) = t' ∧ txtR (txtR zs) = r') := fun t r t' r' e1 e2 => by
        have b1 := (cutG_bd (cutG_bd HJ.out.1.rd.bd e1).2 e2).1
        have e3 : txtR zs = r := by unfold txtR; rw [e1]
        rw [e3]
        constructor
        · unfold txtS; rw [e2]; exact nums_str b1
        · unfold txtR; rw [e2]
      have HFK := hid (fun W' (h' : Rd w g W' (txtR (txtR zs)) (twoF zs er)) => fail_any w g W' (txtR (txtR zs)) (twoF zs er) 172 h')
      have HTWO : Hid (twoF zs er = txtF (txtR zs) (txtF zs er)) := rfl
      clear hva hv1 hv2 hs1 hs2 hz
      obtain ⟨nm, hnm⟩ : ∃ nm, nm = smallS (nums (txtS zs)) := ⟨_, rfl⟩
      rw [← hnm] at CS CW CK
      have HNAME := hid hnm
      clear hnm
      have HWB : Hid (wantB l nm = inB nm l) := wantB_in l nm
      generalize wantB l nm = wb at *
      generalize wantV l nm = wv at *
      obtain ⟨kb, hkb⟩ : ∃ kb, kb = knownB nm := ⟨_, rfl⟩
      rw [← hkb] at CK
      have HKB := hid hkb
      clear hkb
      go_upto_region 6 with (first
        | (go_at_call 67; with_reducible refine CT1.out.mono ?_; go_loud (rintro e w1 ⟨rfl, H1⟩; have HJ1 := hid (HJ.out.1.turn H1.out); clear CT1))
        | (go_at_call 68; with_reducible refine (CS.out _).mono ?_; go_loud (rintro e w2 ⟨rfl, HB2⟩; have HJ2 := hid (HJ1.out.below HB2.out); have CT3 := hid (CT2.out _ HJ2.out.rd)))
        | (go_at_call 67; with_reducible refine CT3.out.mono ?_; go_loud (rintro e w3 ⟨rfl, H3⟩; have HJ3 := hid (HJ2.out.turn H3.out); have CV3 := hid (CV.out _ HJ3.out.rd.bel)))
        | (go_at_call 69; with_reducible refine CV3.out.mono ?_; go_loud (rintro e w4 ⟨rfl, HB4⟩; have HJ4 := hid (HJ3.out.below HB4.out); have CW4 := hid (CW.out _ HJ4.out.chv)))
        | (go_at_call 21; with_reducible refine CW4.out.mono ?_; go_loud (rintro e w5 ⟨rfl, HB5⟩; have HJ5 := hid (HJ4.out.below HB5.out)))
        | fail)
      rw [← HTWO.out] at HJ5
      have hce : w5.cell? ⟨g, 1, none⟩ = some (.int .i64 (twoF zs er)) := HJ5.out.rd.cell
      have HFK5 := hid (HFK.out _ HJ5.out.rd)
      clear CS CT2 CV CW CT3 CV3 CW4 HFK HJ1 HJ2 HJ3 HJ4 H1 H3 HB2 HB4 HB5 HTWO hc0
      by_cases hf : twoF zs er = 0
      · have her : er = 0 := by
          rcases Decidable.em (er = 0) with h | h
          · exact h
          · rw [twoF_ne h] at hf; exact absurd hf h
        subst her
        have HTW : Hid (∃ vs r1 t r2, cutG zs = some (t, r1) ∧ cutG r1 = some (vs, r2)) := by
          rcases twoF_zero HZ.out with ⟨_, t, r1, vs, r2, e1, e2⟩ | ⟨e, _⟩
          · exact ⟨vs, r1, t, r2, e1, e2⟩
          · rw [e] at hf; cases hf
        obtain ⟨vs, r1, t, r2, e1, e2⟩ := HTW.out
        have E1 := hid e1
        have E2 := hid e2
        have N1 := HNM.out _ _ e1
        obtain ⟨N2, N3⟩ := HNV.out _ _ _ _ e1 e2
        rw [N3] at HJ5 HFK5
        rw [N2] at HV1 HV2
        rw [N1] at HNAME
        rw [hf] at hce HJ5 HFK5
        have HRL : Hid (r2.length < zs.length) := by
          have h1 := (cutG_len e1).1
          have h2 := (cutG_len e2).1
          exact Nat.lt_trans h2 h1
        have hr2 : r2.length ≤ 140737488353280 := by have := HRL.out; omega
        clear e1 e2 N1 N2 N3 HTW HNM HNV HZ hf hr1
        cases kb
        · have HRG : Hid (readG [] zs0 = readG l r2) := by
            unfold Hid
            rw [HJ.out.2.2 rfl, readG_step l E1.out E2.out, ← HNAME.out, ← HKB.out, if_pos rfl]
          clear HFK5 HV1 HV2
          go_wp2_with (first
            | (go_at_call 70; refine (CK.out _).mono ?_; rintro e w6 ⟨rfl, hw⟩; subst w6)
            | fail)
          go_roundw
          case rel => exact ⟨a, n, cp, l, r2, rfl, hr2, hn3, HJ5.out, HJ.out.2.1, fun _ => HRG.out⟩
          case measure => rw [HJ5.out.rd.n, HM.out]; exact HRL.out
        · have HRG : Hid (readG [] zs0 = match valF vs with
              | none => .error 172
              | some n => if inB nm l = true then .error 172 else readG (l ++ [⟨nm, (n : Int)⟩]) r2) := by
            unfold Hid
            rw [HJ.out.2.2 rfl, readG_step l E1.out E2.out, ← HNAME.out, ← HKB.out, if_neg (by simp)]
            rfl
          cases bv
          · have HR2 : Hid (chE 0 zs0 = 172) := by
              unfold Hid
              apply chE_er
              rw [HRG.out, HV2.out rfl]
            clear HV1 HV2
            go_wp2_with (first
              | (go_at_call 70; refine (CK.out _).mono ?_; rintro e w6 ⟨rfl, hw⟩; subst w6)
              | (go_at_call 45; refine HFK5.out.mono ?_; rintro e w7 ⟨rfl, H7⟩)
              | fail)
            try rw [Exit.noGoto_ret]
            go_ret
            refine ⟨a, n, cp, l, r2, rfl, ?_, fun e l' hl' => ?_⟩
            · rw [HR2.out]; exact HJ5.out.turn H7.out
            · have := HR2.out
              rw [chE_ok hl'] at this
              cases this
          · have HVF : Hid (valF vs = some nv.toNat ∧ 0 ≤ nv ∧ nv ≤ 2147483647) := HV1.out rfl
            clear HV1 HV2
            cases wb
            · have HRG2 : Hid (readG [] zs0 = readG (l ++ [⟨nm, nv⟩]) r2) := by
                unfold Hid
                rw [HRG.out, HVF.out.1]
                simp only
                rw [← HWB.out, if_neg (by simp), show ((nv.toNat : Nat) : Int) = nv from by have := HVF.out.2; omega]
              have HOK : Hid (chOk (l ++ [(⟨nm, nv⟩ : Ch)]) (l ++ [(⟨nm, nv⟩ : Ch)]).length = true) := chOk_snoc (c := ⟨nm, nv⟩) HJ.out.2.1 HKB.out.symm HWB.out.symm HVF.out.2
              obtain ⟨a', cp', w7, hrun, HJ7⟩ := HJ5.out.one ⟨nm, nv⟩ (by omega)
              have HL3 : Hid (n + 1 ≤ 3) := by
                have h1 := HJ7.out.chv.1
                have := chOk_3 HOK.out (Nat.le_refl _)
                unfold Hid; omega
              clear HFK5 HVF
              go_wp2_with (first
                | (go_at_call 70; refine (CK.out _).mono ?_; rintro e w6 ⟨rfl, hw⟩; subst w6)
                | (at_builtin; refine wpList_append_run _ rfl _ _ _ _ rfl _ _ rfl rfl hrun ?_)
                | fail)
              go_roundw
              case rel => exact ⟨a', n + 1, cp', _, r2, rfl, hr2, HL3.out, HJ7.out, HOK.out, fun _ => HRG2.out⟩
              case measure => rw [HJ7.out.rd.n, HM.out]; exact HRL.out
            · have HR2 : Hid (chE 0 zs0 = 172) := by
                unfold Hid
                apply chE_er
                rw [HRG.out, HVF.out.1]
                simp only
                rw [← HWB.out, if_pos rfl]
              clear HVF
              go_wp2_with (first
                | (go_at_call 70; refine (CK.out _).mono ?_; rintro e w6 ⟨rfl, hw⟩; subst w6)
                | (go_at_call 45; refine HFK5.out.mono ?_; rintro e w7 ⟨rfl, H7⟩)
                | fail)
              try rw [Exit.noGoto_ret]
              go_ret
              refine ⟨a, n, cp, l, r2, rfl, ?_, fun e l' hl' => ?_⟩
              · rw [HR2.out]; exact HJ5.out.turn H7.out
              · have := HR2.out
                rw [chE_ok hl'] at this
                cases this
      · have HR2 : Hid (chE er zs0 = twoF zs er ∧ (er = 0 → ∀ l', readG [] zs0 ≠ .ok l')) := by
          by_cases he : er = 0
          · subst he
            rcases twoF_zero HZ.out with ⟨h1, _⟩ | ⟨h1, h2⟩
            · exact absurd h1 hf
            · have h3 := (HJ.out.2.2 rfl).trans (h2 l)
              exact ⟨by rw [chE_er h3, h1], fun _ l' e => by rw [h3] at e; cases e⟩
          · exact ⟨by rw [chE_ne he, twoF_ne he], fun e => absurd e he⟩
        clear HFK5 HV1 HV2 CK HNM HNV
        go_wp2_with fail
        try rw [Exit.noGoto_ret]
        go_ret
        refine ⟨a, n, cp, l, txtR (txtR zs), rfl, ?_, fun e l' hl' => absurd hl' (HR2.out.2 e l')⟩
        rw [HR2.out.1]; exact HJ5.out
end Go.Proofs.YtdcppiknomoigaaDoor
