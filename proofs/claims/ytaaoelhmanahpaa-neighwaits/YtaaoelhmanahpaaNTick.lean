/-
  Neigh: Tick. Written by mktick.py.
-/
import Derived.Test.YtaaoelhmanahpaaNTikM
import Derived.Test.YtaaoelhmanahpaaNLook
namespace Go.Proofs.Ytaaoelhmanahpaa
open Go.RowKit
set_option linter.all false

theorem cell_lt' {w : World} {g k : Nat} {v : Value} (h : w.cell? ⟨g, k, none⟩ = some v) : g < w.heap.size := by
  exact World.block_lt_of_cell? _ _ h
/-- asked, the entry in a box. -/
theorem asked_in (y : Ab) (pa : Option Addr) (pn pc b : Nat) (C : Array Value) (w0 w : World) (hb : Below w0.heap.size w0 w) (hx : w.heap[b]? = some (.cells C 87 (0, 0))) : Calls Try.prog 38 #[y.val (.slice pa pn pc)] w fun e w' => e = .returned (.bool (decide (0 < y.q))) ∧ (∀ j, w'.cell? ⟨b, j, none⟩ = C[j]?) ∧ Hid (Below w0.heap.size w0 w') :=
  (asked_any y _ w).mono fun e w' ⟨h1, h2⟩ => ⟨h1, fun j => cell_of_heap (kept hx h2) j, bstep hb h2⟩
set_option maxRecDepth 40000 in
set_option maxHeartbeats 8000000 in
theorem tick_any (c m : Nat) (S : St) (V : Int → Value) (now : Int) (w : World) (x : CaW w c m S V) :
    Calls Try.prog 19 #[.pointer (some ⟨c, 0, none⟩), .int .i64 now] w fun e w' => ∃ a cp, e = .returned (.slice a (tickF S now).2.length cp) ∧ Hid (Answ w w' c m S (tickF S now).1 V a cp (tickF S now).2) := by
  have HHE := hid (hear_any c m S V now w x)
  obtain ⟨S1, hS1⟩ : ∃ z, z = ({ S with now := hearN S.now now } : St) := ⟨_, rfl⟩
  rw [← hS1] at HHE
  have hLS : S1.L = S.L := by rw [hS1]
  have hTF : tickF S now = ({ S1 with L := S1.L.filterMap (tick1 S1) }, S1.L.flatMap (tickS S1)) := by rw [hS1]; rfl
  rw [hTF]
  have hcl := x.ltc
  have hml := x.ltm
  have hl64 : S1.L.length ≤ 64 := by rw [hLS]; have := x.ok.len; have := x.ok.most; omega
  clear x hS1 hTF
  obtain ⟨N, hN⟩ : ∃ n, n = S1.L.length := ⟨_, rfl⟩
  rw [← hN] at hl64
  rw [← tickK_all hN, ← tickO_all hN]
  have HAD := hid (fun (w1 : World) (y : CaW w1 c m S1 V) => addresses_x c m S1 V N hN w1 y)
  have HN := hid hN
  have HLS := hid hLS
  clear hN hLS
  go_enter Try.func19, Try.ntmps19
  go_wp2_with (first
    | (go_at_call 37; with_reducible refine HHE.out.mono ?_; rintro e w0 ⟨rfl, HC0, HB0⟩)
    | (go_at_call 50; with_reducible refine (HAD.out _ HC0.out).mono ?_; rintro e w1 ⟨g, cap, rfl, hgw, HCE, HB1⟩)
    | fail)
  have hs0 := HB0.out.size
  have HT1 : Hid (Two c m w w1) := (Two.of_c HB0.out).trans (Two.of_below HB1.out)
  have HC1 := hid (HC0.out.below HB1.out)
  have hgne : g ≠ c ∧ g ≠ m := by omega
  have h0 : (tickO S1 0).length = 0 := by rw [tickO_zero]; rfl
  have HA0 : Hid (Answ w1 w1 c m S1 (tickK S1 0) V none 0 (tickO S1 0)) := by
    rw [tickK_zero, tickO_zero]
    exact Answ.void (fun z hz b hb => Or.inr ⟨z, hz, hb⟩) HC1.out (Two.refl _ _ _)
  clear HAD HHE HC0 HB1 hs0
  go_loopw [5, 15] (fun v5 vi wr => ∃ (a : Option Addr) (n k cp : Nat), v5 = .slice a n cp ∧ vi = .int .i64 k ∧ k ≤ N ∧ Hid (n = (tickO S1 k).length) ∧ Hid (Answ w1 wr c m S1 (tickK S1 k) V a cp (tickO S1 k))) (fun _ vi _ => N - (intOf3 vi).toNat)
  case atStart => exact ⟨none, 0, 0, 0, rfl, rfl, Nat.zero_le _, h0.symm, HA0⟩
  case round =>
    clear HA0 h0
    obtain ⟨a, n, k, cp, rfl, rfl, hk, HNL, HA⟩ := hrel
    have hnl := HNL.out
    by_cases hkN : k < N
    · obtain ⟨y, hy⟩ : ∃ y, S1.L[k]? = some y := ⟨_, List.getElem?_eq_getElem (by rw [← HN.out]; exact hkN)⟩
      have HY := hid hy
      obtain ⟨l, V', A⟩ := HA.out
      have HAI := hid A
      have hyL := tickK_mem hy
      have hck : wr.cell? ⟨g, k, none⟩ = some (.int .u32 y.ip) := by
        have h1 := HCE.out k y hy
        rw [← h1]
        exact World.cell?_of_block (w := w1) (A.two.block g hgne.1 hgne.2 (cell_lt' h1))
      have hc8 := A.ca.cells.2.2.2.1
      have hlk := A.ca.map.look (A.ca.ok.ents y hyL).ip
      obtain ⟨pa, pc, hv, _⟩ := (A.ca.rows y hyL).form
      rw [entV_at A.ca.ok.rise hyL, hv] at hlk
      generalize (u8s y.zs).length = pn at hlk hv
      have HV := hid hv
      have HIP := hid (A.ca.ok.ents y hyL).ip
      have HCB := hid (fun (wx : World) (hb : Below wr.heap.size wr wx) => (A.ca.below hb).cells)
      have HAS := hid (fun b C wx hb hx => asked_in y pa pn pc b C wr wx hb hx)
      clear hy hyL hv HA A HCE
      have hc7b := (HCB.out (wr.alloc (.cells #[.int .i64 y.unt, .int .u8 y.mac.b0, .int .u8 y.mac.b1, .int .u8 y.mac.b2, .int .u8 y.mac.b3, .int .u8 y.mac.b4, .int .u8 y.mac.b5, .int .i64 y.q, .int .u32 y.src, .slice pa pn pc] 87)) (bpush (Below.refl _ _) _)).2.2.1
      have HBQ : Hid (Below wr.heap.size wr (wr.alloc (.cells #[.int .i64 y.unt, .int .u8 y.mac.b0, .int .u8 y.mac.b1, .int .u8 y.mac.b2, .int .u8 y.mac.b3, .int .u8 y.mac.b4, .int .u8 y.mac.b5, .int .i64 y.q, .int .u32 y.src, .slice pa pn pc] 87))) := bpush (Below.refl _ _) _
      have HXQ : Hid ((wr.alloc (.cells #[.int .i64 y.unt, .int .u8 y.mac.b0, .int .u8 y.mac.b1, .int .u8 y.mac.b2, .int .u8 y.mac.b3, .int .u8 y.mac.b4, .int .u8 y.mac.b5, .int .i64 y.q, .int .u32 y.src, .slice pa pn pc] 87)).heap[wr.heap.size]? = some (.cells #[.int .i64 y.unt, .int .u8 y.mac.b0, .int .u8 y.mac.b1, .int .u8 y.mac.b2, .int .u8 y.mac.b3, .int .u8 y.mac.b4, .int .u8 y.mac.b5, .int .i64 y.q, .int .u32 y.src, .slice pa pn pc] 87 (0, 0))) := heap_new _ _
      have hbx0 := (fun j => cell_of_heap HXQ.out j) 0
      have hn7 : (tickK S1 k).now = S1.now := rfl
      rw [hn7] at hc7b
      clear hn7
      subst hnl
      by_cases hu : S1.now < y.unt
      · have HFN := hid (fun w3 hb => tickN (w3 := w3) HAI.out HY.out hu hb)
        have hud : decide (y.unt > S1.now) = true := by simpa using hu
        clear HAI HAS HCB
        obtain ⟨i, t, mc, q, sr, zs⟩ := y
        obtain ⟨b0, b1, b2, b3, b4, b5⟩ := mc
        simp only [Ab.val] at *
        go_wp2_with fail
        go_quiet (fail)
        go_wp2_with fail
        go_roundw
        case rel =>
          obtain ⟨e1, e2⟩ := HFN.out _ (HBQ.out.trans ((bdrewN _ nq).mono HBQ.out.size))
          exact ⟨a, _, k + 1, cp, rfl, by first | rfl | (congr 1; omega), by omega, e1, e2⟩
        case measure => simp only [intOf3]; omega
      · by_cases hq : 0 < y.q ∧ y.q < 3
        · have HFQ := hid (fun w3 w4 g2 h1 h2 h3 h4 => tickQ HAI.out HY.out hu hq HV.out (by rw [← HN.out]; omega) w3 w4 g2 h1 h2 h3 h4)
          have HQU := hid (fun (w3 : World) (hb : Below wr.heap.size wr w3) => question_x c m (tickK S1 k) V' y.ip y pa pn pc w3 (tickW HAI.out HY.out hq HV.out hb).1 (tickW HAI.out HY.out hq HV.out hb).2.1 (tickW HAI.out HY.out hq HV.out hb).2.2.1 (tickW HAI.out HY.out hq HV.out hb).2.2.2.1 (tickW HAI.out HY.out hq HV.out hb).2.2.2.2)
          have hud : decide (y.unt > S1.now) = false := by simpa using hu
          have hqd : decide (0 < y.q) = true := by simpa using hq.1
          have hq3 : decide (y.q < 3) = true := by simpa using hq.2
          rw [hqd] at HAS
          clear HAI HY HV
          obtain ⟨i, t, mc, q, sr, zs⟩ := y
          obtain ⟨b0, b1, b2, b3, b4, b5⟩ := mc
          simp only [Ab.val] at *
          go_wp2_with fail
          go_quiet (fail)
          have HBQ2 := hid (HBQ.out.trans ((bdrewN _ nq).mono HBQ.out.size))
          have HXQ2 : Hid (((wr.alloc (.cells #[.int .i64 t, .int .u8 b0, .int .u8 b1, .int .u8 b2, .int .u8 b3, .int .u8 b4, .int .u8 b5, .int .i64 q, .int .u32 sr, .slice pa pn pc] 87)).drewN nq).heap[wr.heap.size]? = some (.cells #[.int .i64 t, .int .u8 b0, .int .u8 b1, .int .u8 b2, .int .u8 b3, .int .u8 b4, .int .u8 b5, .int .i64 q, .int .u32 sr, .slice pa pn pc] 87 (0, 0))) := HXQ.out
          clear HBQ HXQ hbx0 hc7b
          generalize (wr.alloc (.cells #[.int .i64 t, .int .u8 b0, .int .u8 b1, .int .u8 b2, .int .u8 b3, .int .u8 b4, .int .u8 b5, .int .i64 q, .int .u32 sr, .slice pa pn pc] 87)).drewN nq = wq at HBQ2 HXQ2 ⊢
          have hbx1 : ∀ j, wq.cell? ⟨wr.heap.size, j, none⟩ = (#[.int .i64 t, .int .u8 b0, .int .u8 b1, .int .u8 b2, .int .u8 b3, .int .u8 b4, .int .u8 b5, .int .i64 q, .int .u32 sr, .slice pa pn pc] : Array Value)[j]? := fun j => cell_of_heap HXQ2.out j
          go_wp2_with (first
            | (go_at_call 38; with_reducible refine (HAS.out _ _ _ HBQ2.out HXQ2.out).mono ?_; rintro e w3 ⟨rfl, hbx3, HB3⟩)
            | (go_at_call 41; with_reducible refine (HQU.out _ HB3.out).mono ?_; rintro e w4 ⟨g2, rfl, HG4, HC4, HT4⟩; obtain ⟨a', n', cp', w7, hrun, HL7, HA7⟩ := HFQ.out _ _ _ HB3.out HT4.out HC4.out HG4.out)
            | (at_builtin; refine wpList_append_run _ rfl _ _ _ _ rfl _ _ rfl rfl hrun ?_)
            | fail)
          go_roundw
          case rel => exact ⟨a', _, k + 1, cp', rfl, by first | rfl | (congr 1; omega), by omega, by first | exact HL7 | exact hid rfl, HA7⟩
          case measure => simp only [intOf3]; omega
        · have HFD := hid (fun w3 w4 h1 h2 h3 => tickD (w3 := w3) (w4 := w4) HAI.out HY.out hu hq h1 h2 h3)
          have HDR := hid (fun (w3 : World) (hb : Below wr.heap.size wr w3) => (HAI.out.ca.below hb).drop HIP.out)
          have hud : decide (y.unt > S1.now) = false := by simpa using hu
          clear HAI HY HV
          by_cases hq0 : 0 < y.q
          · have hqd : decide (0 < y.q) = true := by simpa using hq0
            have hq3 : decide (y.q < 3) = false := by simp; omega

            rw [hqd] at HAS
            obtain ⟨i, t, mc, q, sr, zs⟩ := y
            obtain ⟨b0, b1, b2, b3, b4, b5⟩ := mc
            simp only [Ab.val] at *
            go_wp2_with fail
            go_quiet (fail)
            have HBQ2 := hid (HBQ.out.trans ((bdrewN _ nq).mono HBQ.out.size))
            have HXQ2 : Hid (((wr.alloc (.cells #[.int .i64 t, .int .u8 b0, .int .u8 b1, .int .u8 b2, .int .u8 b3, .int .u8 b4, .int .u8 b5, .int .i64 q, .int .u32 sr, .slice pa pn pc] 87)).drewN nq).heap[wr.heap.size]? = some (.cells #[.int .i64 t, .int .u8 b0, .int .u8 b1, .int .u8 b2, .int .u8 b3, .int .u8 b4, .int .u8 b5, .int .i64 q, .int .u32 sr, .slice pa pn pc] 87 (0, 0))) := HXQ.out
            clear HBQ HXQ hbx0 hc7b
            generalize (wr.alloc (.cells #[.int .i64 t, .int .u8 b0, .int .u8 b1, .int .u8 b2, .int .u8 b3, .int .u8 b4, .int .u8 b5, .int .i64 q, .int .u32 sr, .slice pa pn pc] 87)).drewN nq = wq at HBQ2 HXQ2 ⊢
            have hbx1 : ∀ j, wq.cell? ⟨wr.heap.size, j, none⟩ = (#[.int .i64 t, .int .u8 b0, .int .u8 b1, .int .u8 b2, .int .u8 b3, .int .u8 b4, .int .u8 b5, .int .i64 q, .int .u32 sr, .slice pa pn pc] : Array Value)[j]? := fun j => cell_of_heap HXQ2.out j
            go_wp2_with (first
              | (go_at_call 38; with_reducible refine (HAS.out _ _ _ HBQ2.out HXQ2.out).mono ?_; rintro e w3 ⟨rfl, hbx3, HB3⟩; have hc8b := (HCB.out _ HB3.out).2.2.2.1; obtain ⟨w4, hdl, hC4, hm4⟩ := HDR.out _ HB3.out)
              | fail)
            have HE := hid (HFD.out w3 w4 HB3.out hm4 hC4)
            go_roundw
            case rel => exact ⟨a, _, k + 1, cp, rfl, by first | rfl | (congr 1; omega), by omega, HE.out.1, HE.out.2⟩
            case measure => simp only [intOf3]; omega
          · have hqd : decide (0 < y.q) = false := by simpa using hq0
            rw [hqd] at HAS
            obtain ⟨i, t, mc, q, sr, zs⟩ := y
            obtain ⟨b0, b1, b2, b3, b4, b5⟩ := mc
            simp only [Ab.val] at *
            go_wp2_with fail
            go_quiet (fail)
            have HBQ2 := hid (HBQ.out.trans ((bdrewN _ nq).mono HBQ.out.size))
            have HXQ2 : Hid (((wr.alloc (.cells #[.int .i64 t, .int .u8 b0, .int .u8 b1, .int .u8 b2, .int .u8 b3, .int .u8 b4, .int .u8 b5, .int .i64 q, .int .u32 sr, .slice pa pn pc] 87)).drewN nq).heap[wr.heap.size]? = some (.cells #[.int .i64 t, .int .u8 b0, .int .u8 b1, .int .u8 b2, .int .u8 b3, .int .u8 b4, .int .u8 b5, .int .i64 q, .int .u32 sr, .slice pa pn pc] 87 (0, 0))) := HXQ.out
            clear HBQ HXQ hbx0 hc7b
            generalize (wr.alloc (.cells #[.int .i64 t, .int .u8 b0, .int .u8 b1, .int .u8 b2, .int .u8 b3, .int .u8 b4, .int .u8 b5, .int .i64 q, .int .u32 sr, .slice pa pn pc] 87)).drewN nq = wq at HBQ2 HXQ2 ⊢
            have hbx1 : ∀ j, wq.cell? ⟨wr.heap.size, j, none⟩ = (#[.int .i64 t, .int .u8 b0, .int .u8 b1, .int .u8 b2, .int .u8 b3, .int .u8 b4, .int .u8 b5, .int .i64 q, .int .u32 sr, .slice pa pn pc] : Array Value)[j]? := fun j => cell_of_heap HXQ2.out j
            go_wp2_with (first
              | (go_at_call 38; with_reducible refine (HAS.out _ _ _ HBQ2.out HXQ2.out).mono ?_; rintro e w3 ⟨rfl, hbx3, HB3⟩; have hc8b := (HCB.out _ HB3.out).2.2.2.1; obtain ⟨w4, hdl, hC4, hm4⟩ := HDR.out _ HB3.out)
              | fail)
            have HE := hid (HFD.out w3 w4 HB3.out hm4 hC4)
            go_roundw
            case rel => exact ⟨a, _, k + 1, cp, rfl, by first | rfl | (congr 1; omega), by omega, HE.out.1, HE.out.2⟩
            case measure => simp only [intOf3]; omega
    · have hkk : k = N := by omega
      subst hkk
      subst hnl
      go_wp2
      go_ret
      exact ⟨a, cp, rfl, HA.out.start HT1.out HLS.out⟩
end Go.Proofs.Ytaaoelhmanahpaa
