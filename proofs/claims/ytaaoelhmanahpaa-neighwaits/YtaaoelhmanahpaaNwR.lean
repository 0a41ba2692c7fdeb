/-
  NeighWaits: right.
-/
import Derived.Test.YtaaoelhmanahpaaNwM
import Derived.Deep.DeepCutAuto
import Derived.Deep.CutRange
namespace Go.Proofs.Ytaaoelhmanahpaa
open Go.RowKit
set_option linter.all false

theorem RStep.sort {ms : List Tl} {now ip : Int} {ls l1 : List W3} {s : Sd} (h : RStep ms now ip ls s l1) :
    (∃ (d : Mac) (p : Arp), p.ok ∧ p.op = 2 ∧ s = ⟨d, 2054, encL p⟩ ∧ l1 = ls) ∨
    (∃ (d : Mac) (p : Arp), p.ok ∧ p.op = 1 ∧ s = ⟨d, 2054, encL p⟩ ∧ ∃ (k : Nat) (x : W3), One ls k x (fun y => y.ip = p.di) ∧ (0 ≤ x.q ∧ x.q < 3) ∧ l1 = ls.set k ⟨x.n, x.ip, x.q + 1⟩) ∨
    (∃ (d : Mac) (n : Int), d.ok ∧ 0 ≤ n ∧ n < 9223372036854775808 ∧ s = ⟨d, 2048, be8 n⟩ ∧ ((n = now ∧ l1 = ls ∧ (⟨ip, d⟩ : Tl) ∈ ms) ∨ (n ≠ now ∧ ∃ (k : Nat) (x : W3), One ls k x (fun y => y.n = n) ∧ l1 = ls.eraseIdx k ∧ (⟨x.ip, d⟩ : Tl) ∈ ms))) := by
  cases h with
  | tell d p hp ho => exact Or.inl ⟨d, p, hp, ho, rfl, rfl⟩
  | ask d p hp ho k x hx h3 => exact Or.inr (Or.inl ⟨d, p, hp, ho, rfl, k, x, hx, h3, rfl⟩)
  | now_ d hd h0 h1 hm => exact Or.inr (Or.inr ⟨d, now, hd, h0, h1, rfl, Or.inl ⟨rfl, rfl, hm⟩⟩)
  | old d hd n h0 h1 hn k x hx hm => exact Or.inr (Or.inr ⟨d, n, hd, h0, h1, rfl, Or.inr ⟨hn, k, x, hx, rfl, hm⟩⟩)
def Tol (ms : List Tl) (tt : Int) (d : Mac) (k : Nat) (b : Bool) : Prop := b = true ↔ ∃ j, j < k ∧ ms[j]? = some ⟨tt, d⟩
theorem Tol.zero (ms : List Tl) (tt : Int) (d : Mac) : Tol ms tt d 0 false := by simp [Tol]
theorem Tol.on {ms : List Tl} {tt : Int} {d : Mac} {k : Nat} (h : Tol ms tt d k true) : Tol ms tt d (k + 1) true := by
  obtain ⟨j, hj, e⟩ := h.1 rfl
  exact ⟨fun _ => ⟨j, by omega, e⟩, fun _ => rfl⟩
theorem Tol.yes {ms : List Tl} {tt : Int} {d : Mac} {k : Nat} {y : Tl} (hy : ms[k]? = some y) (h1 : y.ip = tt) (h2 : y.mac = d) : Tol ms tt d (k + 1) true := by
  refine ⟨fun _ => ⟨k, by omega, ?_⟩, fun _ => rfl⟩
  obtain ⟨i, m⟩ := y
  simp only at h1 h2
  rw [hy, h1, h2]
theorem Tol.no {ms : List Tl} {tt : Int} {d : Mac} {k : Nat} {y : Tl} (h : Tol ms tt d k false) (hy : ms[k]? = some y) (h1 : ¬ (y.ip = tt ∧ y.mac = d)) : Tol ms tt d (k + 1) false := by
  refine ⟨fun e => by simp at e, fun ⟨j, hj, e⟩ => ?_⟩
  by_cases hjk : j < k
  · exact h.2 ⟨j, hjk, e⟩
  · have : j = k := by omega
    subst this
    rw [hy] at e
    simp at e
    subst e
    exact absurd ⟨rfl, rfl⟩ h1
theorem Tol.all {ms : List Tl} {tt : Int} {d : Mac} {k : Nat} {b : Bool} (h : Tol ms tt d k b) (hk : ms.length ≤ k) (hm : (⟨tt, d⟩ : Tl) ∈ ms) : b = true := by
  obtain ⟨j, hj, e⟩ := List.getElem_of_mem hm
  exact h.2 ⟨j, by omega, by rw [List.getElem?_eq_getElem hj, e]⟩
/-- right, under way. -/
structure RtI (B : Nat) (w0 w : World) (gs : Nat) (ls : List W3) (ms : List Tl) (v : Value) (l : List (Sd × Value)) : Prop where
  se : Se B w gs ls ms
  sk : Sk B w0 w
  outs : Outs w v l
section
variable {B gs : Nat} {w0 w w' : World} {ls ls' : List W3} {ms : List Tl} {v : Value} {l : List (Sd × Value)}
theorem RtI.below (h : RtI B w0 w gs ls ms v l) (hb : Below w.heap.size w w') : RtI B w0 w' gs ls ms v l := ⟨h.se.below hb, h.sk.trans (Sk.of_below hb), h.outs.below hb⟩
theorem RtI.turn (h : RtI B w0 w gs ls ms v l) (hs : Se B w' gs ls' ms) (hk : Sk B w w') : RtI B w0 w' gs ls' ms v l := ⟨hs, h.sk.trans hk, hk.outs h.outs⟩
end
theorem One.at {ls : List W3} {k : Nat} {x : W3} {ip r : Int} (h : One ls k x fun y => y.ip = ip) (hr : atW ls ip r) : r = (k : Int) := by
  rcases hr with ⟨_, h2⟩ | ⟨j, y, h1, h2, h3⟩
  · exact absurd h.2.1 (h2 x (List.mem_of_getElem? h.1))
  · rw [h1, h.2.2 j y h2 h3]
set_option maxRecDepth 40000 in
set_option maxHeartbeats 8000000 in
theorem right_any (B gs : Nat) (ls ls' : List W3) (ms : List Tl) (now ip : Int) (a : Option Addr) (N cp : Nat) (l : List (Sd × Value)) (w : World) (x : Se B w gs ls ms) (o : Outs w (.slice a N cp) l) (hN : l.length = N) (hr : Rights ms now ip ls (l.map (·.1)) ls') (hl : ls.length ≤ 1000) (hm : ms.length ≤ 2199023255552) (hmo : ∀ y ∈ ms, y.mac.ok) (hN6 : N ≤ 1000) :
    Calls Try.prog 15 #[.pointer (some ⟨gs, 0, none⟩), .slice a N cp, .int .i64 now, .int .u32 ip] w fun e w' => e = .returned (.bool true) ∧ Hid (Se B w' gs ls' ms) ∧ Hid (Sk B w w') := by
  have HI0 : Hid (RtI B w w gs ls ms (.slice a N cp) l) := hid ⟨x, Sk.refl _ _, o⟩
  have HR0 : Hid (Rights ms now ip ls ((l.map (·.1)).drop 0) ls') := hid hr
  have HN := hid hN
  have HMO := hid hmo
  obtain ⟨M, hM⟩ : ∃ M, M = ms.length := ⟨_, rfl⟩
  rw [← hM] at hm
  have HM := hid hM
  clear x o hr hN hmo hM
  go_enter Try.func15, Try.ntmps15
  go_wp2_with fail
  go_loopw [9] (fun vi wr => ∃ (k : Nat) (lk : List W3), vi = .int .i64 k ∧ k ≤ N ∧ lk.length ≤ 1000 ∧ Hid (RtI B w wr gs lk ms (.slice a N cp) l) ∧ Hid (Rights ms now ip lk ((l.map (·.1)).drop k) ls')) (fun vi _ => N - (intOf6 vi).toNat)
  case atStart => exact ⟨0, ls, rfl, Nat.zero_le _, hl, HI0, HR0⟩
  case round =>
    clear HI0 HR0 hl
    obtain ⟨k, lk, rfl, hk, hlk, HI, HR⟩ := hrel
    by_cases hkN : k < N
    · obtain ⟨p, hp⟩ : ∃ p, l[k]? = some p := ⟨_, List.getElem?_eq_getElem (by rw [HN.out]; exact hkN)⟩
      obtain ⟨l1, hst, hre⟩ := HR.out.next (s := p.1) (by simp [hp])
      have HL1 : Hid (l1.length ≤ lk.length) := hst.len
      have HRE := hid hre
      obtain ⟨s, v⟩ := p
      obtain ⟨pa, pn, pc, hv⟩ := HI.out.outs.form _ (List.mem_of_getElem? hp)
      simp only at hv
      subst hv
      have HD := hid (HI.out.outs.dat _ (List.mem_of_getElem? hp))
      have HP := hid hp
      obtain ⟨g, rfl, hc⟩ := HI.out.outs.ent hp
      clear hre HR hp
      simp only at hst HD hc
      rcases hst.sort with ⟨d, q, hq, ho, rfl, rfl⟩ | ⟨d, q, hq, ho, rfl, k0, y, hy, h3, rfl⟩ | ⟨d, n, hd, h0, h1, rfl, hPP⟩
      · have c6 : wr.cell? ⟨g, k * 8 + 6, none⟩ = some (.int .i64 2054) := hc 6 (by omega)
        have c7 : wr.cell? ⟨g, k * 8 + 7, none⟩ = some (.slice pa pn pc) := hc 7 (by omega)
        have HDC := hid (deca_any q _ wr hq (by simp [opB, ho]) HD.out)
        have HAT := hid (fun (W : World) (hb : Below wr.heap.size wr W) => at_any B gs l1 ms q.di W (HI.out.se.below hb) hlk)
        clear hc hst HD hq
        obtain ⟨qo, ⟨s0, s1, s2, s3, s4, s5⟩, si, ⟨d0, d1, d2, d3, d4, d5⟩, di⟩ := q
        simp only at ho
        subst ho
        simp only [Arp.val] at HDC HAT
        as_aux_lemma =>
          go_wp2_with (first
            | (go_at_call 42; refine HDC.out.mono ?_; go_loud (rintro e w1 ⟨rfl, hb1⟩; have HB1 := hid hb1; clear hb1))
            | (go_at_call 14; refine (HAT.out _ (bpush HB1.out _)).mono ?_; go_loud (rintro e w2 ⟨r, rfl, HAW, hw2⟩; subst w2))
            | fail)
          go_roundw
          case rel => exact ⟨k + 1, l1, by first | rfl | (congr 1; omega), by omega, hlk, HI.out.below (bpush HB1.out _), HRE⟩
          case measure => simp only [intOf6]; omega
      · have c6 : wr.cell? ⟨g, k * 8 + 6, none⟩ = some (.int .i64 2054) := hc 6 (by omega)
        have c7 : wr.cell? ⟨g, k * 8 + 7, none⟩ = some (.slice pa pn pc) := hc 7 (by omega)
        have HDC := hid (deca_any q _ wr hq (by simp [opB, ho]) HD.out)
        have HAT := hid (fun (W : World) (hb : Below wr.heap.size wr W) => at_any B gs lk ms q.di W (HI.out.se.below hb) hlk)
        have HY := hid hy
        have HK0 : Hid (k0 < lk.length) := (List.getElem?_eq_some_iff.1 hy.1).1
        clear hc hst HD hq hy
        obtain ⟨qo, ⟨s0, s1, s2, s3, s4, s5⟩, si, ⟨d0, d1, d2, d3, d4, d5⟩, di⟩ := q
        simp only at ho
        subst ho
        simp only [Arp.val] at HDC HAT
        as_aux_lemma =>
          go_upto_region 10 with (first
            | (go_at_call 42; refine HDC.out.mono ?_; go_loud (rintro e w1 ⟨rfl, hb1⟩; have HB1 := hid hb1; clear hb1))
            | (go_at_call 14; refine (HAT.out _ (bpush HB1.out _)).mono ?_; go_loud (rintro e w2 ⟨r, rfl, HAW, hw2⟩; subst w2))
            | fail)
          obtain rfl : r = (k0 : Int) := HY.out.at HAW.out
          have HI2 := hid (HI.out.below (bpush HB1.out (.cells #[.int .i64 1, .int .u8 s0, .int .u8 s1, .int .u8 s2, .int .u8 s3, .int .u8 s4, .int .u8 s5, .int .u32 si, .int .u8 d0, .int .u8 d1, .int .u8 d2, .int .u8 d3, .int .u8 d4, .int .u8 d5, .int .u32 di] 42)))
          clear HAW HAT HDC
          generalize w1.alloc (.cells #[.int .i64 1, .int .u8 s0, .int .u8 s1, .int .u8 s2, .int .u8 s3, .int .u8 s4, .int .u8 s5, .int .u32 si, .int .u8 d0, .int .u8 d1, .int .u8 d2, .int .u8 d3, .int .u8 d4, .int .u8 d5, .int .u32 di] 42) = W2 at *
          obtain ⟨al, cl, am, cm, X⟩ := HI2.out.se
          have b0 := X.c0
          obtain ⟨gl, rfl, e0, e1, e2⟩ := X.ent HY.out.1
          have hfz := X.frz (x := y) (k := k0) (j := k0 * 3 + 2)
          have HF := hid (X.bump HY.out.1 (y.q + 1))
          have hq1 : IntKind.i64.wrap (y.q + 1) = y.q + 1 := by simp only [IntKind.wrap_i64]; omega
          have hq2 : ¬ (3 : Int) ≤ y.q := by omega
          have hk1 : ¬ (k0 : Int) < 0 := by omega
          have hk2 : (k0 : Int) < (lk.length : Int) := by have := HK0.out; omega
          clear X
          go_wp2_with fail
          go_roundw
          case rel => exact ⟨k + 1, _, by first | rfl | (congr 1; omega), by omega, by rw [List.length_set]; exact hlk, HI2.out.turn HF.out.1 HF.out.2, HRE⟩
          case measure => simp only [intOf6]; omega
      · have c0 : wr.cell? ⟨g, k * 8, none⟩ = some (.int .u8 d.b0) := hc 0 (by omega)
        have c6 : wr.cell? ⟨g, k * 8 + 6, none⟩ = some (.int .i64 2048) := hc 6 (by omega)
        have c7 : wr.cell? ⟨g, k * 8 + 7, none⟩ = some (.slice pa pn pc) := hc 7 (by omega)
        have HGT := hid (get8_any n _ wr h0 (by omega) HD.out)
        have HPP := hid hPP
        have HDO := hid hd
        have hwn : IntKind.i64.wrap n = n := by simp only [IntKind.wrap_i64]; omega
        clear hc hst HD hPP hd
        as_aux_lemma =>
          go_upto_if 87 with (first
            | (go_at_call 43; refine HGT.out.mono ?_; go_loud (rintro e w1 ⟨rfl, hw1⟩; subst w1))
            | fail)
          go_cut [15] (fun vt wx => ∃ tt : Int, vt = .int .u32 tt ∧ Hid (RtI B w wx gs l1 ms (.slice (some ⟨g, 0, none⟩) N cp) l) ∧ Hid ((⟨tt, d⟩ : Tl) ∈ ms))
          case first =>
            rcases HPP.out with ⟨rfl, rfl, hm1⟩ | ⟨hn, k0, y, hy, rfl, hm1⟩
            · have hnn : (n != n) = false := by simp
              have HM1 := hid hm1
              clear hm1
              go_wp2_with fail
              go_meet
              case rel => exact ⟨ip, rfl, HI, HM1⟩
            · have hnn : (n != now) = true := by simpa using hn
              have HM1 := hid hm1
              have HY := hid hy
              have HK0 : Hid (k0 < lk.length) := (List.getElem?_eq_some_iff.1 hy.1).1
              obtain ⟨L, hL⟩ : ∃ L, L = lk.length := ⟨_, rfl⟩
              have HLL := hid hL
              have hL6 : L ≤ 1000 := by rw [hL]; exact hlk
              obtain ⟨al, cl, am, cm, X⟩ := HI.out.se
              have b0 := X.c0
              obtain ⟨gl, rfl, e0, e1, e2⟩ := X.ent HY.out.1
              have HEN : Hid (∀ (j : Nat) (z : W3), lk[j]? = some z → wr.cell? ⟨gl, j * 3, none⟩ = some (.int .i64 z.n)) := fun j z hz => by
                obtain ⟨g', h1, h2, _⟩ := X.ent hz
                simp only [Option.some.injEq, Addr.mk.injEq, and_true] at h1
                subst h1
                exact h2
              have HWO := hid (without_any B gs lk ms k0 wr HI.out.se hlk)
              rw [← hL] at b0
              have hk2 : (k0 : Int) < (L : Int) := by have := HK0.out; omega
              have hk1 : ¬ (k0 : Int) < 0 := by omega
              clear X hy hm1 hL hn
              go_wp2_with fail
              go_loop [16, 17] (fun v16 v17 => ∃ (j : Nat) (r : Int), v17 = .int .i64 j ∧ v16 = .int .i64 r ∧ j ≤ L ∧ (k0 < j → r = (k0 : Int)) ∧ (j ≤ k0 → r = -1)) (fun _ v17 => L - (intOf6 v17).toNat)
              case atStart => exact ⟨0, -1, rfl, rfl, Nat.zero_le _, fun h => by omega, fun _ => rfl⟩
              case round =>
                obtain ⟨j, r, rfl, rfl, hj, hr1, hr2⟩ := hrel
                by_cases hjL : j < L
                · obtain ⟨z, hz⟩ : ∃ z, lk[j]? = some z := ⟨_, List.getElem?_eq_getElem (by rw [← HLL.out]; exact hjL)⟩
                  have hcz := HEN.out j z hz
                  by_cases he : z.n = n
                  · have hjk : j = k0 := HY.out.2.2 j z hz he
                    have HJK := hid hjk
                    have heb : (z.n == n) = true := by simpa using he
                    clear hz he hjk
                    go_wp2_with fail
                    go_round
                    case rel => exact ⟨j + 1, (j : Int), by first | rfl | (congr 1; omega), rfl, by omega, fun _ => by rw [HJK.out], fun h => by have := HJK.out; omega⟩
                    case measure => simp only [intOf6]; omega
                  · have hjk : j ≠ k0 := fun e => he (by
                      have := HY.out.1
                      rw [← e, hz] at this
                      simp only [Option.some.injEq] at this
                      rw [this]; exact HY.out.2.1)
                    have HJK := hid hjk
                    have heb : (z.n == n) = false := by simpa using he
                    clear hz he hjk
                    go_wp2_with fail
                    go_round
                    case rel => exact ⟨j + 1, r, by first | rfl | (congr 1; omega), rfl, by omega, fun h => hr1 (by have := HJK.out; omega), fun h => hr2 (by omega)⟩
                    case measure => simp only [intOf6]; omega
                · obtain rfl : r = (k0 : Int) := hr1 (by omega)
                  clear hr1 hr2
                  go_wp2_with (first
                    | (go_at_call 44; refine HWO.out.mono ?_; go_loud (rintro e w2 ⟨rfl, HS2, HK2⟩))
                    | fail)
                  go_meet
                  case rel => exact ⟨y.ip, rfl, HI.out.turn HS2.out HK2.out, HM1⟩
          case rest =>
            obtain ⟨tt, rfl, HI2, HM1⟩ := hcut
            clear HPP HGT HI c0 c6 c7
            go_wp2_with fail
            go_loopw [18, 19] (fun vg vk wx => ∃ (b : Bool) (j : Nat), vg = .bool b ∧ vk = .int .i64 j ∧ j ≤ M ∧ Hid (Tol ms tt d j b) ∧ Hid (RtI B w wx gs l1 ms (.slice (some ⟨g, 0, none⟩) N cp) l)) (fun _ vk _ => M - (intOf6 vk).toNat)
            case atStart => exact ⟨false, 0, rfl, rfl, Nat.zero_le _, Tol.zero _ _ _, HI2⟩
            case round =>
              obtain ⟨b, j, rfl, rfl, hj, HT, HIX⟩ := hrel
              clear HI2
              obtain ⟨al, cl, am, cm, X⟩ := HIX.out.se
              have b1 := X.c1
              rw [← HM.out] at b1
              obtain ⟨g', hg', hc⟩ := HIX.out.outs.ent HP.out
              simp only [Option.some.injEq, Addr.mk.injEq, and_true] at hg'
              subst hg'
              by_cases hjM : j < M
              · obtain ⟨y, hy⟩ : ∃ y, ms[j]? = some y := ⟨_, List.getElem?_eq_getElem (by rw [← HM.out]; exact hjM)⟩
                obtain ⟨gt, rfl, e0, e1, e2, e3, e4, e5, e6⟩ := X.tent hy
                have hj0 : (0 : Int) ≤ (j : Int) := by omega
                have hj1 : (j : Int) < (M : Int) := by omega
                have hk0 : (0 : Int) ≤ (k : Int) := by omega
                have hk1 : (k : Int) < (N : Int) := by omega
                cases b
                · by_cases hyt : y.ip = tt
                  · have q0 : wr.cell? ⟨g, k * 8, none⟩ = some (.int .u8 d.b0) := hc 0 (by omega)
                    have q1 : wr.cell? ⟨g, k * 8 + 1, none⟩ = some (.int .u8 d.b1) := hc 1 (by omega)
                    have q2 : wr.cell? ⟨g, k * 8 + 2, none⟩ = some (.int .u8 d.b2) := hc 2 (by omega)
                    have q3 : wr.cell? ⟨g, k * 8 + 3, none⟩ = some (.int .u8 d.b3) := hc 3 (by omega)
                    have q4 : wr.cell? ⟨g, k * 8 + 4, none⟩ = some (.int .u8 d.b4) := hc 4 (by omega)
                    have q5 : wr.cell? ⟨g, k * 8 + 5, none⟩ = some (.int .u8 d.b5) := hc 5 (by omega)
                    have heb : (y.ip == tt) = true := by simpa using hyt
                    have hme := fun W => mac_eq y.mac d (HMO.out y (List.mem_of_getElem? hy)) HDO.out W
                    simp only [Mac.val] at hme
                    by_cases hmm : y.mac = d
                    · have HT2 := hid (Tol.yes hy hyt hmm)
                      rw [decide_eq_true hmm] at hme
                      clear hc X hy hyt hmm
                      go_wp2_with (first | go_quiet (fail) | fail)
                      go_roundw
                      case rel => exact ⟨true, j + 1, rfl, by first | rfl | (congr 1; omega), by omega, HT2, HIX.out.below (bdrewN _ _)⟩
                      case measure => simp only [intOf6]; omega
                    · have HT2 := hid (HT.out.no hy fun h => hmm h.2)
                      rw [decide_eq_false hmm] at hme
                      clear hc X hy hyt hmm
                      go_wp2_with (first | go_quiet (fail) | fail)
                      go_roundw
                      case rel => exact ⟨false, j + 1, rfl, by first | rfl | (congr 1; omega), by omega, HT2, HIX.out.below (bdrewN _ _)⟩
                      case measure => simp only [intOf6]; omega
                  · have heb : (y.ip == tt) = false := by simpa using hyt
                    have HT2 := hid (HT.out.no hy fun h => hyt h.1)
                    clear hc X hy hyt
                    go_wp2_with (first | go_quiet (fail) | fail)
                    go_roundw
                    case rel => exact ⟨false, j + 1, rfl, by first | rfl | (congr 1; omega), by omega, HT2, HIX.out.below (bdrewN _ _)⟩
                    case measure => simp only [intOf6]; omega
                · have HT2 := hid HT.out.on
                  clear hc X hy
                  go_wp2_with (first | go_quiet (fail) | fail)
                  go_roundw
                  case rel => exact ⟨true, j + 1, rfl, by first | rfl | (congr 1; omega), by omega, HT2, HIX.out.below (bdrewN _ _)⟩
                  case measure => simp only [intOf6]; omega
              · obtain rfl : b = true := HT.out.all (by rw [← HM.out]; omega) HM1.out
                have q6 : wr.cell? ⟨g, k * 8 + 6, none⟩ = some (.int .i64 2048) := hc 6 (by omega)
                clear hc X
                go_wp2_with fail
                go_roundw
                case rel => exact ⟨k + 1, l1, by first | rfl | (congr 1; omega), by omega, by have := HL1.out; omega, HIX, HRE⟩
                case measure => simp only [intOf6]; omega
    · have hkk : k = N := by omega
      have HE : Hid (ls' = lk) := HR.out.done (by rw [List.length_map, HN.out]; omega)
      have HF : Hid (Se B wr gs ls' ms) := by rw [HE.out]; exact HI.out.se
      clear hkN HE
      go_wp2_with fail
      go_ret
      exact ⟨rfl, HF, HI.out.sk⟩
end Go.Proofs.Ytaaoelhmanahpaa
