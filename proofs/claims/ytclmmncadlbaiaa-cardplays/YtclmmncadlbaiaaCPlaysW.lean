/-
  The statement CardPlays: both cards made.
-/
import Derived.Test.YtclmmncadlbaiaaCAll
namespace Go.Proofs.Ytclmmncadlbaiaa
open Go.RowKit
set_option linter.all false

theorem mkPair {wa w2 w3 : World} {c g h : Nat} {S : CS} {D : Nat → Prop} {x rg cr rh ct : Nat} (hc : CardW w2 c g h S) (hk : ∀ k, CardK c g h k → wa.heap.size ≤ k) (hr : RefB w3 D x rg cr rh ct S) (hx : ∀ k, RefK D x rg rh k → w2.heap.size ≤ k) (hw : wa.heap.size ≤ w2.heap.size) (hb : Below w2.heap.size w2 w3) (gk : Nat) :
    PairI (w3.alloc (.cells #[.pointer (some ⟨c, 0, none⟩), .pointer (some ⟨x, 0, none⟩), .pointer (some ⟨gk, 0, none⟩)] 41)) ⟨w3.heap.size, c, g, h, x, rg, cr, rh, ct⟩ D gk S S ∧ ∀ k, PairK ⟨w3.heap.size, c, g, h, x, rg, cr, rh, ct⟩ D k → wa.heap.size ≤ k ∧ k ≤ w3.heap.size := by
  have hs := hb.size
  refine ⟨⟨heap_new w3 _, (hc.below hb).below (balloc w3 _), hr.below (balloc w3 _), fun k h1 h2 => ?_, fun h1 => ?_, fun h1 => ?_⟩, fun k h1 => ?_⟩
  · have := hc.lt k h1; have := hx k h2; omega
  · have := hc.lt _ h1; simp only at this; omega
  · have := hr.lt _ h1; simp only at this; omega
  · rcases h1 with rfl | h1 | h1
    · simp only; omega
    · have := hk k h1; have := hc.lt k h1; omega
    · have := hx k h1; have := hr.lt k h1; omega
theorem mkAll {w w1 w2 w3 w4 w5 : World} {n m n2 m2 c g h c2 g2 h2 : Nat} (hn1 : 1 ≤ n) (hn : n ≤ 64) (hm1 : 1 ≤ m) (hm : m ≤ 64) (hn21 : 1 ≤ n2) (hn2 : n2 ≤ 64) (hm21 : 1 ≤ m2) (hm2 : m2 ≤ 64)
    (hl : Below w.heap.size w w1) (hc1 : CardW w2 c g h (CS.new n m)) (hk1 : ∀ k, CardK c g h k → (w1.alloc (.cells #[.slice none 0 0, .slice none 0 0] 38)).heap.size ≤ k) (hd1 : Below (w1.alloc (.cells #[.slice none 0 0, .slice none 0 0] 38)).heap.size (w1.alloc (.cells #[.slice none 0 0, .slice none 0 0] 38)) w2) (he1 : RNewE w2 w3 n m)
    (hc2 : CardW w4 c2 g2 h2 (CS.new n2 m2)) (hk2 : ∀ k, CardK c2 g2 h2 k → (w3.alloc (.cells #[.pointer (some ⟨c, 0, none⟩), .pointer (some ⟨w2.heap.size, 0, none⟩), .pointer (some ⟨w1.heap.size, 0, none⟩)] 41)).heap.size ≤ k) (hd2 : Below (w3.alloc (.cells #[.pointer (some ⟨c, 0, none⟩), .pointer (some ⟨w2.heap.size, 0, none⟩), .pointer (some ⟨w1.heap.size, 0, none⟩)] 41)).heap.size (w3.alloc (.cells #[.pointer (some ⟨c, 0, none⟩), .pointer (some ⟨w2.heap.size, 0, none⟩), .pointer (some ⟨w1.heap.size, 0, none⟩)] 41)) w4) (he2 : RNewE w4 w5 n2 m2) :
    ∃ P Q : Pn, w3.heap.size = P.gp ∧ w5.heap.size = Q.gp ∧ AllE w P Q w1.heap.size 0 (w5.alloc (.cells #[.pointer (some ⟨c2, 0, none⟩), .pointer (some ⟨w4.heap.size, 0, none⟩), .pointer (some ⟨w1.heap.size, 0, none⟩)] 41)) := by
  obtain ⟨rg, cr, rh, ct, r1, q1⟩ := he1.ref hn1 hn hm1 hm
  obtain ⟨rg2, cr2, rh2, ct2, r2, q2⟩ := he2.ref hn21 hn2 hm21 hm2
  have bel1 : Below w2.heap.size w2 w3 := by obtain ⟨_, _, _, _, _, h, _⟩ := he1; exact h.bel
  have bel2 : Below w4.heap.size w4 w5 := by obtain ⟨_, _, _, _, _, h, _⟩ := he2; exact h.bel
  obtain ⟨p1, p2⟩ := mkPair (wa := w1.alloc (.cells #[.slice none 0 0, .slice none 0 0] 38)) hc1 hk1 r1 q1 hd1.size bel1 w1.heap.size
  obtain ⟨p3, p4⟩ := mkPair (wa := w3.alloc (.cells #[.pointer (some ⟨c, 0, none⟩), .pointer (some ⟨w2.heap.size, 0, none⟩), .pointer (some ⟨w1.heap.size, 0, none⟩)] 41)) hc2 hk2 r2 q2 hd2.size bel2 w1.heap.size
  have s1 := hl.size
  have s2 := hd1.size
  have s3 := bel1.size
  have s4 := hd2.size
  have s5 := bel2.size
  simp only [World.size_alloc] at s2 s4 p2 p4
  have b5 : Below w3.heap.size w3 (w5.alloc (.cells #[.pointer (some ⟨c2, 0, none⟩), .pointer (some ⟨w4.heap.size, 0, none⟩), .pointer (some ⟨w1.heap.size, 0, none⟩)] 41)) := bpush (bstep (bstep (balloc w3 _) hd2) bel2) _
  have b3 : Below (w3.alloc (.cells #[.pointer (some ⟨c, 0, none⟩), .pointer (some ⟨w2.heap.size, 0, none⟩), .pointer (some ⟨w1.heap.size, 0, none⟩)] 41)).heap.size (w3.alloc (.cells #[.pointer (some ⟨c, 0, none⟩), .pointer (some ⟨w2.heap.size, 0, none⟩), .pointer (some ⟨w1.heap.size, 0, none⟩)] 41)) (w5.alloc (.cells #[.pointer (some ⟨c2, 0, none⟩), .pointer (some ⟨w4.heap.size, 0, none⟩), .pointer (some ⟨w1.heap.size, 0, none⟩)] 41)) := bpush (bstep hd2 bel2) _
  have bk := (((BookI.new w1 w.heap.size hl.size).below hd1).below bel1).below b5
  have nin : ∀ k, w1.heap.size < k → ¬ InBook w1.heap.size (.slice none 0 0) (.slice none 0 0) k := fun k hk hi => by
    have : k = w1.heap.size := by rcases hi with h | h | h <;> simp_all [Value.ownBlock]
    omega
  have bel : Below w.heap.size w (w5.alloc (.cells #[.pointer (some ⟨c2, 0, none⟩), .pointer (some ⟨w4.heap.size, 0, none⟩), .pointer (some ⟨w1.heap.size, 0, none⟩)] 41)) := bstep (bstep (bstep (bpush hl _) hd1) bel1) b5
  refine ⟨_, _, rfl, rfl, _, _, _, _, _, _, [], ⟨p1.keep b3.size fun k hk => b3.block k (p1.lt k hk), bk, bel.size, fun k hk => ⟨by have := p2 k hk; omega, nin k (by have := p2 k hk; omega), by simp⟩⟩, ⟨p3, bk, bel.size, fun k hk => ⟨by have := p4 k hk; omega, nin k (by have := p4 k hk; omega), by simp⟩⟩, fun k h1 h2 => ?_, by simp [CS.small, CS.new], by simp [CS.small, CS.new], by simp, bel⟩
  have := p2 k h1
  have := p4 k h2
  omega
theorem AllE.boxes {w : World} {P Q : Pn} {gk n : Nat} {wr : World} (h : AllE w P Q gk n wr) : ∃ c x c2 x2, wr.heap[P.gp]? = some (.cells #[.pointer (some ⟨c, 0, none⟩), .pointer (some ⟨x, 0, none⟩), .pointer (some ⟨gk, 0, none⟩)] 41 (0, 0)) ∧ wr.heap[Q.gp]? = some (.cells #[.pointer (some ⟨c2, 0, none⟩), .pointer (some ⟨x2, 0, none⟩), .pointer (some ⟨gk, 0, none⟩)] 41 (0, 0)) ∧ P.gp ≠ Q.gp := by
  obtain ⟨DP, DQ, SP, SQ, L, V, ls, h⟩ := h
  exact ⟨_, _, _, _, h.p.pair.box, h.q.pair.box, fun e => h.pq P.gp (Or.inl rfl) (Or.inl e)⟩
theorem Pairs.boxes {w : World} {P Q : Pn} {gk n : Nat} {wr : World} (h : Pairs w P Q gk n wr) : ∃ c x c2 x2, wr.heap[P.gp]? = some (.cells #[.pointer (some ⟨c, 0, none⟩), .pointer (some ⟨x, 0, none⟩), .pointer (some ⟨gk, 0, none⟩)] 41 (0, 0)) ∧ wr.heap[Q.gp]? = some (.cells #[.pointer (some ⟨c2, 0, none⟩), .pointer (some ⟨x2, 0, none⟩), .pointer (some ⟨gk, 0, none⟩)] 41 (0, 0)) ∧ P.gp ≠ Q.gp := by
  obtain ⟨DP, DQ, SP, SQ, hp, hq, hpq, _⟩ := h
  exact ⟨_, _, _, _, hp.box, hq.box, fun e => hpq P.gp (Or.inl rfl) (Or.inl e)⟩
theorem cell_val {w : World} {b o : Nat} {pt : Part} {l : Nat} (h : w.cell? ⟨b, o, none⟩ = some pt.val) (hl : pt.zs.length = l) : w.cell? ⟨b, o, none⟩ = some (.slice pt.a l pt.c) := by rw [h]; subst hl; rfl
set_option maxRecDepth 20000 in
set_option maxHeartbeats 4000000 in
theorem plays_yy (n m n2 m2 : Nat) (a : Option Addr) (cc : Nat) (xs : List OpR) (w : World) (hn1 : 1 ≤ n) (hn : n ≤ 64) (hm1 : 1 ≤ m) (hm : m ≤ 64) (hn21 : 1 ≤ n2) (hn2 : n2 ≤ 64) (hm21 : 1 ≤ m2) (hm2 : m2 ≤ 64) (hops : OpsAt w a xs) (hsz : xs.length * 40 ≤ 140737488351232 ∧ ∀ i, i < xs.length → (xs.getD i OpR.nil).pt.zs.length ≤ 140737488351232) :
    Calls Try.prog 5 #[.int .i64 n, .int .i64 m, .int .i64 n2, .int .i64 m2, .slice a xs.length cc] w fun e w' => e = .returned (.bool true) ∧ Below w.heap.size w w' := by
  have HOPS := hid hops
  have HSZ := hid hsz.2
  have hN0 : xs.length ≤ 3518437208780 := by omega
  obtain ⟨N, hN⟩ : ∃ N, N = xs.length := ⟨_, rfl⟩
  have HN := hid hN
  rw [← hN] at hN0 ⊢
  clear hops hsz hN
  have HA : Hid (∀ wz, Calls Try.prog 8 #[.int .i64 n, .int .i64 m] wz fun e w' => ∃ c g h, e = .returned (.pointer (some ⟨c, 0, none⟩)) ∧ Hid (CardW w' c g h (CS.new n m)) ∧ Hid (∀ k, CardK c g h k → wz.heap.size ≤ k) ∧ Hid (Below wz.heap.size wz w')) := fun wz => new_yes n m wz hn1 hn hm1 hm
  have HA2 : Hid (∀ wz, Calls Try.prog 8 #[.int .i64 n2, .int .i64 m2] wz fun e w' => ∃ c g h, e = .returned (.pointer (some ⟨c, 0, none⟩)) ∧ Hid (CardW w' c g h (CS.new n2 m2)) ∧ Hid (∀ k, CardK c g h k → wz.heap.size ≤ k) ∧ Hid (Below wz.heap.size wz w')) := fun wz => new_yes n2 m2 wz hn21 hn2 hm21 hm2
  have HB : Hid (∀ wz, Calls Try.prog 9 #[.int .i64 n, .int .i64 m] wz fun e w' => e = .returned (.pointer (some ⟨wz.heap.size, 0, none⟩)) ∧ Hid (RNewE wz w' n m)) := fun wz => refNew_own n m wz hn1 hn hm1 hm
  have HB2 : Hid (∀ wz, Calls Try.prog 9 #[.int .i64 n2, .int .i64 m2] wz fun e w' => e = .returned (.pointer (some ⟨wz.heap.size, 0, none⟩)) ∧ Hid (RNewE wz w' n2 m2)) := fun wz => refNew_own n2 m2 wz hn21 hn2 hm21 hm2
  go_enter Try.func5, Try.ntmps5
  go_upto_region 5 with (first
    | (go_at_call 7; refine (live_any w).mono ?_; rintro e w1 ⟨rfl, hb1⟩; have HL := hid hb1; clear hb1)
    | (go_at_call 8; with_reducible refine (HA.out _).mono ?_; rintro e w2 ⟨c, g, h, rfl, HC1, HK1, HD1⟩)
    | (go_at_call 9; with_reducible refine (HB.out _).mono ?_; rintro e w3 ⟨rfl, HE1⟩)
    | (go_at_call 8; with_reducible refine (HA2.out _).mono ?_; rintro e w4 ⟨c2, g2, h2, rfl, HC2, HK2, HD2⟩)
    | (go_at_call 9; with_reducible refine (HB2.out _).mono ?_; rintro e w5 ⟨rfl, HE2⟩))
  obtain ⟨P, Q, eP, eQ, hall⟩ := mkAll hn1 hn hm1 hm hn21 hn2 hm21 hm2 HL.out HC1.out HK1.out HD1.out HE1.out HC2.out HK2.out HD2.out HE2.out
  generalize hW : w5.alloc (.cells #[.pointer (some ⟨c2, 0, none⟩), .pointer (some ⟨w4.heap.size, 0, none⟩), .pointer (some ⟨w1.heap.size, 0, none⟩)] 41) = W at hall ⊢
  have HALL := hid hall
  clear hall hW HA HA2 HB HB2 HC1 HK1 HD1 HE1 HC2 HK2 HD2 HE2 HL
  rw [eP, eQ]
  clear eP eQ
  generalize w1.heap.size = gk at HALL ⊢
  generalize w2.heap.size = junk1
  generalize w4.heap.size = junk2
  obtain ⟨cp, xp, cq, xq, hbp, hbq, hne⟩ := HALL.out.boxes
  have o1 : W.cell? ⟨P.gp, 0, none⟩ = some (.pointer (some ⟨cp, 0, none⟩)) := cellHeap hbp 0 rfl
  have o2 : W.cell? ⟨P.gp, 1, none⟩ = some (.pointer (some ⟨xp, 0, none⟩)) := cellHeap hbp 1 rfl
  have o3 : W.cell? ⟨Q.gp, 0, none⟩ = some (.pointer (some ⟨cq, 0, none⟩)) := cellHeap hbq 0 rfl
  have o4 : W.cell? ⟨Q.gp, 1, none⟩ = some (.pointer (some ⟨xq, 0, none⟩)) := cellHeap hbq 1 rfl
  have HNE := hid hne
  clear hbp hbq hne
  go_wp2
  clear o1 o2 o3 o4
  go_loopw [15] (fun i wr => ∃ k : Nat, k ≤ N ∧ i = .int .i64 k ∧ Hid (AllE w P Q gk k wr)) (fun i _ => N - (intOf i).toNat)
  case atStart => exact ⟨0, by omega, rfl, HALL⟩
  case round =>
    clear HALL
    obtain ⟨k, hk, rfl, HI⟩ := hrel
    by_cases hlt : k < N
    · have hlt2 : (k : Int) < N := by omega
      obtain ⟨b, o, ha, e1, e2, e3, ok⟩ := HOPS.out k (by rw [← HN.out]; exact hlt)
      have hzl := HSZ.out k (by rw [← HN.out]; exact hlt)
      subst ha
      generalize xs.getD k OpR.nil = qq at e1 e2 e3 ok hzl
      obtain ⟨kd, ki, pt⟩ := qq
      simp only at e1 e2 e3 hzl ok
      have HOKW := hid ok.2.2
      have HZL := hid hzl
      replace e1 := cell_below HI.out.bel e1
      replace e2 := cell_below HI.out.bel e2
      replace e3 := cell_below HI.out.bel e3
      obtain ⟨l, hl⟩ : ∃ l, pt.zs.length = l := ⟨_, rfl⟩
      replace e3 := cell_val e3 hl
      have HL := hid hl.symm
      clear ok hl hzl
      by_cases h4 : (k : Int) % 4 = 3
      · have h5 : (k : Int).tmod 4 = 3 := by rw [Int.tmod_eq_emod_of_nonneg (by omega)]; exact h4
        go_wp2_with (first | (go_at_call 12; refine (HI.out.swap.step ⟨kd, ki, pt⟩ HOKW.out HZL.out l HL.out (by omega)).mono ?_; rintro e w2 ⟨rfl, h2⟩; have H2 := hid h2.swap; clear h2))
        go_roundw
        case rel => exact ⟨k + 1, by omega, by go_num, H2⟩
        case measure => simp [intOf]; omega
      · have h5 : ¬ (k : Int).tmod 4 = 3 := by rw [Int.tmod_eq_emod_of_nonneg (by omega)]; exact h4
        go_wp2_with (first | (go_at_call 12; refine (HI.out.step ⟨kd, ki, pt⟩ HOKW.out HZL.out l HL.out (by omega)).mono ?_; rintro e w2 ⟨rfl, h2⟩; have H2 := hid h2; clear h2))
        go_roundw
        case rel => exact ⟨k + 1, by omega, by go_num, H2⟩
        case measure => simp [intOf]; omega
    · have hge : ¬ (k : Int) < N := by omega
      go_wp2_with (first
        | (go_at_call 13; refine (HI.out.last (by omega)).mono ?_; rintro e w6 ⟨rfl, h2⟩; have HI1 := hid h2.swap; clear h2 HI)
        | (go_at_call 13; refine (HI1.out.last (by omega)).mono ?_; rintro e w7 ⟨rfl, h2⟩; have HI2 := hid h2.swap; clear h2 HI1)
        | (go_at_call 14; refine HI2.out.owned.mono ?_; rintro e w8 ⟨rfl, h2⟩; have HPR := hid h2; have HI3 : Hid (AllE w P Q w8.heap.size _ _) := h2.book; obtain ⟨cp', xp', cq', xq', hbp, hbq, hne⟩ := h2.boxes; have o1 : w8.cell? ⟨P.gp, 2, none⟩ = some (.pointer (some ⟨gk, 0, none⟩)) := cellHeap hbp 2 rfl; have o2 : w8.cell? ⟨Q.gp, 2, none⟩ = some (.pointer (some ⟨gk, 0, none⟩)) := cellHeap hbq 2 rfl; have o3 := frozen_of_heap hbp 2; have o4 := frozen_of_heap hbq 2; have o5 : P.gp < w8.heap.size := heap_lt hbp; have o6 : Q.gp < w8.heap.size := heap_lt hbq; have o7 : ¬ Q.gp = P.gp := (fun e => hne e.symm); clear h2 hbp hbq HI2)
        | (go_at_call 13; refine (HI3.out.last (by omega)).mono ?_; rintro e w9 ⟨rfl, h2⟩; have HI4 := hid h2.swap; clear h2 HI3)
        | (go_at_call 13; refine (HI4.out.last (by omega)).mono ?_; rintro e w10 ⟨rfl, h2⟩; have HI5 := hid h2.bel; clear h2 HI4))
      go_ret
      exact ⟨rfl, HI5.out⟩
end Go.Proofs.Ytclmmncadlbaiaa
