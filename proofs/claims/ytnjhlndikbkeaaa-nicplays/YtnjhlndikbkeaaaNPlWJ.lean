import Derived.Test.YtnjhlndikbkeaaaNPlAJ
import Derived.Test.YtnjhlndikbkeaaaNPlP
import Derived.Test.YtnjhlndikbkeaaaNOpenO
/-
  The statement NicPlays: both made, each call of the script on both.
-/
namespace Go.Proofs.Ytnjhlndikbkeaaa
open Go.RowKit
set_option linter.all false
/-- a call of a script, on both. -/
theorem nstep_any {wB : World} {P : NP} {own : Mac} {n m : Nat} (w : World) (j : Nat) (h : NAll wB w P own n m j) (hj : j < 2199023255552) (ho : own.ok) (kd ki : Int) (pa : Option Addr) (pl pc : Nat) (pz : List Int) (d0 d1 d2 d3 d4 d5 sk : Int) (sa : Option Addr) (sl sc : Nat) (sz : List Int) (hp : Part.ok wB ⟨pa, pc, pz⟩) (hpl : pl = pz.length) (hpm : pl ≤ 140737488351232) (hki : ki ≤ 9223372036854775807) (hd : (⟨d0, d1, d2, d3, d4, d5⟩ : Mac).ok) (hs : Part.ok wB ⟨sa, sc, sz⟩) (hsl : sl = sz.length) (hsm : sl ≤ 140737488351232) :
    Calls Try.prog 11 #[.pointer (some ⟨P.gp, 0, none⟩), (.agg #[.int .i64 kd, .int .i64 ki, .slice pa pl pc, .int .u8 d0, .int .u8 d1, .int .u8 d2, .int .u8 d3, .int .u8 d4, .int .u8 d5, .int .i64 sk, .slice sa sl sc])] w fun e w' => e = .returned (.bool true) ∧ NAll wB w' P own n m (j + 1) := by
  by_cases k1 : kd = 1
  · subst k1
    exact nstep_arrive w j h (by omega) ki pa pl pc pz d0 d1 d2 d3 d4 d5 sk sa sl sc hp hpl hpm
  · by_cases k2 : kd = 2
    · subst k2
      exact nstep_depart w j h (by omega) ki pa pl pc pz d0 d1 d2 d3 d4 d5 sk sa sl sc
    · by_cases k3 : kd = 3
      · subst k3
        exact nstep_poll w j h hj ho ki pa pl pc d0 d1 d2 d3 d4 d5 sk sa sl sc hki
      · by_cases k4 : kd = 4
        · subst k4
          exact nstep_send w j h hj ho ki pa pl pc d0 d1 d2 d3 d4 d5 sk sa sl sc hd sz hs hsl hsm
        · exact nstep_look w j h kd k1 k2 k3 k4 ki pa pl pc pz d0 d1 d2 d3 d4 d5 sk sa sl sc
set_option maxRecDepth 20000 in
set_option maxHeartbeats 8000000 in
theorem nplays_yes (n m : Nat) (own : Mac) (a : Option Addr) (cc : Nat) (xs : List OpN) (w : World) (ho : own.ok) (hn1 : 1 ≤ n) (hn : n ≤ 64) (hm1 : 1 ≤ m) (hm : m ≤ 64) (hops : OpsN w a xs) (hsz : xs.length * 80 ≤ 140737488351232 ∧ ∀ i, i < xs.length → (xs.getD i OpN.nil).pt.zs.length ≤ 140737488351232 ∧ (xs.getD i OpN.nil).sp.zs.length ≤ 140737488351232) :
    Calls Try.prog 4 #[.int .i64 n, .int .i64 m, own.val, .slice a xs.length cc] w fun e w' => e = .returned (.bool true) ∧ Below w.heap.size w w' := by
  have HOPS := hid hops
  have HSZ := hid hsz.2
  have HO := hid ho
  have hL0 : xs.length ≤ 1759218604390 := by omega
  obtain ⟨L, hL⟩ : ∃ L, L = xs.length := ⟨_, rfl⟩
  have HL := hid hL
  rw [← hL] at hL0 ⊢
  clear hops hsz hL ho
  have HA : Hid (∀ wz, Calls Try.prog 7 #[.int .i64 n, .int .i64 m] wz fun e w' => ∃ c g h, e = .returned (.pointer (some ⟨c, 0, none⟩)) ∧ Hid (CardW w' c g h (CS.new n m)) ∧ Hid (∀ k, CardK c g h k → wz.heap.size ≤ k) ∧ Hid (Below wz.heap.size wz w')) := fun wz => new_yes n m wz hn1 hn hm1 hm
  have HB : Hid (∀ wz, Calls Try.prog 8 #[.int .i64 n, .int .i64 m] wz fun e w' => e = .returned (.pointer (some ⟨wz.heap.size, 0, none⟩)) ∧ Hid (RNewE wz w' n m)) := fun wz => refNew_own n m wz hn1 hn hm1 hm
  unfold Mac.val
  go_enter Try.func4, Try.ntmps4
  go_upto_region 5 with (first
    | (go_at_call 6; refine (nlive_any _).mono ?_; rintro e w1 ⟨rfl, hb1⟩; have HLV := hid hb1; clear hb1)
    | (go_at_call 7; with_reducible refine (HA.out _).mono ?_; rintro e w2 ⟨c, g, h, rfl, HC1, HK1, HD1⟩)
    | (go_at_call 8; with_reducible refine (HB.out _).mono ?_; rintro e w3 ⟨rfl, HE1⟩))
  obtain ⟨P, eP, hst⟩ := mkStart hn1 hn hm1 hm HLV.out HC1.out HK1.out HD1.out HE1.out
  have H3 := hid hst
  generalize (w3.alloc (.cells #[.slice none 0 0, .slice none 0 0] 35)).alloc (.cells #[.pointer (some ⟨c, 0, none⟩), .pointer none, .pointer (some ⟨w2.heap.size, 0, none⟩), .pointer none, .pointer (some ⟨w3.heap.size, 0, none⟩)] 39) = W3 at *
  rw [eP]
  clear hst eP HA HB HLV HC1 HK1 HD1 HE1
  generalize w3.heap.size = junk1
  generalize w2.heap.size = junk2
  have HSA : Hid (∀ (W : World) (v1 v3 : Value), NMk w W own n m P v1 v3 → W.cell? ⟨P.gp, 0, none⟩ = some (.pointer (some ⟨P.c, 0, none⟩)) ∧ W.cell? ⟨w.heap.size, 0, none⟩ = some (.int .u8 own.b0) ∧ W.cell? ⟨w.heap.size, 1, none⟩ = some (.int .u8 own.b1) ∧ W.cell? ⟨w.heap.size, 2, none⟩ = some (.int .u8 own.b2) ∧ W.cell? ⟨w.heap.size, 3, none⟩ = some (.int .u8 own.b3) ∧ W.cell? ⟨w.heap.size, 4, none⟩ = some (.int .u8 own.b4) ∧ W.cell? ⟨w.heap.size, 5, none⟩ = some (.int .u8 own.b5)) := fun W v1 v3 q => ⟨cellHeap q.box 0 rfl, cellHeap q.mac 0 rfl, cellHeap q.mac 1 rfl, cellHeap q.mac 2 rfl, cellHeap q.mac 3 rfl, cellHeap q.mac 4 rfl, cellHeap q.mac 5 rfl⟩
  have HSB : Hid (∀ (W : World) (v1 v3 : Value), NMk w W own n m P v1 v3 → W.cell? ⟨P.gp, 2, none⟩ = some (.pointer (some ⟨P.x, 0, none⟩)) ∧ W.cell? ⟨w.heap.size, 0, none⟩ = some (.int .u8 own.b0) ∧ W.cell? ⟨w.heap.size, 1, none⟩ = some (.int .u8 own.b1) ∧ W.cell? ⟨w.heap.size, 2, none⟩ = some (.int .u8 own.b2) ∧ W.cell? ⟨w.heap.size, 3, none⟩ = some (.int .u8 own.b3) ∧ W.cell? ⟨w.heap.size, 4, none⟩ = some (.int .u8 own.b4) ∧ W.cell? ⟨w.heap.size, 5, none⟩ = some (.int .u8 own.b5)) := fun W v1 v3 q => ⟨cellHeap q.box 2 rfl, cellHeap q.mac 0 rfl, cellHeap q.mac 1 rfl, cellHeap q.mac 2 rfl, cellHeap q.mac 3 rfl, cellHeap q.mac 4 rfl, cellHeap q.mac 5 rfl⟩
  have HN1 : Hid (∀ W, NMk w W own n m P (.pointer none) (.pointer none) → Calls Try.prog 9 #[.pointer (some ⟨P.c, 0, none⟩), (.agg #[.int .u8 own.b0, .int .u8 own.b1, .int .u8 own.b2, .int .u8 own.b3, .int .u8 own.b4, .int .u8 own.b5])] W fun e w' => ∃ q, e = .returned (.pointer (some ⟨q, 0, none⟩)) ∧ Hid (NicW w' q own P.c P.g P.h n m (CS.new n m) NS.new ∧ P.gp < q) ∧ Hid (NMk w w' own n m P (.pointer none) (.pointer none))) := fun W h => by
    have := nnew_yes own P.c P.g P.h (CS.new n m) W h.card
    simp only [CS.new, List.length_replicate] at this
    refine this.mono ?_
    rintro e w' ⟨q, rfl, h1, h2, h3⟩
    exact ⟨q, rfl, ⟨h1, by have := heap_lt h.box; omega⟩, h.below h3⟩
  have HN2 : Hid (∀ W q, NMk w W own n m P (.pointer (some ⟨q, 0, none⟩)) (.pointer none) → NicW W q own P.c P.g P.h n m (CS.new n m) NS.new → Calls Try.prog 10 #[.pointer (some ⟨P.x, 0, none⟩), (.agg #[.int .u8 own.b0, .int .u8 own.b1, .int .u8 own.b2, .int .u8 own.b3, .int .u8 own.b4, .int .u8 own.b5])] W fun e w' => ∃ y, e = .returned (.pointer (some ⟨y, 0, none⟩)) ∧ Hid (RNicW w' y own (fun _ => False) P.x P.rg P.cr P.rh P.ct n m (CS.new n m) NS.new ∧ NicW w' q own P.c P.g P.h n m (CS.new n m) NS.new ∧ P.gp < y ∧ q < y) ∧ Hid (NMk w w' own n m P (.pointer (some ⟨q, 0, none⟩)) (.pointer none))) := fun W q h hq => by
    have := rnew_yes own (fun _ => False) P.x P.rg P.cr P.rh P.ct n m (CS.new n m) W h.ref (by simp [CS.new]) (by simp [CS.new])
    refine this.mono ?_
    rintro e w' ⟨y, rfl, h1, h2, h3⟩
    exact ⟨y, rfl, ⟨h1, hq.keep fun k hk => h3.block k (hq.lt k hk), by have := heap_lt h.box; omega, by have := heap_lt hq.box; omega⟩, h.below h3⟩
  have hgl : P.gp < W3.heap.size := heap_lt H3.out.box
  have hol : w.heap.size < W3.heap.size := heap_lt H3.out.mac
  have hne : ¬ w.heap.size = P.gp := by have h1 := H3.out.xlt; have h2 := H3.out.g1; omega
  apply cut2 (H := fun W q => Hid ((NicW W q own P.c P.g P.h n m (CS.new n m) NS.new ∧ P.gp < q) ∧ NMk w W own n m P (.pointer none) (.pointer none)))
  · intro hcut
    go_region_held3 (fun x => x.cell? ⟨P.gp, 0, none⟩ = some (.pointer (some ⟨P.c, 0, none⟩)) ∧ x.cell? ⟨w.heap.size, 0, none⟩ = some (.int .u8 own.b0) ∧ x.cell? ⟨w.heap.size, 1, none⟩ = some (.int .u8 own.b1) ∧ x.cell? ⟨w.heap.size, 2, none⟩ = some (.int .u8 own.b2) ∧ x.cell? ⟨w.heap.size, 3, none⟩ = some (.int .u8 own.b3) ∧ x.cell? ⟨w.heap.size, 4, none⟩ = some (.int .u8 own.b4) ∧ x.cell? ⟨w.heap.size, 5, none⟩ = some (.int .u8 own.b5)) (first | exact HSA.out _ _ _ (H3.out.drewN 1) | exact HS3.out | exact HS4.out | go_keep | fail) (first
      | (go_at_call 9; refine (HN1.out _ (H3.out.drewN 1)).mono ?_; rintro e w4 ⟨q, rfl, HQ4, H4⟩; have HS3 : Hid (w4.cell? ⟨P.gp, 0, none⟩ = some (.pointer (some ⟨P.c, 0, none⟩)) ∧ w4.cell? ⟨w.heap.size, 0, none⟩ = some (.int .u8 own.b0) ∧ w4.cell? ⟨w.heap.size, 1, none⟩ = some (.int .u8 own.b1) ∧ w4.cell? ⟨w.heap.size, 2, none⟩ = some (.int .u8 own.b2) ∧ w4.cell? ⟨w.heap.size, 3, none⟩ = some (.int .u8 own.b3) ∧ w4.cell? ⟨w.heap.size, 4, none⟩ = some (.int .u8 own.b4) ∧ w4.cell? ⟨w.heap.size, 5, none⟩ = some (.int .u8 own.b5)) := HSA.out _ _ _ H4.out; have HS4 := hid (HSA.out _ _ _ (H4.out.set1 (.pointer (some ⟨q, 0, none⟩)))); have p1 : w4.cell? ⟨P.gp, 1, none⟩ = some (.pointer none) := cellHeap H4.out.box 1 rfl; have pf := frozen_of_heap H4.out.box 1; have pl := heap_lt H4.out.box; have hcu := hcut w4 q ⟨HQ4.out, H4.out⟩; clear HQ4 H4)
      | fail)
    all_goals exact hcu
  intro w4 q HW4
  have H5 := hid (HW4.out.2.set1 (.pointer (some ⟨q, 0, none⟩)))
  have HQ5 : Hid (NicW (w4.setCell ⟨P.gp, 1, none⟩ (.pointer (some ⟨q, 0, none⟩))) q own P.c P.g P.h n m (CS.new n m) NS.new) := HW4.out.2.nicSet HW4.out.1.1 HW4.out.1.2 (But.setCell _ _ _ _)
  have hgq := HW4.out.1.2
  clear HW4 HN1 H3 hgl hol
  generalize w4.setCell ⟨P.gp, 1, none⟩ (.pointer (some ⟨q, 0, none⟩)) = W5 at *
  have hgl : P.gp < W5.heap.size := heap_lt H5.out.box
  have hol : w.heap.size < W5.heap.size := heap_lt H5.out.mac
  go_upto_region 6 with (first | fail)
  apply cut2 (H := fun W y => Hid ((RNicW W y own (fun _ => False) P.x P.rg P.cr P.rh P.ct n m (CS.new n m) NS.new ∧ NicW W q own P.c P.g P.h n m (CS.new n m) NS.new ∧ P.gp < y ∧ q < y) ∧ NMk w W own n m P (.pointer (some ⟨q, 0, none⟩)) (.pointer none)))
  · intro hcut
    go_region_held3 (fun x => x.cell? ⟨P.gp, 2, none⟩ = some (.pointer (some ⟨P.x, 0, none⟩)) ∧ x.cell? ⟨w.heap.size, 0, none⟩ = some (.int .u8 own.b0) ∧ x.cell? ⟨w.heap.size, 1, none⟩ = some (.int .u8 own.b1) ∧ x.cell? ⟨w.heap.size, 2, none⟩ = some (.int .u8 own.b2) ∧ x.cell? ⟨w.heap.size, 3, none⟩ = some (.int .u8 own.b3) ∧ x.cell? ⟨w.heap.size, 4, none⟩ = some (.int .u8 own.b4) ∧ x.cell? ⟨w.heap.size, 5, none⟩ = some (.int .u8 own.b5)) (first | exact HSB.out _ _ _ (H5.out.drewN 1) | exact HS3.out | exact HS4.out | go_keep | fail) (first
      | (go_at_call 10; refine (HN2.out _ q (H5.out.drewN 1) (HQ5.out.keep fun _ _ => rfl)).mono ?_; rintro e w6 ⟨y, rfl, HQ6, H6⟩; have HS3 : Hid (w6.cell? ⟨P.gp, 2, none⟩ = some (.pointer (some ⟨P.x, 0, none⟩)) ∧ w6.cell? ⟨w.heap.size, 0, none⟩ = some (.int .u8 own.b0) ∧ w6.cell? ⟨w.heap.size, 1, none⟩ = some (.int .u8 own.b1) ∧ w6.cell? ⟨w.heap.size, 2, none⟩ = some (.int .u8 own.b2) ∧ w6.cell? ⟨w.heap.size, 3, none⟩ = some (.int .u8 own.b3) ∧ w6.cell? ⟨w.heap.size, 4, none⟩ = some (.int .u8 own.b4) ∧ w6.cell? ⟨w.heap.size, 5, none⟩ = some (.int .u8 own.b5)) := HSB.out _ _ _ H6.out; have HS4 := hid (HSB.out _ _ _ (H6.out.set3 (.pointer (some ⟨y, 0, none⟩)))); have p1 : w6.cell? ⟨P.gp, 3, none⟩ = some (.pointer none) := cellHeap H6.out.box 3 rfl; have pf := frozen_of_heap H6.out.box 3; have pl := heap_lt H6.out.box; have hcu := hcut w6 y ⟨HQ6.out, H6.out⟩; clear HQ6 H6)
      | fail)
    all_goals exact hcu
  intro w6 y HW6
  have H7 := hid (HW6.out.2.set3 (.pointer (some ⟨y, 0, none⟩)))
  have HQ7 : Hid (NicW (w6.setCell ⟨P.gp, 3, none⟩ (.pointer (some ⟨y, 0, none⟩))) q own P.c P.g P.h n m (CS.new n m) NS.new ∧ RNicW (w6.setCell ⟨P.gp, 3, none⟩ (.pointer (some ⟨y, 0, none⟩))) y own (fun _ => False) P.x P.rg P.cr P.rh P.ct n m (CS.new n m) NS.new) := ⟨HW6.out.2.nicSet HW6.out.1.2.1 hgq (But.setCell _ _ _ _), HW6.out.2.refSet HW6.out.1.1 HW6.out.1.2.2.1 (But.setCell _ _ _ _)⟩
  have hqy := HW6.out.1.2.2.2
  clear HW6 HN2 H5 HQ5 hgl hol HSA HSB
  generalize w6.setCell ⟨P.gp, 3, none⟩ (.pointer (some ⟨y, 0, none⟩)) = W7 at *
  obtain ⟨Q, e1, hall⟩ := H7.out.all HQ7.out.1 HQ7.out.2 hgq hqy
  have HALL := hid hall
  have b1 : W7.cell? ⟨P.gp, 1, none⟩ = some (.pointer (some ⟨q, 0, none⟩)) := cellHeap H7.out.box 1 rfl
  have b3 : W7.cell? ⟨P.gp, 3, none⟩ = some (.pointer (some ⟨y, 0, none⟩)) := cellHeap H7.out.box 3 rfl
  have blt := heap_lt H7.out.box
  rw [← e1] at b1 b3 blt ⊢
  clear hall H7 HQ7 hgq hqy hne e1
  generalize P.c = junk3
  generalize P.x = junk4
  clear P
  go_wp2_with (first | go_quiet (fail) | fail)
  clear b1 b3 blt
  go_loopw [11] (fun i wr => ∃ k : Nat, k ≤ L ∧ i = .int .i64 k ∧ Hid (NAll w wr Q own n m k)) (fun i _ => L - (intOf i).toNat)
  case atStart => exact ⟨0, by omega, rfl, by obtain ⟨S, N, z, h1, h2, h3⟩ := HALL.out; exact ⟨S, N, z, h1.drewN _, h2, h3⟩⟩
  case round =>
    clear HALL
    obtain ⟨k, hk, rfl, HI⟩ := hrel
    by_cases hlt : k < L
    · have hlt2 : (k : Int) < L := by omega
      obtain ⟨b, o, ha, he, hok⟩ := HOPS.out k (by rw [← HL.out]; exact hlt)
      have hzl := HSZ.out k (by rw [← HL.out]; exact hlt)
      subst ha
      generalize xs.getD k OpN.nil = qq at he hok hzl
      obtain ⟨kd, ki, pt, ⟨d0, d1, d2, d3, d4, d5⟩, sk, sp⟩ := qq
      have hbel : Below w.heap.size w wr := by
        obtain ⟨_, _, _, h, _⟩ := HI.out
        exact h.bel
      have hee : ∀ t u, (OpN.cs ⟨kd, ki, pt, ⟨d0, d1, d2, d3, d4, d5⟩, sk, sp⟩)[t]? = some u → wr.cell? ⟨b, o + k * 11 + t, none⟩ = some u := fun t u ht => cell_below hbel (he t u ht)
      clear he hbel
      obtain ⟨pa, pc, pz⟩ := pt
      obtain ⟨sa, sc, sz⟩ := sp
      simp only at hzl
      have e0 := hee 0 _ rfl
      have e1 := hee 1 _ rfl
      have e2 := hee 2 _ rfl
      have e3 := hee 3 _ rfl
      have e4 := hee 4 _ rfl
      have e5 := hee 5 _ rfl
      have e6 := hee 6 _ rfl
      have e7 := hee 7 _ rfl
      have e8 := hee 8 _ rfl
      have e9 := hee 9 _ rfl
      have e10 := hee 10 _ rfl
      clear hee
      simp only [Part.val, Nat.add_zero] at e0 e1 e2 e3 e4 e5 e6 e7 e8 e9 e10
      obtain ⟨pl, hpl⟩ : ∃ pl, pl = pz.length := ⟨_, rfl⟩
      obtain ⟨sl, hsl⟩ : ∃ sl, sl = sz.length := ⟨_, rfl⟩
      rw [← hpl] at e2 hzl
      rw [← hsl] at e10 hzl
      have HST := hid (nstep_any wr k HI.out (by omega) HO.out kd ki pa pl pc pz d0 d1 d2 d3 d4 d5 sk sa sl sc sz hok.2.2.1 hpl hzl.1 hok.2.1.2 hok.2.2.2.1 hok.2.2.2.2.2 hsl hzl.2)
      clear hok hzl hpl hsl
      go_wp2_with (first
        | (go_at_call 11; refine HST.out.mono ?_; go_loud (rintro e w2 ⟨rfl, h2⟩; have H2 := hid h2; clear h2 HST))
        | (go_at_call 12; refine (alike_any _ _ H2.out (by omega) HO.out).mono ?_; go_loud (rintro e w3 ⟨rfl, h3⟩; have H3 := hid h3; clear h3 H2))
        | fail)
      go_roundw
      case rel => exact ⟨k + 1, by omega, by go_num, H3⟩
      case measure => simp [intOf]; omega
    · have hge : ¬ (k : Int) < L := by omega
      obtain ⟨S, N, z, h, _, _⟩ := HI.out
      have HE := hid h
      have b4 := h.boxP.c4
      have blt := h.boxP.lt
      clear h
      go_wp2_with (first
        | (go_at_call 13; refine (ne_owned HE.out).mono ?_; go_loud (rintro e w2 ⟨rfl, h2⟩; have H2 := hid h2; clear h2))
        | fail)
      go_ret
      exact ⟨rfl, H2.out⟩
end Go.Proofs.Ytnjhlndikbkeaaa

/-
  The statement NicPlays: sizes that do not fit; and the whole walk.
-/
namespace Go.Proofs.Ytnjhlndikbkeaaa
open Go.RowKit
set_option linter.all false
/-- no card was made. -/
structure NNo (wB W : World) (own : Mac) (gp gk : Nat) : Prop where
  box : W.heap[gp]? = some (.cells #[.pointer none, .pointer none, .pointer none, .pointer none, .pointer (some ⟨gk, 0, none⟩)] 39 (0, 0))
  mac : W.heap[wB.heap.size]? = some (MacO own)
  lt : wB.heap.size < gp
  bel : Below wB.heap.size wB W
section
variable {wB W W' : World} {own : Mac} {gp gk : Nat}
theorem NNo.below (h : NNo wB W own gp gk) (hb : Below W.heap.size W W') : NNo wB W' own gp gk := ⟨kept h.box hb, kept h.mac hb, h.lt, bstep h.bel hb⟩
theorem NNo.drewN (h : NNo wB W own gp gk) (j : Nat) : NNo wB (W.drewN j) own gp gk := h.below (drewN_below _ _)
theorem NNo.set1 (h : NNo wB W own gp gk) : NNo wB (W.setCell ⟨gp, 1, none⟩ (.pointer none)) own gp gk := ⟨heap_setCell h.box, keptBut h.mac (But.setCell _ _ _ _) (by have := h.lt; omega), h.lt, h.bel.trans ((But.setCell _ _ _ _).below (by have := h.lt; omega) h.bel.size)⟩
theorem NNo.set3 (h : NNo wB W own gp gk) : NNo wB (W.setCell ⟨gp, 3, none⟩ (.pointer none)) own gp gk := ⟨heap_setCell h.box, keptBut h.mac (But.setCell _ _ _ _) (by have := h.lt; omega), h.lt, h.bel.trans ((But.setCell _ _ _ _).below (by have := h.lt; omega) h.bel.size)⟩
end
theorem mkNo {w w1 : World} {own : Mac} (hl : Below (w.alloc (.cells #[.int .u8 own.b0, .int .u8 own.b1, .int .u8 own.b2, .int .u8 own.b3, .int .u8 own.b4, .int .u8 own.b5] 24)).heap.size (w.alloc (.cells #[.int .u8 own.b0, .int .u8 own.b1, .int .u8 own.b2, .int .u8 own.b3, .int .u8 own.b4, .int .u8 own.b5] 24)) w1) : ∃ gp gk : Nat, w1.heap.size + 1 = gp ∧ NNo w ((w1.alloc (.cells #[.slice none 0 0, .slice none 0 0] 35)).alloc (.cells #[.pointer none, .pointer none, .pointer none, .pointer none, .pointer (some ⟨w1.heap.size, 0, none⟩)] 39)) own gp gk := by
  have s1 := hl.size
  simp only [World.size_alloc] at s1
  have hbx := heap_new (w1.alloc (.cells #[.slice none 0 0, .slice none 0 0] 35)) (.cells #[.pointer none, .pointer none, .pointer none, .pointer none, .pointer (some ⟨w1.heap.size, 0, none⟩)] 39)
  rw [World.size_alloc] at hbx
  exact ⟨_, _, rfl, hbx, kept (heap_new w _) (bpush (bpush hl _) _), by omega, bstep (balloc w _) (bpush (bpush hl _) _)⟩
set_option maxRecDepth 20000 in
set_option maxHeartbeats 8000000 in
theorem nplays_no (rx tx : Int) (own : Mac) (v : Value) (w : World) (h : fitsB rx = false ∨ fitsB tx = false) :
    Calls Try.prog 4 #[.int .i64 rx, .int .i64 tx, own.val, v] w fun e w' => e = .returned (.bool true) ∧ Below w.heap.size w w' := by
  have HA : Hid (∀ wz, Calls Try.prog 7 #[.int .i64 rx, .int .i64 tx] wz fun e w' => e = .returned (.pointer none) ∧ w' = wz) := fun wz => new_no rx tx wz h
  have HB : Hid (∀ wz, Calls Try.prog 8 #[.int .i64 rx, .int .i64 tx] wz fun e w' => e = .returned (.pointer none) ∧ w' = wz) := fun wz => refNew_no rx tx wz h
  clear h
  unfold Mac.val
  go_enter Try.func4, Try.ntmps4
  go_upto_region 5 with (first
    | (go_at_call 6; refine (nlive_any _).mono ?_; rintro e w1 ⟨rfl, hb1⟩; have HLV := hid hb1; clear hb1)
    | (go_at_call 7; with_reducible refine (HA.out _).mono ?_; rintro e w2 ⟨rfl, rfl⟩)
    | (go_at_call 8; with_reducible refine (HB.out _).mono ?_; rintro e w3 ⟨rfl, rfl⟩))
  obtain ⟨gp, gk, eP, hst⟩ := mkNo HLV.out
  have H3 := hid hst
  generalize (w3.alloc (.cells #[.slice none 0 0, .slice none 0 0] 35)).alloc (.cells #[.pointer none, .pointer none, .pointer none, .pointer none, .pointer (some ⟨w3.heap.size, 0, none⟩)] 39) = W3 at *
  rw [eP]
  clear hst eP HA HB HLV
  generalize w3.heap.size = junk1
  have HSA : Hid (∀ (W : World), NNo w W own gp gk → W.cell? ⟨gp, 0, none⟩ = some (.pointer none) ∧ W.cell? ⟨w.heap.size, 0, none⟩ = some (.int .u8 own.b0) ∧ W.cell? ⟨w.heap.size, 1, none⟩ = some (.int .u8 own.b1) ∧ W.cell? ⟨w.heap.size, 2, none⟩ = some (.int .u8 own.b2) ∧ W.cell? ⟨w.heap.size, 3, none⟩ = some (.int .u8 own.b3) ∧ W.cell? ⟨w.heap.size, 4, none⟩ = some (.int .u8 own.b4) ∧ W.cell? ⟨w.heap.size, 5, none⟩ = some (.int .u8 own.b5)) := fun W q => ⟨cellHeap q.box 0 rfl, cellHeap q.mac 0 rfl, cellHeap q.mac 1 rfl, cellHeap q.mac 2 rfl, cellHeap q.mac 3 rfl, cellHeap q.mac 4 rfl, cellHeap q.mac 5 rfl⟩
  have HSB : Hid (∀ (W : World), NNo w W own gp gk → W.cell? ⟨gp, 2, none⟩ = some (.pointer none) ∧ W.cell? ⟨w.heap.size, 0, none⟩ = some (.int .u8 own.b0) ∧ W.cell? ⟨w.heap.size, 1, none⟩ = some (.int .u8 own.b1) ∧ W.cell? ⟨w.heap.size, 2, none⟩ = some (.int .u8 own.b2) ∧ W.cell? ⟨w.heap.size, 3, none⟩ = some (.int .u8 own.b3) ∧ W.cell? ⟨w.heap.size, 4, none⟩ = some (.int .u8 own.b4) ∧ W.cell? ⟨w.heap.size, 5, none⟩ = some (.int .u8 own.b5)) := fun W q => ⟨cellHeap q.box 2 rfl, cellHeap q.mac 0 rfl, cellHeap q.mac 1 rfl, cellHeap q.mac 2 rfl, cellHeap q.mac 3 rfl, cellHeap q.mac 4 rfl, cellHeap q.mac 5 rfl⟩
  have HN1 : Hid (∀ W, NNo w W own gp gk → Calls Try.prog 9 #[.pointer none, (.agg #[.int .u8 own.b0, .int .u8 own.b1, .int .u8 own.b2, .int .u8 own.b3, .int .u8 own.b4, .int .u8 own.b5])] W fun e w' => e = .returned (.pointer none) ∧ Hid (NNo w w' own gp gk)) := fun W h => by
    refine (nnew_no own W).mono ?_
    rintro e w' ⟨rfl, h1⟩
    exact ⟨rfl, h.below h1⟩
  have HN2 : Hid (∀ W, NNo w W own gp gk → Calls Try.prog 10 #[.pointer none, (.agg #[.int .u8 own.b0, .int .u8 own.b1, .int .u8 own.b2, .int .u8 own.b3, .int .u8 own.b4, .int .u8 own.b5])] W fun e w' => e = .returned (.pointer none) ∧ Hid (NNo w w' own gp gk)) := fun W h => by
    refine (rnew_no own W).mono ?_
    rintro e w' ⟨rfl, h1⟩
    exact ⟨rfl, h.below h1⟩
  have hgl : gp < W3.heap.size := heap_lt H3.out.box
  have hol : w.heap.size < W3.heap.size := heap_lt H3.out.mac
  have hne : ¬ w.heap.size = gp := by have := H3.out.lt; omega
  apply cut1 (H := fun W => Hid (NNo w W own gp gk))
  · intro hcut
    go_region_held3 (fun x => x.cell? ⟨gp, 0, none⟩ = some (.pointer none) ∧ x.cell? ⟨w.heap.size, 0, none⟩ = some (.int .u8 own.b0) ∧ x.cell? ⟨w.heap.size, 1, none⟩ = some (.int .u8 own.b1) ∧ x.cell? ⟨w.heap.size, 2, none⟩ = some (.int .u8 own.b2) ∧ x.cell? ⟨w.heap.size, 3, none⟩ = some (.int .u8 own.b3) ∧ x.cell? ⟨w.heap.size, 4, none⟩ = some (.int .u8 own.b4) ∧ x.cell? ⟨w.heap.size, 5, none⟩ = some (.int .u8 own.b5)) (first | exact HSA.out _ (H3.out.drewN 1) | exact HS3.out | exact HS4.out | go_keep | fail) (first
      | (go_at_call 9; refine (HN1.out _ (H3.out.drewN 1)).mono ?_; rintro e w4 ⟨rfl, H4⟩; have HS3 : Hid (w4.cell? ⟨gp, 0, none⟩ = some (.pointer none) ∧ w4.cell? ⟨w.heap.size, 0, none⟩ = some (.int .u8 own.b0) ∧ w4.cell? ⟨w.heap.size, 1, none⟩ = some (.int .u8 own.b1) ∧ w4.cell? ⟨w.heap.size, 2, none⟩ = some (.int .u8 own.b2) ∧ w4.cell? ⟨w.heap.size, 3, none⟩ = some (.int .u8 own.b3) ∧ w4.cell? ⟨w.heap.size, 4, none⟩ = some (.int .u8 own.b4) ∧ w4.cell? ⟨w.heap.size, 5, none⟩ = some (.int .u8 own.b5)) := HSA.out _ H4.out; have HS4 := hid (HSA.out _ (H4.out.set1)); have p1 : w4.cell? ⟨gp, 1, none⟩ = some (.pointer none) := cellHeap H4.out.box 1 rfl; have pf := frozen_of_heap H4.out.box 1; have pl := heap_lt H4.out.box; have hcu := hcut w4 H4; clear H4)
      | fail)
    all_goals exact hcu
  intro w4 HW4
  have H5 := hid HW4.out.set1
  clear HW4 HN1 H3 hgl hol
  generalize w4.setCell ⟨gp, 1, none⟩ (.pointer none) = W5 at *
  have hgl : gp < W5.heap.size := heap_lt H5.out.box
  have hol : w.heap.size < W5.heap.size := heap_lt H5.out.mac
  go_upto_region 6 with (first | fail)
  apply cut1 (H := fun W => Hid (NNo w W own gp gk))
  · intro hcut
    go_region_held3 (fun x => x.cell? ⟨gp, 2, none⟩ = some (.pointer none) ∧ x.cell? ⟨w.heap.size, 0, none⟩ = some (.int .u8 own.b0) ∧ x.cell? ⟨w.heap.size, 1, none⟩ = some (.int .u8 own.b1) ∧ x.cell? ⟨w.heap.size, 2, none⟩ = some (.int .u8 own.b2) ∧ x.cell? ⟨w.heap.size, 3, none⟩ = some (.int .u8 own.b3) ∧ x.cell? ⟨w.heap.size, 4, none⟩ = some (.int .u8 own.b4) ∧ x.cell? ⟨w.heap.size, 5, none⟩ = some (.int .u8 own.b5)) (first | exact HSB.out _ (H5.out.drewN 1) | exact HS3.out | exact HS4.out | go_keep | fail) (first
      | (go_at_call 10; refine (HN2.out _ (H5.out.drewN 1)).mono ?_; rintro e w6 ⟨rfl, H4⟩; have HS3 : Hid (w6.cell? ⟨gp, 2, none⟩ = some (.pointer none) ∧ w6.cell? ⟨w.heap.size, 0, none⟩ = some (.int .u8 own.b0) ∧ w6.cell? ⟨w.heap.size, 1, none⟩ = some (.int .u8 own.b1) ∧ w6.cell? ⟨w.heap.size, 2, none⟩ = some (.int .u8 own.b2) ∧ w6.cell? ⟨w.heap.size, 3, none⟩ = some (.int .u8 own.b3) ∧ w6.cell? ⟨w.heap.size, 4, none⟩ = some (.int .u8 own.b4) ∧ w6.cell? ⟨w.heap.size, 5, none⟩ = some (.int .u8 own.b5)) := HSB.out _ H4.out; have HS4 := hid (HSB.out _ (H4.out.set3)); have p1 : w6.cell? ⟨gp, 3, none⟩ = some (.pointer none) := cellHeap H4.out.box 3 rfl; have pf := frozen_of_heap H4.out.box 3; have pl := heap_lt H4.out.box; have hcu := hcut w6 H4; clear H4)
      | fail)
    all_goals exact hcu
  intro w6 HW6
  have H7 := hid HW6.out.set3
  clear HW6 HN2 H5 hgl hol HSA HSB
  generalize w6.setCell ⟨gp, 3, none⟩ (.pointer none) = W7 at *
  have b1 : W7.cell? ⟨gp, 1, none⟩ = some (.pointer none) := cellHeap H7.out.box 1 rfl
  have b3 : W7.cell? ⟨gp, 3, none⟩ = some (.pointer none) := cellHeap H7.out.box 3 rfl
  have blt := heap_lt H7.out.box
  go_wp2_with (first | go_quiet (fail) | fail)
  go_ret
  exact ⟨rfl, (H7.out.drewN _).bel⟩
theorem nicPlays_walk (rx tx : Int) (own : Mac) (xs : List OpN) (a : Option Addr) (cc : Nat) (w : World) (b1 : -9223372036854775808 ≤ rx ∧ rx ≤ 9223372036854775807) (b2 : -9223372036854775808 ≤ tx ∧ tx ≤ 9223372036854775807) (ho : own.ok) (hops : OpsN w a xs) (hsz : xs.length * 80 ≤ 140737488351232 ∧ ∀ i, i < xs.length → (xs.getD i OpN.nil).pt.zs.length ≤ 140737488351232 ∧ (xs.getD i OpN.nil).sp.zs.length ≤ 140737488351232) :
    Calls Try.prog 4 #[.int .i64 rx, .int .i64 tx, own.val, .slice a xs.length cc] w fun e w' => e = .returned (.bool true) ∧ Below w.heap.size w w' := by
  by_cases h : fitsB rx = false ∨ fitsB tx = false
  · exact nplays_no rx tx own _ w h
  · obtain ⟨n, rfl, hn1, hn⟩ : ∃ n : Nat, rx = n ∧ 1 ≤ n ∧ n ≤ 64 := ⟨rx.toNat, by simp [fitsB] at h; omega, by simp [fitsB] at h; omega, by simp [fitsB] at h; omega⟩
    obtain ⟨m, rfl, hm1, hm⟩ : ∃ m : Nat, tx = m ∧ 1 ≤ m ∧ m ≤ 64 := ⟨tx.toNat, by simp [fitsB] at h; omega, by simp [fitsB] at h; omega, by simp [fitsB] at h; omega⟩
    exact nplays_yes n m own a cc xs w ho hn1 hn hm1 hm hops hsz
end Go.Proofs.Ytnjhlndikbkeaaa

/-
  Proved: slipwaylaw05.NicPlays, called with any arguments in any memory, returns true and leaves what was there as it was. Its conditions: those of the row alone (none).
-/
namespace Go.Proofs.Ytnjhlndikbkeaaa
set_option linter.unusedVariables false
open Go.ChangeShapes Go.WideShapes Go.ChangeAt Go.RowKit
open Go.ChangeMaps (open_string shut_string)

set_option maxRecDepth 100000 in
theorem nicPlays_lifted (os : Os) (started : os.Started) (H : Type) (enc : TypeId × Value → H) :
    ReturnsInHanded {} Try.checked os 4 .any (Rows.nicPlaysSpec.pre6 enc Try.prog Try.f4 Rows.nicPlaysRow.domain false) (Rows.nicPlaysSpec.post enc Try.prog Try.f4 false true false false) := by
  refine returnsInHanded_of_change_sized (C := Try.checked) own started (by kernel_rfl) Try.func4
    (ChangeSpec.witness6 (enc := enc) (C := Try.checked) false ⟨#[], #[.int .i64 0, .int .i64 0, .agg #[.int .u8 0, .int .u8 0, .int .u8 0, .int .u8 0, .int .u8 0, .int .u8 0], .slice none 0 0], []⟩ 8 (by kernel_rfl) (by kernel_rfl) (by kernel_rfl) (by kernel_rfl)) ?_
  intro W base args ds gs before hval0 hW _ hsz0 _
  have hsz : (DataW.weightsEach Try.prog (Try.f4.params.toList ++ []) (ds ++ gs)).all (· ≤ reachBytes) = true := hsz0
  have hval : ∀ (j : Nat) t v, Try.f4.params[j]? = some t → args[j]? = some v → Value.okWide Try.prog W .any base t v := hval0
  have hW' := hW
  obtain ⟨p, q, hA0, hV, rfl, hfz, hnd⟩ := hW
  have hA : DataW.TrodAll enc Try.prog W 0 (fun _ => true) true Try.f4.params.toList args.toList ds p := hA0
  rw [Try.params4] at hA hval hsz
  have hA2 := hA
  have hlt : ∀ x, x ∈ p → x.block < W.heap.size := fun x hx => hW'.lt x (by simp [hx])
  obtain ⟨rfl, rfl⟩ := trodVars_none hV
  simp only [List.append_nil] at hsz hW'
  obtain ⟨v0, vs0, d0, ds0, p0, q0, hargs, rfl, rfl, h0, r0⟩ := trodAll_cons hA
  obtain ⟨v1, vs1, d1, ds1, p1, q1, rfl, rfl, rfl, h1, r1⟩ := trodAll_cons r0
  obtain ⟨v2, vs2, d2, ds2, p2, q2, rfl, rfl, rfl, h2, r2⟩ := trodAll_cons r1
  obtain ⟨v3, vs3, d3, ds3, p3, q3, rfl, rfl, rfl, h3, r3⟩ := trodAll_cons r2
  obtain ⟨rfl, rfl, rfl⟩ := trodAll_nil r3
  obtain rfl : args = #[v0, v1, v2, v3] := by cases args; simp_all
  obtain ⟨x0, rfl, rfl, rfl, wf0⟩ := open_int Try.underlying3 (hval 0 3 v0 rfl rfl) h0
  have bd0 := bounds_i64 wf0
  obtain ⟨x1, rfl, rfl, rfl, wf1⟩ := open_int Try.underlying3 (hval 1 3 v1 rfl rfl) h1
  have bd1 := bounds_i64 wf1
  obtain ⟨m2, rfl, mk2⟩ := open_mac (hval 2 24 v2 rfl rfl) h2
  obtain ⟨xs3, ao3, co3, rfl, ok3, dd3⟩ := open_ops (fun _ => rfl) (hval 3 25 v3 rfl rfl) h3
  have sz3 := ops_sized hsz (j := 3) rfl rfl dd3
  clear hA0 hval0
  refine (nicPlays_walk x0 x1 m2 xs3 ao3 co3 W bd0 bd1 mk2 ok3 sz3).mono fun e W' ⟨he, hb⟩ => ?_
  subst he
  exact ⟨_, rfl, _, _, _, [], _, [], hW', trodAll_mk1 (shut_bool Try.underlying4 _), trodAll_below (fun t ht => by
    have hall : ([3, 3, 24, 25].all fun u => Try.prog.readableRec u && decide (u < Try.prog.types.size)) = true := by kernel_rfl
    have := List.all_eq_true.1 hall t ht
    simpa using this) hA2 hb hlt, rfl, hb.frame _, fun h => by cases h⟩

theorem nicPlays_holds : Rows.NicPlaysSaid :=
  OpenClaim.holds_of_wide 4 Try.f4 rfl rfl rfl rfl rfl rfl rfl ⟨rfl, rfl, rfl, rfl, rfl⟩ rfl rfl rfl rfl rfl (by kernel_rfl) Try.func4 (by kernel_rfl)
    (of_decide_eq_true (by kernel_rfl)) (by unfold Func.isWrapper; first | (rw [if_pos (by decide +kernel)]; kernel_rfl) | (rw [if_neg (by decide +kernel)]; exact ⟨rfl, rfl⟩))
    (fun os started H enc _ => nicPlays_lifted os started H enc)
end Go.Proofs.Ytnjhlndikbkeaaa
