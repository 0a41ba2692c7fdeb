/-
  The walk of OptionBack.
-/
import Derived.Test.YtamhaihoofaecaaOLive
import Derived.Test.YtamhaihoofaecaaOSame
import Derived.Test.YtamhaihoofaecaaOBey
import Derived.Test.YtamhaihoofaecaaOOpen
namespace Go.Proofs.Ytamhaihoofaecaa
open Go.RowKit
set_option linter.all false

theorem Row.asPart {w : World} {a : Option Addr} {n c : Nat} {zs : List Int} (h : Row w 5 (.slice a n c) (u8s zs)) (hz : ∀ z, z ∈ zs → 0 ≤ z ∧ z ≤ 255) : Part.ok w ⟨a, c, zs⟩ ∧ n = zs.length := by
  obtain ⟨⟨a', c', zs'⟩, e1, e2, ok⟩ := h.part hz
  simp only [Part.val, Value.slice.injEq] at e1
  simp only at e2
  subst e2
  obtain ⟨rfl, rfl, rfl⟩ := e1
  exact ⟨ok, rfl⟩
theorem read_err_ne : ∀ (g : List Opt) (l : List Int), readG g l ≠ .error 0 := by
  intro g l
  fun_induction readG g l with
  | case1 => simp
  | case2 => simp
  | case3 g r h1 ih => exact ih
  | case4 => simp
  | case5 => simp
  | case6 => simp
  | case7 g c h1 h0 hn n r hl ih => exact ih
theorem parse_err_ne : ∀ (g : List Opt) (ps : List (List Int)), parseG g ps = .error 0 → False
  | g, [], h => by simp [parseG] at h
  | g, p :: ps, h => by
    unfold parseG at h
    cases hr : readG g p with
    | error e =>
      rw [hr] at h
      simp only [Except.error.injEq] at h
      rw [h] at hr
      exact read_err_ne _ _ hr
    | ok g1 => rw [hr] at h; exact parse_err_ne g1 ps h
/-- Parse of one part. -/
theorem parse_one (w : World) (a : Option Addr) (c : Nat) (zs : List Int) (h : Row w 5 (.slice a zs.length c) (u8s zs)) (hz : ∀ z ∈ zs, 0 ≤ z ∧ z ≤ 255) (hl : zs.length ≤ 140737488351232) :
    Calls Try.prog 19 #[.slice (some ⟨w.heap.size, 0, none⟩) 1 1] (w.alloc (.cells #[.slice a zs.length c] 25)) fun e w' => ∃ ax n cx, e = .returned (.tuple #[.slice ax n cx, .int .i64 (exR (parseG [] [zs]))]) ∧ Hid (ParseI (w.alloc (.cells #[.slice a zs.length c] 25)) w' (parseG [] [zs]) (.slice ax n cx)) := by
  have hb := bpush (Below.refl _ w) (.cells #[.slice a zs.length c] 25)
  have hv : PV (w.alloc (.cells #[.slice a zs.length c] 25)) (some ⟨w.heap.size, 0, none⟩) [⟨a, c, zs⟩] := by
    refine ⟨fun i p hp => ⟨w.heap.size, 0, rfl, ?_⟩, fun p hp => ?_⟩
    · have hi : i = 0 := by have := (List.getElem?_eq_some_iff.1 hp).1; simp at this; exact this
      subst hi
      simp only [List.getElem?_cons_zero, Option.some.injEq] at hp
      subst hp
      rw [cell_of_heap (heap_new w _)]
      rfl
    · simp only [List.mem_singleton] at hp
      subst hp
      exact ((h.below hb).asPart hz).1
  have := parse_any (some ⟨w.heap.size, 0, none⟩) 1 [⟨a, c, zs⟩] _ hv (by simp) (by simp [partsZ, sumB]; exact hl)
  exact this
/-- options that Parse made, as such that are read. -/
theorem opts_view {B : Nat} {w : World} {a : Option Addr} {n c : Nat} {E : List (Opt × Value)} {g : List Opt} (h : OwnO B w (.slice a n c) E) (hc : codes E = g) (ht : Took g) (hz : ∀ o ∈ g, o.2.length ≤ 2147483647) : OV w a (E.map ptOf) ∧ n = E.length := by
  have hcd : ∀ p ∈ E, p.1 ∈ g := fun p hp => by rw [← hc]; exact List.mem_map.2 ⟨p, hp, rfl⟩
  refine h.view (fun p hp => by have := hz _ (hcd p hp); omega) ?_ (fun p hp => by have := ht.apart.1 _ (hcd p hp); omega)
  have := ht.few
  rw [← hc] at this
  simp only [codes, List.length_map] at this
  omega
set_option maxRecDepth 20000 in
set_option maxHeartbeats 8000000 in
theorem optionBack_walk (os : List OP) (ao : Option Addr) (co : Nat) (room : Int) (bt : Part) (ps : List Part) (ap : Option Addr) (cp : Nat) (W : World) (ok0 : OV0 W ao os) (bd1 : -9223372036854775808 ≤ room ∧ room ≤ 9223372036854775807) (ok2 : bt.ok W) (ok3 : PV W ap ps)
    (le0 : os.length ≤ 1048576 ∧ ∀ o ∈ os, o.2.zs.length ≤ 1048576) (le2 : bt.zs.length ≤ 1048576) (le3 : ps.length ≤ 1048576 ∧ ∀ p ∈ ps, p.zs.length ≤ 1048576) :
    Calls Try.prog 8 #[.slice ao os.length co, .int .i64 room, bt.val, .slice ap ps.length cp] W fun e w' => e = .returned (.bool true) ∧ Below W.heap.size W w' := by
  have HOV : Hid (OV W ao os) := ok0.full (fun o ho => by have := le0.2 o ho; omega) (by have := le0.1; omega)
  have hlay : (layL (absO os)).length ≤ 35184372088832 := by
    have h1 := layL_len (absO os)
    have h2 : sumO (absO os) ≤ os.length * 1048576 := by
      have : ∀ l : List OP, (∀ o ∈ l, o.2.zs.length ≤ 1048576) → sumO (absO l) ≤ l.length * 1048576 := by
        intro l
        induction l with
        | nil => intro _; simp [absO, sumO]
        | cons o l ih =>
          intro h
          have h1 := h o (by simp)
          have h2 := ih (fun x hx => h x (by simp [hx]))
          simp only [absO, sumO, List.map_cons, List.sum_cons, List.length_cons] at h2 ⊢
          omega
      exact this os le0.2
    rw [absO_len] at h1
    have := le0.1
    omega
  have HLAY := hid hlay
  have HLZ : Hid (∀ o ∈ os, o.2.zs.length ≤ 2147483647) := fun o ho => by have := le0.2 o ho; omega
  have OK3 := hid ok3
  have OK2 := hid ok2
  have HBD : Hid (∀ p ∈ partsZ ps, ∀ z ∈ p, 0 ≤ z ∧ z ≤ 255) := fun p hp => by
    obtain ⟨q, hq, rfl⟩ := List.mem_map.1 hp
    exact (ok3.oks q hq).1
  have hpn : ps.length ≤ 4398046511104 := by have := le3.1; omega
  have CB := fun (wx : World) (hw : Below W.heap.size W wx) => obey_any ap cp ps wx (ok3.below hw) (by have := le3.1; omega) (fun p hp => by have := le3.2 p hp; omega)
  have CP := fun (wx : World) (hw : Below W.heap.size W wx) => pack_any ao co os room wx (HOV.out.below hw) bd1 hlay
  have HRM := hid bd1
  obtain ⟨hm1, hm2⟩ := le3
  obtain ⟨nn, hnn⟩ : ∃ nn, nn = os.length := ⟨_, rfl⟩
  have HNN := hid hnn
  have hnl : nn ≤ 1048576 := by rw [hnn]; exact le0.1
  rw [← hnn] at CP ⊢
  clear ok0 ok2 ok3 le0 hlay hm2 bd1 hnn
  obtain ⟨ba, bc, bz⟩ := bt
  simp only [Part.val] at *
  go_enter Try.func8, Try.ntmps8
  go_wp2_with fail
  refine (awake_any W).mono ?_
  rintro e w1 ⟨rfl, HB1⟩
  go_wp2_with fail
  refine (CB w1 HB1.out).mono ?_
  rintro e wx ⟨rfl, rfl⟩
  by_cases hbig : 2147483647 < bulkP ps
  · have hd : decide (2147483647 < bulkP ps) = true := by simpa using hbig
    rw [hd]
    go_wp2
    go_ret
    exact ⟨rfl, HB1.out⟩
  have hd : decide (2147483647 < bulkP ps) = false := by simpa using hbig
  rw [hd]
  have HSUM : Hid (sumB (partsZ ps) ≤ 140737488351232) := hid (by have := bulkP_sum ps; omega)
  have HSU2 : Hid (sumB (partsZ ps) ≤ 2147483647) := hid (by have := bulkP_sum ps; omega)
  clear hbig hd CB
  go_wp2_with fail
  refine (CP wx HB1.out).mono ?_
  rintro e w3 ⟨a3, c3, rfl, AN⟩
  have HB3 := hid (bstep HB1.out AN.out.2.2)
  clear CP
  by_cases h0 : packE (absO os) room = 0
  · have hA : packA (absO os) room = packB (absO os) := by unfold packA; rw [if_pos h0]
    have hap : Apart (absO os) ∧ ¬ 64 < (absO os).length ∧ ¬ room < ((packB (absO os)).length : Int) := by
      unfold packE at h0
      by_cases h1 : Apart (absO os)
      · rw [if_pos h1] at h0
        by_cases h2 : 64 < (absO os).length
        · rw [if_pos h2] at h0; omega
        · rw [if_neg h2] at h0
          by_cases h3 : room < ((packB (absO os)).length : Int)
          · rw [if_pos h3] at h0; omega
          · exact ⟨h1, h2, h3⟩
      · rw [if_neg h1] at h0; omega
    obtain ⟨hap1, hap2, hap3⟩ := hap
    have hbl : (packB (absO os)).length = (layL (absO os)).length + 1 := by simp [packB]
    have hpz : ∀ z ∈ packB (absO os), 0 ≤ z ∧ z ≤ 255 := fun z hz => by
      rcases List.mem_append.1 hz with hz | hz
      · obtain ⟨o, ho, hz⟩ := List.mem_flatMap.1 hz
        obtain ⟨x, hx, rfl⟩ := List.mem_map.1 ho
        exact layO_bd (by have := hap1.1 _ ho; omega) (HOV.out.oks x hx).1.1 z hz
      · simp at hz; subst hz; omega
    rw [h0, hA]
    rw [hA] at AN
    have hl1 := HLAY.out
    obtain ⟨P3, _⟩ := AN.out.1.asPart hpz
    obtain ⟨a4, c4, w4, r4, R4, B4, F4⟩ := append_nil_part ⟨a3, c3, packB (absO os)⟩ w3 P3 (by simp only; omega) 25
    have ok4 := Part.ok_below OK2.out (bstep HB3.out B4)
    obtain ⟨a5, c5, w5, r5, R5, B5, F5⟩ := append_row_part R4 w3.heap.size B4.size F4 ⟨ba, bc, bz⟩ ok4 (by simp only; omega) 25
    simp only [Part.val] at r4 r5
    have HR4 := hid r4
    have HR5 := hid r5
    have HB5 := hid (bstep HB3.out (B4.trans B5))
    have hall : ∀ z ∈ packB (absO os) ++ bz, 0 ≤ z ∧ z ≤ 255 := fun z hz => by
      rcases List.mem_append.1 hz with hz | hz
      · exact hpz z hz
      · exact OK2.out.1 z hz
    have hpl : (packB (absO os)).length + bz.length = (packB (absO os) ++ bz).length := by simp
    simp only at R5 hpl HR5
    rw [hpl] at R5 HR5
    have CR := parse_one w5 a5 c5 (packB (absO os) ++ bz) R5 hall (by rw [← hpl]; omega)
    have hrp : parseG [] [packB (absO os) ++ bz] = .ok (absO os) := by
      have := read_pack hap1 (by omega) bz
      simp [parseG, this]
    rw [hrp] at CR
    simp only [exR] at CR
    have HTK : Hid (Took (absO os)) := ⟨hap1, by omega, fun o ho => by obtain ⟨x, hx, rfl⟩ := List.mem_map.1 ho; exact (HOV.out.oks x hx).1.1⟩
    have HZL : Hid (∀ o ∈ absO os, o.2.length ≤ 2147483647) := fun o ho => by
      have h1 : (layL (absO os)).length ≤ 35184372088832 := hl1
      obtain ⟨x, hx, rfl⟩ := List.mem_map.1 ho
      exact HLZ.out x hx
    obtain ⟨g3, hg3, hc3⟩ : ∃ g3, a3 = some ⟨g3, 0, none⟩ ∧ ∀ wz, Below w3.heap.size w3 wz → wz.cell? ⟨g3, (layL (absO os)).length, none⟩ = some (.int .u8 255) := by
      obtain ⟨g, cap, hv, hc⟩ := AN.out.1.cell (layL (absO os)).length (by rw [u8s_len]; omega)
      simp only [Value.slice.injEq] at hv
      refine ⟨g, hv.1, fun wz hz => ?_⟩
      have hc' : w3.cell? ⟨g, (layL (absO os)).length, none⟩ = some (.int .u8 255) := by
        rw [hc]
        simp [u8s, packB]
      rw [hz.cell (p := ⟨g, (layL (absO os)).length, none⟩) (World.block_lt_of_cell? w3 _ hc'), hc']
    subst hg3
    have HC3 := hid hc3
    have HB45 := hid (B4.trans B5)
    have hN : ∃ N, N = (packB (absO os)).length := ⟨_, rfl⟩
    obtain ⟨N, hN⟩ := hN
    have hNN : N = (layL (absO os)).length + 1 := by rw [hN]; exact hbl
    obtain ⟨M, hM⟩ : ∃ M, M = (layL (absO os)).length := ⟨_, rfl⟩
    rw [← hM] at hNN HC3
    have hroom : ¬ room < (N : Int) := by rw [hN]; exact hap3
    have hNb : N ≤ 35184372088833 := by omega
    rw [← hN] at HR4 HR5 ⊢
    clear r4 r5 R4 B4 F4 R5 B5 F5 ok4 hall hpl AN P3 hpz hap1 hap2 hap3 hrp hbl hl1 hA h0 hc3 hM hN
    subst hNN
    generalize (packB (absO os) ++ bz).length = M5 at *
    go_wp2_with (first
      | (at_builtin; refine wpList_append_run _ rfl _ _ _ _ rfl _ _ rfl rfl HR4.out ?_; clear HR4)
      | (at_builtin; refine wpList_append_run _ rfl _ _ _ _ rfl _ _ rfl rfl HR5.out ?_; clear HR5)
      | fail)
    refine CR.mono ?_
    rintro e w6 ⟨a6, n6, c6, rfl, PI⟩
    obtain ⟨E', o1, o2, o3⟩ := PI.out
    simp only [okL] at o2
    have b6 := bstep (bpush (Below.refl _ w5) (.cells #[.slice a5 M5 c5] 25)) o3
    have HB6 := hid (bstep HB5.out b6)
    have HC6 := hid (HC3.out w6 (HB45.out.trans (b6.mono HB45.out.size)))
    obtain ⟨OVF, hln⟩ := opts_view o1 o2 HTK.out HZL.out
    have CS := osame_yes ao a6 co c6 os (E'.map ptOf) w6 (HOV.out.below HB6.out) OVF (by rw [ptOf_abs]; exact o2.symm)
    rw [List.length_map, ← hln, ← HNN.out] at CS
    clear CR PI o1 o2 o3 b6 OVF hln
    go_wp2_with fail
    refine CS.mono ?_
    rintro e w7 ⟨rfl, B7⟩
    have HBT := hid (bstep HB6.out B7.out)
    have c7 : w7.cell? ⟨g3, M, none⟩ = some (.int .u8 255) := by
      rw [B7.out.cell (p := ⟨g3, M, none⟩) (World.block_lt_of_cell? w6 _ HC6.out)]
      exact HC6.out
    clear CS HC6 HC3 HB45 HB5
    have hM1 : (M : Int) + 1 - 1 = M := by omega
    have hroom2 : ¬ room < (M : Int) + 1 := by omega
    have hM2 : ((M : Int) + 1 == 0) = false := by simp; omega
    go_wp2_with fail

    refine (parse_any ap cp ps w7 (OK3.out.below (HBT.out)) (by omega) HSUM.out).mono ?_
    rintro e w8 ⟨a8, n8, c8, rfl, PI⟩
    have HRD := hid (parseG_took (partsZ ps) [] took_nil HBD.out)
    have HB8 : Hid (Below W.heap.size W w8) := by obtain ⟨E, h1, h2, h3⟩ := PI.out; exact bstep HBT.out h3
    cases hR : parseG [] (partsZ ps) with
    | error x =>
      have hx : x ≠ 0 := fun e => by rw [e] at hR; exact parse_err_ne _ _ hR
      rw [hR] at PI
      have hn8 : n8 = 0 := by
        obtain ⟨E, h1, h2, h3⟩ := PI.out
        obtain ⟨a', c', e, _⟩ := h1.form
        simp only [Value.slice.injEq] at e
        rw [e.2.1]
        have := congrArg List.length h2
        simpa [codes, okL] using this
      subst hn8
      have hxn : (x != 0) = true := by simpa using hx
      simp only [exR]
      clear PI HRD hx hR
      go_wp2
      go_ret
      exact ⟨rfl, HB8.out⟩
    | ok g =>
      obtain ⟨tk, hsum⟩ := HRD.out g hR
      rw [hR] at PI
      obtain ⟨E, h1, h2, h3⟩ := PI.out
      obtain ⟨a', c', e, hml⟩ := h1.form
      simp only [Value.slice.injEq] at e
      obtain ⟨rfl, rfl, rfl⟩ := e
      simp only [okL] at h2
      have hsg : sumO g ≤ 2147483647 := by have := HSU2.out; simp [sumO] at hsum; simp only [sumO]; omega
      have hlg : E.length ≤ 64 := by have := tk.few; rw [← h2] at this; simpa [codes] using this
      have hcd : ∀ p ∈ E, p.1 ∈ g := fun p hp => by rw [← h2]; exact List.mem_map.2 ⟨p, hp, rfl⟩
      have hzl : ∀ o ∈ g, o.2.length ≤ 2147483647 := fun o ho => by
        unfold sumO at hsg
        obtain ⟨s, t, hst⟩ := List.append_of_mem ho
        rw [hst] at hsg
        simp at hsg
        omega
      obtain ⟨OVE, _⟩ := h1.view (fun p hp => by have := hzl _ (hcd p hp); omega) (by omega) (fun p hp => by have := tk.apart.1 _ (hcd p hp); omega)
      have habs : absO (E.map ptOf) = g := by rw [ptOf_abs]; exact h2
      have hlay : (layL g).length ≤ 8589934592 := by have := layL_len g; have := tk.few; omega
      have hpe : packE g 1099511627776 = 0 := by
        unfold packE
        rw [if_pos tk.apart, if_neg (by have := tk.few; omega), if_neg]
        unfold packB
        simp only [List.length_append, List.length_cons, List.length_nil]
        omega
      have hpa : packA g 1099511627776 = packB g := by unfold packA; rw [if_pos hpe]
      have hpz : ∀ z ∈ packB g, 0 ≤ z ∧ z ≤ 255 := fun z hz => by
        rcases List.mem_append.1 hz with hz | hz
        · obtain ⟨o, ho, hz⟩ := List.mem_flatMap.1 hz
          exact layO_bd (by have := tk.apart.1 o ho; omega) (tk.oks o ho) z hz
        · simp at hz; subst hz; omega
      have CP := pack_any a8 c8 (E.map ptOf) 1099511627776 w8 OVE (by omega) (by rw [habs]; omega)
      rw [habs, hpe, hpa, List.length_map] at CP
      have CR := fun (w9 : World) (a9 : Option Addr) (c9 : Nat) (r9 : Row w9 5 (.slice a9 (packB g).length c9) (u8s (packB g))) => parse_one w9 a9 c9 (packB g) r9 hpz (by unfold packB; simp; omega)
      have hrp : parseG [] [packB g] = .ok g := by
        have := read_pack tk.apart tk.few []
        rw [List.append_nil] at this
        simp [parseG, this]
      have HO := hid OVE
      have HF : Hid (∀ (wx wy : World) (v : Value), ParseI wx wy (.ok g) v → ∃ E', OwnO wx.heap.size wy v E' ∧ codes E' = g ∧ Below wx.heap.size wx wy) := fun wx wy v h => h
      have HTK := hid tk
      have HZL := hid hzl
      have HAB := hid habs
      simp only [exR]
      clear PI HRD h1 h2 h3 hsum hsg hcd hzl hlay hpe hpa hpz OVE habs tk hR
      go_wp2_with fail
      refine CP.mono ?_
      rintro e w9 ⟨a9, c9, rfl, AN9⟩
      have CR9 := CR w9 a9 c9 AN9.out.1
      rw [hrp] at CR9
      have HB9 := hid (bstep HB8.out AN9.out.2.2)
      have HO9 := hid (HO.out.below AN9.out.2.2)
      clear CR CP AN9 HO
      simp only [exR] at CR9
      go_wp2_with fail
      refine CR9.mono ?_
      rintro e w11 ⟨a11, n11, c11, rfl, PI⟩
      obtain ⟨E', o1, o2, o3⟩ := HF.out _ _ _ PI.out
      have b11 := bstep (bpush (Below.refl _ w9) (.cells #[.slice a9 (packB g).length c9] 25)) o3
      have HB11 := hid (bstep HB9.out b11)
      obtain ⟨OVF, hln⟩ := opts_view o1 o2 HTK.out HZL.out
      have CS := osame_yes a8 a11 c8 c11 (E.map ptOf) (E'.map ptOf) w11 (HO9.out.below b11) OVF (by rw [HAB.out, ptOf_abs]; exact o2.symm)
      rw [List.length_map, List.length_map, ← hln] at CS
      clear CR9 PI o1 o2 o3 b11 OVF hln hrp
      go_wp2_with fail
      refine CS.mono ?_
      rintro e w12 ⟨rfl, B12⟩
      have HB12 := hid (bstep HB11.out B12.out)
      clear CS
      go_wp2
      go_ret
      exact ⟨rfl, HB12.out⟩
  · have hne : (packE (absO os) room == 0) = false := by simpa using h0
    have HBT := HB3
    clear AN h0
    generalize packE (absO os) room = E0 at *
    generalize (packA (absO os) room).length = N0 at *
    go_wp2_with fail
    refine (parse_any ap cp ps w3 (OK3.out.below (HBT.out)) (by omega) HSUM.out).mono ?_
    rintro e w8 ⟨a8, n8, c8, rfl, PI⟩
    have HRD := hid (parseG_took (partsZ ps) [] took_nil HBD.out)
    have HB8 : Hid (Below W.heap.size W w8) := by obtain ⟨E, h1, h2, h3⟩ := PI.out; exact bstep HBT.out h3
    cases hR : parseG [] (partsZ ps) with
    | error x =>
      have hx : x ≠ 0 := fun e => by rw [e] at hR; exact parse_err_ne _ _ hR
      rw [hR] at PI
      have hn8 : n8 = 0 := by
        obtain ⟨E, h1, h2, h3⟩ := PI.out
        obtain ⟨a', c', e, _⟩ := h1.form
        simp only [Value.slice.injEq] at e
        rw [e.2.1]
        have := congrArg List.length h2
        simpa [codes, okL] using this
      subst hn8
      have hxn : (x != 0) = true := by simpa using hx
      simp only [exR]
      clear PI HRD hx hR
      go_wp2
      go_ret
      exact ⟨rfl, HB8.out⟩
    | ok g =>
      obtain ⟨tk, hsum⟩ := HRD.out g hR
      rw [hR] at PI
      obtain ⟨E, h1, h2, h3⟩ := PI.out
      obtain ⟨a', c', e, hml⟩ := h1.form
      simp only [Value.slice.injEq] at e
      obtain ⟨rfl, rfl, rfl⟩ := e
      simp only [okL] at h2
      have hsg : sumO g ≤ 2147483647 := by have := HSU2.out; simp [sumO] at hsum; simp only [sumO]; omega
      have hlg : E.length ≤ 64 := by have := tk.few; rw [← h2] at this; simpa [codes] using this
      have hcd : ∀ p ∈ E, p.1 ∈ g := fun p hp => by rw [← h2]; exact List.mem_map.2 ⟨p, hp, rfl⟩
      have hzl : ∀ o ∈ g, o.2.length ≤ 2147483647 := fun o ho => by
        unfold sumO at hsg
        obtain ⟨s, t, hst⟩ := List.append_of_mem ho
        rw [hst] at hsg
        simp at hsg
        omega
      obtain ⟨OVE, _⟩ := h1.view (fun p hp => by have := hzl _ (hcd p hp); omega) (by omega) (fun p hp => by have := tk.apart.1 _ (hcd p hp); omega)
      have habs : absO (E.map ptOf) = g := by rw [ptOf_abs]; exact h2
      have hlay : (layL g).length ≤ 8589934592 := by have := layL_len g; have := tk.few; omega
      have hpe : packE g 1099511627776 = 0 := by
        unfold packE
        rw [if_pos tk.apart, if_neg (by have := tk.few; omega), if_neg]
        unfold packB
        simp only [List.length_append, List.length_cons, List.length_nil]
        omega
      have hpa : packA g 1099511627776 = packB g := by unfold packA; rw [if_pos hpe]
      have hpz : ∀ z ∈ packB g, 0 ≤ z ∧ z ≤ 255 := fun z hz => by
        rcases List.mem_append.1 hz with hz | hz
        · obtain ⟨o, ho, hz⟩ := List.mem_flatMap.1 hz
          exact layO_bd (by have := tk.apart.1 o ho; omega) (tk.oks o ho) z hz
        · simp at hz; subst hz; omega
      have CP := pack_any a8 c8 (E.map ptOf) 1099511627776 w8 OVE (by omega) (by rw [habs]; omega)
      rw [habs, hpe, hpa, List.length_map] at CP
      have CR := fun (w9 : World) (a9 : Option Addr) (c9 : Nat) (r9 : Row w9 5 (.slice a9 (packB g).length c9) (u8s (packB g))) => parse_one w9 a9 c9 (packB g) r9 hpz (by unfold packB; simp; omega)
      have hrp : parseG [] [packB g] = .ok g := by
        have := read_pack tk.apart tk.few []
        rw [List.append_nil] at this
        simp [parseG, this]
      have HO := hid OVE
      have HF : Hid (∀ (wx wy : World) (v : Value), ParseI wx wy (.ok g) v → ∃ E', OwnO wx.heap.size wy v E' ∧ codes E' = g ∧ Below wx.heap.size wx wy) := fun wx wy v h => h
      have HTK := hid tk
      have HZL := hid hzl
      have HAB := hid habs
      simp only [exR]
      clear PI HRD h1 h2 h3 hsum hsg hcd hzl hlay hpe hpa hpz OVE habs tk hR
      go_wp2_with fail
      refine CP.mono ?_
      rintro e w9 ⟨a9, c9, rfl, AN9⟩
      have CR9 := CR w9 a9 c9 AN9.out.1
      rw [hrp] at CR9
      have HB9 := hid (bstep HB8.out AN9.out.2.2)
      have HO9 := hid (HO.out.below AN9.out.2.2)
      clear CR CP AN9 HO
      simp only [exR] at CR9
      go_wp2_with fail
      refine CR9.mono ?_
      rintro e w11 ⟨a11, n11, c11, rfl, PI⟩
      obtain ⟨E', o1, o2, o3⟩ := HF.out _ _ _ PI.out
      have b11 := bstep (bpush (Below.refl _ w9) (.cells #[.slice a9 (packB g).length c9] 25)) o3
      have HB11 := hid (bstep HB9.out b11)
      obtain ⟨OVF, hln⟩ := opts_view o1 o2 HTK.out HZL.out
      have CS := osame_yes a8 a11 c8 c11 (E.map ptOf) (E'.map ptOf) w11 (HO9.out.below b11) OVF (by rw [HAB.out, ptOf_abs]; exact o2.symm)
      rw [List.length_map, List.length_map, ← hln] at CS
      clear CR9 PI o1 o2 o3 b11 OVF hln hrp
      go_wp2_with fail
      refine CS.mono ?_
      rintro e w12 ⟨rfl, B12⟩
      have HB12 := hid (bstep HB11.out B12.out)
      clear CS
      go_wp2
      go_ret
      exact ⟨rfl, HB12.out⟩
end Go.Proofs.Ytamhaihoofaecaa
