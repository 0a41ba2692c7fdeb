/-
  NeighWaits: its loop. Written by mknww.py.
-/
import Derived.Test.YtaaoelhmanahpaaNwH
import Derived.Test.YtaaoelhmanahpaaNLiv
import Derived.Test.YtaaoelhmanahpaaNwOpJ
import Derived.Deep.DeepCutAuto
import Derived.Deep.CutRange
import Derived.Deep.CutBlock
import Derived.Deep.MidRow
import Derived.Deep.RegionHeld3
import Derived.Deep.RegionHeldLaw
namespace Go.Proofs.Ytaaoelhmanahpaa
open Go.RowKit
set_option linter.all false
theorem cell_belowW {w w' : World} (hb : Below w.heap.size w w') {c k : Nat} {v : Value} (h : w.cell? ⟨c, k, none⟩ = some v) : w'.cell? ⟨c, k, none⟩ = some v :=
  (hb.cell (p := ⟨c, k, none⟩) (World.block_lt_of_cell? w _ h)).trans h
def NwL (w0 w : World) (c m gs : Nat) (n : Int) (i : Nat) : Prop := ∃ S ls ms, NwI w0 w c m gs S ls ms ∧ Inw S ls ms i ∧ S.most = n ∧ (∀ y ∈ ms, y.mac.ok) ∧ ms.length ≤ i
def NwZ (w0 w : World) (c m gs : Nat) (n : Int) (i : Nat) : Prop := ∃ S ls ms, NwI w0 w c m gs S ls ms ∧ Mid S ls ms i ∧ S.most = n ∧ (∀ y ∈ ms, y.mac.ok) ∧ ms.length ≤ i
theorem NwL.below {w0 w w' : World} {c m gs : Nat} {n : Int} {i : Nat} (h : NwL w0 w c m gs n i) (hb : Below w.heap.size w w') : NwL w0 w' c m gs n i := by
  obtain ⟨S, ls, ms, h1, h2⟩ := h
  exact ⟨S, ls, ms, h1.below hb, h2⟩
theorem NwL.z {w0 w : World} {c m gs : Nat} {n : Int} {i : Nat} (h : NwL w0 w c m gs n i) : NwZ w0 w c m gs n (i + 1) := by
  obtain ⟨S, ls, ms, h1, h2, h3, h4, h5⟩ := h
  exact ⟨S, ls, ms, h1, h2.mid.up (by omega), h3, h4, by omega⟩
theorem nbs_get {l : List Ab} {k : Nat} {y : Ab} (h : l[k]? = some y) {j : Nat} (hj : j < 11) : (nbs l)[k * 11 + j]? = (lookC y)[j]? := by
  rw [← Array.getElem?_toList]; exact flatG _ 11 (fun _ => rfl) l k j y h hj
/-- what Look tells of an entry. -/
theorem look_ent {w : World} {a : Option Addr} {N cp : Nat} {L : List Ab} (h : RowS w 68 11 (.slice a N cp) N (nbs L)) {k : Nat} {y : Ab} (hy : L[k]? = some y) (hk : k < N) : ∃ g, a = some ⟨g, 0, none⟩ ∧ w.cell? ⟨g, k * 11, none⟩ = some (.int .u32 y.ip) ∧ w.cell? ⟨g, k * 11 + 7, none⟩ = some (.int .i64 (if 0 < y.q then 1 else 2)) ∧ w.cell? ⟨g, k * 11 + 9, none⟩ = some (.int .i64 y.q) ∧ w.cell? ⟨g, k * 11 + 10, none⟩ = some (.bool (decide (0 < y.q))) := by
  obtain ⟨g, e, hc⟩ := h.at0 (by omega)
  exact ⟨g, e, hc _ _ (nbs_get hy (j := 0) (by omega)), hc _ _ (nbs_get hy (j := 7) (by omega)), hc _ _ (nbs_get hy (j := 9) (by omega)), hc _ _ (nbs_get hy (j := 10) (by omega))⟩
theorem nwl_made {w w2 : World} {c m : Nat} {mac : Mac} {n : Int} {V : Int → Value} (hca : CaW w2 c m (newSt mac n) V) (lc : w.heap.size ≤ c) (lm : w.heap.size ≤ m) (bel : Below w.heap.size w w2) : NwL w (w2.alloc (.cells #[.slice none 0 0, .slice none 0 0] 50)) c m w2.heap.size n 0 := by
  have hb := bpush (Below.refl w2.heap.size w2) (.cells #[.slice none 0 0, .slice none 0 0] 50)
  refine ⟨newSt mac n, [], [], ⟨⟨V, hca.below hb⟩, ⟨none, 0, none, 0, heap_new _ _, RowS.nil _ _ _, RowS.nil _ _ _, bel.size, fun b h => by simp [Value.ownBlock] at h, fun b h => by simp [Value.ownBlock] at h⟩, lc, lm, bstep bel hb⟩, ⟨⟨fun x hx => by simp at hx, fun y hy => by simp [newSt] at hy, Dis.nil, fun x hx => by simp at hx, fun y hy => by simp [newSt] at hy, by simp⟩, fun x hx => by simp at hx, by simp⟩, rfl, fun y hy => by simp at hy, Nat.le_refl _⟩
set_option maxRecDepth 40000 in
set_option maxHeartbeats 100000000 in
theorem waits_yes (m0 m1 m2 m3 m4 m5 n : Int) (ao : Option Addr) (cc : Nat) (xs : List OpG) (w : World) (hm : Mac.ok ⟨m0, m1, m2, m3, m4, m5⟩) (h1 : 1 ≤ n) (h2 : n ≤ 64) (hops : OpsG w ao xs) (hsz : xs.length ≤ 2000000000000) :
    Calls Try.prog 5 #[.agg #[.int .u8 m0, .int .u8 m1, .int .u8 m2, .int .u8 m3, .int .u8 m4, .int .u8 m5], .int .i64 n, .slice ao xs.length cc] w fun e w' => e = .returned (.bool true) ∧ Below w.heap.size w w' := by
  have HOPS := hid hops
  obtain ⟨L, hL⟩ : ∃ L, L = xs.length := ⟨_, rfl⟩
  have HLN := hid hL
  rw [← hL] at hsz ⊢
  clear hops hL
  have HL := hid (live_any (w.alloc (.cells #[.int .u8 m0, .int .u8 m1, .int .u8 m2, .int .u8 m3, .int .u8 m4, .int .u8 m5] 24)))
  have HN1 : Hid (∀ W, Calls Try.prog 7 #[.agg #[.int .u8 m0, .int .u8 m1, .int .u8 m2, .int .u8 m3, .int .u8 m4, .int .u8 m5], .int .i64 n] W _) := fun W => new_yes ⟨m0, m1, m2, m3, m4, m5⟩ n W hm h1 h2
  have HCC : Hid (∀ w1, Below (w.alloc (.cells #[.int .u8 m0, .int .u8 m1, .int .u8 m2, .int .u8 m3, .int .u8 m4, .int .u8 m5] 24)).heap.size (w.alloc (.cells #[.int .u8 m0, .int .u8 m1, .int .u8 m2, .int .u8 m3, .int .u8 m4, .int .u8 m5] 24)) w1 → ∀ q, w1.cell? ⟨w.heap.size, q, none⟩ = (#[.int .u8 m0, .int .u8 m1, .int .u8 m2, .int .u8 m3, .int .u8 m4, .int .u8 m5] : Array Value)[q]?) := fun w1 hb q => cell_of_heap (kept (heap_new _ _) hb) q
  have HBW : Hid (∀ w1, Below (w.alloc (.cells #[.int .u8 m0, .int .u8 m1, .int .u8 m2, .int .u8 m3, .int .u8 m4, .int .u8 m5] 24)).heap.size (w.alloc (.cells #[.int .u8 m0, .int .u8 m1, .int .u8 m2, .int .u8 m3, .int .u8 m4, .int .u8 m5] 24)) w1 → Below w.heap.size w w1) := fun w1 hb => bstep (bpush (Below.refl _ _) _) hb
  clear hm
  go_enter Try.func5, Try.ntmps5
  go_upto_region 2 with (first
    | (go_at_call 6; refine HL.out.mono ?_; go_loud (rintro e w1 ⟨rfl, HB1⟩)))
  have hc1 := HCC.out w1 HB1
  have HBX := hid (HBW.out w1 HB1)
  clear HCC HL HBW HB1
  go_upto_region 3 with (first
    | (go_at_call 7; refine (HN1.out _).mono ?_; go_loud (rintro e w2 ⟨c, m, rfl, hcn, hmn, HC2, HB2⟩))
    | fail)
  have HX : Hid (NwL w (w2.alloc (.cells #[.slice none 0 0, .slice none 0 0] 50)) c m w2.heap.size n 0) := hid (nwl_made HC2.out (by have := HBX.out.size; omega) (by have := HBX.out.size; omega) (bstep HBX.out HB2.out))
  clear HN1 hc1 HBX hcn hmn HC2 HB2
  go_wp2_with fail
  generalize w2.alloc (.cells #[.slice none 0 0, .slice none 0 0] 50) = W3 at *
  generalize w2.heap.size = gs at *
  go_loopw [10] (fun vi wr => ∃ k : Nat, k ≤ L ∧ vi = .int .i64 k ∧ Hid (NwL w wr c m gs n k)) (fun vi _ => L - (intOf6 vi).toNat)
  case atStart => exact ⟨0, by omega, rfl, HX⟩
  case round =>
    clear HX
    obtain ⟨k, hk, rfl, HI⟩ := hrel
    by_cases hlt : k < L
    · have hlt2 : (k : Int) < L := by omega
      obtain ⟨b, o, ha, he, hok⟩ := HOPS.out k (by rw [← HLN.out]; exact hlt)
      subst ha
      generalize xs.getD k OpG.nil = qq at he hok
      obtain ⟨kd, now, src, ip, pt, ⟨po, ⟨s0, s1, s2, s3, s4, s5⟩, si, ⟨d0, d1, d2, d3, d4, d5⟩, di⟩, own⟩ := qq
      have hbel : Below w.heap.size w wr := by
        obtain ⟨S, ls, ms, h, _⟩ := HI.out
        exact h.bel
      obtain ⟨pa, pc, pz⟩ := pt
      obtain ⟨pl, hpl⟩ : ∃ pl, pl = pz.length := ⟨_, rfl⟩
      have HR : Hid (wr.rangeAt b (o + k * 21) [.int .i64 kd, .int .i64 now, .int .u32 src, .int .u32 ip, .slice pa pl pc, .int .i64 po, .int .u8 s0, .int .u8 s1, .int .u8 s2, .int .u8 s3, .int .u8 s4, .int .u8 s5, .int .u32 si, .int .u8 d0, .int .u8 d1, .int .u8 d2, .int .u8 d3, .int .u8 d4, .int .u8 d5, .int .u32 di, .int .u32 own]) := fun j u hj => cell_belowW hbel (he j u (by rw [hpl] at hj; exact hj))
      have HSR : Hid (ipOk src) := hok.src
      have HIPO : Hid (ipOk ip) := hok.ip
      have HPO : Hid (Arp.ok (Arp.mk po ⟨s0, s1, s2, s3, s4, s5⟩ si ⟨d0, d1, d2, d3, d4, d5⟩ di)) := hok.p
      have HOW : Hid (ipOk own) := hok.own
      clear hok hpl he hbel
      have HONE : Hid ((#[.int .i64 kd, .int .i64 now, .int .u32 src, .int .u32 ip, .slice pa pl pc, .int .i64 po, .int .u8 s0, .int .u8 s1, .int .u8 s2, .int .u8 s3, .int .u8 s4, .int .u8 s5, .int .u32 si, .int .u8 d0, .int .u8 d1, .int .u8 d2, .int .u8 d3, .int .u8 d4, .int .u8 d5, .int .u32 di, .int .u32 own] : Array Value).all (·.oneCell') = true) := hid (by simp [Value.oneCell'])
      as_aux_lemma =>
        go_upto_region 10 with (first
          | (refine wpList_load_mid rfl 44 _ rfl b (o + k * 21) rfl [.int .i64 kd, .int .i64 now, .int .u32 src, .int .u32 ip, .slice pa pl pc, .int .i64 po, .int .u8 s0, .int .u8 s1, .int .u8 s2, .int .u8 s3, .int .u8 s4, .int .u8 s5, .int .u32 si, .int .u8 d0, .int .u8 d1, .int .u8 d2, .int .u8 d3, .int .u8 d4, .int .u8 d5, .int .u32 di, .int .u32 own] _ HR.out Try.underlying44 rfl sizeOpW ?_)
          | (refine wpList_alloc_op rfl rfl ?_; intro wz HZ; refine wpList_store_rowH rfl 44 _ _ rfl wr.heap.size #[.int .i64 kd, .int .i64 now, .int .u32 src, .int .u32 ip, .slice pa pl pc, .int .i64 po, .int .u8 s0, .int .u8 s1, .int .u8 s2, .int .u8 s3, .int .u8 s4, .int .u8 s5, .int .u32 si, .int .u8 d0, .int .u8 d1, .int .u8 d2, .int .u8 d3, .int .u8 d4, .int .u8 d5, .int .u32 di, .int .u32 own] rfl rfl 44 zeroOp (by rw [HZ.out]; exact heap_new _ _) sizeOpW rfl HONE.out ?_; intro W1 HBO HBT)
          | fail)
        have HI1 : Hid (NwL w W1 c m gs n k) := hid (HI.out.below (by have h5 := HBT.out; rw [HZ.out] at h5; exact bbut (bpush (Below.refl _ _) _) h5 (Nat.le_refl _)))
        clear HR HI HZ HBT HONE
        generalize wr.heap.size = bo at *
        have hco : ∀ q, W1.cell? ⟨bo, q, none⟩ = (#[.int .i64 kd, .int .i64 now, .int .u32 src, .int .u32 ip, .slice pa pl pc, .int .i64 po, .int .u8 s0, .int .u8 s1, .int .u8 s2, .int .u8 s3, .int .u8 s4, .int .u8 s5, .int .u32 si, .int .u8 d0, .int .u8 d1, .int .u8 d2, .int .u8 d3, .int .u8 d4, .int .u8 d5, .int .u32 di, .int .u32 own] : Array Value)[q]? := fun q => cell_of_heap HBO.out q
        go_upto_block 2 with fail
        go_cut [12] (fun vg wx => vg = .bool true ∧ Hid (NwZ w wx c m gs n (k + 1)))
        case first =>
          by_cases k1 : kd = 1
          · subst k1
            obtain ⟨S, ls, ms, hI, hInw, hmost, hmo, hml⟩ := HI1.out
            have HA := hid (ask_c (now := now) (src := src) (ip := ip) hI.ok hInw ⟨by omega, by omega⟩ HIPO.out HSR.out)
            have HMO := hid hmo
            have HML := hid hml
            have HG6 := hid hInw.g
            have HMS : Hid ((askF S src ip (be8 k) now).1.most = n) := hid (by rw [askF_most, hmost])
            have HPUT := hid (fun W => put8_any k W (by omega) (by omega))
            have HGN : Hid ((W1.alloc (.cells (u8s (be8 k)).toArray 5)).heap[W1.heap.size]? = some (.cells (u8s (be8 k)).toArray 5 (0, 0))) := heap_new _ _
            have HB1 := hid (bpush (Below.refl W1.heap.size W1) (.cells (u8s (be8 k)).toArray 5))
            have HASK := hid (nw_ask (w := (W1.alloc (.cells (u8s (be8 k)).toArray 5)).drew) (hI.below HB1.out.drew) k src ip now W1.heap.size HIPO.out HSR.out HGN.out)
            have HSZ := hid (kept HBO.out HB1.out)
            have hcp : ∀ q, (W1.alloc (.cells (u8s (be8 k)).toArray 5)).drew.cell? ⟨bo, q, none⟩ = (#[.int .i64 1, .int .i64 now, .int .u32 src, .int .u32 ip, .slice pa pl pc, .int .i64 po, .int .u8 s0, .int .u8 s1, .int .u8 s2, .int .u8 s3, .int .u8 s4, .int .u8 s5, .int .u32 si, .int .u8 d0, .int .u8 d1, .int .u8 d2, .int .u8 d3, .int .u8 d4, .int .u8 d5, .int .u32 di, .int .u32 own] : Array Value)[q]? := fun q => cell_of_heap HSZ.out q
            generalize hR : askF S src ip (be8 k) now = R at *
            clear hR hI hInw hmost hmo hml
            have hu64 : IntKind.u64.wrap (k : Int) = (k : Int) := by simp only [IntKind.wrap_u64]; omega
            go_upto_region 13 with fail
            go_cut [13] (fun v wx => ∃ a N cp, v = .slice a N cp ∧ Hid (N = R.2.length ∧ NwO w wx c m gs R.1 ls ms (.slice a N cp) R.2) ∧ Hid (wx.heap[bo]? = some (.cells #[.int .i64 1, .int .i64 now, .int .u32 src, .int .u32 ip, .slice pa pl pc, .int .i64 po, .int .u8 s0, .int .u8 s1, .int .u8 s2, .int .u8 s3, .int .u8 s4, .int .u8 s5, .int .u32 si, .int .u8 d0, .int .u8 d1, .int .u8 d2, .int .u8 d3, .int .u8 d4, .int .u8 d5, .int .u32 di, .int .u32 own] 44 (0, 0))))
            case first =>
              as_aux_lemma =>
                go_region_held3 (fun s => ∀ q, s.cell? ⟨bo, q, none⟩ = (#[.int .i64 1, .int .i64 now, .int .u32 src, .int .u32 ip, .slice pa pl pc, .int .i64 po, .int .u8 s0, .int .u8 s1, .int .u8 s2, .int .u8 s3, .int .u8 s4, .int .u8 s5, .int .u32 si, .int .u8 d0, .int .u8 d1, .int .u8 d2, .int .u8 d3, .int .u8 d4, .int .u8 d5, .int .u32 di, .int .u32 own] : Array Value)[q]?) (first | assumption | exact hco | exact hcp) (first
                  | (go_at_call 13; refine (HPUT.out _).mono ?_; rintro e wz ⟨rfl, hwz⟩; subst wz)
                  | (go_at_call 12; refine HASK.out.mono ?_; rintro e wz ⟨a, N, cp, rfl, HO, HK⟩; have hcq : ∀ q, wz.cell? ⟨bo, q, none⟩ = (#[.int .i64 1, .int .i64 now, .int .u32 src, .int .u32 ip, .slice pa pl pc, .int .i64 po, .int .u8 s0, .int .u8 s1, .int .u8 s2, .int .u8 s3, .int .u8 s4, .int .u8 s5, .int .u32 si, .int .u8 d0, .int .u8 d1, .int .u8 d2, .int .u8 d3, .int .u8 d4, .int .u8 d5, .int .u32 di, .int .u32 own] : Array Value)[q]? := fun q => cell_of_heap (HK.out _ _ _ HSZ.out) q)
                  | fail)
                all_goals
                  go_wp2_with fail
                  go_meet
                  case rel => exact ⟨a, N, cp, rfl, HO, HK.out _ _ _ HSZ.out⟩
            case rest =>
              obtain ⟨a, N, cp, rfl, HO, HBX⟩ := hcut
              have hcx : ∀ q, wc.cell? ⟨bo, q, none⟩ = (#[.int .i64 1, .int .i64 now, .int .u32 src, .int .u32 ip, .slice pa pl pc, .int .i64 po, .int .u8 s0, .int .u8 s1, .int .u8 s2, .int .u8 s3, .int .u8 s4, .int .u8 s5, .int .u32 si, .int .u8 d0, .int .u8 d1, .int .u8 d2, .int .u8 d3, .int .u8 d4, .int .u8 d5, .int .u32 di, .int .u32 own] : Array Value)[q]? := fun q => cell_of_heap HBX.out q
              clear hco hcp HPUT HGN HB1 HASK HSZ HBO hu64
              obtain ⟨hN, hO⟩ := HO.out
              have HOO := hid hO
              have HAT := hid (at_any w.heap.size gs ls ms ip wc hO.nwi.se (by have := HG6.out; omega))
              have hA := HA.out
              clear HA HO hO
              cases hA with
              | wait S' k0 x hx hmid =>
                have hN0 : N = 0 := hN
                subst hN0
                have HMID := hid hmid
                have HY := hid hx
                have HKL : Hid (k0 < ls.length) := (List.getElem?_eq_some_iff.1 hx.1).1
                clear hN hx hmid
                as_aux_lemma =>
                  go_upto_region 15 with (first
                    | (go_at_call 14; refine HAT.out.mono ?_; go_loud (rintro e w2 ⟨r, rfl, HAW, hw2⟩; subst w2))
                    | fail)
                  obtain rfl : r = (k0 : Int) := HY.out.at HAW.out
                  obtain ⟨al, cl, am, cm, X⟩ := HOO.out.nwi.se
                  have b0 := X.c0
                  obtain ⟨gl, rfl, e0, e1, e2⟩ := X.ent HY.out.1
                  have hfz := X.frz (x := x) (k := k0) (j := k0 * 3)
                  have HF := hid (X.renum HY.out.1 (k : Int))
                  have HO2 := hid (HOO.out.sk HF.out.1 HF.out.2)
                  have HRT := hid (nw_right HO2.out rfl (k : Int) ip (show Rights ms (k : Int) ip _ [] _ from rfl) (by rw [List.length_set]; have := HG6.out; omega) (by have := HML.out; omega) HMO.out (by omega))
                  have HBX2 := hid (HF.out.2.typ _ _ _ _ HBX.out (by decide) (by decide) (by decide))
                  have hcy : ∀ q, (wc.setCell ⟨gl, k0 * 3, none⟩ (.int .i64 (k : Int))).cell? ⟨bo, q, none⟩ = (#[.int .i64 1, .int .i64 now, .int .u32 src, .int .u32 ip, .slice pa pl pc, .int .i64 po, .int .u8 s0, .int .u8 s1, .int .u8 s2, .int .u8 s3, .int .u8 s4, .int .u8 s5, .int .u32 si, .int .u8 d0, .int .u8 d1, .int .u8 d2, .int .u8 d3, .int .u8 d4, .int .u8 d5, .int .u32 di, .int .u32 own] : Array Value)[q]? := fun q => cell_of_heap HBX2.out q
                  have hk2 : (k0 : Int) < (ls.length : Int) := by have := HKL.out; omega
                  have hk1 : (0 : Int) ≤ (k0 : Int) := by omega
                  clear X HAW HAT e1 e2
                  go_wp2_with (first
                    | (go_at_call 15; refine HRT.out.mono ?_; go_loud (rintro e w3 ⟨rfl, HI3⟩))
                    | fail)
                  go_meet
                  case rel => exact ⟨rfl, _, _, ms, HI3.out, HMID.out, HMS.out, HMO.out, by have := HML.out; omega⟩
              | send S' d hr hmid =>
                have hN1 : N = 1 := hN
                subst hN1
                have HMID := hid hmid
                have HRT := hid (nw_right HOO.out rfl (k : Int) ip hr (by have := HG6.out; omega) (by have := HML.out; omega) HMO.out (by omega))
                obtain ⟨gk, rfl, hk6⟩ := HOO.out.kind
                simp only at hk6
                clear hN hr hmid
                as_aux_lemma =>
                  go_upto_region 15 with (first
                    | (go_at_call 14; refine HAT.out.mono ?_; go_loud (rintro e w2 ⟨r, rfl, HAW, hw2⟩; subst w2))
                    | fail)
                  clear HAW HAT
                  go_wp2_with (first
                    | (go_at_call 15; refine HRT.out.mono ?_; go_loud (rintro e w3 ⟨rfl, HI3⟩))
                    | fail)
                  go_meet
                  case rel => exact ⟨rfl, _, _, ms, HI3.out, HMID.out, HMS.out, HMO.out, by have := HML.out; omega⟩
              | full S' h0 hmid =>
                have hN0 : N = 0 := hN
                subst hN0
                have HMID := hid hmid
                have H0 := hid h0
                have HRT := hid (nw_right HOO.out rfl (k : Int) ip (show Rights ms (k : Int) ip _ [] _ from rfl) (by have := HG6.out; omega) (by have := HML.out; omega) HMO.out (by omega))
                clear hN hmid h0
                as_aux_lemma =>
                  go_upto_region 15 with (first
                    | (go_at_call 14; refine HAT.out.mono ?_; go_loud (rintro e w2 ⟨r, rfl, HAW, hw2⟩; subst w2))
                    | fail)
                  obtain rfl : r = -1 := by
                    rcases HAW.out with ⟨h, _⟩ | ⟨j, y, h, hj, hy⟩
                    · exact h
                    · exact absurd hy (H0.out y (List.mem_of_getElem? hj))
                  clear HAW HAT
                  go_wp2_with (first
                    | (go_at_call 15; refine HRT.out.mono ?_; go_loud (rintro e w3 ⟨rfl, HI3⟩))
                    | fail)
                  go_meet
                  case rel => exact ⟨rfl, _, _, ms, HI3.out, HMID.out, HMS.out, HMO.out, by have := HML.out; omega⟩
              | ask S' d p h0 hr hmid =>
                have hN1 : N = 1 := hN
                subst hN1
                have HMID := hid hmid
                have H0 := hid h0
                have HRR := hid hr
                obtain ⟨gk, rfl, hk6⟩ := HOO.out.kind
                simp only at hk6
                clear hN hr hmid h0
                as_aux_lemma =>
                  go_upto_region 15 with (first
                    | (go_at_call 14; refine HAT.out.mono ?_; go_loud (rintro e w2 ⟨r, rfl, HAW, hw2⟩; subst w2))
                    | fail)
                  obtain rfl : r = -1 := by
                    rcases HAW.out with ⟨h, _⟩ | ⟨j, y, h, hj, hy⟩
                    · exact h
                    · exact absurd hy (H0.out y (List.mem_of_getElem? hj))
                  clear HAW HAT
                  go_upto_region 20 with fail
                  obtain ⟨al, cl, am, cm, X⟩ := HOO.out.nwi.se
                  obtain ⟨LL, hLL⟩ : ∃ LL, LL = ls.length := ⟨_, rfl⟩
                  obtain ⟨a', cp', w7, hrun, HW7, HK7, HF⟩ := X.app ⟨k, ip, 0⟩ (by have := HG6.out; omega)
                  rw [← hLL] at hrun HW7 HF
                  have b0 := X.c0
                  rw [← hLL] at b0
                  have HO2 := hid (HOO.out.sk HF.out.1 HF.out.2)
                  have HRT := hid (nw_right HO2.out rfl (k : Int) ip HRR.out (by rw [List.length_append]; have := HG6.out; simp only [List.length_singleton]; omega) (by have := HML.out; omega) HMO.out (by omega))
                  have HBX2 := hid (HF.out.2.typ _ _ _ _ HBX.out (by decide) (by decide) (by decide))
                  have HBX7 := hid (HK7.out.typ _ _ _ _ HBX.out (by decide) (by decide) (by decide))
                  have HC0 : Hid ((∀ q, wc.drew.cell? ⟨bo, q, none⟩ = (#[.int .i64 1, .int .i64 now, .int .u32 src, .int .u32 ip, .slice pa pl pc, .int .i64 po, .int .u8 s0, .int .u8 s1, .int .u8 s2, .int .u8 s3, .int .u8 s4, .int .u8 s5, .int .u32 si, .int .u8 d0, .int .u8 d1, .int .u8 d2, .int .u8 d3, .int .u8 d4, .int .u8 d5, .int .u32 di, .int .u32 own] : Array Value)[q]?) ∧ wc.drew.cell? ⟨gs, 0, none⟩ = some (.slice al LL cl)) := ⟨fun q => cell_of_heap HBX.out q, b0⟩
                  have HC1 : Hid ((∀ q, (wc.alloc (.cells #[.int .i64 (k : Int), .int .u32 ip, .int .i64 0] 57)).drew.cell? ⟨bo, q, none⟩ = (#[.int .i64 1, .int .i64 now, .int .u32 src, .int .u32 ip, .slice pa pl pc, .int .i64 po, .int .u8 s0, .int .u8 s1, .int .u8 s2, .int .u8 s3, .int .u8 s4, .int .u8 s5, .int .u32 si, .int .u8 d0, .int .u8 d1, .int .u8 d2, .int .u8 d3, .int .u8 d4, .int .u8 d5, .int .u32 di, .int .u32 own] : Array Value)[q]?) ∧ (wc.alloc (.cells #[.int .i64 (k : Int), .int .u32 ip, .int .i64 0] 57)).drew.cell? ⟨gs, 0, none⟩ = some (.slice al LL cl)) := ⟨fun q => cell_of_heap (kept HBX.out (bpush (Below.refl _ _) (.cells #[.int .i64 (k : Int), .int .u32 ip, .int .i64 0] 57))) q, cell_belowW (bpush (Below.refl _ _) _) b0⟩
                  have HC7 : Hid ((∀ q, w7.cell? ⟨bo, q, none⟩ = (#[.int .i64 1, .int .i64 now, .int .u32 src, .int .u32 ip, .slice pa pl pc, .int .i64 po, .int .u8 s0, .int .u8 s1, .int .u8 s2, .int .u8 s3, .int .u8 s4, .int .u8 s5, .int .u32 si, .int .u8 d0, .int .u8 d1, .int .u8 d2, .int .u8 d3, .int .u8 d4, .int .u8 d5, .int .u32 di, .int .u32 own] : Array Value)[q]?) ∧ w7.cell? ⟨gs, 0, none⟩ = some (.slice al LL cl)) := ⟨fun q => cell_of_heap HBX7.out q, by rw [cell_of_heap HW7.out]; rfl⟩
                  have f7 : w7.frozen? ⟨gs, 0, none⟩ = false := frozen_of_heap HW7.out 0
                  have hcy : ∀ q, (w7.setCell ⟨gs, 0, none⟩ (.slice a' (LL + 1) cp')).cell? ⟨bo, q, none⟩ = (#[.int .i64 1, .int .i64 now, .int .u32 src, .int .u32 ip, .slice pa pl pc, .int .i64 po, .int .u8 s0, .int .u8 s1, .int .u8 s2, .int .u8 s3, .int .u8 s4, .int .u8 s5, .int .u32 si, .int .u8 d0, .int .u8 d1, .int .u8 d2, .int .u8 d3, .int .u8 d4, .int .u8 d5, .int .u32 di, .int .u32 own] : Array Value)[q]? := fun q => cell_of_heap HBX2.out q
                  have hd0 := HC0.out.1
                  have hd1 := HC1.out.1
                  have bd0 := HC0.out.2
                  have bd1 := HC1.out.2
                  have hd7 := HC7.out.1
                  have bd7 := HC7.out.2
                  clear X hLL HW7 HK7 HF HC0 HC1 HC7
                  go_cut [110] (fun v wx => w7.setCell ⟨gs, 0, none⟩ (.slice a' (LL + 1) cp') = wx)
                  case first =>
                    clear hcy hk6
                    go_region_law (refine step_append_run rfl _ _ _ _ rfl _ _ rfl rfl hrun ?_)
                    all_goals
                      go_wp2_with fail
                      go_meet
                      case rel => rfl
                  case rest =>
                    subst hcut
                    go_wp2_with (first
                      | (go_at_call 15; refine HRT.out.mono ?_; go_loud (rintro e w3 ⟨rfl, HI3⟩))
                      | fail)
                    go_meet
                    case rel => exact ⟨rfl, _, _, ms, HI3.out, HMID.out, HMS.out, HMO.out, by have := HML.out; omega⟩
          · by_cases k2 : kd = 2
            · subst k2
              obtain ⟨S, ls, ms, hI, hInw, hmost, hmo, hml⟩ := HI1.out
              have HIW := hid hInw
              have HIQ := hid hI
              have HMO := hid hmo
              have HML := hid hml
              have HMS : Hid ((onF S (Arp.mk po ⟨s0, s1, s2, s3, s4, s5⟩ si ⟨d0, d1, d2, d3, d4, d5⟩ di) own now).1.most = n) := hid (by rw [onF_most, hmost])
              have HGR := hid (fun (W : World) => rgroup_any ⟨s0, s1, s2, s3, s4, s5⟩ W HPO.out.2.1)
              clear hI hInw hmost hmo hml k1
              simp only [Mac.val] at HGR
              go_upto_region 24 with (first
                | (go_at_call 16; refine (HGR.out _).mono ?_; go_loud (rintro e w2 ⟨rfl, hb2⟩; have HB2 := hid hb2; clear hb2))
                | fail)
              have HI2 := hid (HIQ.out.below HB2.out)
              have HBO2 := hid (kept HBO.out HB2.out)
              have hcx : ∀ q, w2.cell? ⟨bo, q, none⟩ = (#[.int .i64 2, .int .i64 now, .int .u32 src, .int .u32 ip, .slice pa pl pc, .int .i64 po, .int .u8 s0, .int .u8 s1, .int .u8 s2, .int .u8 s3, .int .u8 s4, .int .u8 s5, .int .u32 si, .int .u8 d0, .int .u8 d1, .int .u8 d2, .int .u8 d3, .int .u8 d4, .int .u8 d5, .int .u32 di, .int .u32 own] : Array Value)[q]? := fun q => cell_of_heap HBO2.out q
              clear HGR HB2 HBO hco HIQ
              go_cut [146] (fun v wx => v = .bool (hrB (Arp.mk po ⟨s0, s1, s2, s3, s4, s5⟩ si ⟨d0, d1, d2, d3, d4, d5⟩ di) own) ∧ w2 = wx)
              case first =>
                as_aux_lemma =>
                  generalize hgb : grpB ⟨s0, s1, s2, s3, s4, s5⟩ = gb at *
                  by_cases o1 : po = 1
                  · subst o1
                    cases gb
                    · by_cases e3 : si = own
                      · have hs3 : (si != own) = false := by simp [e3]
                        have hh : hrB (Arp.mk 1 ⟨s0, s1, s2, s3, s4, s5⟩ si ⟨d0, d1, d2, d3, d4, d5⟩ di) own = false := by simp [hrB, e3]
                        clear e3
                        go_wp2_with fail
                        go_meet
                        case rel => exact ⟨by rw [hh], rfl⟩
                      · have hs3 : (si != own) = true := by simpa using e3
                        have hh : hrB (Arp.mk 1 ⟨s0, s1, s2, s3, s4, s5⟩ si ⟨d0, d1, d2, d3, d4, d5⟩ di) own = true := by simp [hrB, opB, hgb, e3]
                        clear e3
                        go_wp2_with fail
                        go_meet
                        case rel => exact ⟨by rw [hh], rfl⟩
                    · have hh : hrB (Arp.mk 1 ⟨s0, s1, s2, s3, s4, s5⟩ si ⟨d0, d1, d2, d3, d4, d5⟩ di) own = false := by simp [hrB, hgb]
                      go_wp2_with fail
                      go_meet
                      case rel => exact ⟨by rw [hh], rfl⟩
                  · have ho1 : (po == 1) = false := by simpa using o1
                    by_cases o2 : po = 2
                    · subst o2
                      cases gb
                      · by_cases e3 : si = own
                        · have hs3 : (si != own) = false := by simp [e3]
                          have hh : hrB (Arp.mk 2 ⟨s0, s1, s2, s3, s4, s5⟩ si ⟨d0, d1, d2, d3, d4, d5⟩ di) own = false := by simp [hrB, e3]
                          clear e3
                          go_wp2_with fail
                          go_meet
                          case rel => exact ⟨by rw [hh], rfl⟩
                        · have hs3 : (si != own) = true := by simpa using e3
                          have hh : hrB (Arp.mk 2 ⟨s0, s1, s2, s3, s4, s5⟩ si ⟨d0, d1, d2, d3, d4, d5⟩ di) own = true := by simp [hrB, opB, hgb, e3]
                          clear e3
                          go_wp2_with fail
                          go_meet
                          case rel => exact ⟨by rw [hh], rfl⟩
                      · have hh : hrB (Arp.mk 2 ⟨s0, s1, s2, s3, s4, s5⟩ si ⟨d0, d1, d2, d3, d4, d5⟩ di) own = false := by simp [hrB, hgb]
                        go_wp2_with fail
                        go_meet
                        case rel => exact ⟨by rw [hh], rfl⟩
                    · have ho2 : (po == 2) = false := by simpa using o2
                      have hh : hrB (Arp.mk po ⟨s0, s1, s2, s3, s4, s5⟩ si ⟨d0, d1, d2, d3, d4, d5⟩ di) own = false := by simp [hrB, opB, o1, o2]
                      clear o1 o2
                      go_wp2_with fail
                      go_meet
                      case rel => exact ⟨by rw [hh], rfl⟩
              case rest =>
                obtain ⟨rfl, rfl⟩ := hcut
                obtain ⟨ls', hri, hmd⟩ := on_c (i := (k : Int)) (Arp.mk po ⟨s0, s1, s2, s3, s4, s5⟩ si ⟨d0, d1, d2, d3, d4, d5⟩ di) own now HI2.out.ok HIW.out HPO.out (by omega)
                have HRI := hid hri
                have HMD := hid hmd
                have HLN6 : Hid (ls.length ≤ 64) := HIW.out.g
                clear hri hmd
                as_aux_lemma =>
                  by_cases hh : hrB (Arp.mk po ⟨s0, s1, s2, s3, s4, s5⟩ si ⟨d0, d1, d2, d3, d4, d5⟩ di) own = true
                  · rw [hh]
                    have hms : msF ms (Arp.mk po ⟨s0, s1, s2, s3, s4, s5⟩ si ⟨d0, d1, d2, d3, d4, d5⟩ di) own = hearF ms (Arp.mk po ⟨s0, s1, s2, s3, s4, s5⟩ si ⟨d0, d1, d2, d3, d4, d5⟩ di) := by unfold msF; rw [if_pos hh]
                    rw [hms] at HRI HMD
                    have HTL := hid (roundTl (own := own) (now := now) (S := S) HPO.out HMO.out HML.out)
                    have HHE := hid (nw_hears HI2.out (Arp.mk po ⟨s0, s1, s2, s3, s4, s5⟩ si ⟨d0, d1, d2, d3, d4, d5⟩ di) (by have := HML.out; omega))
                    have HON := hid (fun W (h : NwI w W c m gs S ls (hearF ms (Arp.mk po ⟨s0, s1, s2, s3, s4, s5⟩ si ⟨d0, d1, d2, d3, d4, d5⟩ di))) => nw_on h (Arp.mk po ⟨s0, s1, s2, s3, s4, s5⟩ si ⟨d0, d1, d2, d3, d4, d5⟩ di) own now HPO.out HOW.out)
                    simp only [Arp.val] at HHE HON
                    clear hh hms
                    go_upto_region 26 with (first
                      | (go_at_call 17; refine HHE.out.mono ?_; go_loud (rintro e w3 ⟨rfl, HI3, HK3⟩))
                      | fail)
                    have HBO3 := hid (HK3.out.typ _ _ _ _ HBO2.out (by decide) (by decide) (by decide))
                    have hcz : ∀ q, w3.cell? ⟨bo, q, none⟩ = (#[.int .i64 2, .int .i64 now, .int .u32 src, .int .u32 ip, .slice pa pl pc, .int .i64 po, .int .u8 s0, .int .u8 s1, .int .u8 s2, .int .u8 s3, .int .u8 s4, .int .u8 s5, .int .u32 si, .int .u8 d0, .int .u8 d1, .int .u8 d2, .int .u8 d3, .int .u8 d4, .int .u8 d5, .int .u32 di, .int .u32 own] : Array Value)[q]? := fun q => cell_of_heap HBO3.out q
                    clear hcx HHE
                    go_upto_region 27 with (first
                      | (go_at_call 18; refine (HON.out _ HI3.out).mono ?_; go_loud (rintro e w4 ⟨a, N, cp, rfl, HO⟩))
                      | fail)
                    have HRT := hid (nw_right HO.out.2 HO.out.1 (-1) 0 HRI.out (by have := HLN6.out; omega) (by have := HTL.out.2; omega) HTL.out.1 (by have := HO.out.1; have := onF_len S (Arp.mk po ⟨s0, s1, s2, s3, s4, s5⟩ si ⟨d0, d1, d2, d3, d4, d5⟩ di) own now; omega))
                    clear hcz HON
                    go_wp2_with (first
                      | (go_at_call 15; refine HRT.out.mono ?_; go_loud (rintro e w5 ⟨rfl, HI5⟩))
                      | fail)
                    go_meet
                    case rel => exact ⟨rfl, _, _, _, HI5.out, HMD.out.up (by omega), HMS.out, HTL.out.1, HTL.out.2⟩
                  · have hh2 : hrB (Arp.mk po ⟨s0, s1, s2, s3, s4, s5⟩ si ⟨d0, d1, d2, d3, d4, d5⟩ di) own = false := Bool.eq_false_iff.2 hh
                    rw [hh2]
                    have hms : msF ms (Arp.mk po ⟨s0, s1, s2, s3, s4, s5⟩ si ⟨d0, d1, d2, d3, d4, d5⟩ di) own = ms := by unfold msF; rw [if_neg hh]
                    rw [hms] at HRI HMD
                    have HON := hid (nw_on HI2.out (Arp.mk po ⟨s0, s1, s2, s3, s4, s5⟩ si ⟨d0, d1, d2, d3, d4, d5⟩ di) own now HPO.out HOW.out)
                    simp only [Arp.val] at HON
                    clear hh hh2 hms
                    go_upto_region 27 with (first
                      | (go_at_call 18; refine HON.out.mono ?_; go_loud (rintro e w4 ⟨a, N, cp, rfl, HO⟩))
                      | fail)
                    have HRT := hid (nw_right HO.out.2 HO.out.1 (-1) 0 HRI.out (by have := HLN6.out; omega) (by have := HML.out; omega) HMO.out (by have := HO.out.1; have := onF_len S (Arp.mk po ⟨s0, s1, s2, s3, s4, s5⟩ si ⟨d0, d1, d2, d3, d4, d5⟩ di) own now; omega))
                    clear hcx HON
                    go_wp2_with (first
                      | (go_at_call 15; refine HRT.out.mono ?_; go_loud (rintro e w5 ⟨rfl, HI5⟩))
                      | fail)
                    go_meet
                    case rel => exact ⟨rfl, _, _, _, HI5.out, HMD.out.up (by omega), HMS.out, HMO.out, by have := HML.out; omega⟩
            · by_cases k3 : kd = 3
              · subst k3
                obtain ⟨S, ls, ms, hI, hInw, hmost, hmo, hml⟩ := HI1.out
                have HMO := hid hmo
                have HML := hid hml
                have HG6 := hid hInw.g
                have HMS : Hid ((tickF S now).1.most = n) := hid (by rw [tickF_most, hmost])
                have HTK := hid (nw_tick hI now)
                have HTN := hid (tickF_len hI.ok now)
                obtain ⟨ls', hri, hmd⟩ := tick_c now hI.ok hInw
                have HRI := hid hri
                have HMD := hid hmd
                clear hI hInw hmost hmo hml k1 k2 hri hmd
                as_aux_lemma =>
                  go_upto_region 30 with (first
                    | (go_at_call 19; refine HTK.out.mono ?_; go_loud (rintro e w4 ⟨a, N, cp, rfl, HO⟩))
                    | fail)
                  have HRT := hid (nw_right HO.out.2 HO.out.1 (-1) 0 HRI.out (by have := HG6.out; omega) (by have := HML.out; omega) HMO.out (by have := HO.out.1; have := HTN.out; omega))
                  clear hco HTK
                  go_wp2_with (first
                    | (go_at_call 15; refine HRT.out.mono ?_; go_loud (rintro e w5 ⟨rfl, HI5⟩))
                    | fail)
                  go_meet
                  case rel => exact ⟨rfl, _, _, _, HI5.out, HMD.out.up (by omega), HMS.out, HMO.out, by have := HML.out; omega⟩
              · by_cases k4 : kd = 4
                · subst k4
                  obtain ⟨S, ls, ms, hI, hInw, hmost, hmo, hml⟩ := HI1.out
                  have HMO := hid hmo
                  have HML := hid hml
                  have HMS := hid hmost
                  have HCL := hid (nw_clear hI)
                  clear hI hInw hmost hmo hml k1 k2 k3 hco
                  as_aux_lemma =>
                    go_upto_region 33 with (first
                      | (go_at_call 20; refine HCL.out.mono ?_; go_loud (rintro e w4 ⟨rfl, HI4⟩))
                      | fail)
                    obtain ⟨al, cl, am, cm, X⟩ := HI4.out.se
                    have b0 := X.c0
                    have f0 : w4.frozen? ⟨gs, 0, none⟩ = false := frozen_of_heap X.box 0
                    have HF := hid (X.setl (n := 0) (l' := []) rfl (RowB.void _ _ _))
                    have HI5 := hid (HI4.out.sk HF.out.1 HF.out.2)
                    clear X HCL
                    go_wp2_with fail
                    go_meet
                    case rel => exact ⟨rfl, _, _, _, HI5.out, clear_c, HMS.out, HMO.out, by have := HML.out; omega⟩
                · have q1 : (kd == 1) = false := by simpa using k1
                  have q2 : (kd == 2) = false := by simpa using k2
                  have q3 : (kd == 3) = false := by simpa using k3
                  have q4 : (kd == 4) = false := by simpa using k4
                  clear k1 k2 k3 k4
                  as_aux_lemma =>
                    go_wp2_with fail
                    go_meet
                    case rel => exact ⟨rfl, HI1.out.z⟩
        case rest =>
          obtain ⟨rfl, HZ⟩ := hcut
          obtain ⟨S, ls, ms, hI, hMid, hmost, hmo, hml⟩ := HZ.out
          have HIQ := hid hI
          have HMD := hid hMid
          have HMS := hid hmost
          have HMO := hid hmo
          have HML := hid hml
          have HG6 : Hid (ls.length ≤ 1000) := hid (by have := hMid.g; omega)
          obtain ⟨N, hN⟩ : ∃ N, N = S.L.length := ⟨_, rfl⟩
          have HN := hid hN
          have hN64 : N ≤ 64 := by have := hI.ok.len; have := hI.ok.most; omega
          have hNn : ¬ n < (N : Int) := by have := hI.ok.len; omega
          have HLK := hid (nw_look hI N hN)
          clear HZ hI hMid hmost hmo hml hco HI1 HBO hN
          as_aux_lemma =>
            go_upto_region 35 with (first
              | (go_at_call 21; refine HLK.out.mono ?_; go_loud (rintro e w4 ⟨a, cp, rfl, HRW, HB4⟩))
              | fail)
            have HI4 := hid (HIQ.out.below HB4.out)
            clear HLK HIQ HB4
            go_wp2_with fail
            go_loopw [19, 20] (fun vo vi wr => ∃ (al : Option Addr) (no j co : Nat), vo = .slice al no co ∧ vi = .int .i64 j ∧ j ≤ N ∧ no ≤ j ∧ Hid (RowB 57 3 w4 wr al no co (w3s (leftK S.L ls j)))) (fun _ vi _ => N - (intOf6 vi).toNat)
            case atStart => exact ⟨none, 0, 0, 0, rfl, rfl, Nat.zero_le _, Nat.le_refl _, by rw [leftK_zero]; exact RowB.void _ _ _⟩
            case round =>
              obtain ⟨al, no, j, co, rfl, rfl, hj, hno, HL⟩ := hrel
              have HIR := hid (HI4.out.below HL.out.below)
              by_cases hjN : j < N
              · obtain ⟨y, hy0⟩ : ∃ y, S.L[j]? = some y := ⟨_, List.getElem?_eq_getElem (by rw [← HN.out]; omega)⟩
                have HY := hid hy0
                have hym : y ∈ S.L := List.mem_of_getElem? hy0
                obtain ⟨ga, hga, q0, q7, q9, q10⟩ := look_ent (HRW.out.below HL.out.below) hy0 hjN
                subst hga
                have HAT := hid (at_any w.heap.size gs ls ms y.ip wr HIR.out.se HG6.out)
                have j0n : (0 : Int) ≤ (j : Int) := by omega
                have j1n : (j : Int) < (N : Int) := by omega
                by_cases hq : 0 < y.q
                · obtain ⟨x, hx, ex⟩ := HMD.out.b y hym hq
                  obtain ⟨j0, hj0⟩ := mem_at hx
                  have HONE := hid (HMD.out.c.ip hj0 ex)
                  have hxy := HMD.out.a x hx y hym ex.symm
                  have hqq : (y.q != x.q) = false := by simp [hxy.2.1]
                  rw [if_pos hq] at q7
                  rw [decide_eq_true hq] at q10
                  obtain ⟨al2, cl2, am2, cm2, X⟩ := HIR.out.se
                  have b0 := X.c0
                  obtain ⟨gl, rfl, e0, e1, e2⟩ := X.ent hj0
                  have hjl : (j0 : Int) < (ls.length : Int) := by have := (List.getElem?_eq_some_iff.1 hj0).1; omega
                  have hjz : (0 : Int) ≤ (j0 : Int) := by omega
                  have hjd : decide ((0 : Int) ≤ (j0 : Int)) = true := by simp
                  have HQ := hid (fun q => (HL.out.bel (bdrewN _ q)).w3 (Below.refl (wr.drewN q).heap.size (wr.drewN q)) x (by omega))
                  have HE : Hid (∀ a' cp' w7, RowB 57 3 w4 w7 a' (no + 1) cp' (w3s (leftK S.L ls j ++ [x])) → RowB 57 3 w4 w7 a' (no + 1) cp' (w3s (leftK S.L ls (j + 1)))) := fun a' cp' w7 h => by
                    rw [leftK_asked HY.out hq HONE.out]; exact h
                  clear hxy hx ex hj0 X hym hq
                  by_cases hj00 : j = 0
                  · as_aux_lemma =>
                    subst hj00
                    simp only [Nat.zero_mul, Nat.zero_add] at q0 q7 q9 q10
                    clear hy0
                    go_wp2_with (first
                      | (go_at_call 14; refine HAT.out.mono ?_; go_loud (rintro e w5 ⟨r, rfl, HAW, hw5⟩; subst w5))
                      | fail)
                    obtain rfl : r = (j0 : Int) := HONE.out.at HAW.out
                    clear HAW HAT
                    go_quiet (fail)
                    go_wp2_with (first
                      | (at_builtin; obtain ⟨a', cp', w7, hrun, HR7⟩ := HQ.out nq; refine wpList_append_run _ rfl _ _ _ _ rfl _ _ rfl rfl hrun ?_)
                      | fail)
                    go_roundw
                    case rel => exact ⟨a', no + 1, 0 + 1, cp', rfl, by first | rfl | (congr 1; omega), by omega, by omega, HE.out _ _ _ HR7.out⟩
                    case measure => simp only [intOf6]; omega
                  · as_aux_lemma =>
                    obtain ⟨k1, hk1⟩ : ∃ k1, k1 + 1 = j := ⟨j - 1, by omega⟩
                    obtain ⟨y1, hy1⟩ : ∃ y1, S.L[k1]? = some y1 := ⟨_, List.getElem?_eq_getElem (by rw [← HN.out]; omega)⟩
                    have hlt1 : y1.ip < y.ip := by
                      obtain ⟨z1, z2⟩ := List.getElem?_eq_some_iff.1 hy1
                      obtain ⟨z3, z4⟩ := List.getElem?_eq_some_iff.1 HY.out
                      have := List.pairwise_iff_getElem.1 HIR.out.ok.rise k1 j z1 z3 (by omega)
                      rw [z2, z4] at this
                      exact this
                    obtain ⟨ga', hga', p0, _⟩ := look_ent (HRW.out.below HL.out.below) hy1 (by omega)
                    simp only [Option.some.injEq, Addr.mk.injEq, and_true] at hga'
                    subst hga'
                    have hp0 : (0 : Int) < (j : Int) := by omega
                    have hpd : decide ((0 : Int) < (j : Int)) = true := decide_eq_true hp0
                    have hpn : 0 < j := by omega
                    have hpe : decide (0 < j) = true := decide_eq_true hpn
                    have hpw : IntKind.i64.wrap ((j : Int) - 1) = (k1 : Int) := by simp only [IntKind.wrap_i64]; omega
                    have hp1 : (0 : Int) ≤ (k1 : Int) := by omega
                    have hp2 : (k1 : Int) < (N : Int) := by omega
                    have hp3 : ¬ y.ip ≤ y1.ip := by omega
                    have hp4 : decide (y.ip ≤ y1.ip) = false := by simpa using hlt1
                    clear hk1 hy1 hlt1
                    clear hy0
                    go_upto_region 43 with (first
                      | (go_at_call 14; refine HAT.out.mono ?_; go_loud (rintro e w5 ⟨r, rfl, HAW, hw5⟩; subst w5))
                      | fail)
                    obtain rfl : r = (j0 : Int) := HONE.out.at HAW.out
                    clear HAW HAT
                    go_quiet (fail)
                    go_wp2_with (first
                      | (at_builtin; obtain ⟨a', cp', w7, hrun, HR7⟩ := HQ.out nq; refine wpList_append_run _ rfl _ _ _ _ rfl _ _ rfl rfl hrun ?_)
                      | fail)
                    go_roundw
                    case rel => exact ⟨a', no + 1, j + 1, cp', rfl, by first | rfl | (congr 1; omega), by omega, by omega, HE.out _ _ _ HR7.out⟩
                    case measure => simp only [intOf6]; omega
                · have HNO : Hid (∀ r, atW ls y.ip r → r = -1) := fun r h => by
                    rcases h with ⟨h1, _⟩ | ⟨i1, z, h1, h2, h3⟩
                    · exact h1
                    · exact absurd (HMD.out.a z (List.mem_of_getElem? h2) y hym h3.symm).1 hq
                  rw [if_neg hq] at q7
                  rw [decide_eq_false hq] at q10
                  have HE : Hid (∀ q, RowB 57 3 w4 (wr.drewN q) al no co (w3s (leftK S.L ls (j + 1)))) := fun q => by
                    rw [leftK_known HY.out hq]; exact HL.out.bel (bdrewN _ q)
                  obtain ⟨al2, cl2, am2, cm2, X⟩ := HIR.out.se
                  have b0 := X.c0
                  clear X hym hq
                  by_cases hj00 : j = 0
                  · as_aux_lemma =>
                    subst hj00
                    simp only [Nat.zero_mul, Nat.zero_add] at q0 q7 q9 q10
                    clear hy0
                    go_wp2_with (first
                      | (go_at_call 14; refine HAT.out.mono ?_; go_loud (rintro e w5 ⟨r, rfl, HAW, hw5⟩; subst w5))
                      | fail)
                    obtain rfl : r = -1 := HNO.out r HAW.out
                    clear HAW HAT
                    go_quiet (fail)
                    go_wp2_with fail
                    go_roundw
                    case rel => exact ⟨al, no, 0 + 1, co, rfl, by first | rfl | (congr 1; omega), by omega, by omega, HE.out _⟩
                    case measure => simp only [intOf6]; omega
                  · as_aux_lemma =>
                    obtain ⟨k1, hk1⟩ : ∃ k1, k1 + 1 = j := ⟨j - 1, by omega⟩
                    obtain ⟨y1, hy1⟩ : ∃ y1, S.L[k1]? = some y1 := ⟨_, List.getElem?_eq_getElem (by rw [← HN.out]; omega)⟩
                    have hlt1 : y1.ip < y.ip := by
                      obtain ⟨z1, z2⟩ := List.getElem?_eq_some_iff.1 hy1
                      obtain ⟨z3, z4⟩ := List.getElem?_eq_some_iff.1 HY.out
                      have := List.pairwise_iff_getElem.1 HIR.out.ok.rise k1 j z1 z3 (by omega)
                      rw [z2, z4] at this
                      exact this
                    obtain ⟨ga', hga', p0, _⟩ := look_ent (HRW.out.below HL.out.below) hy1 (by omega)
                    simp only [Option.some.injEq, Addr.mk.injEq, and_true] at hga'
                    subst hga'
                    have hp0 : (0 : Int) < (j : Int) := by omega
                    have hpd : decide ((0 : Int) < (j : Int)) = true := decide_eq_true hp0
                    have hpn : 0 < j := by omega
                    have hpe : decide (0 < j) = true := decide_eq_true hpn
                    have hpw : IntKind.i64.wrap ((j : Int) - 1) = (k1 : Int) := by simp only [IntKind.wrap_i64]; omega
                    have hp1 : (0 : Int) ≤ (k1 : Int) := by omega
                    have hp2 : (k1 : Int) < (N : Int) := by omega
                    have hp3 : ¬ y.ip ≤ y1.ip := by omega
                    have hp4 : decide (y.ip ≤ y1.ip) = false := by simpa using hlt1
                    clear hk1 hy1 hlt1
                    clear hy0
                    go_upto_region 43 with (first
                      | (go_at_call 14; refine HAT.out.mono ?_; go_loud (rintro e w5 ⟨r, rfl, HAW, hw5⟩; subst w5))
                      | fail)
                    obtain rfl : r = -1 := HNO.out r HAW.out
                    clear HAW HAT
                    go_quiet (fail)
                    go_wp2_with fail
                    go_roundw
                    case rel => exact ⟨al, no, j + 1, co, rfl, by first | rfl | (congr 1; omega), by omega, by omega, HE.out _⟩
                    case measure => simp only [intOf6]; omega
              · have hjj : j = N := by omega
                have HL2 : Hid (RowB 57 3 w4 wr al no co (w3s (leftK S.L ls S.L.length))) := by
                  have := HL.out
                  rw [hjj, HN.out] at this
                  exact this
                have hn : no = (leftK S.L ls S.L.length).length := by
                  have h1 := HL2.out.row.1
                  rw [w3s_len] at h1
                  omega
                obtain ⟨al4, cl4, am4, cm4, X4⟩ := HI4.out.se
                have HF := hid (X4.setl hn HL2.out)
                have HI5 := hid (HI4.out.sk HF.out.1 HF.out.2)
                have HIW := hid (left_inw HI4.out.ok HMD.out)
                obtain ⟨al2, cl2, am2, cm2, X⟩ := HIR.out.se
                have b0 := X.c0
                have f0 : wr.frozen? ⟨gs, 0, none⟩ = false := frozen_of_heap X.box 0
                clear hjj hn X4 X
                as_aux_lemma =>
                  go_wp2_with fail
                  go_roundw
                  case rel => exact ⟨k + 1, by omega, by go_num, _, _, _, HI5.out, HIW.out, HMS.out, HMO.out, HML.out⟩
                  case measure => simp only [intOf6]; omega
    · go_wp2_with fail
      go_ret
      obtain ⟨S, ls, ms, h, _⟩ := HI.out
      exact ⟨rfl, h.bel⟩
end Go.Proofs.Ytaaoelhmanahpaa
