/-
  Neigh: Ask.
-/
import Derived.Test.YtaaoelhmanahpaaNAns
namespace Go.Proofs.Ytaaoelhmanahpaa
open Go.RowKit
set_option linter.all false

theorem hear_some (c m : Nat) (S : St) (V : Int → Value) (n ip : Int) (y : Ab) (pa : Option Addr) (pn pc : Nat) (w : World) (x : CaW w c m S V) (hip : ipOk ip) (hl : look S.L ip = some y) (hv : V ip = .slice pa pn pc) :
    Calls Try.prog 37 #[.pointer (some ⟨c, 0, none⟩), .int .i64 n] w fun e w1 => e = .returned (.tuple #[]) ∧ w1.cell? ⟨c, 8, none⟩ = some (.map (some m)) ∧ w1.cell? ⟨c, 7, none⟩ = some (.int .i64 (hearN S.now n)) ∧ c < w1.heap.size ∧ (Instr.lookup 74 (.map (some m)) (.int .u32 ip) true).run Try.prog w1 = .ok (.tuple #[y.val (.slice pa pn pc), .bool true]) w1 ∧ Hid (CaW w1 c m { S with now := hearN S.now n } V) ∧ Hid (But c w w1) :=
  (hear_any c m S V n w x).mono fun e w1 ⟨h1, h2, h3⟩ => ⟨h1, h2.out.cells.2.2.2.1, h2.out.cells.2.2.1, h2.out.ltc, by
    have := h2.out.map.lookOk hip
    simp only [entV, hl, Option.isSome_some, hv] at this
    exact this, h2, h3⟩
theorem hear_none (c m : Nat) (S : St) (V : Int → Value) (n ip : Int) (w : World) (x : CaW w c m S V) (hip : ipOk ip) (hl : look S.L ip = none) :
    Calls Try.prog 37 #[.pointer (some ⟨c, 0, none⟩), .int .i64 n] w fun e w1 => e = .returned (.tuple #[]) ∧ w1.cell? ⟨c, 8, none⟩ = some (.map (some m)) ∧ w1.cell? ⟨c, 7, none⟩ = some (.int .i64 (hearN S.now n)) ∧ c < w1.heap.size ∧ (Instr.lookup 74 (.map (some m)) (.int .u32 ip) true).run Try.prog w1 = .ok (.tuple #[zeroE, .bool false]) w1 ∧ Hid (CaW w1 c m { S with now := hearN S.now n } V) ∧ Hid (But c w w1) :=
  (hear_any c m S V n w x).mono fun e w1 ⟨h1, h2, h3⟩ => ⟨h1, h2.out.cells.2.2.2.1, h2.out.cells.2.2.1, h2.out.ltc, by
    have := h2.out.map.lookOk hip
    simp only [entV, hl, Option.isSome_none] at this
    exact this, h2, h3⟩
/-- a copy, the box of an entry beside it. -/
theorem copy_box (pt : Part) (w w2 : World) (g : Nat) (C : Array Value) (t : TypeId) (hok : pt.ok w2) (hl : pt.zs.length ≤ 140737488351232) (hb : w2.heap[g]? = some (.cells C t (0, 0))) :
    Calls Try.prog 39 #[pt.val] w2 fun e w3 => ∃ k, e = .returned (.slice (some ⟨k, 0, none⟩) pt.zs.length pt.zs.length) ∧ (∀ q, w3.cell? ⟨g, q, none⟩ = C[q]?) ∧ (∀ q, w3.frozen? ⟨g, q, none⟩ = false) ∧ Hid (w2.heap.size ≤ k) ∧ Hid (w3.heap[k]? = some (.cells (u8s pt.zs).toArray 5 (0, 0))) ∧ Hid (Below w2.heap.size w2 w3) ∧ Hid (w3.heap[g]? = some (.cells C t (0, 0))) :=
  (copyOf_any pt w2 hok hl).mono fun e w3 ⟨k, h1, h2, h3, h4⟩ => ⟨k, h1, fun q => cell_of_heap (kept hb h4) q, fun q => frozen_of_heap (kept hb h4) q, h2, h3, h4, kept hb h4⟩
set_option maxRecDepth 40000 in
set_option maxHeartbeats 4000000 in
/-- it is asked for already. -/
theorem caskA (c m : Nat) (S : St) (V : Int → Value) (src ip : Int) (pt : Part) (now : Int) (y : Ab) (w : World) (x : CaW w c m S V) (hip : ipOk ip) (hsrc : ipOk src) (hl : look S.L ip = some y) (hq : 0 < y.q) (hpk : ∀ wx, Two c m w wx → pt.ok wx) (hpl : pt.zs.length ≤ 140737488351232) :
    Calls Try.prog 12 #[.pointer (some ⟨c, 0, none⟩), .int .u32 src, .int .u32 ip, pt.val, .int .i64 now] w fun e w' => e = .returned (.slice none 0 0) ∧ Hid (Answ w w' c m S { S with now := hearN S.now now, L := put S.L { y with src := src, zs := pt.zs } } V none 0 []) := by
  have hyL := (look_some hl).1
  have hyi : y.ip = ip := (look_some hl).2
  obtain ⟨pa, pc, hv, _⟩ := (x.rows y hyL).form
  rw [hyi] at hv
  have HH := hid (hear_some c m S V now ip y pa (u8s y.zs).length pc w x hip hl hv)
  have HYO := hid (x.ok.ents y hyL)
  have HYL := hid hyL
  have HX := hid x
  have HPK := hid hpk
  have HPL := hid hpl
  have HV : Hid (pt.val = .slice pt.a pt.zs.length pt.c) := rfl
  have HIP := hid hip
  have HSRC := hid hsrc
  have HYI := hid hyi
  have HCB := hid (fun (w2 : World) (g : Nat) (C : Array Value) (t : TypeId) (h1 : pt.ok w2) (h2 : w2.heap[g]? = some (.cells C t (0, 0))) => copy_box pt w w2 g C t h1 hpl h2)
  generalize (u8s y.zs).length = pn at HH
  have HAS := hid (asked_box y pa pn pc)
  clear x hl hv hyL hpk hpl hip hsrc hyi
  obtain ⟨yi, yt, ⟨b0, b1, b2, b3, b4, b5⟩, yq, ys, yz⟩ := y
  have hyi : yi = ip := HYI.out
  subst hyi
  simp only [Ab.val] at HH HAS hq
  rw [HV.out]
  go_enter Try.func12, Try.ntmps12
  go_wp2_with (first
    | (go_at_call 37; with_reducible refine HH.out.mono ?_; rintro e w1 ⟨rfl, c8, c7, hcl, hlk, HC1, HB1⟩)
    | (go_at_call 38; with_reducible refine (HAS.out _).mono ?_; rintro e w2 ⟨rfl, hbx, c0, HB2⟩; have HBX := hid hbx; have HPO := hid (HPK.out w2 ((Two.of_c HB1.out).trans (Two.of_below HB2.out))))
    | (go_at_call 39; refine (HCB.out w2 w1.heap.size _ _ HPO.out HBX.out).mono ?_; rintro e w3 ⟨k, rfl, hcc, hff, HK, HK2, HB3, HBX3⟩)
    | fail)
  have hC3 := (HC1.out.below HB2.out).below HB3.out
  have hb4 : But w1.heap.size w3 ((w3.setCell ⟨w1.heap.size, 8, none⟩ (.int .u32 src)).setCell ⟨w1.heap.size, 9, none⟩ (.slice (some ⟨k, 0, none⟩) pt.zs.length pt.zs.length)) := (But.setCell _ _ _ _).trans (But.setCell _ _ _ _)
  have hx4 : ((w3.setCell ⟨w1.heap.size, 8, none⟩ (.int .u32 src)).setCell ⟨w1.heap.size, 9, none⟩ (.slice (some ⟨k, 0, none⟩) pt.zs.length pt.zs.length)).heap[w1.heap.size]? = some (.cells #[.int .i64 yt, .int .u8 b0, .int .u8 b1, .int .u8 b2, .int .u8 b3, .int .u8 b4, .int .u8 b5, .int .i64 yq, .int .u32 src, .slice (some ⟨k, 0, none⟩) pt.zs.length pt.zs.length] 87 (0, 0)) := by rw [heap_setCell (heap_setCell HBX3.out)]; simp
  clear hcc hff c8 c7 hlk c0 hbx HCB HAS HH HPO
  generalize ((w3.setCell ⟨w1.heap.size, 8, none⟩ (.int .u32 src)).setCell ⟨w1.heap.size, 9, none⟩ (.slice (some ⟨k, 0, none⟩) pt.zs.length pt.zs.length)) = w4 at hb4 hx4 ⊢
  have hw1 := HB1.out.size
  have hw2 := HB2.out.size
  have hk := HK.out
  have hC4 : CaW w4 c m { S with now := hearN S.now now } V := hC3.keep (hb4.block c (by omega) hC3.ltc) (hb4.block m (by have := HC1.out.ltm; omega) hC3.ltm) (fun z hz b hb => hb4.block b (row_not (hC3.rows z hz) HBX3.out (by decide) b hb) ((hC3.rows z hz).lt hb))
  have hk4 : w4.heap[k]? = some (.cells (u8s pt.zs).toArray 5 (0, 0)) := keptBut HK2.out hb4 (by have := heap_lt HBX.out; omega)
  have hr4 : Row w4 5 (.slice (some ⟨k, 0, none⟩) pt.zs.length pt.zs.length) (u8s pt.zs) := by
    have := Row.of_heap hk4 (by rw [u8s_len]; have := HPL.out; unfold maxLen; omega)
    rwa [u8s_len] at this
  have hT4 : Two c m w w4 := (((Two.of_c HB1.out).trans (Two.of_below HB2.out)).trans (Two.of_below HB3.out)).new hb4 (by omega)
  have hzs : ∀ z, z ∈ pt.zs → 0 ≤ z ∧ z ≤ 255 := (HPK.out w (Two.refl _ _ _)).1
  have hold : ∀ z ∈ S.L, ∀ b, (V z.ip).ownBlock = some b → b < w.heap.size := fun z hz b hb => (HX.out.rows z hz).lt hb
  obtain ⟨w5, hup, hC5, hb5⟩ := CaW.lay (hC4.drewN 1) ⟨yi, yt, ⟨b0, b1, b2, b3, b4, b5⟩, yq, src, pt.zs⟩ ⟨HYO.out.ip, HYO.out.unt, HYO.out.mac, HYO.out.q, HSRC.out, hzs, fun h => by have h' : yq = 0 := h; omega, HYO.out.asd⟩ (some ⟨k, 0, none⟩) pt.zs.length pt.zs.length hr4
    (fun z hz _ b hb e => by simp [Value.ownBlock] at e; have := hold z hz b hb; omega) (by have := put_len_same HX.out.ok.rise (x := ⟨yi, yt, ⟨b0, b1, b2, b3, b4, b5⟩, yq, src, pt.zs⟩) HYL.out rfl; have h2 := HX.out.ok.len; simp only; omega)
  have hup' : (Instr.mapUpdate 74 (.map (some m)) (.int .u32 yi) (.agg #[.int .i64 yt, .int .u8 b0, .int .u8 b1, .int .u8 b2, .int .u8 b3, .int .u8 b4, .int .u8 b5, .int .i64 yq, .int .u32 src, .slice (some ⟨k, 0, none⟩) pt.zs.length pt.zs.length])).run Try.prog w4.drew = .ok () w5 := hup
  have HFIN : Hid (Answ w w5 c m S { S with now := hearN S.now now, L := put S.L ⟨yi, yt, ⟨b0, b1, b2, b3, b4, b5⟩, yq, src, pt.zs⟩ } V none 0 []) := by
    refine Answ.void (fun z hz b hb => ?_) hC5 ((hT4.drewN 1).trans (Two.of_m hb5))
    rcases mem_put.1 hz with rfl | ⟨h4, h5⟩
    · rw [upd_same] at hb
      simp [Value.ownBlock] at hb
      left; omega
    · rw [upd_other V _ h5] at hb
      exact Or.inr ⟨z, h4, hb⟩
  have c8 := hC4.cells.2.2.2.1
  have hbc : ∀ q, w4.cell? ⟨w1.heap.size, q, none⟩ = (#[.int .i64 yt, .int .u8 b0, .int .u8 b1, .int .u8 b2, .int .u8 b3, .int .u8 b4, .int .u8 b5, .int .i64 yq, .int .u32 src, .slice (some ⟨k, 0, none⟩) pt.zs.length pt.zs.length] : Array Value)[q]? := fun q => cell_of_heap hx4 q
  clear hup hC5 hb5 hr4 hk4 hC4 hC3 hT4 hx4 hold hzs hb4
  go_region
  all_goals go_wp2_with fail
  go_ret
  exact ⟨rfl, HFIN⟩
end Go.Proofs.Ytaaoelhmanahpaa
