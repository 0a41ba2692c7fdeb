import Derived.Test.YtaaoelhmanahpaaNAns
/-
  Neigh: Ask.
-/
namespace Go.Proofs.Ytaaoelhmanahpaa
open Go.RowKit
set_option linter.all false

theorem hear_some (c m : Nat) (S : St) (V : Int → Value) (n ip : Int) (y : Ab) (pa : Option Addr) (pn pc : Nat) (w : World) (x : CaW w c m S V) (hip : ipOk ip) (hl : look S.L ip = some y) (hv : V ip = .slice pa pn pc) :
    Calls Try.prog 37 #[.pointer (some ⟨c, 0, none⟩), .int .i64 n] w fun e w1 => e = .returned (.tuple #[]) ∧ w1.cell? ⟨c, 8, none⟩ = some (.map (some m)) ∧ w1.cell? ⟨c, 7, none⟩ = some (.int .i64 (hearN S.now n)) ∧ c < w1.heap.size ∧ (Instr.lookup 74 (.map (some m)) (.int .u32 ip) true).run Try.prog w1 = .ok (.tuple #[y.val (.slice pa pn pc), .bool true]) w1 ∧ Hid (CaW w1 c m { S with now := hearN S.now n } V) ∧ Hid (But c w w1) :=
  (hear_any c m S V n w x).mono fun e w1 ⟨h1, h2, h3⟩ => ⟨h1, h2.out.cells.2.2.2.1, h2.out.cells.2.2.1, h2.out.ltc, by
    have := h2.out.map.lookOk hip
    simp only [entV, hl, Option.isSome_some, hv] at this
    exact this, h2, h3⟩
theorem hear_none (c m : Nat) (S : St) (V : Int → Value) (n ip : Int) (w : World) (x : CaW w c m S V) (hip : ipOk ip) (hl : look S.L ip = none) :
    Calls Try.prog 37 #[.pointer (some ⟨c, 0, none⟩), .int .i64 n] w fun e w1 => e = .returned (.tuple #[]) ∧ w1.cell? ⟨c, 8, none⟩ = some (.map (some m)) ∧ w1.cell? ⟨c, 7, none⟩ = some (.int .i64 (hearN S.now n)) ∧ c < w1.heap.size ∧ (Instr.lookup 74 (.map (some m)) (.int .u32 ip) true).run Try.prog w1 = .ok (.tuple #[zeroE, .bool false]) w1 ∧ Hid (CaW w1 c m { S with now := hearN S.now n } V) ∧ Hid (But c w w1) :=
  (hear_any c m S V n w x).mono fun e w1 ⟨h1, h2, h3⟩ => ⟨h1, h2.out.cells.2.2.2.1, h2.out.cells.2.2.1, h2.out.ltc, by
    have := h2.out.map.lookOk hip
    simp only [entV, hl, Option.isSome_none] at this
    exact this, h2, h3⟩
/-- a copy, the box of an entry beside it. -/
theorem copy_box (pt : Part) (w w2 : World) (g : Nat) (C : Array Value) (t : TypeId) (hok : pt.ok w2) (hl : pt.zs.length ≤ 140737488351232) (hb : w2.heap[g]? = some (.cells C t (0, 0))) :
    Calls Try.prog 39 #[pt.val] w2 fun e w3 => ∃ k, e = .returned (.slice (some ⟨k, 0, none⟩) pt.zs.length pt.zs.length) ∧ (∀ q, w3.cell? ⟨g, q, none⟩ = C[q]?) ∧ (∀ q, w3.frozen? ⟨g, q, none⟩ = false) ∧ Hid (w2.heap.size ≤ k) ∧ Hid (w3.heap[k]? = some (.cells (u8s pt.zs).toArray 5 (0, 0))) ∧ Hid (Below w2.heap.size w2 w3) ∧ Hid (w3.heap[g]? = some (.cells C t (0, 0))) :=
  (copyOf_any pt w2 hok hl).mono fun e w3 ⟨k, h1, h2, h3, h4⟩ => ⟨k, h1, fun q => cell_of_heap (kept hb h4) q, fun q => frozen_of_heap (kept hb h4) q, h2, h3, h4, kept hb h4⟩
set_option maxRecDepth 40000 in
set_option maxHeartbeats 4000000 in
/-- it is asked for already. -/
theorem caskA (c m : Nat) (S : St) (V : Int → Value) (src ip : Int) (pt : Part) (now : Int) (y : Ab) (w : World) (x : CaW w c m S V) (hip : ipOk ip) (hsrc : ipOk src) (hl : look S.L ip = some y) (hq : 0 < y.q) (hpk : ∀ wx, Two c m w wx → pt.ok wx) (hpl : pt.zs.length ≤ 140737488351232) :
    Calls Try.prog 12 #[.pointer (some ⟨c, 0, none⟩), .int .u32 src, .int .u32 ip, pt.val, .int .i64 now] w fun e w' => e = .returned (.slice none 0 0) ∧ Hid (Answ w w' c m S { S with now := hearN S.now now, L := put S.L { y with src := src, zs := pt.zs } } V none 0 []) := by
  have hyL := (look_some hl).1
  have hyi : y.ip = ip := (look_some hl).2
  obtain ⟨pa, pc, hv, _⟩ := (x.rows y hyL).form
  rw [hyi] at hv
  have HH := hid (hear_some c m S V now ip y pa (u8s y.zs).length pc w x hip hl hv)
  have HYO := hid (x.ok.ents y hyL)
  have HYL := hid hyL
  have HX := hid x
  have HPK := hid hpk
  have HPL := hid hpl
  have HV : Hid (pt.val = .slice pt.a pt.zs.length pt.c) := rfl
  have HIP := hid hip
  have HSRC := hid hsrc
  have HYI := hid hyi
  have HCB := hid (fun (w2 : World) (g : Nat) (C : Array Value) (t : TypeId) (h1 : pt.ok w2) (h2 : w2.heap[g]? = some (.cells C t (0, 0))) => copy_box pt w w2 g C t h1 hpl h2)
  generalize (u8s y.zs).length = pn at HH
  have HAS := hid (asked_box y pa pn pc)
  clear x hl hv hyL hpk hpl hip hsrc hyi
  obtain ⟨yi, yt, ⟨b0, b1, b2, b3, b4, b5⟩, yq, ys, yz⟩ := y
  have hyi : yi = ip := HYI.out
  subst hyi
  simp only [Ab.val] at HH HAS hq
  rw [HV.out]
  go_enter Try.func12, Try.ntmps12
  go_wp2_with (first
    | (go_at_call 37; with_reducible refine HH.out.mono ?_; rintro e w1 ⟨rfl, c8, c7, hcl, hlk, HC1, HB1⟩)
    | (go_at_call 38; with_reducible refine (HAS.out _).mono ?_; rintro e w2 ⟨rfl, hbx, c0, HB2⟩; have HBX := hid hbx; have HPO := hid (HPK.out w2 ((Two.of_c HB1.out).trans (Two.of_below HB2.out))))
    | (go_at_call 39; refine (HCB.out w2 w1.heap.size _ _ HPO.out HBX.out).mono ?_; rintro e w3 ⟨k, rfl, hcc, hff, HK, HK2, HB3, HBX3⟩)
    | fail)
  have hC3 := (HC1.out.below HB2.out).below HB3.out
  have hb4 : But w1.heap.size w3 ((w3.setCell ⟨w1.heap.size, 8, none⟩ (.int .u32 src)).setCell ⟨w1.heap.size, 9, none⟩ (.slice (some ⟨k, 0, none⟩) pt.zs.length pt.zs.length)) := (But.setCell _ _ _ _).trans (But.setCell _ _ _ _)
  have hx4 : ((w3.setCell ⟨w1.heap.size, 8, none⟩ (.int .u32 src)).setCell ⟨w1.heap.size, 9, none⟩ (.slice (some ⟨k, 0, none⟩) pt.zs.length pt.zs.length)).heap[w1.heap.size]? = some (.cells #[.int .i64 yt, .int .u8 b0, .int .u8 b1, .int .u8 b2, .int .u8 b3, .int .u8 b4, .int .u8 b5, .int .i64 yq, .int .u32 src, .slice (some ⟨k, 0, none⟩) pt.zs.length pt.zs.length] 87 (0, 0)) := by rw [heap_setCell (heap_setCell HBX3.out)]; simp
  clear hcc hff c8 c7 hlk c0 hbx HCB HAS HH HPO
  generalize ((w3.setCell ⟨w1.heap.size, 8, none⟩ (.int .u32 src)).setCell ⟨w1.heap.size, 9, none⟩ (.slice (some ⟨k, 0, none⟩) pt.zs.length pt.zs.length)) = w4 at hb4 hx4 ⊢
  have hw1 := HB1.out.size
  have hw2 := HB2.out.size
  have hk := HK.out
  have hC4 : CaW w4 c m { S with now := hearN S.now now } V := hC3.keep (hb4.block c (by omega) hC3.ltc) (hb4.block m (by have := HC1.out.ltm; omega) hC3.ltm) (fun z hz b hb => hb4.block b (row_not (hC3.rows z hz) HBX3.out (by decide) b hb) ((hC3.rows z hz).lt hb))
  have hk4 : w4.heap[k]? = some (.cells (u8s pt.zs).toArray 5 (0, 0)) := keptBut HK2.out hb4 (by have := heap_lt HBX.out; omega)
  have hr4 : Row w4 5 (.slice (some ⟨k, 0, none⟩) pt.zs.length pt.zs.length) (u8s pt.zs) := by
    have := Row.of_heap hk4 (by rw [u8s_len]; have := HPL.out; unfold maxLen; omega)
    rwa [u8s_len] at this
  have hT4 : Two c m w w4 := (((Two.of_c HB1.out).trans (Two.of_below HB2.out)).trans (Two.of_below HB3.out)).new hb4 (by omega)
  have hzs : ∀ z, z ∈ pt.zs → 0 ≤ z ∧ z ≤ 255 := (HPK.out w (Two.refl _ _ _)).1
  have hold : ∀ z ∈ S.L, ∀ b, (V z.ip).ownBlock = some b → b < w.heap.size := fun z hz b hb => (HX.out.rows z hz).lt hb
  obtain ⟨w5, hup, hC5, hb5⟩ := CaW.lay (hC4.drewN 1) ⟨yi, yt, ⟨b0, b1, b2, b3, b4, b5⟩, yq, src, pt.zs⟩ ⟨HYO.out.ip, HYO.out.unt, HYO.out.mac, HYO.out.q, HSRC.out, hzs, fun h => by have h' : yq = 0 := h; omega, HYO.out.asd⟩ (some ⟨k, 0, none⟩) pt.zs.length pt.zs.length hr4
    (fun z hz _ b hb e => by simp [Value.ownBlock] at e; have := hold z hz b hb; omega) (by have := put_len_same HX.out.ok.rise (x := ⟨yi, yt, ⟨b0, b1, b2, b3, b4, b5⟩, yq, src, pt.zs⟩) HYL.out rfl; have h2 := HX.out.ok.len; simp only; omega)
  have hup' : (Instr.mapUpdate 74 (.map (some m)) (.int .u32 yi) (.agg #[.int .i64 yt, .int .u8 b0, .int .u8 b1, .int .u8 b2, .int .u8 b3, .int .u8 b4, .int .u8 b5, .int .i64 yq, .int .u32 src, .slice (some ⟨k, 0, none⟩) pt.zs.length pt.zs.length])).run Try.prog w4.drew = .ok () w5 := hup
  have HFIN : Hid (Answ w w5 c m S { S with now := hearN S.now now, L := put S.L ⟨yi, yt, ⟨b0, b1, b2, b3, b4, b5⟩, yq, src, pt.zs⟩ } V none 0 []) := by
    refine Answ.void (fun z hz b hb => ?_) hC5 ((hT4.drewN 1).trans (Two.of_m hb5))
    rcases mem_put.1 hz with rfl | ⟨h4, h5⟩
    · rw [upd_same] at hb
      simp [Value.ownBlock] at hb
      left; omega
    · rw [upd_other V _ h5] at hb
      exact Or.inr ⟨z, h4, hb⟩
  have c8 := hC4.cells.2.2.2.1
  have hbc : ∀ q, w4.cell? ⟨w1.heap.size, q, none⟩ = (#[.int .i64 yt, .int .u8 b0, .int .u8 b1, .int .u8 b2, .int .u8 b3, .int .u8 b4, .int .u8 b5, .int .i64 yq, .int .u32 src, .slice (some ⟨k, 0, none⟩) pt.zs.length pt.zs.length] : Array Value)[q]? := fun q => cell_of_heap hx4 q
  clear hup hC5 hb5 hr4 hk4 hC4 hC3 hT4 hx4 hold hzs hb4
  go_region
  all_goals go_wp2_with fail
  go_ret
  exact ⟨rfl, HFIN⟩
end Go.Proofs.Ytaaoelhmanahpaa

/-
  Neigh: Ask of a known one.
-/
namespace Go.Proofs.Ytaaoelhmanahpaa
open Go.RowKit
set_option linter.all false

/-- one thing is sent, its bytes are new. -/
theorem Answ.single {w w' : World} {c m : Nat} {S S' : St} {V V' : Int → Value} {g k : Nat} {x : Sd} {n cp : Nat} (hg : w'.heap[g]? = some (.cells (x.cells (.slice (some ⟨k, 0, none⟩) n cp)) 59 (0, 0))) (hd : Row w' 5 (.slice (some ⟨k, 0, none⟩) n cp) (u8s x.zs)) (hgw : w.heap.size ≤ g) (hkw : w.heap.size ≤ k)
    (hoff : ∀ y ∈ S'.L, ∀ b, (V' y.ip).ownBlock = some b → b ≠ k) (hs : ∀ y ∈ S'.L, ∀ b, (V' y.ip).ownBlock = some b → w.heap.size ≤ b ∨ ∃ z ∈ S.L, (V z.ip).ownBlock = some b) (h : CaW w' c m S' V') (ht : Two c m w w') : Answ w w' c m S S' V (some ⟨g, 0, none⟩) 1 [x] := by
  refine ⟨[(x, .slice (some ⟨k, 0, none⟩) n cp)], V', rfl, Outs.one hg hd, fun b hb => ?_, fun p hp b hb => ?_, fun p hp y hy b hb e => ?_, hs, h, ht⟩
  · simp [Value.ownBlock] at hb; omega
  · simp at hp; subst hp; simp [Value.ownBlock] at hb; left; omega
  · simp at hp; subst hp; simp [Value.ownBlock] at hb; exact hoff y hy b e hb.symm
set_option maxRecDepth 40000 in
set_option maxHeartbeats 4000000 in
/-- it is known. -/
theorem caskB (c m : Nat) (S : St) (V : Int → Value) (src ip : Int) (pt : Part) (now : Int) (y : Ab) (w : World) (x : CaW w c m S V) (hip : ipOk ip) (hl : look S.L ip = some y) (hq : ¬ 0 < y.q) (hu : hearN S.now now < y.unt) (hpk : ∀ wx, Two c m w wx → pt.ok wx) (hpl : pt.zs.length ≤ 140737488351232) :
    Calls Try.prog 12 #[.pointer (some ⟨c, 0, none⟩), .int .u32 src, .int .u32 ip, pt.val, .int .i64 now] w fun e w' => ∃ g, e = .returned (.slice (some ⟨g, 0, none⟩) 1 1) ∧ Hid (Answ w w' c m S { S with now := hearN S.now now } V (some ⟨g, 0, none⟩) 1 [⟨y.mac, 2048, pt.zs⟩]) := by
  have hyL := (look_some hl).1
  have hyi : y.ip = ip := (look_some hl).2
  obtain ⟨pa, pc, hv, _⟩ := (x.rows y hyL).form
  rw [hyi] at hv
  have HH := hid (hear_some c m S V now ip y pa (u8s y.zs).length pc w x hip hl hv)
  have HX := hid x
  have HPK := hid hpk
  have HPL := hid hpl
  have HV : Hid (pt.val = .slice pt.a pt.zs.length pt.c) := rfl
  have HCB := hid (fun (w2 : World) (g : Nat) (C : Array Value) (t : TypeId) (h1 : pt.ok w2) (h2 : w2.heap[g]? = some (.cells C t (0, 0))) => copy_box pt w w2 g C t h1 hpl h2)
  generalize (u8s y.zs).length = pn at HH
  have HAS := hid (asked_box y pa pn pc)
  clear x hl hv hyL hpk hpl hip hyi
  obtain ⟨yi, yt, ⟨b0, b1, b2, b3, b4, b5⟩, yq, ys, yz⟩ := y
  simp only [Ab.val] at HH HAS hq hu
  generalize hearN S.now now = tn at *
  rw [HV.out]
  go_enter Try.func12, Try.ntmps12
  go_wp2_with (first
    | (go_at_call 37; with_reducible refine HH.out.mono ?_; rintro e w1 ⟨rfl, c8, c7, hcl, hlk, HC1, HB1⟩)
    | (go_at_call 38; with_reducible refine (HAS.out _).mono ?_; rintro e w2 ⟨rfl, hbx, c0, HB2⟩)
    | fail)
  have HBX := hid hbx
  have d7 := (HC1.out.below HB2.out).cells.2.2.1
  simp only at d7
  go_quiet (fail)
  go_wp2_with fail
  have hcq := (HC1.out.below HB2.out).drewN nq
  have htq : Two c m w (w2.drewN nq) := ((Two.of_c HB1.out).trans (Two.of_below HB2.out)).drewN nq
  have hbq : (w2.drewN nq).heap[w1.heap.size]? = some (.cells #[.int .i64 yt, .int .u8 b0, .int .u8 b1, .int .u8 b2, .int .u8 b3, .int .u8 b4, .int .u8 b5, .int .i64 yq, .int .u32 ys, .slice pa pn pc] 87 (0, 0)) := hbx
  have HPO := hid (HPK.out _ htq)
  clear c8 c7 hlk c0 d7 hbx HBX
  generalize w2.drewN nq = wq at *
  have hbc : ∀ q, wq.cell? ⟨w1.heap.size, q, none⟩ = (#[.int .i64 yt, .int .u8 b0, .int .u8 b1, .int .u8 b2, .int .u8 b3, .int .u8 b4, .int .u8 b5, .int .i64 yq, .int .u32 ys, .slice pa pn pc] : Array Value)[q]? := fun q => cell_of_heap hbq q
  have HBQ := hid hbq
  have HCQ := hid hcq
  have HTQ := hid htq
  have HCB2 : Hid (Calls Try.prog 39 #[.slice pt.a pt.zs.length pt.c] wq.drew fun e w3 => ∃ k, e = .returned (.slice (some ⟨k, 0, none⟩) pt.zs.length pt.zs.length) ∧ (∀ q, w3.cell? ⟨w1.heap.size, q, none⟩ = (#[.int .i64 yt, .int .u8 b0, .int .u8 b1, .int .u8 b2, .int .u8 b3, .int .u8 b4, .int .u8 b5, .int .i64 yq, .int .u32 ys, .slice pa pn pc] : Array Value)[q]?) ∧ Hid (wq.heap.size ≤ k) ∧ Hid (w3.heap[k]? = some (.cells (u8s pt.zs).toArray 5 (0, 0))) ∧ Hid (Below wq.heap.size wq w3)) := (HCB.out wq.drew w1.heap.size _ _ HPO.out HBQ.out).mono fun e w3 ⟨k, h1, h2, h3, h4, h5, h6, h7⟩ => ⟨k, h1, h2, h4, h5, ⟨h6.out.os, h6.out.tape, h6.out.output, h6.out.size, h6.out.block⟩⟩
  have hw1 := HB1.out.size
  have hq2 : w1.heap.size < wq.heap.size := heap_lt hbq
  clear hcq htq hbq HPO HBQ HCB HAS HH HPK HB2
  go_region_with (first
    | (go_at_call 39; refine HCB2.out.mono ?_; rintro e w3 ⟨k, rfl, hcc, HK, HK2, HB3⟩)
    | fail)
  all_goals
    go_wp2_with fail
    go_ret
    have hC3 := (HCQ.out.below HB3.out).below (bpush (Below.refl _ _) (.cells ((Sd.mk ⟨b0, b1, b2, b3, b4, b5⟩ 2048 pt.zs).cells (.slice (some ⟨k, 0, none⟩) pt.zs.length pt.zs.length)) 59))
    have hr3 : Row (w3.alloc (.cells ((Sd.mk ⟨b0, b1, b2, b3, b4, b5⟩ 2048 pt.zs).cells (.slice (some ⟨k, 0, none⟩) pt.zs.length pt.zs.length)) 59)) 5 (.slice (some ⟨k, 0, none⟩) pt.zs.length pt.zs.length) (u8s pt.zs) := by
      have := Row.of_heap (kept HK2.out (bpush (Below.refl _ _) (.cells ((Sd.mk ⟨b0, b1, b2, b3, b4, b5⟩ 2048 pt.zs).cells (.slice (some ⟨k, 0, none⟩) pt.zs.length pt.zs.length)) 59))) (by rw [u8s_len]; have := HPL.out; unfold maxLen; omega)
      rwa [u8s_len] at this
    refine ⟨w3.heap.size, rfl, Answ.single (x := ⟨⟨b0, b1, b2, b3, b4, b5⟩, 2048, pt.zs⟩) (heap_new _ _) hr3 (by have := HB3.out.size; omega) (by have := HK.out; omega) (fun z hz b hb e => ?_) (fun z hz b hb => Or.inr ⟨z, hz, hb⟩) hC3 ((HTQ.out.trans (Two.of_below HB3.out)).trans (Two.of_below (bpush (Below.refl _ _) _)))⟩
    have := (HX.out.rows z hz).lt hb
    have := HK.out
    omega
end Go.Proofs.Ytaaoelhmanahpaa

/-
  Neigh: Ask where a question goes out, or nothing.
-/
namespace Go.Proofs.Ytaaoelhmanahpaa
open Go.RowKit
set_option linter.all false

/-- question, its answer told cell by cell. -/
theorem question_x (c m : Nat) (S : St) (V : Int → Value) (ip : Int) (x : Ab) (a : Option Addr) (n cp : Nat) (w : World) (h : CaW w c m S V) (hq : (queE S ip x).ok) (hv : Row w 5 (.slice a n cp) (u8s x.zs))
    (hap : ∀ z ∈ S.L, z.ip ≠ ip → ∀ b, (V z.ip).ownBlock = some b → (Value.slice a n cp).ownBlock ≠ some b) (hlen : ((put S.L (queE S ip x)).length : Int) ≤ S.most) :
    Calls Try.prog 41 #[.pointer (some ⟨c, 0, none⟩), .int .u32 ip, .agg #[.int .i64 x.unt, .int .u8 x.mac.b0, .int .u8 x.mac.b1, .int .u8 x.mac.b2, .int .u8 x.mac.b3, .int .u8 x.mac.b4, .int .u8 x.mac.b5, .int .i64 x.q, .int .u32 x.src, .slice a n cp]] w fun e w' => ∃ g, e = .returned (.agg #[.int .u8 255, .int .u8 255, .int .u8 255, .int .u8 255, .int .u8 255, .int .u8 255, .int .i64 2054, .slice (some ⟨g, 0, none⟩) 28 28]) ∧ Hid (w.heap.size ≤ g ∧ w'.heap[g]? = some (.cells (u8s (encL (askP S.own x.src ip))).toArray 5 (0, 0))) ∧ Hid (CaW w' c m { S with L := put S.L (queE S ip x) } (upd V ip (.slice a n cp))) ∧ Hid (Two c m w w') := question_any c m S V ip x a n cp w h hq hv hap hlen

set_option maxRecDepth 40000 in
set_option maxHeartbeats 8000000 in
theorem caskC (c m : Nat) (S : St) (V : Int → Value) (src ip : Int) (pt : Part) (now : Int) (y : Ab) (w : World) (x : CaW w c m S V) (hip : ipOk ip) (hsrc : ipOk src) (hl : look S.L ip = some y) (hq : ¬ 0 < y.q) (hu : ¬ hearN S.now now < y.unt) (hpk : ∀ wx, Two c m w wx → pt.ok wx) (hpl : pt.zs.length ≤ 140737488351232) :
    Calls Try.prog 12 #[.pointer (some ⟨c, 0, none⟩), .int .u32 src, .int .u32 ip, pt.val, .int .i64 now] w fun e w' => ∃ a cp, e = .returned (.slice a (askNew { S with now := hearN S.now now, L := del S.L ip } src ip pt.zs).2.length cp) ∧ Hid (Answ w w' c m S (askNew { S with now := hearN S.now now, L := del S.L ip } src ip pt.zs).1 V a cp (askNew { S with now := hearN S.now now, L := del S.L ip } src ip pt.zs).2) := by
  have hyL := (look_some hl).1
  have hyi : y.ip = ip := (look_some hl).2
  obtain ⟨pa, pc, hv, _⟩ := (x.rows y hyL).form
  rw [hyi] at hv
  have HH := hid (hear_some c m S V now ip y pa (u8s y.zs).length pc w x hip hl hv)
  have HX := hid x
  have HPK := hid hpk
  have HPL := hid hpl
  have HIP := hid hip
  have HSRC := hid hsrc
  have HV : Hid (pt.val = .slice pt.a pt.zs.length pt.c) := rfl
  have HCB : Hid (∀ (w2 : World), pt.ok w2 → Calls Try.prog 39 #[.slice pt.a pt.zs.length pt.c] w2 fun e w3 => ∃ k, e = .returned (.slice (some ⟨k, 0, none⟩) pt.zs.length pt.zs.length) ∧ Hid (w2.heap.size ≤ k) ∧ Hid (w3.heap[k]? = some (.cells (u8s pt.zs).toArray 5 (0, 0))) ∧ Hid (Below w2.heap.size w2 w3)) := fun w2 h1 => copyOf_any pt w2 h1 hpl
  generalize (u8s y.zs).length = pn at HH
  have HAS := hid (asked_box y pa pn pc)
  cases hr : roomL S.most (del S.L ip) with
  | none =>
    have HR := hid hr
    unfold askNew
    simp only [hr]
    rw [HV.out]
    clear x hl hv hyL hpk hpl hip hyi hsrc hr
    obtain ⟨yi, yt, ⟨b0, b1, b2, b3, b4, b5⟩, yq, ys, yz⟩ := y
    simp only [Ab.val] at HH HAS hq hu
    go_enter Try.func12, Try.ntmps12
    go_wp2_with (first
      | (go_at_call 37; with_reducible refine HH.out.mono ?_; rintro e w1 ⟨rfl, c8, c7, hcl, hlk, HC1, HB1⟩)
      | (go_at_call 38; with_reducible refine (HAS.out _).mono ?_; rintro e w2 ⟨rfl, hbx, c0, HB2⟩)
      | fail)
    have d7 := (HC1.out.below HB2.out).cells.2.2.1
    have d8 := (HC1.out.below HB2.out).cells.2.2.2.1
    simp only at d7
    have HCn := hid (fun n => (HC1.out.below HB2.out).drewN n)
    have HTn := hid (fun n => ((Two.of_c (c := c) (m := m) HB1.out).trans (Two.of_below HB2.out)).drewN n)
    clear c8 c7 hlk hbx
    go_quiet (fail)
    have HCQ := hid (HCn.out nq)
    have HTQ := hid (HTn.out nq)
    clear HCn HTn c0 d7 d8 HAS HH HC1
    generalize w2.drewN nq = wq at HCQ HTQ ⊢

    obtain ⟨w4, hdr, hC4, hb4⟩ := HCQ.out.drop HIP.out
    have c8 := HCQ.out.cells.2.2.2.1
    have HT4 : Hid (Two c m w w4) := HTQ.out.trans (Two.of_m hb4)
    have HRM := hid (room_any c m _ V w4 hC4)
    clear hC4 hb4
    simp only [HR.out] at HRM

    go_wp2_with (first
      | (go_at_call 40; with_reducible refine HRM.out.mono ?_; rintro e w5 ⟨rfl, HC5, HT5⟩)
      | fail)
    go_ret
    refine ⟨none, 0, rfl, ?_⟩
    exact Answ.void (fun z hz b hb => Or.inr ⟨z, (mem_del.1 hz).1, hb⟩) HC5.out (HT4.out.trans HT5.out)

  | some L' =>
    have HR := hid hr
    have HRS := hid (roomL_some hr (by have h1 := x.ok.len; have h2 := List.length_filter_le (fun y : Ab => y.ip != ip) S.L; unfold del; omega) (x.ok.rise.del ip))
    have HLE := hid (put_len_le (S := { S with L := del S.L ip }) (L' := L') hr (by have h1 := x.ok.len; have h2 := List.length_filter_le (fun y : Ab => y.ip != ip) S.L; show ((del S.L ip).length : Int) ≤ S.most; unfold del; omega) (x.ok.rise.del ip))

    unfold askNew
    simp only [hr]
    rw [HV.out]
    clear x hl hv hyL hpk hpl hip hyi hsrc hr
    obtain ⟨yi, yt, ⟨b0, b1, b2, b3, b4, b5⟩, yq, ys, yz⟩ := y
    simp only [Ab.val] at HH HAS hq hu
    go_enter Try.func12, Try.ntmps12
    go_wp2_with (first
      | (go_at_call 37; with_reducible refine HH.out.mono ?_; rintro e w1 ⟨rfl, c8, c7, hcl, hlk, HC1, HB1⟩)
      | (go_at_call 38; with_reducible refine (HAS.out _).mono ?_; rintro e w2 ⟨rfl, hbx, c0, HB2⟩)
      | fail)
    have d7 := (HC1.out.below HB2.out).cells.2.2.1
    have d8 := (HC1.out.below HB2.out).cells.2.2.2.1
    simp only at d7
    have HCn := hid (fun n => (HC1.out.below HB2.out).drewN n)
    have HTn := hid (fun n => ((Two.of_c (c := c) (m := m) HB1.out).trans (Two.of_below HB2.out)).drewN n)
    clear c8 c7 hlk hbx
    go_quiet (fail)
    have HCQ := hid (HCn.out nq)
    have HTQ := hid (HTn.out nq)
    clear HCn HTn c0 d7 d8 HAS HH HC1
    generalize w2.drewN nq = wq at HCQ HTQ ⊢

    obtain ⟨w4, hdr, hC4, hb4⟩ := HCQ.out.drop HIP.out
    have c8 := HCQ.out.cells.2.2.2.1
    have HT4 : Hid (Two c m w w4) := HTQ.out.trans (Two.of_m hb4)
    have HRM := hid (room_any c m _ V w4 hC4)
    clear hC4 hb4
    simp only [HR.out] at HRM

    go_wp2_with (first
      | (go_at_call 40; with_reducible refine HRM.out.mono ?_; rintro e w5 ⟨rfl, HC5, HT5⟩)
      | (go_at_call 39; refine (HCB.out w5 (HPK.out w5 (HT4.out.trans HT5.out))).mono ?_; rintro e w6 ⟨k, rfl, HK, HK2, HB6⟩)
      | fail)
    have hC6 := HC5.out.below HB6.out
    have hr6 : Row w6 5 (.slice (some ⟨k, 0, none⟩) pt.zs.length pt.zs.length) (u8s pt.zs) := by
      have := Row.of_heap HK2.out (by rw [u8s_len]; have := HPL.out; unfold maxLen; omega)
      rwa [u8s_len] at this
    have hzs : ∀ z, z ∈ pt.zs → 0 ≤ z ∧ z ≤ 255 := (HPK.out w (Two.refl _ _ _)).1
    have hsz : w.heap.size ≤ w5.heap.size := (HT4.out.trans HT5.out).size
    have HOLD : Hid (∀ z ∈ S.L, ∀ b, (V z.ip).ownBlock = some b → b < w.heap.size) := fun z hz b hb => (HX.out.rows z hz).lt hb
    have HQU := hid (question_x c m _ V ip ⟨ip, 0, zeroMac, 0, src, pt.zs⟩ (some ⟨k, 0, none⟩) pt.zs.length pt.zs.length w6 hC6 (queE_ok hC6.ok HIP.out zeroMac_ok (by simp) HSRC.out hzs rfl) hr6
      (fun z hz _ b hb e => by simp [Value.ownBlock] at e; have := HOLD.out z (mem_del.1 (HRS.out.2.2 z hz)).1 b hb; have := HK.out; omega) (HLE.out _))
    have hk := HK.out
    clear hC6 hr6 hzs HRM HCB
    simp only [zeroMac] at HQU
    go_wp2_with (first
      | (go_at_call 41; with_reducible refine HQU.out.mono ?_; rintro e w7 ⟨g, rfl, HG, HC7, HT7⟩)
      | fail)
    go_ret
    refine ⟨some ⟨w7.heap.size, 0, none⟩, 1, rfl, ?_⟩
    have h67 := HT7.out.size
    have h56 := HB6.out.size
    have hbp := bpush (Below.refl w7.heap.size w7) (.cells ((Sd.mk everyM 2054 (encL (askP S.own src ip))).cells (.slice (some ⟨g, 0, none⟩) 28 28)) 59)
    have hr8 := Row.of_heap (kept HG.out.2 hbp) (by rw [u8s_len, encL_len]; unfold maxLen; omega)
    rw [u8s_len, encL_len] at hr8
    refine Answ.single (x := ⟨everyM, 2054, encL (askP S.own src ip)⟩) (heap_new _ _) hr8 (by omega) (by have := HG.out.1; omega) (fun z hz b hb e => ?_) (fun z hz b hb => ?_) (HC7.out.below hbp) ((((HT4.out.trans HT5.out).trans (Two.of_below HB6.out)).trans HT7.out).trans (Two.of_below hbp))
    · have hgg := HG.out.1
      rcases mem_put.1 hz with rfl | ⟨h4, h5⟩
      · replace hb : (upd V ip (.slice (some ⟨k, 0, none⟩) pt.zs.length pt.zs.length) ip).ownBlock = some b := hb
        rw [upd_same] at hb
        simp [Value.ownBlock] at hb
        have := heap_lt HK2.out
        omega
      · rw [upd_other V _ (show z.ip ≠ ip from h5)] at hb
        have := HOLD.out z (mem_del.1 (HRS.out.2.2 z h4)).1 b hb
        omega
    · rcases mem_put.1 hz with rfl | ⟨h4, h5⟩
      · replace hb : (upd V ip (.slice (some ⟨k, 0, none⟩) pt.zs.length pt.zs.length) ip).ownBlock = some b := hb
        rw [upd_same] at hb
        simp [Value.ownBlock] at hb
        left; omega
      · rw [upd_other V _ (show z.ip ≠ ip from h5)] at hb
        exact Or.inr ⟨z, (mem_del.1 (HRS.out.2.2 z h4)).1, hb⟩


set_option maxRecDepth 40000 in
set_option maxHeartbeats 8000000 in
theorem caskD (c m : Nat) (S : St) (V : Int → Value) (src ip : Int) (pt : Part) (now : Int) (w : World) (x : CaW w c m S V) (hip : ipOk ip) (hsrc : ipOk src) (hl : look S.L ip = none) (hpk : ∀ wx, Two c m w wx → pt.ok wx) (hpl : pt.zs.length ≤ 140737488351232) :
    Calls Try.prog 12 #[.pointer (some ⟨c, 0, none⟩), .int .u32 src, .int .u32 ip, pt.val, .int .i64 now] w fun e w' => ∃ a cp, e = .returned (.slice a (askNew { S with now := hearN S.now now, L := del S.L ip } src ip pt.zs).2.length cp) ∧ Hid (Answ w w' c m S (askNew { S with now := hearN S.now now, L := del S.L ip } src ip pt.zs).1 V a cp (askNew { S with now := hearN S.now now, L := del S.L ip } src ip pt.zs).2) := by
  have HH := hid (hear_none c m S V now ip w x hip hl)
  have HX := hid x
  have HPK := hid hpk
  have HPL := hid hpl
  have HIP := hid hip
  have HSRC := hid hsrc
  have HV : Hid (pt.val = .slice pt.a pt.zs.length pt.c) := rfl
  have HCB : Hid (∀ (w2 : World), pt.ok w2 → Calls Try.prog 39 #[.slice pt.a pt.zs.length pt.c] w2 fun e w3 => ∃ k, e = .returned (.slice (some ⟨k, 0, none⟩) pt.zs.length pt.zs.length) ∧ Hid (w2.heap.size ≤ k) ∧ Hid (w3.heap[k]? = some (.cells (u8s pt.zs).toArray 5 (0, 0))) ∧ Hid (Below w2.heap.size w2 w3)) := fun w2 h1 => copyOf_any pt w2 h1 hpl
  simp only [zeroE] at HH
  cases hr : roomL S.most (del S.L ip) with
  | none =>
    have HR := hid hr
    unfold askNew
    simp only [hr]
    rw [HV.out]
    clear x hl hpk hpl hip hsrc hr
    go_enter Try.func12, Try.ntmps12
    go_wp2_with (first
      | (go_at_call 37; with_reducible refine HH.out.mono ?_; rintro e w1 ⟨rfl, c8, c7, hcl, hlk, HC1, HB1⟩)
      | fail)
    have HCn := hid (fun n => (HC1.out.below (bpush (Below.refl w1.heap.size w1) (.cells #[.int .i64 0, .int .u8 0, .int .u8 0, .int .u8 0, .int .u8 0, .int .u8 0, .int .u8 0, .int .i64 0, .int .u32 0, .slice none 0 0] 87))).drewN n)
    have HTn := hid (fun n => ((Two.of_c (c := c) (m := m) HB1.out).trans (Two.of_below (bpush (Below.refl w1.heap.size w1) (.cells #[.int .i64 0, .int .u8 0, .int .u8 0, .int .u8 0, .int .u8 0, .int .u8 0, .int .u8 0, .int .i64 0, .int .u32 0, .slice none 0 0] 87)))).drewN n)
    go_quiet (fail)
    have HCQ := hid (HCn.out nq)
    have HTQ := hid (HTn.out nq)
    clear HCn HTn c8 c7 hlk HH HC1
    generalize (w1.alloc (.cells #[.int .i64 0, .int .u8 0, .int .u8 0, .int .u8 0, .int .u8 0, .int .u8 0, .int .u8 0, .int .i64 0, .int .u32 0, .slice none 0 0] 87)).drewN nq = wq at HCQ HTQ ⊢

    obtain ⟨w4, hdr, hC4, hb4⟩ := HCQ.out.drop HIP.out
    have c8 := HCQ.out.cells.2.2.2.1
    have HT4 : Hid (Two c m w w4) := HTQ.out.trans (Two.of_m hb4)
    have HRM := hid (room_any c m _ V w4 hC4)
    clear hC4 hb4
    simp only [HR.out] at HRM

    go_wp2_with (first
      | (go_at_call 40; with_reducible refine HRM.out.mono ?_; rintro e w5 ⟨rfl, HC5, HT5⟩)
      | fail)
    go_ret
    refine ⟨none, 0, rfl, ?_⟩
    exact Answ.void (fun z hz b hb => Or.inr ⟨z, (mem_del.1 hz).1, hb⟩) HC5.out (HT4.out.trans HT5.out)

  | some L' =>
    have HR := hid hr
    have HRS := hid (roomL_some hr (by have h1 := x.ok.len; have h2 := List.length_filter_le (fun y : Ab => y.ip != ip) S.L; unfold del; omega) (x.ok.rise.del ip))
    have HLE := hid (put_len_le (S := { S with L := del S.L ip }) (L' := L') hr (by have h1 := x.ok.len; have h2 := List.length_filter_le (fun y : Ab => y.ip != ip) S.L; show ((del S.L ip).length : Int) ≤ S.most; unfold del; omega) (x.ok.rise.del ip))

    unfold askNew
    simp only [hr]
    rw [HV.out]
    clear x hl hpk hpl hip hsrc hr
    go_enter Try.func12, Try.ntmps12
    go_wp2_with (first
      | (go_at_call 37; with_reducible refine HH.out.mono ?_; rintro e w1 ⟨rfl, c8, c7, hcl, hlk, HC1, HB1⟩)
      | fail)
    have HCn := hid (fun n => (HC1.out.below (bpush (Below.refl w1.heap.size w1) (.cells #[.int .i64 0, .int .u8 0, .int .u8 0, .int .u8 0, .int .u8 0, .int .u8 0, .int .u8 0, .int .i64 0, .int .u32 0, .slice none 0 0] 87))).drewN n)
    have HTn := hid (fun n => ((Two.of_c (c := c) (m := m) HB1.out).trans (Two.of_below (bpush (Below.refl w1.heap.size w1) (.cells #[.int .i64 0, .int .u8 0, .int .u8 0, .int .u8 0, .int .u8 0, .int .u8 0, .int .u8 0, .int .i64 0, .int .u32 0, .slice none 0 0] 87)))).drewN n)
    go_quiet (fail)
    have HCQ := hid (HCn.out nq)
    have HTQ := hid (HTn.out nq)
    clear HCn HTn c8 c7 hlk HH HC1
    generalize (w1.alloc (.cells #[.int .i64 0, .int .u8 0, .int .u8 0, .int .u8 0, .int .u8 0, .int .u8 0, .int .u8 0, .int .i64 0, .int .u32 0, .slice none 0 0] 87)).drewN nq = wq at HCQ HTQ ⊢

    obtain ⟨w4, hdr, hC4, hb4⟩ := HCQ.out.drop HIP.out
    have c8 := HCQ.out.cells.2.2.2.1
    have HT4 : Hid (Two c m w w4) := HTQ.out.trans (Two.of_m hb4)
    have HRM := hid (room_any c m _ V w4 hC4)
    clear hC4 hb4
    simp only [HR.out] at HRM

    go_wp2_with (first
      | (go_at_call 40; with_reducible refine HRM.out.mono ?_; rintro e w5 ⟨rfl, HC5, HT5⟩)
      | (go_at_call 39; refine (HCB.out w5 (HPK.out w5 (HT4.out.trans HT5.out))).mono ?_; rintro e w6 ⟨k, rfl, HK, HK2, HB6⟩)
      | fail)
    have hC6 := HC5.out.below HB6.out
    have hr6 : Row w6 5 (.slice (some ⟨k, 0, none⟩) pt.zs.length pt.zs.length) (u8s pt.zs) := by
      have := Row.of_heap HK2.out (by rw [u8s_len]; have := HPL.out; unfold maxLen; omega)
      rwa [u8s_len] at this
    have hzs : ∀ z, z ∈ pt.zs → 0 ≤ z ∧ z ≤ 255 := (HPK.out w (Two.refl _ _ _)).1
    have hsz : w.heap.size ≤ w5.heap.size := (HT4.out.trans HT5.out).size
    have HOLD : Hid (∀ z ∈ S.L, ∀ b, (V z.ip).ownBlock = some b → b < w.heap.size) := fun z hz b hb => (HX.out.rows z hz).lt hb
    have HQU := hid (question_x c m _ V ip ⟨ip, 0, zeroMac, 0, src, pt.zs⟩ (some ⟨k, 0, none⟩) pt.zs.length pt.zs.length w6 hC6 (queE_ok hC6.ok HIP.out zeroMac_ok (by simp) HSRC.out hzs rfl) hr6
      (fun z hz _ b hb e => by simp [Value.ownBlock] at e; have := HOLD.out z (mem_del.1 (HRS.out.2.2 z hz)).1 b hb; have := HK.out; omega) (HLE.out _))
    have hk := HK.out
    clear hC6 hr6 hzs HRM HCB
    simp only [zeroMac] at HQU
    go_wp2_with (first
      | (go_at_call 41; with_reducible refine HQU.out.mono ?_; rintro e w7 ⟨g, rfl, HG, HC7, HT7⟩)
      | fail)
    go_ret
    refine ⟨some ⟨w7.heap.size, 0, none⟩, 1, rfl, ?_⟩
    have h67 := HT7.out.size
    have h56 := HB6.out.size
    have hbp := bpush (Below.refl w7.heap.size w7) (.cells ((Sd.mk everyM 2054 (encL (askP S.own src ip))).cells (.slice (some ⟨g, 0, none⟩) 28 28)) 59)
    have hr8 := Row.of_heap (kept HG.out.2 hbp) (by rw [u8s_len, encL_len]; unfold maxLen; omega)
    rw [u8s_len, encL_len] at hr8
    refine Answ.single (x := ⟨everyM, 2054, encL (askP S.own src ip)⟩) (heap_new _ _) hr8 (by omega) (by have := HG.out.1; omega) (fun z hz b hb e => ?_) (fun z hz b hb => ?_) (HC7.out.below hbp) ((((HT4.out.trans HT5.out).trans (Two.of_below HB6.out)).trans HT7.out).trans (Two.of_below hbp))
    · have hgg := HG.out.1
      rcases mem_put.1 hz with rfl | ⟨h4, h5⟩
      · replace hb : (upd V ip (.slice (some ⟨k, 0, none⟩) pt.zs.length pt.zs.length) ip).ownBlock = some b := hb
        rw [upd_same] at hb
        simp [Value.ownBlock] at hb
        have := heap_lt HK2.out
        omega
      · rw [upd_other V _ (show z.ip ≠ ip from h5)] at hb
        have := HOLD.out z (mem_del.1 (HRS.out.2.2 z h4)).1 b hb
        omega
    · rcases mem_put.1 hz with rfl | ⟨h4, h5⟩
      · replace hb : (upd V ip (.slice (some ⟨k, 0, none⟩) pt.zs.length pt.zs.length) ip).ownBlock = some b := hb
        rw [upd_same] at hb
        simp [Value.ownBlock] at hb
        left; omega
      · rw [upd_other V _ (show z.ip ≠ ip from h5)] at hb
        exact Or.inr ⟨z, (mem_del.1 (HRS.out.2.2 z h4)).1, hb⟩

end Go.Proofs.Ytaaoelhmanahpaa
