/-
  Neigh: Ask of a known one.
-/
import Derived.Test.YtaaoelhmanahpaaNAsk
namespace Go.Proofs.Ytaaoelhmanahpaa
open Go.RowKit
set_option linter.all false

/-- one thing is sent, its bytes are new. -/
theorem Answ.single {w w' : World} {c m : Nat} {S S' : St} {V V' : Int → Value} {g k : Nat} {x : Sd} {n cp : Nat} (hg : w'.heap[g]? = some (.cells (x.cells (.slice (some ⟨k, 0, none⟩) n cp)) 59 (0, 0))) (hd : Row w' 5 (.slice (some ⟨k, 0, none⟩) n cp) (u8s x.zs)) (hgw : w.heap.size ≤ g) (hkw : w.heap.size ≤ k)
    (hoff : ∀ y ∈ S'.L, ∀ b, (V' y.ip).ownBlock = some b → b ≠ k) (hs : ∀ y ∈ S'.L, ∀ b, (V' y.ip).ownBlock = some b → w.heap.size ≤ b ∨ ∃ z ∈ S.L, (V z.ip).ownBlock = some b) (h : CaW w' c m S' V') (ht : Two c m w w') : Answ w w' c m S S' V (some ⟨g, 0, none⟩) 1 [x] := by
  refine ⟨[(x, .slice (some ⟨k, 0, none⟩) n cp)], V', rfl, Outs.one hg hd, fun b hb => ?_, fun p hp b hb => ?_, fun p hp y hy b hb e => ?_, hs, h, ht⟩
  · simp [Value.ownBlock] at hb; omega
  · simp at hp; subst hp; simp [Value.ownBlock] at hb; left; omega
  · simp at hp; subst hp; simp [Value.ownBlock] at hb; exact hoff y hy b e hb.symm
set_option maxRecDepth 40000 in
set_option maxHeartbeats 4000000 in
/-- it is known. -/
theorem caskB (c m : Nat) (S : St) (V : Int → Value) (src ip : Int) (pt : Part) (now : Int) (y : Ab) (w : World) (x : CaW w c m S V) (hip : ipOk ip) (hl : look S.L ip = some y) (hq : ¬ 0 < y.q) (hu : hearN S.now now < y.unt) (hpk : ∀ wx, Two c m w wx → pt.ok wx) (hpl : pt.zs.length ≤ 140737488351232) :
    Calls Try.prog 12 #[.pointer (some ⟨c, 0, none⟩), .int .u32 src, .int .u32 ip, pt.val, .int .i64 now] w fun e w' => ∃ g, e = .returned (.slice (some ⟨g, 0, none⟩) 1 1) ∧ Hid (Answ w w' c m S { S with now := hearN S.now now } V (some ⟨g, 0, none⟩) 1 [⟨y.mac, 2048, pt.zs⟩]) := by
  have hyL := (look_some hl).1
  have hyi : y.ip = ip := (look_some hl).2
  obtain ⟨pa, pc, hv, _⟩ := (x.rows y hyL).form
  rw [hyi] at hv
  have HH := hid (hear_some c m S V now ip y pa (u8s y.zs).length pc w x hip hl hv)
  have HX := hid x
  have HPK := hid hpk
  have HPL := hid hpl
  have HV : Hid (pt.val = .slice pt.a pt.zs.length pt.c) := rfl
  have HCB := hid (fun (w2 : World) (g : Nat) (C : Array Value) (t : TypeId) (h1 : pt.ok w2) (h2 : w2.heap[g]? = some (.cells C t (0, 0))) => copy_box pt w w2 g C t h1 hpl h2)
  generalize (u8s y.zs).length = pn at HH
  have HAS := hid (asked_box y pa pn pc)
  clear x hl hv hyL hpk hpl hip hyi
  obtain ⟨yi, yt, ⟨b0, b1, b2, b3, b4, b5⟩, yq, ys, yz⟩ := y
  simp only [Ab.val] at HH HAS hq hu
  generalize hearN S.now now = tn at *
  rw [HV.out]
  go_enter Try.func12, Try.ntmps12
  go_wp2_with (first
    | (go_at_call 37; with_reducible refine HH.out.mono ?_; rintro e w1 ⟨rfl, c8, c7, hcl, hlk, HC1, HB1⟩)
    | (go_at_call 38; with_reducible refine (HAS.out _).mono ?_; rintro e w2 ⟨rfl, hbx, c0, HB2⟩)
    | fail)
  have HBX := hid hbx
  have d7 := (HC1.out.below HB2.out).cells.2.2.1
  simp only at d7
  go_quiet (fail)
  go_wp2_with fail
  have hcq := (HC1.out.below HB2.out).drewN nq
  have htq : Two c m w (w2.drewN nq) := ((Two.of_c HB1.out).trans (Two.of_below HB2.out)).drewN nq
  have hbq : (w2.drewN nq).heap[w1.heap.size]? = some (.cells #[.int .i64 yt, .int .u8 b0, .int .u8 b1, .int .u8 b2, .int .u8 b3, .int .u8 b4, .int .u8 b5, .int .i64 yq, .int .u32 ys, .slice pa pn pc] 87 (0, 0)) := hbx
  have HPO := hid (HPK.out _ htq)
  clear c8 c7 hlk c0 d7 hbx HBX
  generalize w2.drewN nq = wq at *
  have hbc : ∀ q, wq.cell? ⟨w1.heap.size, q, none⟩ = (#[.int .i64 yt, .int .u8 b0, .int .u8 b1, .int .u8 b2, .int .u8 b3, .int .u8 b4, .int .u8 b5, .int .i64 yq, .int .u32 ys, .slice pa pn pc] : Array Value)[q]? := fun q => cell_of_heap hbq q
  have HBQ := hid hbq
  have HCQ := hid hcq
  have HTQ := hid htq
  have HCB2 : Hid (Calls Try.prog 39 #[.slice pt.a pt.zs.length pt.c] wq.drew fun e w3 => ∃ k, e = .returned (.slice (some ⟨k, 0, none⟩) pt.zs.length pt.zs.length) ∧ (∀ q, w3.cell? ⟨w1.heap.size, q, none⟩ = (#[.int .i64 yt, .int .u8 b0, .int .u8 b1, .int .u8 b2, .int .u8 b3, .int .u8 b4, .int .u8 b5, .int .i64 yq, .int .u32 ys, .slice pa pn pc] : Array Value)[q]?) ∧ Hid (wq.heap.size ≤ k) ∧ Hid (w3.heap[k]? = some (.cells (u8s pt.zs).toArray 5 (0, 0))) ∧ Hid (Below wq.heap.size wq w3)) := (HCB.out wq.drew w1.heap.size _ _ HPO.out HBQ.out).mono fun e w3 ⟨k, h1, h2, h3, h4, h5, h6, h7⟩ => ⟨k, h1, h2, h4, h5, ⟨h6.out.os, h6.out.tape, h6.out.output, h6.out.size, h6.out.block⟩⟩
  have hw1 := HB1.out.size
  have hq2 : w1.heap.size < wq.heap.size := heap_lt hbq
  clear hcq htq hbq HPO HBQ HCB HAS HH HPK HB2
  go_region_with (first
    | (go_at_call 39; refine HCB2.out.mono ?_; rintro e w3 ⟨k, rfl, hcc, HK, HK2, HB3⟩)
    | fail)
  all_goals
    go_wp2_with fail
    go_ret
    have hC3 := (HCQ.out.below HB3.out).below (bpush (Below.refl _ _) (.cells ((Sd.mk ⟨b0, b1, b2, b3, b4, b5⟩ 2048 pt.zs).cells (.slice (some ⟨k, 0, none⟩) pt.zs.length pt.zs.length)) 59))
    have hr3 : Row (w3.alloc (.cells ((Sd.mk ⟨b0, b1, b2, b3, b4, b5⟩ 2048 pt.zs).cells (.slice (some ⟨k, 0, none⟩) pt.zs.length pt.zs.length)) 59)) 5 (.slice (some ⟨k, 0, none⟩) pt.zs.length pt.zs.length) (u8s pt.zs) := by
      have := Row.of_heap (kept HK2.out (bpush (Below.refl _ _) (.cells ((Sd.mk ⟨b0, b1, b2, b3, b4, b5⟩ 2048 pt.zs).cells (.slice (some ⟨k, 0, none⟩) pt.zs.length pt.zs.length)) 59))) (by rw [u8s_len]; have := HPL.out; unfold maxLen; omega)
      rwa [u8s_len] at this
    refine ⟨w3.heap.size, rfl, Answ.single (x := ⟨⟨b0, b1, b2, b3, b4, b5⟩, 2048, pt.zs⟩) (heap_new _ _) hr3 (by have := HB3.out.size; omega) (by have := HK.out; omega) (fun z hz b hb e => ?_) (fun z hz b hb => Or.inr ⟨z, hz, hb⟩) hC3 ((HTQ.out.trans (Two.of_below HB3.out)).trans (Two.of_below (bpush (Below.refl _ _) _)))⟩
    have := (HX.out.rows z hz).lt hb
    have := HK.out
    omega
end Go.Proofs.Ytaaoelhmanahpaa
