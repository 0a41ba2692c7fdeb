/-
  The walk of OptionPacks.
-/
import Derived.Test.YtamhaihoofaecaaOLive
import Derived.Test.YtamhaihoofaecaaOAsL
import Derived.Test.YtamhaihoofaecaaORPk
import Derived.Test.YtamhaihoofaecaaOOpen
namespace Go.Proofs.Ytamhaihoofaecaa
open Go.RowKit
set_option linter.all false

theorem str_eq3 (X : ByteArray) : (X.toList == X.toList) = true := by simp
theorem Row.btw2 {lo hi : Nat} {w w' : World} {e : TypeId} {v : Value} {vs : List Value} (h : Row w e v vs) (hb : Btw lo hi w w') (hv : ∀ b, v.ownBlock = some b → b < lo ∨ hi ≤ b) : Row w' e v vs := h.keep fun b hb' => hb.block b (h.lt hb') (hv b hb')
theorem packA_bd {w : World} {a : Option Addr} {os : List OP} (h : OV w a os) (room : Int) : ∀ z ∈ packA (absO os) room, 0 ≤ z ∧ z ≤ 255 := fun z hz => by
  by_cases h0 : packE (absO os) room = 0
  · have hap : Apart (absO os) := by
      unfold packE at h0
      by_cases h1 : Apart (absO os)
      · exact h1
      · rw [if_neg h1] at h0; omega
    unfold packA at hz
    rw [if_pos h0] at hz
    rcases List.mem_append.1 hz with hz | hz
    · obtain ⟨o, ho, hz⟩ := List.mem_flatMap.1 hz
      obtain ⟨x, hx, rfl⟩ := List.mem_map.1 ho
      exact layO_bd (by have := hap.1 _ ho; omega) (h.oks x hx).1.1 z hz
    · simp at hz; subst hz; omega
  · rw [packA_no h0] at hz
    simp at hz
theorem packA_len (L : List Opt) (room : Int) : (packA L room).length ≤ (layL L).length + 1 := by
  unfold packA
  split
  · simp [packB]
  · simp
theorem lay_le (os : List OP) (hl : os.length ≤ 1048576) (hz : ∀ o ∈ os, o.2.zs.length ≤ 1048576) : (layL (absO os)).length ≤ 35184372088832 := by
  have h1 := layL_len (absO os)
  have h2 : sumO (absO os) ≤ os.length * 1048576 := by
    have : ∀ l : List OP, (∀ o ∈ l, o.2.zs.length ≤ 1048576) → sumO (absO l) ≤ l.length * 1048576 := by
      intro l
      induction l with
      | nil => intro _; simp [absO, sumO]
      | cons o l ih =>
        intro h
        have h1 := h o (by simp)
        have h2 := ih (fun x hx => h x (by simp [hx]))
        simp only [absO, sumO, List.map_cons, List.sum_cons, List.length_cons] at h2 ⊢
        omega
    exact this os hz
  rw [absO_len] at h1
  omega
/-- what a list is to Pack. -/
structure PkC (W : World) (a : Option Addr) (c : Nat) (os : List OP) (room : Int) (Y : List Int) (E : Int) : Prop where
  ref : ∀ wx, Below W.heap.size W wx → Calls Try.prog 10 #[.slice a os.length c, .int .i64 room] wx fun e w' => ∃ ax cx, e = .returned (.tuple #[.slice ax Y.length cx, .int .i64 E]) ∧ Hid (Ans wx w' Y ax Y.length cx)
  lent : ∀ wx, Below W.heap.size W wx → Calls Try.prog 11 #[.slice a os.length c] wx fun e w' => e = .returned (.slice (some ⟨wx.heap.size, 0, none⟩) os.length (os.length + 2)) ∧ Hid (∃ X, LentF wx w' wx.heap.size os X)
  pack : ∀ wx ga X, LentK wx ga os X → Calls Try.prog 12 #[.slice (some ⟨ga, 0, none⟩) os.length (os.length + 2), .int .i64 room] wx fun e w' => ∃ ax cx, e = .returned (.tuple #[.slice ax Y.length cx, .int .i64 E]) ∧ Hid (Ans wx w' Y ax Y.length cx)
  back : ∀ wx ga X, LentK wx ga os X → Below W.heap.size W wx → W.heap.size ≤ ga → Calls Try.prog 13 #[.slice (some ⟨ga, 0, none⟩) os.length (os.length + 2), .slice a os.length c] wx fun e w' => e = .returned (.bool true) ∧ Hid (Btw ga (ga + 1 + os.length) wx w')
  bd : ∀ z, z ∈ Y → 0 ≤ z ∧ z ≤ 255
  len : Y.length ≤ 140737488351232
theorem pkC {W : World} {a : Option Addr} {c : Nat} {os : List OP} {room : Int} (ok0 : OV0 W a os) (hr : -9223372036854775808 ≤ room ∧ room ≤ 9223372036854775807) (le0 : os.length ≤ 1048576 ∧ ∀ o ∈ os, o.2.zs.length ≤ 1048576) : PkC W a c os room (packA (absO os) room) (packE (absO os) room) := by
  have hov : OV W a os := ok0.full (fun o ho => by have := le0.2 o ho; omega) (by have := le0.1; omega)
  have hlay := lay_le os le0.1 le0.2
  refine ⟨fun wx hw => refPack_any a c os room wx (hov.below hw) hr hlay, fun wx hw => lentO_any a c os wx (hov.below hw), fun wx ga X hk => ?_, fun wx ga X hk hw hB => asLentO_any ga W.heap.size X a c os wx hk ((Low.of hov).below hw) hB, packA_bd hov room, by have := packA_len (absO os) room; omega⟩
  have h := pack_any (some ⟨ga, 0, none⟩) (os.length + 2) (lentOs ga os) room wx (hk.view hov) hr (by rw [lentOs_abs]; exact hlay)
  rw [lentOs_len, lentOs_abs] at h
  exact h
set_option maxRecDepth 20000 in
set_option maxHeartbeats 8000000 in
theorem optionPacks_walk (os : List OP) (ao : Option Addr) (co : Nat) (qs : List OP) (aq : Option Addr) (cq : Nat) (room : Int) (W : World) (ok0 : OV0 W ao os) (ok1 : OV0 W aq qs) (bd1 : -9223372036854775808 ≤ room ∧ room ≤ 9223372036854775807)
    (le0 : os.length ≤ 1048576 ∧ ∀ o ∈ os, o.2.zs.length ≤ 1048576) (le1 : qs.length ≤ 1048576 ∧ ∀ o ∈ qs, o.2.zs.length ≤ 1048576) :
    Calls Try.prog 4 #[.slice ao os.length co, .slice aq qs.length cq, .int .i64 room] W fun e w' => e = .returned (.bool true) ∧ Below W.heap.size W w' := by
  have K0 := hid (pkC (c := co) ok0 bd1 le0)
  have K1 := hid (pkC (c := cq) ok1 bd1 le1)
  clear ok0 ok1 bd1 le0 le1
  generalize packA (absO os) room = Y at *
  generalize packE (absO os) room = E at *
  generalize packA (absO qs) room = Z at *
  generalize packE (absO qs) room = F at *
  obtain ⟨n, hn⟩ : ∃ n, n = os.length := ⟨_, rfl⟩
  obtain ⟨m, hm⟩ : ∃ m, m = qs.length := ⟨_, rfl⟩
  have CR0 := K0.out.ref
  have CR1 := K1.out.ref
  have CL0 := K0.out.lent
  have CL1 := K1.out.lent
  have CP0 := K0.out.pack
  have CP1 := K1.out.pack
  have CB0 := K0.out.back
  have CB1 := K1.out.back
  have D0 := hid (And.intro K0.out.bd K0.out.len)
  have D1 := hid (And.intro K1.out.bd K1.out.len)
  have HN := hid hn
  have HM := hid hm
  rw [← hn] at CR0 CL0 CP0 CB0 ⊢
  rw [← hm] at CR1 CL1 CP1 CB1 ⊢
  clear K0 K1 hn hm
  go_enter Try.func4, Try.ntmps4
  go_wp2_with fail
  refine (awake_any W).mono ?_
  rintro e w1 ⟨rfl, HB1⟩
  go_wp2_with fail
  refine (CR0 w1 HB1.out).mono ?_
  rintro e w2 ⟨a2, c2, rfl, AN⟩
  have HB2 := hid (bstep HB1.out AN.out.2.2)
  have HI2 := hid (ans_lt AN.out)
  have R2_2 := hid AN.out.1
  clear AN CR0 HB1
  go_wp2_with fail
  refine (CR1 w2 HB2.out).mono ?_
  rintro e w3 ⟨a3, c3, rfl, AN⟩
  have HB3 := hid (bstep HB2.out AN.out.2.2)
  have HI3 := hid (ans_lt AN.out)
  have R3_3 := hid AN.out.1
  have R2_3 := hid (R2_2.out.below AN.out.2.2)
  have z23 : w2.heap.size ≤ w3.heap.size := AN.out.2.2.size
  clear AN CR1 HB2 R2_2
  go_wp2_with fail
  refine (CL0 w3 HB3.out).mono ?_
  rintro e w4 ⟨rfl, HL⟩
  obtain ⟨X, hX⟩ := HL.out
  have HK4 := hid hX.k
  have HB4 := hid (bstep HB3.out hX.i.below)
  have R3_4 := hid (R3_3.out.below hX.i.below)
  have R2_4 := hid (R2_3.out.below hX.i.below)
  have HZ4 : Hid (w4.heap.size = w3.heap.size + 1 + n) := hid (by rw [hX.i.hs, HN.out])
  have HGA : Hid (W.heap.size ≤ w3.heap.size) := hid HB3.out.size
  clear CL0 HB3 R3_3 R2_3 HL hX
  obtain ⟨ga, hga⟩ : ∃ ga, ga = w3.heap.size := ⟨_, rfl⟩
  have H2 : Hid (∀ b, (Value.slice a2 Y.length c2).ownBlock = some b → b < ga) := hid (fun b hb => by have := HI2.out b hb; omega)
  have H3 : Hid (∀ b, (Value.slice a3 Z.length c3).ownBlock = some b → b < ga) := hid (fun b hb => by have := HI3.out b hb; omega)
  rw [← hga] at HK4 HZ4 HGA ⊢
  clear hga z23 HI2 HI3
  go_wp2_with fail
  refine (CL1 w4 HB4.out).mono ?_
  rintro e w5 ⟨rfl, HL⟩
  obtain ⟨X', hX⟩ := HL.out
  have HJ5 := hid hX.k
  have HK5 := hid (HK4.out.below hX.i.below)
  have HB5 := hid (bstep HB4.out hX.i.below)
  have R3_5 := hid (R3_4.out.below hX.i.below)
  have R2_5 := hid (R2_4.out.below hX.i.below)
  have HZ5 : Hid (w5.heap.size = w4.heap.size + 1 + m) := hid (by rw [hX.i.hs, HM.out])
  clear CL1 HB4 R3_4 R2_4 HL hX HK4
  obtain ⟨gb, hgb⟩ : ∃ gb, gb = w4.heap.size := ⟨_, rfl⟩
  rw [← hgb] at HJ5 HZ4 HZ5 ⊢
  clear hgb
  go_wp2_with fail
  refine (CP0 w5 ga X HK5.out).mono ?_
  rintro e w6 ⟨a6, c6, rfl, AN⟩
  have HB6 := hid (bstep HB5.out AN.out.2.2)
  have HI6 := hid (ans_lt AN.out)
  have HZ56 : Hid (w5.heap.size ≤ w6.heap.size) := hid AN.out.2.2.size
  have R6_6 := hid AN.out.1
  have R3_6 := hid (R3_5.out.below AN.out.2.2)
  have R2_6 := hid (R2_5.out.below AN.out.2.2)
  have HK6 := hid (HK5.out.below AN.out.2.2)
  have HJ6 := hid (HJ5.out.below AN.out.2.2)
  clear AN HB5 R3_5 R2_5 HK5 HJ5
  go_wp2_with fail
  refine (CP1 w6 gb X' HJ6.out).mono ?_
  rintro e w7 ⟨a7, c7, rfl, AN⟩
  have HB7 := hid (bstep HB6.out AN.out.2.2)
  have HI7 := hid (ans_lt AN.out)
  have R7_7 := hid AN.out.1
  have R6_7 := hid (R6_6.out.below AN.out.2.2)
  have R3_7 := hid (R3_6.out.below AN.out.2.2)
  have R2_7 := hid (R2_6.out.below AN.out.2.2)
  have HK7 := hid (HK6.out.below AN.out.2.2)
  have HJ7 := hid (HJ6.out.below AN.out.2.2)
  have z67 : w6.heap.size ≤ w7.heap.size := AN.out.2.2.size
  clear AN HB6 R3_6 R2_6 R6_6 HK6 HJ6 CP1
  go_wp2_with fail
  refine (CP0 w7 ga X HK7.out).mono ?_
  rintro e w8 ⟨a8, c8, rfl, AN⟩
  have HB8 := hid (bstep HB7.out AN.out.2.2)
  have HI8 := hid (ans_lt AN.out)
  have R8_8 := hid AN.out.1
  have R7_8 := hid (R7_7.out.below AN.out.2.2)
  have R6_8 := hid (R6_7.out.below AN.out.2.2)
  have R3_8 := hid (R3_7.out.below AN.out.2.2)
  have R2_8 := hid (R2_7.out.below AN.out.2.2)
  have HK8 := hid (HK7.out.below AN.out.2.2)
  have HJ8 := hid (HJ7.out.below AN.out.2.2)
  have z78 : w7.heap.size ≤ w8.heap.size := AN.out.2.2.size
  clear AN HB7 R3_7 R2_7 R6_7 R7_7 HK7 HJ7 CP0
  have h6 : ∀ b, (Value.slice a6 Y.length c6).ownBlock = some b → gb + 1 + m ≤ b ∧ b < w6.heap.size := fun b hb => by have := HI6.out b hb; have := HZ5.out; omega
  have h7 : ∀ b, (Value.slice a7 Z.length c7).ownBlock = some b → w6.heap.size ≤ b ∧ gb + 1 + m ≤ b ∧ b < w7.heap.size := fun b hb => by
    have := HI7.out b hb
    have := HZ5.out
    have h0 : w5.heap.size ≤ w6.heap.size := HZ56.out
    omega
  have h8 : ∀ b, (Value.slice a8 Y.length c8).ownBlock = some b → w7.heap.size ≤ b ∧ gb + 1 + m ≤ b ∧ b < w8.heap.size := fun b hb => by
    have := HI8.out b hb
    have := HZ5.out
    have h0 : w5.heap.size ≤ w6.heap.size := HZ56.out
    omega
  have H6 := hid h6
  have H7 := hid h7
  have H8 := hid h8
  have HGG : Hid (ga + 1 + n ≤ gb) := hid (by have := HZ4.out; omega)
  clear h6 h7 h8 HI6 HI7 HI8
  go_wp2_with fail
  refine (CB0 w8 ga X HK8.out HB8.out HGA.out).mono ?_
  rintro e w9 ⟨rfl, BT⟩
  have hgg := HGG.out
  have bt := BT.out
  have R2_9 := hid (R2_8.out.btw2 bt (fun b hb => Or.inl (H2.out b hb)))
  have R3_9 := hid (R3_8.out.btw2 bt (fun b hb => Or.inl (H3.out b hb)))
  have R6_9 := hid (R6_8.out.btw2 bt (fun b hb => Or.inr (by have := H6.out b hb; omega)))
  have R7_9 := hid (R7_8.out.btw2 bt (fun b hb => Or.inr (by have := H7.out b hb; omega)))
  have R8_9 := hid (R8_8.out.btw2 bt (fun b hb => Or.inr (by have := H8.out b hb; omega)))
  have HJ9 := hid (HJ8.out.keep (w' := w9) (fun k h1 h2 => bt.block k (HJ8.out.lt k h1 h2) (Or.inr (by omega))))
  have HB9 := hid (HB8.out.trans (bt.below HGA.out HB8.out.size))
  have z89 : w8.heap.size ≤ w9.heap.size := bt.size
  clear CB0 BT bt HB8 R2_8 R3_8 R6_8 R7_8 R8_8 HK8 HJ8 hgg
  go_wp2_with fail
  refine (CB1 w9 gb X' HJ9.out HB9.out (by have := HGA.out; have := HGG.out; omega)).mono ?_
  rintro e w10 ⟨rfl, BT⟩
  have hgg := HGG.out
  have bt := BT.out
  have R2_10 := hid (R2_9.out.btw2 bt (fun b hb => Or.inl (by have := H2.out b hb; omega)))
  have R3_10 := hid (R3_9.out.btw2 bt (fun b hb => Or.inl (by have := H3.out b hb; omega)))
  have R6_10 := hid (R6_9.out.btw2 bt (fun b hb => Or.inr (by have := H6.out b hb; omega)))
  have R7_10 := hid (R7_9.out.btw2 bt (fun b hb => Or.inr (by have := H7.out b hb; omega)))
  have R8_10 := hid (R8_9.out.btw2 bt (fun b hb => Or.inr (by have := H8.out b hb; omega)))
  have HB10 := hid (HB9.out.trans (bt.below (by have := HGA.out; omega) HB9.out.size))
  have z910 : w9.heap.size ≤ w10.heap.size := bt.size
  clear CB1 BT bt HB9 R2_9 R3_9 R6_9 R7_9 R8_9 HJ9 hgg
  have v1 := R2_10.out.conv0 D0.out.1
  have v2 := R3_10.out.conv0 D1.out.1
  have v3 := R6_10.out.conv0 D0.out.1
  have v4 := R7_10.out.conv0 D1.out.1
  have v5 := R8_10.out.conv0 D0.out.1
  have st1 := str_eq3 (strOfNums Y)
  have st2 := str_eq3 (strOfNums Z)
  generalize strOfNums Y = S1 at *
  generalize strOfNums Z = S2 at *
  have hE : (E != E) = false := by simp
  have hF : (F != F) = false := by simp
  go_wp2_with fail
  clear v1 v2 v3 v4 v5
  have hbk : W.heap.size ≤ w10.heap.size := HB10.out.size
  have ra := bpush (Below.refl w10.heap.size w10) (.cells #[.slice none 0 0, .slice none 0 0] 35)
  have HBk := hid (bpush HB10.out (.cells #[.slice none 0 0, .slice none 0 0] 35))
  have HR3k := hid (R6_10.out.below ra)
  have HR4k := hid (R7_10.out.below ra)
  have HR5k := hid (R8_10.out.below ra)
  have hlo : W.heap.size ≤ gb := by have := HGA.out; have := HGG.out; omega
  refine (take_late w10.heap.size _ _ (.slice a6 Y.length c6) [] Y W.heap.size _ (Late.new w10 W.heap.size hbk) HR3k.out D0.out.1 D0.out.2 (by simp) (fun b hb => ⟨by have := H6.out b hb; omega, by have := H6.out b hb; omega, by simp⟩)).mono ?_
  rintro e wb ⟨rfl, Lb, Vb, lb, kb, bb⟩
  have HLb := hid lb
  have HBb := hid (HBk.out.trans bb)
  have HR4b := hid (HR4k.out.low kb (fun b hb => by have := H7.out b hb; omega))
  have HR5b := hid (HR5k.out.low kb (fun b hb => by have := H8.out b hb; omega))
  have H7k : Hid (∀ b, (Value.slice a7 Z.length c7).ownBlock = some b → W.heap.size ≤ b ∧ b < w10.heap.size ∧ w6.heap.size ≤ b ∧ b < w7.heap.size) := hid (fun b hb => by have := H7.out b hb; omega)
  have H8k : Hid (∀ b, (Value.slice a8 Y.length c8).ownBlock = some b → W.heap.size ≤ b ∧ b < w10.heap.size ∧ w7.heap.size ≤ b) := hid (fun b hb => by have := H8.out b hb; omega)
  clear lb bb kb ra HR3k HR4k HR5k HBk
  generalize w10.heap.size = gk at *
  go_wp2_with fail
  refine (take_late gk Lb Vb (.slice a7 Z.length c7) _ Z W.heap.size wb HLb.out HR4b.out D1.out.1 D1.out.2 (by simp) (fun b hb => ⟨(H7k.out b hb).1, (H7k.out b hb).2.1, fun p hp e => by
    simp at hp
    subst hp
    have h1 := H7k.out b hb
    have h2 := H6.out b e
    omega⟩)).mono ?_
  rintro e wd ⟨rfl, Ld, Vd, ld, kd, bd⟩
  have HLd := hid ld
  have HBd := hid (HBb.out.trans bd)
  have HR5d := hid (HR5b.out.low kd (fun b hb => (H8k.out b hb).2.1))
  clear ld bd kd HR4b HR5b HBb HLb
  go_wp2_with fail
  refine (take_late gk Ld Vd (.slice a8 Y.length c8) _ Y W.heap.size wd HLd.out HR5d.out D0.out.1 D0.out.2 (by simp) (fun b hb => ⟨(H8k.out b hb).1, (H8k.out b hb).2.1, fun p hp e => by
    have h1 := H8k.out b hb
    simp at hp
    rcases hp with hp | hp
    · subst hp
      have h2 := H6.out b e
      omega
    · subst hp
      have h2 := H7k.out b e
      omega⟩)).mono ?_
  rintro e we ⟨rfl, Le, Ve, le, ke, be⟩
  have HLe := hid le
  have HBe := hid (HBd.out.trans be)
  clear le be ke HR5d HBd HLd
  go_wp2_with fail
  refine (owned_late gk Le Ve _ W.heap.size we HLe.out).mono ?_
  rintro e wf ⟨rfl, bf, _⟩
  have HBf := hid (HBe.out.trans bf)
  clear bf HBe HLe
  go_wp2
  go_ret
  exact ⟨rfl, HBf.out⟩
end Go.Proofs.Ytamhaihoofaecaa
