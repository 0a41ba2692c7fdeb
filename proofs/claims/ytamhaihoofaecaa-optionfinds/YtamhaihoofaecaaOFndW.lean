/-
  The walk of OptionFinds.
-/
import Derived.Test.YtamhaihoofaecaaOLive
import Derived.Test.YtamhaihoofaecaaOAsL
import Derived.Test.YtamhaihoofaecaaOFref
import Derived.Test.YtamhaihoofaecaaOOpen
namespace Go.Proofs.Ytamhaihoofaecaa
open Go.RowKit
set_option linter.all false

theorem str_eq2 (X : ByteArray) : (X.toList == X.toList) = true := by simp
theorem fst_zs (os : List OP) (code : Int) : (fstP os code).zs = (findO (absO os) code).getD [] ∧ fstB os code = (findO (absO os) code).isSome := by
  rw [find_abs]
  unfold fstP fstB
  cases fst? os code <;> exact ⟨rfl, rfl⟩
theorem fst_lent (ga : Nat) (os : List OP) (code : Int) : (fstP (lentOs ga os) code).zs = (fstP os code).zs ∧ fstB (lentOs ga os) code = fstB os code := by
  rw [(fst_zs os code).1, (fst_zs os code).2, (fst_zs (lentOs ga os) code).1, (fst_zs (lentOs ga os) code).2, lentOs_abs]
  exact ⟨rfl, rfl⟩
theorem Row.btw {lo hi : Nat} {w w' : World} {e : TypeId} {v : Value} {vs : List Value} (h : Row w e v vs) (hb : Btw lo hi w w') (hv : ∀ b, v.ownBlock = some b → b < lo ∨ hi ≤ b) : Row w' e v vs := h.keep fun b hb' => hb.block b (h.lt hb') (hv b hb')
set_option maxRecDepth 20000 in
set_option maxHeartbeats 8000000 in
theorem optionFinds_walk (os : List OP) (ao : Option Addr) (co : Nat) (code : Int) (W : World) (ok0 : OV0 W ao os) (sz0 : os.length ≤ 4398046511104 ∧ ∀ o ∈ os, o.2.zs.length ≤ 140737488351232) (bd1 : -9223372036854775808 ≤ code ∧ code ≤ 9223372036854775807) :
    Calls Try.prog 6 #[.slice ao os.length co, .int .i64 code] W fun e w' => e = .returned (.bool true) ∧ Below W.heap.size W w' := by
  have hov : OV W ao os := ok0.full sz0.2 sz0.1
  have HOV := hid hov
  have HLW := hid (Low.of hov)
  obtain ⟨okf, hzl⟩ := fstP_ok hov code
  have HZB := hid okf.1
  have hfew := hov.few
  have CF := fun (wx : World) (hw : Below W.heap.size W wx) => refFind_any ao co os code wx (hov.below hw)
  have CN := fun (wx : World) (hw : Below W.heap.size W wx) => refNumber_any ao co os code wx (hov.below hw)
  have CS := fun (wx : World) (hw : Below W.heap.size W wx) => refSmall_any ao co os code wx (hov.below hw)
  have CL := fun (wx : World) (hw : Below W.heap.size W wx) => lentO_any ao co os wx (hov.below hw)
  have PF := fun (wx : World) (ga : Nat) (X : Array Value) (hk : LentK wx ga os X) => (by
    have h := ofind_any (some ⟨ga, 0, none⟩) (os.length + 2) (lentOs ga os) code wx (hk.view hov)
    rw [lentOs_len, (fst_lent ga os code).1, (fst_lent ga os code).2] at h
    exact h : Calls Try.prog 27 #[.slice (some ⟨ga, 0, none⟩) os.length (os.length + 2), .int .i64 code] wx fun e w' => ∃ ax cx, e = .returned (.tuple #[.slice ax (fstP os code).zs.length cx, .bool (fstB os code)]) ∧ Hid (Ans wx w' (fstP os code).zs ax (fstP os code).zs.length cx))
  have PN := fun (wx : World) (ga : Nat) (X : Array Value) (hk : LentK wx ga os X) => (by
    have h := number_any (some ⟨ga, 0, none⟩) (os.length + 2) (lentOs ga os) code wx (hk.view hov)
    rw [lentOs_len, (fst_lent ga os code).1] at h
    exact h : Calls Try.prog 28 #[.slice (some ⟨ga, 0, none⟩) os.length (os.length + 2), .int .i64 code] wx fun e w' => e = .returned (.tuple #[.int .u32 (exN (fstP os code).zs 4), .bool (exB (fstP os code).zs 4)]) ∧ Hid (Below wx.heap.size wx w'))
  have PS := fun (wx : World) (ga : Nat) (X : Array Value) (hk : LentK wx ga os X) => (by
    have h := small_any (some ⟨ga, 0, none⟩) (os.length + 2) (lentOs ga os) code wx (hk.view hov)
    rw [lentOs_len, (fst_lent ga os code).1] at h
    exact h : Calls Try.prog 29 #[.slice (some ⟨ga, 0, none⟩) os.length (os.length + 2), .int .i64 code] wx fun e w' => e = .returned (.tuple #[.int .i64 (exN (fstP os code).zs 1), .bool (exB (fstP os code).zs 1)]) ∧ Hid (Below wx.heap.size wx w'))
  have AL := fun (wx : World) (ga : Nat) (X : Array Value) (hk : LentK wx ga os X) (hw : Below W.heap.size W wx) (hB : W.heap.size ≤ ga) => asLentO_any ga W.heap.size X ao co os wx hk ((Low.of hov).below hw) hB
  clear ok0 sz0 bd1 okf hov
  generalize (fstP os code).zs = Z at *
  generalize fstB os code = Bf at *
  generalize exN Z 4 = n4 at *
  generalize exB Z 4 = b4 at *
  generalize exN Z 1 = n1 at *
  generalize exB Z 1 = b1 at *
  obtain ⟨n, hn⟩ : ∃ n, n = os.length := ⟨_, rfl⟩
  have HN := hid hn
  rw [← hn] at hfew CF CN CS CL PF PN PS AL ⊢
  clear hn
  go_enter Try.func6, Try.ntmps6
  go_wp2_with fail
  refine (awake_any W).mono ?_
  rintro e w1 ⟨rfl, HB1⟩
  go_wp2_with fail
  refine (CF w1 HB1.out).mono ?_
  rintro e w2 ⟨a2, c2, rfl, AN2⟩
  have HB2 := hid (bstep HB1.out AN2.out.2.2)
  have HI2 := hid (ans_lt AN2.out)
  have HR2 := hid AN2.out.1
  clear AN2 CF HB1
  go_wp2_with fail
  refine (CN w2 HB2.out).mono ?_
  rintro e w3 ⟨rfl, b3⟩
  have HB3 := hid (bstep HB2.out b3.out)
  have HR3 := hid (HR2.out.below b3.out)
  have z23 : w2.heap.size ≤ w3.heap.size := b3.out.size
  clear CN HB2 HR2 b3
  go_wp2_with fail
  refine (CS w3 HB3.out).mono ?_
  rintro e w4 ⟨rfl, b4'⟩
  have HB4 := hid (bstep HB3.out b4'.out)
  have HR4 := hid (HR3.out.below b4'.out)
  have z34 : w3.heap.size ≤ w4.heap.size := b4'.out.size
  clear CS HB3 HR3 b4'
  go_wp2_with fail
  refine (CL w4 HB4.out).mono ?_
  rintro e w5 ⟨rfl, HL⟩
  obtain ⟨X, hX⟩ := HL.out
  have HK5 := hid hX.k
  have HB5 := hid (bstep HB4.out (by have := hX.i.below; exact this))
  have HR5 := hid (HR4.out.below hX.i.below)
  have z5 : w5.heap.size = w4.heap.size + 1 + n := by rw [hX.i.hs, HN.out]
  have HZ5 := hid z5
  have HGA : Hid (W.heap.size ≤ w4.heap.size) := hid HB4.out.size
  clear CL HB4 HR4 HL hX z5
  obtain ⟨ga, hga⟩ : ∃ ga, ga = w4.heap.size := ⟨_, rfl⟩
  have HG2 : Hid (∀ b, (Value.slice a2 Z.length c2).ownBlock = some b → b < ga) := hid (fun b hb => by have := HI2.out b hb; omega)
  rw [← hga] at HK5 HZ5 HGA ⊢
  clear hga z23 z34 HI2
  go_wp2_with fail
  refine (PF w5 ga X HK5.out).mono ?_
  rintro e w6 ⟨a6, c6, rfl, AN6⟩
  have HB6 := hid (bstep HB5.out AN6.out.2.2)
  have HI6 := hid (ans_lt AN6.out)
  have HR6a := hid AN6.out.1
  have HR6 := hid (HR5.out.below AN6.out.2.2)
  have HK6 := hid (HK5.out.below AN6.out.2.2)
  have z56 : w5.heap.size ≤ w6.heap.size := AN6.out.2.2.size
  clear AN6 HB5 HR5 HK5
  go_wp2_with fail
  refine (PF w6 ga X HK6.out).mono ?_
  rintro e w7 ⟨a7, c7, rfl, AN7⟩
  have HB7 := hid (bstep HB6.out AN7.out.2.2)
  have HI7 := hid (ans_lt AN7.out)
  have HR7b := hid AN7.out.1
  have HR7a := hid (HR6a.out.below AN7.out.2.2)
  have HR7 := hid (HR6.out.below AN7.out.2.2)
  have HK7 := hid (HK6.out.below AN7.out.2.2)
  have z67 : w6.heap.size ≤ w7.heap.size := AN7.out.2.2.size
  clear AN7 HB6 HR6 HR6a HK6 PF
  go_wp2_with fail
  refine (PN w7 ga X HK7.out).mono ?_
  rintro e w8 ⟨rfl, b8⟩
  have HB8 := hid (bstep HB7.out b8.out)
  have HR8b := hid (HR7b.out.below b8.out)
  have HR8a := hid (HR7a.out.below b8.out)
  have HR8 := hid (HR7.out.below b8.out)
  have HK8 := hid (HK7.out.below b8.out)
  have z78 : w7.heap.size ≤ w8.heap.size := b8.out.size
  clear b8 HB7 HR7 HR7a HR7b HK7 PN
  go_wp2_with fail
  refine (PS w8 ga X HK8.out).mono ?_
  rintro e w9 ⟨rfl, b9⟩
  have HB9 := hid (bstep HB8.out b9.out)
  have HR9b := hid (HR8b.out.below b9.out)
  have HR9a := hid (HR8a.out.below b9.out)
  have HR9 := hid (HR8.out.below b9.out)
  have HK9 := hid (HK8.out.below b9.out)
  have z89 : w8.heap.size ≤ w9.heap.size := b9.out.size
  clear b9 HB8 HR8 HR8a HR8b HK8 PS
  go_wp2_with fail
  refine (AL w9 ga X HK9.out HB9.out HGA.out).mono ?_
  rintro e w10 ⟨rfl, BT⟩
  have HR10 := hid (HR9.out.btw BT.out (fun b hb => Or.inl (HG2.out b hb)))
  have HR10a := hid (HR9a.out.btw BT.out (fun b hb => Or.inr (by have := HI6.out b hb; have := HZ5.out; omega)))
  have HR10b := hid (HR9b.out.btw BT.out (fun b hb => Or.inr (by have := HI7.out b hb; have := HZ5.out; omega)))
  have HB10 := hid (HB9.out.trans (BT.out.below HGA.out HB9.out.size))
  have z910 : w9.heap.size ≤ w10.heap.size := BT.out.size
  clear AL BT HR9 HR9a HR9b HK9 HB9
  have v1 := HR10.out.conv0 HZB.out
  have v2 := HR10a.out.conv0 HZB.out
  have v3 := HR10b.out.conv0 HZB.out
  have st1 := str_eq2 (strOfNums Z)
  generalize strOfNums Z = S1 at *
  have hE1 : (Bf != Bf) = false := by simp
  have hE2 : (n4 != n4) = false := by simp
  have hE3 : (b4 != b4) = false := by simp
  have hE4 : (n1 != n1) = false := by simp
  have hE5 : (b1 != b1) = false := by simp
  go_wp2_with fail
  clear v1 v2 v3
  have hbk : W.heap.size ≤ w10.heap.size := HB10.out.size
  have ra := bpush (Below.refl w10.heap.size w10) (.cells #[.slice none 0 0, .slice none 0 0] 35)
  have HBk := hid (bpush HB10.out (.cells #[.slice none 0 0, .slice none 0 0] 35))
  have HR3k := hid (HR10a.out.below ra)
  have HR4k := hid (HR10b.out.below ra)
  have z5' := HB10.out.size
  refine (take_late w10.heap.size _ _ (.slice a6 Z.length c6) [] Z W.heap.size _ (Late.new w10 W.heap.size hbk) HR3k.out HZB.out hzl (by simp) (fun b hb => ⟨by have := HI6.out b hb; have := HZ5.out; have := HGA.out; omega, by have := HI6.out b hb; omega, by simp⟩)).mono ?_
  rintro e wb ⟨rfl, Lb, Vb, lb, kb, bb⟩
  have HLb := hid lb
  have HBb := hid (HBk.out.trans bb)
  have HR4b := hid (HR4k.out.low kb (fun b hb => by have := HI7.out b hb; omega))
  have h7 : ∀ b, (Value.slice a7 Z.length c7).ownBlock = some b → W.heap.size ≤ b ∧ b < w10.heap.size ∧ w6.heap.size ≤ b := fun b hb => by have := HI7.out b hb; have := HZ5.out; have := HGA.out; omega
  have h6 : ∀ b, (Value.slice a6 Z.length c6).ownBlock = some b → b < w6.heap.size := fun b hb => (HI6.out b hb).2
  have H7 := hid h7
  have H6 := hid h6
  clear lb bb kb ra HR3k HR4k HBk h7 h6
  generalize w10.heap.size = gk at *
  go_wp2_with fail
  refine (take_late gk Lb Vb (.slice a7 Z.length c7) _ Z W.heap.size wb HLb.out HR4b.out HZB.out hzl (by simp) (fun b hb => ⟨(H7.out b hb).1, (H7.out b hb).2.1, fun p hp e => by
    simp at hp
    subst hp
    have h1 := H7.out b hb
    have h2 := H6.out b e
    omega⟩)).mono ?_
  rintro e wd ⟨rfl, Ld, Vd, ld, kd, bd⟩
  have HLd := hid ld
  have HBd := hid (HBb.out.trans bd)
  clear ld bd kd HR4b HBb HLb
  go_wp2_with fail
  refine (owned_late gk Ld Vd _ W.heap.size wd HLd.out).mono ?_
  rintro e wf ⟨rfl, bf, _⟩
  have HBf := hid (HBd.out.trans bf)
  clear bf HBd HLd
  go_wp2
  go_ret
  exact ⟨rfl, HBf.out⟩
end Go.Proofs.Ytamhaihoofaecaa
