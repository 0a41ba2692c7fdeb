/-
  Neigh: learn, of an address that has none.
-/
import Derived.Test.YtaaoelhmanahpaaNLrn
namespace Go.Proofs.Ytaaoelhmanahpaa
open Go.RowKit
set_option linter.all false

set_option maxRecDepth 40000 in
set_option maxHeartbeats 8000000 in
theorem learnB (c m : Nat) (S : St) (V : Int → Value) (ip : Int) (mc : Mac) (w : World) (x : CaW w c m S V) (hip : ipOk ip) (hmc : mc.ok) (hl : look S.L ip = none) :
    Calls Try.prog 47 #[.pointer (some ⟨c, 0, none⟩), .int .u32 ip, mc.val, .bool false] w fun e w' => e = .returned (.slice none 0 0) ∧ Hid (Answ w w' c m S S V none 0 []) := by
  have HX := hid x
  have HIP := hid hip
  have HMC := hid hmc
  have hlk : ∀ o : Obj, (Instr.lookup 74 (.map (some m)) (.int .u32 ip) true).run Try.prog (w.alloc o) = .ok (.tuple #[zeroE, .bool false]) (w.alloc o) := fun o => by
    have := (x.below (bpush (Below.refl _ _) o)).map.lookOk hip
    simp only [entV, hl, Option.isSome_none] at this
    exact this
  obtain ⟨m0, m1, m2, m3, m4, m5⟩ := mc
  simp only [zeroE, Mac.val] at hlk ⊢
  replace hlk := hlk (.cells #[.int .u8 m0, .int .u8 m1, .int .u8 m2, .int .u8 m3, .int .u8 m4, .int .u8 m5] 24)
  have d8 := (x.below (bpush (Below.refl w.heap.size w) (.cells #[.int .u8 m0, .int .u8 m1, .int .u8 m2, .int .u8 m3, .int .u8 m4, .int .u8 m5] 24))).cells.2.2.2.1
  have hB2 : Below w.heap.size w ((w.alloc (.cells #[.int .u8 m0, .int .u8 m1, .int .u8 m2, .int .u8 m3, .int .u8 m4, .int .u8 m5] 24)).alloc (.cells #[.int .i64 0, .int .u8 0, .int .u8 0, .int .u8 0, .int .u8 0, .int .u8 0, .int .u8 0, .int .i64 0, .int .u32 0, .slice none 0 0] 87)) := bpush (bpush (Below.refl _ _) _) _
  have hC2 := x.below hB2
  have HC2 := hid hC2
  have HB2 := hid hB2
  have hcl := x.ltc
  have hml := x.ltm
  clear hl hip hmc
  clear hC2 hB2 x
  go_enter Try.func47, Try.ntmps47
  go_wp2_with fail
  go_ret
  exact ⟨rfl, Answ.void (fun z hz b hb => Or.inr ⟨z, hz, hb⟩) HC2.out (Two.of_below HB2.out)⟩

set_option maxRecDepth 40000 in
set_option maxHeartbeats 8000000 in
theorem learnC (c m : Nat) (S : St) (V : Int → Value) (ip : Int) (mc : Mac) (w : World) (x : CaW w c m S V) (hip : ipOk ip) (hmc : mc.ok) (hl : look S.L ip = none) (hr : roomL S.most S.L = none) :
    Calls Try.prog 47 #[.pointer (some ⟨c, 0, none⟩), .int .u32 ip, mc.val, .bool true] w fun e w' => e = .returned (.slice none 0 0) ∧ Hid (Answ w w' c m S S V none 0 []) := by
  have HX := hid x
  have HIP := hid hip
  have HMC := hid hmc
  have hlk : ∀ o : Obj, (Instr.lookup 74 (.map (some m)) (.int .u32 ip) true).run Try.prog (w.alloc o) = .ok (.tuple #[zeroE, .bool false]) (w.alloc o) := fun o => by
    have := (x.below (bpush (Below.refl _ _) o)).map.lookOk hip
    simp only [entV, hl, Option.isSome_none] at this
    exact this
  obtain ⟨m0, m1, m2, m3, m4, m5⟩ := mc
  simp only [zeroE, Mac.val] at hlk ⊢
  replace hlk := hlk (.cells #[.int .u8 m0, .int .u8 m1, .int .u8 m2, .int .u8 m3, .int .u8 m4, .int .u8 m5] 24)
  have d8 := (x.below (bpush (Below.refl w.heap.size w) (.cells #[.int .u8 m0, .int .u8 m1, .int .u8 m2, .int .u8 m3, .int .u8 m4, .int .u8 m5] 24))).cells.2.2.2.1
  have hB2 : Below w.heap.size w ((w.alloc (.cells #[.int .u8 m0, .int .u8 m1, .int .u8 m2, .int .u8 m3, .int .u8 m4, .int .u8 m5] 24)).alloc (.cells #[.int .i64 0, .int .u8 0, .int .u8 0, .int .u8 0, .int .u8 0, .int .u8 0, .int .u8 0, .int .i64 0, .int .u32 0, .slice none 0 0] 87)) := bpush (bpush (Below.refl _ _) _) _
  have hC2 := x.below hB2
  have HC2 := hid hC2
  have HB2 := hid hB2
  have hcl := x.ltc
  have hml := x.ltm
  clear hl hip hmc
  have HRM := hid (room_any c m S V _ hC2)
  rw [hr] at HRM
  clear hC2 hB2 x hr
  go_enter Try.func47, Try.ntmps47
  go_wp2_with (first
    | (go_at_call 40; refine HRM.out.mono ?_; rintro e w5 ⟨rfl, HC5, HT5⟩)
    | fail)
  go_ret
  exact ⟨rfl, Answ.void (fun z hz b hb => Or.inr ⟨z, hz, hb⟩) HC5.out ((Two.of_below HB2.out).trans HT5.out)⟩

set_option maxRecDepth 40000 in
set_option maxHeartbeats 8000000 in
theorem learnD (c m : Nat) (S : St) (V : Int → Value) (ip : Int) (mc : Mac) (w : World) (x : CaW w c m S V) (hip : ipOk ip) (hmc : mc.ok) (hl : look S.L ip = none) (L' : List Ab) (hr : roomL S.most S.L = some L') :
    Calls Try.prog 47 #[.pointer (some ⟨c, 0, none⟩), .int .u32 ip, mc.val, .bool true] w fun e w' => e = .returned (.slice none 0 0) ∧ Hid (Answ w w' c m S { S with L := put L' (knE S ip mc) } V none 0 []) := by
  have HX := hid x
  have HIP := hid hip
  have HMC := hid hmc
  have hlk : ∀ o : Obj, (Instr.lookup 74 (.map (some m)) (.int .u32 ip) true).run Try.prog (w.alloc o) = .ok (.tuple #[zeroE, .bool false]) (w.alloc o) := fun o => by
    have := (x.below (bpush (Below.refl _ _) o)).map.lookOk hip
    simp only [entV, hl, Option.isSome_none] at this
    exact this
  obtain ⟨m0, m1, m2, m3, m4, m5⟩ := mc
  simp only [zeroE, Mac.val] at hlk ⊢
  replace hlk := hlk (.cells #[.int .u8 m0, .int .u8 m1, .int .u8 m2, .int .u8 m3, .int .u8 m4, .int .u8 m5] 24)
  have d8 := (x.below (bpush (Below.refl w.heap.size w) (.cells #[.int .u8 m0, .int .u8 m1, .int .u8 m2, .int .u8 m3, .int .u8 m4, .int .u8 m5] 24))).cells.2.2.2.1
  have hB2 : Below w.heap.size w ((w.alloc (.cells #[.int .u8 m0, .int .u8 m1, .int .u8 m2, .int .u8 m3, .int .u8 m4, .int .u8 m5] 24)).alloc (.cells #[.int .i64 0, .int .u8 0, .int .u8 0, .int .u8 0, .int .u8 0, .int .u8 0, .int .u8 0, .int .i64 0, .int .u32 0, .slice none 0 0] 87)) := bpush (bpush (Below.refl _ _) _) _
  have hC2 := x.below hB2
  have HC2 := hid hC2
  have HB2 := hid hB2
  have hcl := x.ltc
  have hml := x.ltm
  clear hl hip hmc
  have HRM := hid (room_any c m S V _ hC2)
  rw [hr] at HRM
  simp only [Option.isSome_some, Option.getD_some] at HRM
  have HRS := hid (roomL_some hr x.ok.len x.ok.rise)
  have HLE := hid (put_len_le hr x.ok.len x.ok.rise)
  obtain ⟨hx1, hx2⟩ := two_boxes w (.cells #[.int .u8 m0, .int .u8 m1, .int .u8 m2, .int .u8 m3, .int .u8 m4, .int .u8 m5] 24) (.cells #[.int .i64 0, .int .u8 0, .int .u8 0, .int .u8 0, .int .u8 0, .int .u8 0, .int .u8 0, .int .i64 0, .int .u32 0, .slice none 0 0] 87)
  have HX1 := hid hx1
  have HX2 := hid hx2
  have HAS : Hid (∀ w1, Calls Try.prog 38 #[.agg #[.int .i64 0, .int .u8 0, .int .u8 0, .int .u8 0, .int .u8 0, .int .u8 0, .int .u8 0, .int .i64 0, .int .u32 0, .slice none 0 0]] w1 fun e w' => e = .returned (.bool false) ∧ Below w1.heap.size w1 w') := fun w1 => asked_any ⟨0, 0, zeroMac, 0, 0, []⟩ (.slice none 0 0) w1
  clear hC2 hB2 x hr hx1 hx2
  go_enter Try.func47, Try.ntmps47
  go_wp2_with (first
    | (go_at_call 40; refine HRM.out.mono ?_; rintro e W2 ⟨rfl, HC3, HT3⟩)
    | fail)
  have hC2 := HC3.out
  have hx1 := (HT3.out.block _ (by omega) (by omega) (heap_lt HX1.out)).trans HX1.out
  have hx2 := (HT3.out.block _ (by omega) (by omega) (heap_lt HX2.out)).trans HX2.out
  clear hlk d8 HRM HC2
  obtain ⟨w5, hup, hC5, hb5⟩ := CaW.lay (hC2.drewN 1) (knE S ip ⟨m0, m1, m2, m3, m4, m5⟩) (knE_ok HX.out.ok HIP.out HMC.out) none 0 0 (Row.nil _ _) (fun z hz _ b hb e => by simp [Value.ownBlock] at e) (HLE.out _)
  have hup' : (Instr.mapUpdate 74 (.map (some m)) (.int .u32 ip) (.agg #[.int .i64 (aft S.now 600), .int .u8 m0, .int .u8 m1, .int .u8 m2, .int .u8 m3, .int .u8 m4, .int .u8 m5, .int .i64 0, .int .u32 0, .slice none 0 0])).run Try.prog W2.drew = .ok () w5 := hup
  have HC5 := hid hC5
  have HT5 : Hid (Two c m w w5) := (((Two.of_below HB2.out).trans HT3.out).drewN 1).trans (Two.of_m hb5)
  have HY2 : Hid (w5.heap[w.heap.size + 1]? = some (.cells #[.int .i64 0, .int .u8 0, .int .u8 0, .int .u8 0, .int .u8 0, .int .u8 0, .int .u8 0, .int .i64 0, .int .u32 0, .slice none 0 0] 87 (0, 0))) := (hb5.block _ (by omega) (heap_lt hx2)).trans hx2
  have HAF : Hid (Calls Try.prog 64 #[.pointer (some ⟨c, 0, none⟩), .int .i64 600] W2.drew fun e w' => e = .returned (.int .i64 (aft S.now 600)) ∧ w' = W2.drew) := after_any c m { S with L := L' } V 600 (by omega) W2.drew (hC2.drewN 1)
  have HVS : Hid (∀ z ∈ put L' (knE S ip ⟨m0, m1, m2, m3, m4, m5⟩), ∀ b, (upd V ip (.slice none 0 0) z.ip).ownBlock = some b → w.heap.size ≤ b ∨ ∃ u ∈ S.L, (V u.ip).ownBlock = some b) := fun z hz b hb => by
    rcases mem_put.1 hz with rfl | ⟨h4, h5⟩
    · replace hb : (upd V ip (.slice none 0 0) ip).ownBlock = some b := hb
      rw [upd_same] at hb
      simp [Value.ownBlock] at hb
    · rw [upd_other V _ (show z.ip ≠ ip from h5)] at hb
      exact Or.inr ⟨z, HRS.out.2.2 z h4, hb⟩
  have c8 := hC2.cells.2.2.2.1
  have hbm : ∀ q, W2.cell? ⟨w.heap.size, q, none⟩ = (#[.int .u8 m0, .int .u8 m1, .int .u8 m2, .int .u8 m3, .int .u8 m4, .int .u8 m5] : Array Value)[q]? := fun q => cell_of_heap hx1 q
  have hbe : ∀ q, w5.cell? ⟨w.heap.size + 1, q, none⟩ = (#[.int .i64 0, .int .u8 0, .int .u8 0, .int .u8 0, .int .u8 0, .int .u8 0, .int .u8 0, .int .i64 0, .int .u32 0, .slice none 0 0] : Array Value)[q]? := fun q => cell_of_heap HY2.out q
  clear hup hC5 hb5 hC2 hx1 hx2
  go_region_with (first
    | (go_at_call 64; refine HAF.out.mono ?_; rintro e w4 ⟨rfl, hw4⟩; subst w4)
    | fail)
  all_goals
    go_wp2_with (first
      | (go_at_call 38; refine (HAS.out _).mono ?_; rintro e w6 ⟨rfl, hb6⟩)
      | fail)
    go_ret
  all_goals exact ⟨rfl, Answ.void HVS.out (HC5.out.below hb6) (HT5.out.trans (Two.of_below hb6))⟩
end Go.Proofs.Ytaaoelhmanahpaa
