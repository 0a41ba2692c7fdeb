/-
  Neigh: learn, of an address that has an entry.
-/
import Derived.Test.YtaaoelhmanahpaaNwAkJ
namespace Go.Proofs.Ytaaoelhmanahpaa
open Go.RowKit
set_option linter.all false

/-- an entry that is known now. -/
def knE (S : St) (ip : Int) (mc : Mac) : Ab := ⟨ip, aft S.now 600, mc, 0, 0, []⟩
theorem knE_ok {S : St} (h : S.ok) {ip : Int} {mc : Mac} (hip : ipOk ip) (hm : mc.ok) : (knE S ip mc).ok :=
  ⟨hip, aft_ok h.now (by omega), hm, by simp [knE], by simp [knE, ipOk], by simp [knE], fun _ => ⟨rfl, rfl⟩, fun h => absurd rfl h⟩
theorem two_boxes (w : World) (o1 o2 : Obj) : ((w.alloc o1).alloc o2).heap[w.heap.size]? = some o1 ∧ ((w.alloc o1).alloc o2).heap[w.heap.size + 1]? = some o2 := by
  refine ⟨(heap_old _ _ (by simp)).trans (heap_new _ _), ?_⟩
  have := heap_new (w.alloc o1) o2
  rw [World.size_alloc] at this
  exact this
set_option maxRecDepth 40000 in
set_option maxHeartbeats 8000000 in
theorem learnA (c m : Nat) (S : St) (V : Int → Value) (ip : Int) (mc : Mac) (wt : Bool) (y : Ab) (w : World) (x : CaW w c m S V) (hip : ipOk ip) (hmc : mc.ok) (hl : look S.L ip = some y) :
    Calls Try.prog 47 #[.pointer (some ⟨c, 0, none⟩), .int .u32 ip, mc.val, .bool wt] w fun e w' => ∃ a cp, e = .returned (.slice a (if 0 < y.q then [Sd.mk mc 2048 y.zs] else []).length cp) ∧ Hid (Answ w w' c m S { S with L := put S.L (knE S ip mc) } V a cp (if 0 < y.q then [Sd.mk mc 2048 y.zs] else [])) := by
  have hyL := (look_some hl).1
  have hyi : y.ip = ip := (look_some hl).2
  obtain ⟨pa, pc, hv, _⟩ := (x.rows y hyL).form
  rw [hyi] at hv
  have HRY := hid (x.rows y hyL)
  rw [hyi, hv] at HRY
  have HVI := hid hv
  have HX := hid x
  have HYL := hid hyL
  have HYI := hid hyi
  have hlk0 : ∀ wx : World, Below w.heap.size w wx → (Instr.lookup 74 (.map (some m)) (.int .u32 ip) true).run Try.prog wx = .ok (.tuple #[y.val (.slice pa (u8s y.zs).length pc), .bool true]) wx := fun wx hb => by
    have := (x.below hb).map.lookOk hip
    simp only [entV, hl, Option.isSome_some, hv] at this
    exact this
  have HCO := hid (fun wx (hb : Below w.heap.size w wx) => x.below hb)
  have HKO := hid (knE_ok x.ok hip hmc)
  have HLN : Hid (((put S.L (knE S ip mc)).length : Int) ≤ S.most) := by
    unfold Hid
    rw [put_len_same x.ok.rise hyL (show (knE S ip mc).ip = y.ip from hyi.symm)]; exact x.ok.len
  have hcl := x.ltc
  have hml := x.ltm
  have HPN : Hid (∃ pn, pn = (u8s y.zs).length) := ⟨_, rfl⟩
  obtain ⟨pn, hpn⟩ := HPN.out
  rw [← hpn] at hlk0 HRY HVI
  have HAS := hid (fun w1 => asked_any y (.slice pa pn pc) w1)
  have HYZ : Hid (∀ z, z ∈ y.zs → 0 ≤ z ∧ z ≤ 255) := (x.ok.ents y hyL).zs
  clear x hl hv hyL hip hmc hpn HPN hyi
  obtain ⟨yi, yt, ⟨b0, b1, b2, b3, b4, b5⟩, yq, ys, yz⟩ := y
  obtain ⟨m0, m1, m2, m3, m4, m5⟩ := mc
  have hyi : yi = ip := HYI.out
  subst hyi
  simp only [Ab.val, Mac.val] at HAS hlk0 ⊢
  have hlk := hlk0 (w.alloc (.cells #[.int .u8 m0, .int .u8 m1, .int .u8 m2, .int .u8 m3, .int .u8 m4, .int .u8 m5] 24)) (bpush (Below.refl _ _) _)
  have d8 := (HCO.out _ (bpush (Below.refl w.heap.size w) (.cells #[.int .u8 m0, .int .u8 m1, .int .u8 m2, .int .u8 m3, .int .u8 m4, .int .u8 m5] 24))).cells.2.2.2.1
  have hC2 := HCO.out ((w.alloc (.cells #[.int .u8 m0, .int .u8 m1, .int .u8 m2, .int .u8 m3, .int .u8 m4, .int .u8 m5] 24)).alloc (.cells #[.int .i64 yt, .int .u8 b0, .int .u8 b1, .int .u8 b2, .int .u8 b3, .int .u8 b4, .int .u8 b5, .int .i64 yq, .int .u32 ys, .slice pa pn pc] 87)) (bpush (bpush (Below.refl _ _) _) _)
  have hB2 : Below w.heap.size w ((w.alloc (.cells #[.int .u8 m0, .int .u8 m1, .int .u8 m2, .int .u8 m3, .int .u8 m4, .int .u8 m5] 24)).alloc (.cells #[.int .i64 yt, .int .u8 b0, .int .u8 b1, .int .u8 b2, .int .u8 b3, .int .u8 b4, .int .u8 b5, .int .i64 yq, .int .u32 ys, .slice pa pn pc] 87)) := bpush (bpush (Below.refl _ _) _) _
  obtain ⟨hx1, hx2⟩ := two_boxes w (.cells #[.int .u8 m0, .int .u8 m1, .int .u8 m2, .int .u8 m3, .int .u8 m4, .int .u8 m5] 24) (.cells #[.int .i64 yt, .int .u8 b0, .int .u8 b1, .int .u8 b2, .int .u8 b3, .int .u8 b4, .int .u8 b5, .int .i64 yq, .int .u32 ys, .slice pa pn pc] 87)
  clear HCO hlk0
  have fin : ∀ q : Bool, q = decide (0 < yq) → Calls Try.prog 47 #[.pointer (some ⟨c, 0, none⟩), .int .u32 yi, .agg #[.int .u8 m0, .int .u8 m1, .int .u8 m2, .int .u8 m3, .int .u8 m4, .int .u8 m5], .bool wt] w fun e w' => ∃ a cp, e = .returned (.slice a (if 0 < yq then [Sd.mk ⟨m0, m1, m2, m3, m4, m5⟩ 2048 yz] else []).length cp) ∧ Hid (Answ w w' c m S { S with L := put S.L (knE S yi ⟨m0, m1, m2, m3, m4, m5⟩) } V a cp (if 0 < yq then [Sd.mk ⟨m0, m1, m2, m3, m4, m5⟩ 2048 yz] else [])) := by
    intro q hq
    rw [← hq] at HAS
    have HQ : Hid ((0 < yq) = (q = true)) := by unfold Hid; rw [hq]; simp
    clear hq
    simp only [HQ.out]
    have HVS : Hid (∀ z ∈ put S.L (knE S yi ⟨m0, m1, m2, m3, m4, m5⟩), ∀ b, (upd V yi (.slice none 0 0) z.ip).ownBlock = some b → w.heap.size ≤ b ∨ ∃ u ∈ S.L, (V u.ip).ownBlock = some b) := fun z hz b hb => by
      rcases mem_put.1 hz with rfl | ⟨h4, h5⟩
      · replace hb : (upd V yi (.slice none 0 0) yi).ownBlock = some b := hb
        rw [upd_same] at hb
        simp [Value.ownBlock] at hb
      · rw [upd_other V _ (show z.ip ≠ yi from h5)] at hb
        exact Or.inr ⟨z, h4, hb⟩
    have HOF : Hid (∀ z ∈ put S.L (knE S yi ⟨m0, m1, m2, m3, m4, m5⟩), ∀ b, (Value.slice pa pn pc).ownBlock = some b → (upd V yi (.slice none 0 0) z.ip).ownBlock ≠ some b) := fun z hz b hb e => by
      rcases mem_put.1 hz with rfl | ⟨h4, h5⟩
      · replace e : (upd V yi (.slice none 0 0) yi).ownBlock = some b := e
        rw [upd_same] at e
        simp [Value.ownBlock] at e
      · rw [upd_other V _ (show z.ip ≠ yi from h5)] at e
        exact HX.out.apart z h4 _ HYL.out h5 b e (by show (V yi).ownBlock = some b; rw [HVI.out]; exact hb)
    cases q with
    | false =>
      simp only [Bool.false_eq_true, if_false]
      go_enter Try.func47, Try.ntmps47
      go_wp2_with fail
      clear hlk d8
      generalize ((w.alloc (.cells #[.int .u8 m0, .int .u8 m1, .int .u8 m2, .int .u8 m3, .int .u8 m4, .int .u8 m5] 24)).alloc (.cells #[.int .i64 yt, .int .u8 b0, .int .u8 b1, .int .u8 b2, .int .u8 b3, .int .u8 b4, .int .u8 b5, .int .i64 yq, .int .u32 ys, .slice pa pn pc] 87)) = W2 at *
      obtain ⟨w5, hup, hC5, hb5⟩ := CaW.lay (hC2.drewN 1) (knE S yi ⟨m0, m1, m2, m3, m4, m5⟩) HKO.out none 0 0 (Row.nil _ _) (fun z hz _ b hb e => by simp [Value.ownBlock] at e) HLN.out
      have hup' : (Instr.mapUpdate 74 (.map (some m)) (.int .u32 yi) (.agg #[.int .i64 (aft S.now 600), .int .u8 m0, .int .u8 m1, .int .u8 m2, .int .u8 m3, .int .u8 m4, .int .u8 m5, .int .i64 0, .int .u32 0, .slice none 0 0])).run Try.prog W2.drew = .ok () w5 := hup
      have HC5 := hid hC5
      have HT5 : Hid (Two c m w w5) := ((Two.of_below hB2).drewN 1).trans (Two.of_m hb5)
      have HR5 : Hid (Row w5 5 (.slice pa pn pc) (u8s yz)) := (HRY.out.below hB2).but ((But.drew m W2).trans hb5) (fun b hb => (HX.out.rowc HYL.out b (by show (V yi).ownBlock = some b; rw [HVI.out]; exact hb)).2)
      have HX1 : Hid (w5.heap[w.heap.size]? = some (.cells #[.int .u8 m0, .int .u8 m1, .int .u8 m2, .int .u8 m3, .int .u8 m4, .int .u8 m5] 24 (0, 0))) := (hb5.block _ (by omega) (heap_lt hx1)).trans hx1
      have HX2 : Hid (w5.heap[w.heap.size + 1]? = some (.cells #[.int .i64 yt, .int .u8 b0, .int .u8 b1, .int .u8 b2, .int .u8 b3, .int .u8 b4, .int .u8 b5, .int .i64 yq, .int .u32 ys, .slice pa pn pc] 87 (0, 0))) := (hb5.block _ (by omega) (heap_lt hx2)).trans hx2
      have HAF : Hid (Calls Try.prog 64 #[.pointer (some ⟨c, 0, none⟩), .int .i64 600] W2.drew fun e w' => e = .returned (.int .i64 (aft S.now 600)) ∧ w' = W2.drew) := after_any c m S V 600 (by omega) W2.drew (hC2.drewN 1)
      have c8 := hC2.cells.2.2.2.1
      have hbm : ∀ q, W2.cell? ⟨w.heap.size, q, none⟩ = (#[.int .u8 m0, .int .u8 m1, .int .u8 m2, .int .u8 m3, .int .u8 m4, .int .u8 m5] : Array Value)[q]? := fun q => cell_of_heap hx1 q
      have hbe : ∀ q, w5.cell? ⟨w.heap.size + 1, q, none⟩ = (#[.int .i64 yt, .int .u8 b0, .int .u8 b1, .int .u8 b2, .int .u8 b3, .int .u8 b4, .int .u8 b5, .int .i64 yq, .int .u32 ys, .slice pa pn pc] : Array Value)[q]? := fun q => cell_of_heap HX2.out q
      clear hup hC5 hb5 hC2 hB2 hx1 hx2 HRY
      go_region_with (first
        | (go_at_call 64; refine HAF.out.mono ?_; rintro e w4 ⟨rfl, hw4⟩; subst w4)
        | fail)
      all_goals
        go_wp2_with (first
          | (go_at_call 38; refine (HAS.out _).mono ?_; rintro e w6 ⟨rfl, hb6⟩; have HB6 := hid hb6; have hm6 : ∀ q, w6.cell? ⟨w.heap.size, q, none⟩ = (#[.int .u8 m0, .int .u8 m1, .int .u8 m2, .int .u8 m3, .int .u8 m4, .int .u8 m5] : Array Value)[q]? := (fun q => cell_of_heap (kept HX1.out hb6) q); have he6 : w6.cell? ⟨w.heap.size + 1, 9, none⟩ = some (.slice pa pn pc) := (by rw [cell_of_heap (kept HX2.out hb6)]; rfl))
          | fail)
        go_ret
      all_goals
        have hC6 := HC5.out.below HB6.out
        have hT6 := HT5.out.trans (Two.of_below HB6.out)
        exact ⟨none, 0, rfl, Answ.void HVS.out hC6 hT6⟩
    | true =>
      simp only [if_true]
      go_enter Try.func47, Try.ntmps47
      go_wp2_with fail
      clear hlk d8
      generalize ((w.alloc (.cells #[.int .u8 m0, .int .u8 m1, .int .u8 m2, .int .u8 m3, .int .u8 m4, .int .u8 m5] 24)).alloc (.cells #[.int .i64 yt, .int .u8 b0, .int .u8 b1, .int .u8 b2, .int .u8 b3, .int .u8 b4, .int .u8 b5, .int .i64 yq, .int .u32 ys, .slice pa pn pc] 87)) = W2 at *
      obtain ⟨w5, hup, hC5, hb5⟩ := CaW.lay (hC2.drewN 1) (knE S yi ⟨m0, m1, m2, m3, m4, m5⟩) HKO.out none 0 0 (Row.nil _ _) (fun z hz _ b hb e => by simp [Value.ownBlock] at e) HLN.out
      have hup' : (Instr.mapUpdate 74 (.map (some m)) (.int .u32 yi) (.agg #[.int .i64 (aft S.now 600), .int .u8 m0, .int .u8 m1, .int .u8 m2, .int .u8 m3, .int .u8 m4, .int .u8 m5, .int .i64 0, .int .u32 0, .slice none 0 0])).run Try.prog W2.drew = .ok () w5 := hup
      have HC5 := hid hC5
      have HT5 : Hid (Two c m w w5) := ((Two.of_below hB2).drewN 1).trans (Two.of_m hb5)
      have HR5 : Hid (Row w5 5 (.slice pa pn pc) (u8s yz)) := (HRY.out.below hB2).but ((But.drew m W2).trans hb5) (fun b hb => (HX.out.rowc HYL.out b (by show (V yi).ownBlock = some b; rw [HVI.out]; exact hb)).2)
      have HX1 : Hid (w5.heap[w.heap.size]? = some (.cells #[.int .u8 m0, .int .u8 m1, .int .u8 m2, .int .u8 m3, .int .u8 m4, .int .u8 m5] 24 (0, 0))) := (hb5.block _ (by omega) (heap_lt hx1)).trans hx1
      have HX2 : Hid (w5.heap[w.heap.size + 1]? = some (.cells #[.int .i64 yt, .int .u8 b0, .int .u8 b1, .int .u8 b2, .int .u8 b3, .int .u8 b4, .int .u8 b5, .int .i64 yq, .int .u32 ys, .slice pa pn pc] 87 (0, 0))) := (hb5.block _ (by omega) (heap_lt hx2)).trans hx2
      have HAF : Hid (Calls Try.prog 64 #[.pointer (some ⟨c, 0, none⟩), .int .i64 600] W2.drew fun e w' => e = .returned (.int .i64 (aft S.now 600)) ∧ w' = W2.drew) := after_any c m S V 600 (by omega) W2.drew (hC2.drewN 1)
      have c8 := hC2.cells.2.2.2.1
      have hbm : ∀ q, W2.cell? ⟨w.heap.size, q, none⟩ = (#[.int .u8 m0, .int .u8 m1, .int .u8 m2, .int .u8 m3, .int .u8 m4, .int .u8 m5] : Array Value)[q]? := fun q => cell_of_heap hx1 q
      have hbe : ∀ q, w5.cell? ⟨w.heap.size + 1, q, none⟩ = (#[.int .i64 yt, .int .u8 b0, .int .u8 b1, .int .u8 b2, .int .u8 b3, .int .u8 b4, .int .u8 b5, .int .i64 yq, .int .u32 ys, .slice pa pn pc] : Array Value)[q]? := fun q => cell_of_heap HX2.out q
      clear hup hC5 hb5 hC2 hB2 hx1 hx2 HRY
      go_region_with (first
        | (go_at_call 64; refine HAF.out.mono ?_; rintro e w4 ⟨rfl, hw4⟩; subst w4)
        | fail)
      all_goals
        go_wp2_with (first
          | (go_at_call 38; refine (HAS.out _).mono ?_; rintro e w6 ⟨rfl, hb6⟩; have HB6 := hid hb6; have hm6 : ∀ q, w6.cell? ⟨w.heap.size, q, none⟩ = (#[.int .u8 m0, .int .u8 m1, .int .u8 m2, .int .u8 m3, .int .u8 m4, .int .u8 m5] : Array Value)[q]? := (fun q => cell_of_heap (kept HX1.out hb6) q); have he6 : w6.cell? ⟨w.heap.size + 1, 9, none⟩ = some (.slice pa pn pc) := (by rw [cell_of_heap (kept HX2.out hb6)]; rfl))
          | fail)
        go_ret
      all_goals
        have hC6 := HC5.out.below HB6.out
        have hT6 := HT5.out.trans (Two.of_below HB6.out)
        have hbp := bpush (Below.refl w6.heap.size w6) (.cells ((Sd.mk ⟨m0, m1, m2, m3, m4, m5⟩ 2048 yz).cells (.slice pa pn pc)) 59)
        refine ⟨some ⟨w6.heap.size, 0, none⟩, 1, rfl, [(Sd.mk ⟨m0, m1, m2, m3, m4, m5⟩ 2048 yz, .slice pa pn pc)], _, rfl, Outs.one (heap_new _ _) ((HR5.out.below HB6.out).below hbp), fun b hb => ?_, fun p hp b hb => ?_, fun p hp z hz b hb => ?_, HVS.out, hC6.below hbp, hT6.trans (Two.of_below hbp)⟩
        · simp [Value.ownBlock] at hb
          have := hT6.size
          omega
        · simp at hp
          subst hp
          exact Or.inr ⟨_, HYL.out, by show (V yi).ownBlock = some b; rw [HVI.out]; exact hb⟩
        · simp at hp
          subst hp
          exact HOF.out z hz b hb
  exact fin _ rfl
end Go.Proofs.Ytaaoelhmanahpaa
