/-
  Neigh: On, where it is asked for us.
-/
import Derived.Test.YtaaoelhmanahpaaNOn
import Derived.Deep.RegionHeldLaw
namespace Go.Proofs.Ytaaoelhmanahpaa
open Go.RowKit
set_option linter.all false

/-- a message's box and the cache's. -/
structure OnK (b c : Nat) (P C : Array Value) (x : World) : Prop where
  box : x.heap[b]? = some (.cells P 42 (0, 0))
  ca : x.heap[c]? = some (.cells C 76 (0, 0))
theorem onK_mk {w : World} {b c : Nat} {P C : Array Value} (h1 : w.heap[b]? = some (.cells P 42 (0, 0))) (h2 : w.heap[c]? = some (.cells C 76 (0, 0))) : (∀ q, w.cell? ⟨b, q, none⟩ = P[q]?) ∧ (∀ q, w.cell? ⟨c, q, none⟩ = C[q]?) ∧ OnK b c P C w := ⟨fun q => cell_of_heap h1 q, fun q => cell_of_heap h2 q, h1, h2⟩
theorem onK_keep {w w' : World} {b c : Nat} {P C : Array Value} (h : (∀ q, w.cell? ⟨b, q, none⟩ = P[q]?) ∧ (∀ q, w.cell? ⟨c, q, none⟩ = C[q]?) ∧ OnK b c P C w) (hb : Below w.heap.size w w') : (∀ q, w'.cell? ⟨b, q, none⟩ = P[q]?) ∧ (∀ q, w'.cell? ⟨c, q, none⟩ = C[q]?) ∧ OnK b c P C w' := onK_mk (kept h.2.2.box hb) (kept h.2.2.ca hb)
theorem onK_app {w6 w7 : World} {b c : Nat} {P C : Array Value} (hk : Hid (∀ (b : Nat) (C : Array Value) (t : TypeId) (f : Nat × Nat), w6.heap[b]? = some (Obj.cells C t f) → t ≠ 59 → w7.heap[b]? = some (Obj.cells C t f))) (h : (∀ q, w6.cell? ⟨b, q, none⟩ = P[q]?) ∧ (∀ q, w6.cell? ⟨c, q, none⟩ = C[q]?) ∧ OnK b c P C w6) : (∀ q, w7.cell? ⟨b, q, none⟩ = P[q]?) ∧ (∀ q, w7.cell? ⟨c, q, none⟩ = C[q]?) ∧ OnK b c P C w7 := onK_mk (hk.out _ _ _ _ h.2.2.box (by decide)) (hk.out _ _ _ _ h.2.2.ca (by decide))

set_option maxRecDepth 40000 in
set_option maxHeartbeats 8000000 in
theorem on14 (c m : Nat) (S : St) (V : Int → Value) (o si di s0 s1 s2 s3 s4 s5 d0 d1 d2 d3 d4 d5 own now : Int) (w : World) (x : CaW w c m S V) (hp : (Arp.mk o ⟨s0, s1, s2, s3, s4, s5⟩ si ⟨d0, d1, d2, d3, d4, d5⟩ di).ok) (how : ipOk own) (ho : o = 1) (hg : grpB ⟨s0, s1, s2, s3, s4, s5⟩ = false) (h3 : ¬ own = 0) (h4 : di = own) (hh : hostB si = false) :
    Calls Try.prog 18 #[.pointer (some ⟨c, 0, none⟩), .agg #[.int .i64 o, .int .u8 s0, .int .u8 s1, .int .u8 s2, .int .u8 s3, .int .u8 s4, .int .u8 s5, .int .u32 si, .int .u8 d0, .int .u8 d1, .int .u8 d2, .int .u8 d3, .int .u8 d4, .int .u8 d5, .int .u32 di], .int .u32 own, .int .i64 now] w fun e w' => ∃ a cp, e = .returned (.slice a (([] : List Sd) ++ [tellS { S with now := hearN S.now now } (Arp.mk 1 ⟨s0, s1, s2, s3, s4, s5⟩ si ⟨d0, d1, d2, d3, d4, d5⟩ di)]).length cp) ∧ Hid (Answ w w' c m S { S with now := hearN S.now now } V a cp (([] : List Sd) ++ [tellS { S with now := hearN S.now now } (Arp.mk 1 ⟨s0, s1, s2, s3, s4, s5⟩ si ⟨d0, d1, d2, d3, d4, d5⟩ di)])) := by
  have HHE := hid (hear_on c m S V now #[.int .i64 o, .int .u8 s0, .int .u8 s1, .int .u8 s2, .int .u8 s3, .int .u8 s4, .int .u8 s5, .int .u32 si, .int .u8 d0, .int .u8 d1, .int .u8 d2, .int .u8 d3, .int .u8 d4, .int .u8 d5, .int .u32 di] w x)
  have HX := hid x
  have HP := hid hp
  have hcl := x.ltc
  have hml := x.ltm
  have HGR := hid (fun w1 => group_x ⟨s0, s1, s2, s3, s4, s5⟩ w1 hp.2.1)
  simp only [Mac.val] at HGR
  subst ho

  rw [hg] at HGR
  have HIH := hid (fun w1 => isHost_any si w1 hp.2.2.1.1 hp.2.2.1.2)
  rw [hh] at HIH
  have h3' : (own != 0) = true := by simpa using h3
  have h4' : (di == own) = true := by simp [h4]
  have HOW : Hid (({ S with now := hearN S.now now } : St).own = S.own) := rfl
  clear x hp hg hh h3 h4
  go_enter Try.func18, Try.ntmps18
  go_wp2_with (first
    | (go_at_call 37; with_reducible refine HHE.out.mono ?_; rintro e w1 ⟨rfl, hbx, HBX, HC1, HT1⟩)
    | (go_at_call 45; with_reducible refine (HGR.out _).mono ?_; rintro e w2 ⟨rfl, hb2⟩; have HBX2 := hid (kept HBX.out hb2); have hbx2 : ∀ q, w2.cell? ⟨w.heap.size, q, none⟩ = (#[.int .i64 1, .int .u8 s0, .int .u8 s1, .int .u8 s2, .int .u8 s3, .int .u8 s4, .int .u8 s5, .int .u32 si, .int .u8 d0, .int .u8 d1, .int .u8 d2, .int .u8 d3, .int .u8 d4, .int .u8 d5, .int .u32 di] : Array Value)[q]? := (fun q => cell_of_heap HBX2.out q); have HC2 := hid (HC1.out.below hb2); have HT2 := hid (HT1.out.trans (Two.of_below hb2)))
    | (go_at_call 46; with_reducible refine (HIH.out _).mono ?_; rintro e wi ⟨rfl, hwi⟩; subst wi)
    | fail)
  have HA3 : Hid (Answ w w2 c m S { S with now := hearN S.now now } V none 0 []) := Answ.void (fun z hz b hb => Or.inr ⟨z, hz, hb⟩) HC2.out HT2.out
  have HBX3 := HBX2
  obtain ⟨w3, hw3⟩ : ∃ z, z = w2 := ⟨_, rfl⟩
  rw [← hw3] at HA3 HBX3 ⊢
  clear hw3
  have HADD : Hid (∀ (w5 w6 : World) (g : Nat), Below w3.heap.size w3 w5 → Below w5.heap.size w5 w6 → w5.heap.size ≤ g → w6.heap[g]? = some (.cells (u8s (encL ⟨2, S.own, di, ⟨s0, s1, s2, s3, s4, s5⟩, si⟩)).toArray 5 (0, 0)) → ∃ a' cp' w7, (Builtin.append_ #[51, 51] 51 #[.slice none 0 0, .slice (some ⟨w6.heap.size, 0, none⟩) 1 1]).run Try.prog (w6.alloc (.cells #[.int .u8 s0, .int .u8 s1, .int .u8 s2, .int .u8 s3, .int .u8 s4, .int .u8 s5, .int .i64 2054, .slice (some ⟨g, 0, none⟩) 28 28] 59)) = .ok (.slice a' (([] : List Sd) ++ [tellS { S with now := hearN S.now now } (Arp.mk 1 ⟨s0, s1, s2, s3, s4, s5⟩ si ⟨d0, d1, d2, d3, d4, d5⟩ di)]).length cp') w7 ∧ Hid (Answ w w7 c m S { S with now := hearN S.now now } V a' cp' (([] : List Sd) ++ [tellS { S with now := hearN S.now now } (Arp.mk 1 ⟨s0, s1, s2, s3, s4, s5⟩ si ⟨d0, d1, d2, d3, d4, d5⟩ di)])) ∧ Hid (∀ (b : Nat) (C : Array Value) (t : TypeId) (f : Nat × Nat), w6.heap[b]? = some (Obj.cells C t f) → t ≠ 59 → w7.heap[b]? = some (Obj.cells C t f))) := fun w5 w6 g q1 q2 q3 q4 => by
    have hr := Row.of_heap q4 (by rw [u8s_len, encL_len]; unfold maxLen; omega)
    rw [u8s_len, encL_len] at hr
    exact HA3.out.add (bstep q1 q2) (tellS { S with now := hearN S.now now } (Arp.mk 1 ⟨s0, s1, s2, s3, s4, s5⟩ si ⟨d0, d1, d2, d3, d4, d5⟩ di)) (by have := q1.size; omega) hr (by simp)

  obtain ⟨V3, hCA⟩ := Answ.caw HA3.out
  have hcb := hCA.box
  have hcb2 : w3.heap[c]? = some (.cells #[.int .u8 S.own.b0, .int .u8 S.own.b1, .int .u8 S.own.b2, .int .u8 S.own.b3, .int .u8 S.own.b4, .int .u8 S.own.b5, .int .i64 ({ S with now := hearN S.now now } : St).most, .int .i64 ({ S with now := hearN S.now now } : St).now, .map (some m)] 76 (0, 0)) := by first | exact hcb | (rw [hcb]; simp only [caCells]; rw [HOW.out])
  have HON : Hid ((∀ q, w3.drew.cell? ⟨w.heap.size, q, none⟩ = (#[.int .i64 1, .int .u8 s0, .int .u8 s1, .int .u8 s2, .int .u8 s3, .int .u8 s4, .int .u8 s5, .int .u32 si, .int .u8 d0, .int .u8 d1, .int .u8 d2, .int .u8 d3, .int .u8 d4, .int .u8 d5, .int .u32 di] : Array Value)[q]?) ∧ (∀ q, w3.drew.cell? ⟨c, q, none⟩ = (#[.int .u8 S.own.b0, .int .u8 S.own.b1, .int .u8 S.own.b2, .int .u8 S.own.b3, .int .u8 S.own.b4, .int .u8 S.own.b5, .int .i64 ({ S with now := hearN S.now now } : St).most, .int .i64 ({ S with now := hearN S.now now } : St).now, .map (some m)] : Array Value)[q]?) ∧ OnK w.heap.size c #[.int .i64 1, .int .u8 s0, .int .u8 s1, .int .u8 s2, .int .u8 s3, .int .u8 s4, .int .u8 s5, .int .u32 si, .int .u8 d0, .int .u8 d1, .int .u8 d2, .int .u8 d3, .int .u8 d4, .int .u8 d5, .int .u32 di] #[.int .u8 S.own.b0, .int .u8 S.own.b1, .int .u8 S.own.b2, .int .u8 S.own.b3, .int .u8 S.own.b4, .int .u8 S.own.b5, .int .i64 ({ S with now := hearN S.now now } : St).most, .int .i64 ({ S with now := hearN S.now now } : St).now, .map (some m)] w3.drew) := onK_mk (w := w3.drew) HBX3.out hcb2
  have HTE := hid (fun w1 => tell_any S.own (Arp.mk 1 ⟨s0, s1, s2, s3, s4, s5⟩ si ⟨d0, d1, d2, d3, d4, d5⟩ di) w1)
  have HMS := hid (fun w1 => message_any ⟨s0, s1, s2, s3, s4, s5⟩ (tellP S.own (Arp.mk 1 ⟨s0, s1, s2, s3, s4, s5⟩ si ⟨d0, d1, d2, d3, d4, d5⟩ di)) w1 ⟨by simp [tellP], HX.out.ok.own, HP.out.2.2.2.2, HP.out.2.1, HP.out.2.2.1⟩ rfl)
  simp only [Arp.val, Mac.val, Sd.val, Sd.cells, tellP] at HTE HMS
  have hc3 := hCA.ltc
  have hx3 := heap_lt HBX3.out
  clear HBX3 hCA hcb hcb2
  go_region_held_law (fun x => (∀ q, x.cell? ⟨w.heap.size, q, none⟩ = (#[.int .i64 1, .int .u8 s0, .int .u8 s1, .int .u8 s2, .int .u8 s3, .int .u8 s4, .int .u8 s5, .int .u32 si, .int .u8 d0, .int .u8 d1, .int .u8 d2, .int .u8 d3, .int .u8 d4, .int .u8 d5, .int .u32 di] : Array Value)[q]?) ∧ (∀ q, x.cell? ⟨c, q, none⟩ = (#[.int .u8 S.own.b0, .int .u8 S.own.b1, .int .u8 S.own.b2, .int .u8 S.own.b3, .int .u8 S.own.b4, .int .u8 S.own.b5, .int .i64 ({ S with now := hearN S.now now } : St).most, .int .i64 ({ S with now := hearN S.now now } : St).now, .map (some m)] : Array Value)[q]?) ∧ OnK w.heap.size c #[.int .i64 1, .int .u8 s0, .int .u8 s1, .int .u8 s2, .int .u8 s3, .int .u8 s4, .int .u8 s5, .int .u32 si, .int .u8 d0, .int .u8 d1, .int .u8 d2, .int .u8 d3, .int .u8 d4, .int .u8 d5, .int .u32 di] #[.int .u8 S.own.b0, .int .u8 S.own.b1, .int .u8 S.own.b2, .int .u8 S.own.b3, .int .u8 S.own.b4, .int .u8 S.own.b5, .int .i64 ({ S with now := hearN S.now now } : St).most, .int .i64 ({ S with now := hearN S.now now } : St).now, .map (some m)] x) (first
    | assumption
    | exact HON.out
    | (refine onK_keep ?_ (bpush (Below.refl _ _) _); assumption)
    | (refine onK_app HKP ?_; first | assumption | (refine onK_keep ?_ hb6; first | assumption | (refine onK_keep ?_ hb5; first | assumption | exact HON.out)))
    | (refine onK_keep ?_ hb6; assumption)
    | (refine onK_keep ?_ hb5; first | assumption | exact HON.out)) (first
    | (refine step_append_run rfl _ _ _ _ rfl _ _ rfl rfl hrun ?_)
    | (go_at_call 49; refine (HTE.out _).mono ?_; rintro e w5 ⟨rfl, hb5⟩)
    | (go_at_call 48; refine (HMS.out _).mono ?_; rintro e w6 ⟨g, rfl, hg, hw6, hb6⟩; obtain ⟨a', cp', w7, hrun, HA7, HKP⟩ := HADD.out w5 w6 g (bundrew hb5) hb6 hg hw6)
    | fail)
  all_goals
    go_wp2_with fail
    go_ret
    first
      | exact ⟨_, _, rfl, HA7⟩
      | (refine ⟨a', cp', ?_, HA7⟩; rw [List.length_append]; rfl)

set_option maxRecDepth 40000 in
set_option maxHeartbeats 8000000 in
theorem on15 (c m : Nat) (S : St) (V : Int → Value) (o si di s0 s1 s2 s3 s4 s5 d0 d1 d2 d3 d4 d5 own now : Int) (w : World) (x : CaW w c m S V) (hp : (Arp.mk o ⟨s0, s1, s2, s3, s4, s5⟩ si ⟨d0, d1, d2, d3, d4, d5⟩ di).ok) (how : ipOk own) (ho : o = 1) (hg : grpB ⟨s0, s1, s2, s3, s4, s5⟩ = false) (h3 : ¬ own = 0) (h4 : di = own) (hh : hostB si = true) (h5 : si = own) :
    Calls Try.prog 18 #[.pointer (some ⟨c, 0, none⟩), .agg #[.int .i64 o, .int .u8 s0, .int .u8 s1, .int .u8 s2, .int .u8 s3, .int .u8 s4, .int .u8 s5, .int .u32 si, .int .u8 d0, .int .u8 d1, .int .u8 d2, .int .u8 d3, .int .u8 d4, .int .u8 d5, .int .u32 di], .int .u32 own, .int .i64 now] w fun e w' => ∃ a cp, e = .returned (.slice a (([] : List Sd) ++ [tellS { S with now := hearN S.now now } (Arp.mk 1 ⟨s0, s1, s2, s3, s4, s5⟩ si ⟨d0, d1, d2, d3, d4, d5⟩ di)]).length cp) ∧ Hid (Answ w w' c m S { S with now := hearN S.now now } V a cp (([] : List Sd) ++ [tellS { S with now := hearN S.now now } (Arp.mk 1 ⟨s0, s1, s2, s3, s4, s5⟩ si ⟨d0, d1, d2, d3, d4, d5⟩ di)])) := by
  have HHE := hid (hear_on c m S V now #[.int .i64 o, .int .u8 s0, .int .u8 s1, .int .u8 s2, .int .u8 s3, .int .u8 s4, .int .u8 s5, .int .u32 si, .int .u8 d0, .int .u8 d1, .int .u8 d2, .int .u8 d3, .int .u8 d4, .int .u8 d5, .int .u32 di] w x)
  have HX := hid x
  have HP := hid hp
  have hcl := x.ltc
  have hml := x.ltm
  have HGR := hid (fun w1 => group_x ⟨s0, s1, s2, s3, s4, s5⟩ w1 hp.2.1)
  simp only [Mac.val] at HGR
  subst ho

  rw [hg] at HGR
  have HIH := hid (fun w1 => isHost_any si w1 hp.2.2.1.1 hp.2.2.1.2)
  rw [hh] at HIH
  have h3' : (own != 0) = true := by simpa using h3
  have h4' : (di == own) = true := by simp [h4]
  have h5' : (si != own) = false := by simp [h5]
  have HOW : Hid (({ S with now := hearN S.now now } : St).own = S.own) := rfl
  clear x hp hg hh h3 h4 h5
  go_enter Try.func18, Try.ntmps18
  go_wp2_with (first
    | (go_at_call 37; with_reducible refine HHE.out.mono ?_; rintro e w1 ⟨rfl, hbx, HBX, HC1, HT1⟩)
    | (go_at_call 45; with_reducible refine (HGR.out _).mono ?_; rintro e w2 ⟨rfl, hb2⟩; have HBX2 := hid (kept HBX.out hb2); have hbx2 : ∀ q, w2.cell? ⟨w.heap.size, q, none⟩ = (#[.int .i64 1, .int .u8 s0, .int .u8 s1, .int .u8 s2, .int .u8 s3, .int .u8 s4, .int .u8 s5, .int .u32 si, .int .u8 d0, .int .u8 d1, .int .u8 d2, .int .u8 d3, .int .u8 d4, .int .u8 d5, .int .u32 di] : Array Value)[q]? := (fun q => cell_of_heap HBX2.out q); have HC2 := hid (HC1.out.below hb2); have HT2 := hid (HT1.out.trans (Two.of_below hb2)))
    | (go_at_call 46; with_reducible refine (HIH.out _).mono ?_; rintro e wi ⟨rfl, hwi⟩; subst wi)
    | fail)
  have HA3 : Hid (Answ w w2 c m S { S with now := hearN S.now now } V none 0 []) := Answ.void (fun z hz b hb => Or.inr ⟨z, hz, hb⟩) HC2.out HT2.out
  have HBX3 := HBX2
  obtain ⟨w3, hw3⟩ : ∃ z, z = w2 := ⟨_, rfl⟩
  rw [← hw3] at HA3 HBX3 ⊢
  clear hw3
  have HADD : Hid (∀ (w5 w6 : World) (g : Nat), Below w3.heap.size w3 w5 → Below w5.heap.size w5 w6 → w5.heap.size ≤ g → w6.heap[g]? = some (.cells (u8s (encL ⟨2, S.own, di, ⟨s0, s1, s2, s3, s4, s5⟩, si⟩)).toArray 5 (0, 0)) → ∃ a' cp' w7, (Builtin.append_ #[51, 51] 51 #[.slice none 0 0, .slice (some ⟨w6.heap.size, 0, none⟩) 1 1]).run Try.prog (w6.alloc (.cells #[.int .u8 s0, .int .u8 s1, .int .u8 s2, .int .u8 s3, .int .u8 s4, .int .u8 s5, .int .i64 2054, .slice (some ⟨g, 0, none⟩) 28 28] 59)) = .ok (.slice a' (([] : List Sd) ++ [tellS { S with now := hearN S.now now } (Arp.mk 1 ⟨s0, s1, s2, s3, s4, s5⟩ si ⟨d0, d1, d2, d3, d4, d5⟩ di)]).length cp') w7 ∧ Hid (Answ w w7 c m S { S with now := hearN S.now now } V a' cp' (([] : List Sd) ++ [tellS { S with now := hearN S.now now } (Arp.mk 1 ⟨s0, s1, s2, s3, s4, s5⟩ si ⟨d0, d1, d2, d3, d4, d5⟩ di)])) ∧ Hid (∀ (b : Nat) (C : Array Value) (t : TypeId) (f : Nat × Nat), w6.heap[b]? = some (Obj.cells C t f) → t ≠ 59 → w7.heap[b]? = some (Obj.cells C t f))) := fun w5 w6 g q1 q2 q3 q4 => by
    have hr := Row.of_heap q4 (by rw [u8s_len, encL_len]; unfold maxLen; omega)
    rw [u8s_len, encL_len] at hr
    exact HA3.out.add (bstep q1 q2) (tellS { S with now := hearN S.now now } (Arp.mk 1 ⟨s0, s1, s2, s3, s4, s5⟩ si ⟨d0, d1, d2, d3, d4, d5⟩ di)) (by have := q1.size; omega) hr (by simp)

  obtain ⟨V3, hCA⟩ := Answ.caw HA3.out
  have hcb := hCA.box
  have hcb2 : w3.heap[c]? = some (.cells #[.int .u8 S.own.b0, .int .u8 S.own.b1, .int .u8 S.own.b2, .int .u8 S.own.b3, .int .u8 S.own.b4, .int .u8 S.own.b5, .int .i64 ({ S with now := hearN S.now now } : St).most, .int .i64 ({ S with now := hearN S.now now } : St).now, .map (some m)] 76 (0, 0)) := by first | exact hcb | (rw [hcb]; simp only [caCells]; rw [HOW.out])
  have HON : Hid ((∀ q, w3.drew.cell? ⟨w.heap.size, q, none⟩ = (#[.int .i64 1, .int .u8 s0, .int .u8 s1, .int .u8 s2, .int .u8 s3, .int .u8 s4, .int .u8 s5, .int .u32 si, .int .u8 d0, .int .u8 d1, .int .u8 d2, .int .u8 d3, .int .u8 d4, .int .u8 d5, .int .u32 di] : Array Value)[q]?) ∧ (∀ q, w3.drew.cell? ⟨c, q, none⟩ = (#[.int .u8 S.own.b0, .int .u8 S.own.b1, .int .u8 S.own.b2, .int .u8 S.own.b3, .int .u8 S.own.b4, .int .u8 S.own.b5, .int .i64 ({ S with now := hearN S.now now } : St).most, .int .i64 ({ S with now := hearN S.now now } : St).now, .map (some m)] : Array Value)[q]?) ∧ OnK w.heap.size c #[.int .i64 1, .int .u8 s0, .int .u8 s1, .int .u8 s2, .int .u8 s3, .int .u8 s4, .int .u8 s5, .int .u32 si, .int .u8 d0, .int .u8 d1, .int .u8 d2, .int .u8 d3, .int .u8 d4, .int .u8 d5, .int .u32 di] #[.int .u8 S.own.b0, .int .u8 S.own.b1, .int .u8 S.own.b2, .int .u8 S.own.b3, .int .u8 S.own.b4, .int .u8 S.own.b5, .int .i64 ({ S with now := hearN S.now now } : St).most, .int .i64 ({ S with now := hearN S.now now } : St).now, .map (some m)] w3.drew) := onK_mk (w := w3.drew) HBX3.out hcb2
  have HTE := hid (fun w1 => tell_any S.own (Arp.mk 1 ⟨s0, s1, s2, s3, s4, s5⟩ si ⟨d0, d1, d2, d3, d4, d5⟩ di) w1)
  have HMS := hid (fun w1 => message_any ⟨s0, s1, s2, s3, s4, s5⟩ (tellP S.own (Arp.mk 1 ⟨s0, s1, s2, s3, s4, s5⟩ si ⟨d0, d1, d2, d3, d4, d5⟩ di)) w1 ⟨by simp [tellP], HX.out.ok.own, HP.out.2.2.2.2, HP.out.2.1, HP.out.2.2.1⟩ rfl)
  simp only [Arp.val, Mac.val, Sd.val, Sd.cells, tellP] at HTE HMS
  have hc3 := hCA.ltc
  have hx3 := heap_lt HBX3.out
  clear HBX3 hCA hcb hcb2
  go_region_held_law (fun x => (∀ q, x.cell? ⟨w.heap.size, q, none⟩ = (#[.int .i64 1, .int .u8 s0, .int .u8 s1, .int .u8 s2, .int .u8 s3, .int .u8 s4, .int .u8 s5, .int .u32 si, .int .u8 d0, .int .u8 d1, .int .u8 d2, .int .u8 d3, .int .u8 d4, .int .u8 d5, .int .u32 di] : Array Value)[q]?) ∧ (∀ q, x.cell? ⟨c, q, none⟩ = (#[.int .u8 S.own.b0, .int .u8 S.own.b1, .int .u8 S.own.b2, .int .u8 S.own.b3, .int .u8 S.own.b4, .int .u8 S.own.b5, .int .i64 ({ S with now := hearN S.now now } : St).most, .int .i64 ({ S with now := hearN S.now now } : St).now, .map (some m)] : Array Value)[q]?) ∧ OnK w.heap.size c #[.int .i64 1, .int .u8 s0, .int .u8 s1, .int .u8 s2, .int .u8 s3, .int .u8 s4, .int .u8 s5, .int .u32 si, .int .u8 d0, .int .u8 d1, .int .u8 d2, .int .u8 d3, .int .u8 d4, .int .u8 d5, .int .u32 di] #[.int .u8 S.own.b0, .int .u8 S.own.b1, .int .u8 S.own.b2, .int .u8 S.own.b3, .int .u8 S.own.b4, .int .u8 S.own.b5, .int .i64 ({ S with now := hearN S.now now } : St).most, .int .i64 ({ S with now := hearN S.now now } : St).now, .map (some m)] x) (first
    | assumption
    | exact HON.out
    | (refine onK_keep ?_ (bpush (Below.refl _ _) _); assumption)
    | (refine onK_app HKP ?_; first | assumption | (refine onK_keep ?_ hb6; first | assumption | (refine onK_keep ?_ hb5; first | assumption | exact HON.out)))
    | (refine onK_keep ?_ hb6; assumption)
    | (refine onK_keep ?_ hb5; first | assumption | exact HON.out)) (first
    | (refine step_append_run rfl _ _ _ _ rfl _ _ rfl rfl hrun ?_)
    | (go_at_call 49; refine (HTE.out _).mono ?_; rintro e w5 ⟨rfl, hb5⟩)
    | (go_at_call 48; refine (HMS.out _).mono ?_; rintro e w6 ⟨g, rfl, hg, hw6, hb6⟩; obtain ⟨a', cp', w7, hrun, HA7, HKP⟩ := HADD.out w5 w6 g (bundrew hb5) hb6 hg hw6)
    | fail)
  all_goals
    go_wp2_with fail
    go_ret
    first
      | exact ⟨_, _, rfl, HA7⟩
      | (refine ⟨a', cp', ?_, HA7⟩; rw [List.length_append]; rfl)

set_option maxRecDepth 40000 in
set_option maxHeartbeats 8000000 in
theorem on16 (c m : Nat) (S : St) (V : Int → Value) (o si di s0 s1 s2 s3 s4 s5 d0 d1 d2 d3 d4 d5 own now : Int) (w : World) (x : CaW w c m S V) (hp : (Arp.mk o ⟨s0, s1, s2, s3, s4, s5⟩ si ⟨d0, d1, d2, d3, d4, d5⟩ di).ok) (how : ipOk own) (ho : o = 1) (hg : grpB ⟨s0, s1, s2, s3, s4, s5⟩ = false) (h3 : ¬ own = 0) (h4 : di = own) (hh : hostB si = true) (h5 : ¬ si = own) :
    Calls Try.prog 18 #[.pointer (some ⟨c, 0, none⟩), .agg #[.int .i64 o, .int .u8 s0, .int .u8 s1, .int .u8 s2, .int .u8 s3, .int .u8 s4, .int .u8 s5, .int .u32 si, .int .u8 d0, .int .u8 d1, .int .u8 d2, .int .u8 d3, .int .u8 d4, .int .u8 d5, .int .u32 di], .int .u32 own, .int .i64 now] w fun e w' => ∃ a cp, e = .returned (.slice a ((learnF { S with now := hearN S.now now } si ⟨s0, s1, s2, s3, s4, s5⟩ true).2 ++ [tellS { S with now := hearN S.now now } (Arp.mk 1 ⟨s0, s1, s2, s3, s4, s5⟩ si ⟨d0, d1, d2, d3, d4, d5⟩ di)]).length cp) ∧ Hid (Answ w w' c m S (learnF { S with now := hearN S.now now } si ⟨s0, s1, s2, s3, s4, s5⟩ true).1 V a cp ((learnF { S with now := hearN S.now now } si ⟨s0, s1, s2, s3, s4, s5⟩ true).2 ++ [tellS { S with now := hearN S.now now } (Arp.mk 1 ⟨s0, s1, s2, s3, s4, s5⟩ si ⟨d0, d1, d2, d3, d4, d5⟩ di)])) := by
  have HHE := hid (hear_on c m S V now #[.int .i64 o, .int .u8 s0, .int .u8 s1, .int .u8 s2, .int .u8 s3, .int .u8 s4, .int .u8 s5, .int .u32 si, .int .u8 d0, .int .u8 d1, .int .u8 d2, .int .u8 d3, .int .u8 d4, .int .u8 d5, .int .u32 di] w x)
  have HX := hid x
  have HP := hid hp
  have hcl := x.ltc
  have hml := x.ltm
  have HGR := hid (fun w1 => group_x ⟨s0, s1, s2, s3, s4, s5⟩ w1 hp.2.1)
  simp only [Mac.val] at HGR
  subst ho

  rw [hg] at HGR
  have HIH := hid (fun w1 => isHost_any si w1 hp.2.2.1.1 hp.2.2.1.2)
  rw [hh] at HIH
  have h3' : (own != 0) = true := by simpa using h3
  have h4' : (di == own) = true := by simp [h4]
  have h5' : (si != own) = true := by simpa using h5
  have HLE := hid (fun w1 (y : CaW w1 c m { S with now := hearN S.now now } V) => learn_any c m { S with now := hearN S.now now } V si ⟨s0, s1, s2, s3, s4, s5⟩ true w1 y hp.2.2.1 hp.2.1)
  simp only [Mac.val] at HLE
  have HOW : Hid ((learnF { S with now := hearN S.now now } si ⟨s0, s1, s2, s3, s4, s5⟩ true).1.own = S.own) := learnF_own _ _ _ _
  have hln := learnF_len { S with now := hearN S.now now } si ⟨s0, s1, s2, s3, s4, s5⟩ true
  obtain ⟨rs, hrs⟩ : ∃ z, z = learnF { S with now := hearN S.now now } si ⟨s0, s1, s2, s3, s4, s5⟩ true := ⟨_, rfl⟩
  rw [← hrs] at HLE HOW hln ⊢
  clear hrs
  clear x hp hg hh h3 h4 h5
  go_enter Try.func18, Try.ntmps18
  go_wp2_with (first
    | (go_at_call 37; with_reducible refine HHE.out.mono ?_; rintro e w1 ⟨rfl, hbx, HBX, HC1, HT1⟩)
    | (go_at_call 45; with_reducible refine (HGR.out _).mono ?_; rintro e w2 ⟨rfl, hb2⟩; have HBX2 := hid (kept HBX.out hb2); have hbx2 : ∀ q, w2.cell? ⟨w.heap.size, q, none⟩ = (#[.int .i64 1, .int .u8 s0, .int .u8 s1, .int .u8 s2, .int .u8 s3, .int .u8 s4, .int .u8 s5, .int .u32 si, .int .u8 d0, .int .u8 d1, .int .u8 d2, .int .u8 d3, .int .u8 d4, .int .u8 d5, .int .u32 di] : Array Value)[q]? := (fun q => cell_of_heap HBX2.out q); have HC2 := hid (HC1.out.below hb2); have HT2 := hid (HT1.out.trans (Two.of_below hb2)))
    | (go_at_call 46; with_reducible refine (HIH.out _).mono ?_; rintro e wi ⟨rfl, hwi⟩; subst wi)
    | (go_at_call 47; refine (HLE.out _ HC2.out).mono ?_; rintro e w3 ⟨a, cp, rfl, HA⟩; have HA3 := hid (HA.out.start (S := S) HT2.out rfl); have HBX3 : Hid (w3.heap[w.heap.size]? = some (.cells #[.int .i64 1, .int .u8 s0, .int .u8 s1, .int .u8 s2, .int .u8 s3, .int .u8 s4, .int .u8 s5, .int .u32 si, .int .u8 d0, .int .u8 d1, .int .u8 d2, .int .u8 d3, .int .u8 d4, .int .u8 d5, .int .u32 di] 42 (0, 0))) := (Answ.blk HA.out (by omega) (by omega) HBX2.out))
    | fail)
  have HADD : Hid (∀ (w5 w6 : World) (g : Nat), Below w3.heap.size w3 w5 → Below w5.heap.size w5 w6 → w5.heap.size ≤ g → w6.heap[g]? = some (.cells (u8s (encL ⟨2, S.own, di, ⟨s0, s1, s2, s3, s4, s5⟩, si⟩)).toArray 5 (0, 0)) → ∃ a' cp' w7, (Builtin.append_ #[51, 51] 51 #[.slice a rs.2.length cp, .slice (some ⟨w6.heap.size, 0, none⟩) 1 1]).run Try.prog (w6.alloc (.cells #[.int .u8 s0, .int .u8 s1, .int .u8 s2, .int .u8 s3, .int .u8 s4, .int .u8 s5, .int .i64 2054, .slice (some ⟨g, 0, none⟩) 28 28] 59)) = .ok (.slice a' (rs.2 ++ [tellS { S with now := hearN S.now now } (Arp.mk 1 ⟨s0, s1, s2, s3, s4, s5⟩ si ⟨d0, d1, d2, d3, d4, d5⟩ di)]).length cp') w7 ∧ Hid (Answ w w7 c m S rs.1 V a' cp' (rs.2 ++ [tellS { S with now := hearN S.now now } (Arp.mk 1 ⟨s0, s1, s2, s3, s4, s5⟩ si ⟨d0, d1, d2, d3, d4, d5⟩ di)])) ∧ Hid (∀ (b : Nat) (C : Array Value) (t : TypeId) (f : Nat × Nat), w6.heap[b]? = some (Obj.cells C t f) → t ≠ 59 → w7.heap[b]? = some (Obj.cells C t f))) := fun w5 w6 g q1 q2 q3 q4 => by
    have hr := Row.of_heap q4 (by rw [u8s_len, encL_len]; unfold maxLen; omega)
    rw [u8s_len, encL_len] at hr
    exact HA3.out.add (bstep q1 q2) (tellS { S with now := hearN S.now now } (Arp.mk 1 ⟨s0, s1, s2, s3, s4, s5⟩ si ⟨d0, d1, d2, d3, d4, d5⟩ di)) (by have := q1.size; omega) hr (by omega)

  obtain ⟨V3, hCA⟩ := Answ.caw HA3.out
  have hcb := hCA.box
  have hcb2 : w3.heap[c]? = some (.cells #[.int .u8 S.own.b0, .int .u8 S.own.b1, .int .u8 S.own.b2, .int .u8 S.own.b3, .int .u8 S.own.b4, .int .u8 S.own.b5, .int .i64 rs.1.most, .int .i64 rs.1.now, .map (some m)] 76 (0, 0)) := by first | exact hcb | (rw [hcb]; simp only [caCells]; rw [HOW.out])
  have HON : Hid ((∀ q, w3.drew.cell? ⟨w.heap.size, q, none⟩ = (#[.int .i64 1, .int .u8 s0, .int .u8 s1, .int .u8 s2, .int .u8 s3, .int .u8 s4, .int .u8 s5, .int .u32 si, .int .u8 d0, .int .u8 d1, .int .u8 d2, .int .u8 d3, .int .u8 d4, .int .u8 d5, .int .u32 di] : Array Value)[q]?) ∧ (∀ q, w3.drew.cell? ⟨c, q, none⟩ = (#[.int .u8 S.own.b0, .int .u8 S.own.b1, .int .u8 S.own.b2, .int .u8 S.own.b3, .int .u8 S.own.b4, .int .u8 S.own.b5, .int .i64 rs.1.most, .int .i64 rs.1.now, .map (some m)] : Array Value)[q]?) ∧ OnK w.heap.size c #[.int .i64 1, .int .u8 s0, .int .u8 s1, .int .u8 s2, .int .u8 s3, .int .u8 s4, .int .u8 s5, .int .u32 si, .int .u8 d0, .int .u8 d1, .int .u8 d2, .int .u8 d3, .int .u8 d4, .int .u8 d5, .int .u32 di] #[.int .u8 S.own.b0, .int .u8 S.own.b1, .int .u8 S.own.b2, .int .u8 S.own.b3, .int .u8 S.own.b4, .int .u8 S.own.b5, .int .i64 rs.1.most, .int .i64 rs.1.now, .map (some m)] w3.drew) := onK_mk (w := w3.drew) HBX3.out hcb2
  have HTE := hid (fun w1 => tell_any S.own (Arp.mk 1 ⟨s0, s1, s2, s3, s4, s5⟩ si ⟨d0, d1, d2, d3, d4, d5⟩ di) w1)
  have HMS := hid (fun w1 => message_any ⟨s0, s1, s2, s3, s4, s5⟩ (tellP S.own (Arp.mk 1 ⟨s0, s1, s2, s3, s4, s5⟩ si ⟨d0, d1, d2, d3, d4, d5⟩ di)) w1 ⟨by simp [tellP], HX.out.ok.own, HP.out.2.2.2.2, HP.out.2.1, HP.out.2.2.1⟩ rfl)
  simp only [Arp.val, Mac.val, Sd.val, Sd.cells, tellP] at HTE HMS
  have hc3 := hCA.ltc
  have hx3 := heap_lt HBX3.out
  clear HBX3 hCA hcb hcb2
  go_region_held_law (fun x => (∀ q, x.cell? ⟨w.heap.size, q, none⟩ = (#[.int .i64 1, .int .u8 s0, .int .u8 s1, .int .u8 s2, .int .u8 s3, .int .u8 s4, .int .u8 s5, .int .u32 si, .int .u8 d0, .int .u8 d1, .int .u8 d2, .int .u8 d3, .int .u8 d4, .int .u8 d5, .int .u32 di] : Array Value)[q]?) ∧ (∀ q, x.cell? ⟨c, q, none⟩ = (#[.int .u8 S.own.b0, .int .u8 S.own.b1, .int .u8 S.own.b2, .int .u8 S.own.b3, .int .u8 S.own.b4, .int .u8 S.own.b5, .int .i64 rs.1.most, .int .i64 rs.1.now, .map (some m)] : Array Value)[q]?) ∧ OnK w.heap.size c #[.int .i64 1, .int .u8 s0, .int .u8 s1, .int .u8 s2, .int .u8 s3, .int .u8 s4, .int .u8 s5, .int .u32 si, .int .u8 d0, .int .u8 d1, .int .u8 d2, .int .u8 d3, .int .u8 d4, .int .u8 d5, .int .u32 di] #[.int .u8 S.own.b0, .int .u8 S.own.b1, .int .u8 S.own.b2, .int .u8 S.own.b3, .int .u8 S.own.b4, .int .u8 S.own.b5, .int .i64 rs.1.most, .int .i64 rs.1.now, .map (some m)] x) (first
    | assumption
    | exact HON.out
    | (refine onK_keep ?_ (bpush (Below.refl _ _) _); assumption)
    | (refine onK_app HKP ?_; first | assumption | (refine onK_keep ?_ hb6; first | assumption | (refine onK_keep ?_ hb5; first | assumption | exact HON.out)))
    | (refine onK_keep ?_ hb6; assumption)
    | (refine onK_keep ?_ hb5; first | assumption | exact HON.out)) (first
    | (refine step_append_run rfl _ _ _ _ rfl _ _ rfl rfl hrun ?_)
    | (go_at_call 49; refine (HTE.out _).mono ?_; rintro e w5 ⟨rfl, hb5⟩)
    | (go_at_call 48; refine (HMS.out _).mono ?_; rintro e w6 ⟨g, rfl, hg, hw6, hb6⟩; obtain ⟨a', cp', w7, hrun, HA7, HKP⟩ := HADD.out w5 w6 g (bundrew hb5) hb6 hg hw6)
    | fail)
  all_goals
    go_wp2_with fail
    go_ret
    first
      | exact ⟨_, _, rfl, HA7⟩
      | (refine ⟨a', cp', ?_, HA7⟩; rw [List.length_append]; rfl)
end Go.Proofs.Ytaaoelhmanahpaa
