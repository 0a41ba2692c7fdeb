/-
  inet.Decode.
-/
import Derived.Test.YtccmkljbedddiaaIRec
import Derived.Test.YtccmkljbedddiaaBSum
import Derived.Test.YtccmkljbedddiaaBAns
namespace Go.Proofs.Ytccmkljbedddiaa
open Go.RowKit
set_option linter.all false

/-- a struct, bytes and a number as results that a closure reaches. -/
theorem results_row3 {fn : Func} {p q r : Tmp} (h : fn.results = #[.cell p 27, .cell q 28, .cell r 23]) (tmps : Array Value) (w : World) (gh gd ge : Nat) (cs : Array Value) (v e : Value) (d : Array Value)
    (hp : tmps.getD p undef = .pointer (some ⟨gh, 0, none⟩)) (hq : tmps.getD q undef = .pointer (some ⟨gd, 0, none⟩)) (hr : tmps.getD r undef = .pointer (some ⟨ge, 0, none⟩))
    (h1 : w.heap[gh]? = some (.cells cs 27 (0, 0))) (hs : cs.size = 7) (h2 : w.heap[gd]? = some (.cells #[v] 28 (0, 0))) (h3 : w.heap[ge]? = some (.cells #[e] 23 (0, 0))) (hv : ∃ a n c, v = .slice a n c) (he : ∃ n, e = .int .i64 n) :
    (results fn tmps).run Try.prog w = .ok (.tuple #[.agg cs, v, e]) w := by
  have hp' : tmps[p]?.getD undef = .pointer (some ⟨gh, 0, none⟩) := by simpa using hp
  have hq' : tmps[q]?.getD undef = .pointer (some ⟨gd, 0, none⟩) := by simpa using hq
  have hr' : tmps[r]?.getD undef = .pointer (some ⟨ge, 0, none⟩) := by simpa using hr
  have c2 : w.cell? ⟨gd, 0, none⟩ = some v := cell_of_heap h2 0
  have c3 : w.cell? ⟨ge, 0, none⟩ = some e := cell_of_heap h3 0
  have l1 := run_loadVar_row (P := Try.prog) w gh 27 27 cs (0, 0) _ h1 Try.underlying27 rfl (by rw [hs]; kernel_rfl)
  obtain ⟨a, n, c, rfl⟩ := hv
  obtain ⟨m, rfl⟩ := he
  have l2 : (loadVar 28 ⟨gd, 0, none⟩).run Try.prog w = .ok (.slice a n c) w := by simp [loadVar, run_underlying Try.underlying28, go_sem, c2]
  have l3 : (loadVar 23 ⟨ge, 0, none⟩).run Try.prog w = .ok (.int .i64 m) w := by simp [loadVar, run_underlying Try.underlying23, go_sem, c3]
  simp [results, h, hp', hq', hr', asAddr, l1, l2, l3]

/-- what Decode answers. -/
def decE (zs : List Int) : Int := if lenE zs = 0 then (if sumOf (zs.take 20) = 0 then fldE zs else 93) else lenE zs
def decA (zs : List Int) : Ip := if decE zs = 0 then decP zs else zeroIp
def decD (zs : List Int) : List Int := if decE zs = 0 then (zs.drop 20).take ((numAt zs 2 2).toNat - 20) else []
theorem lenE_len {zs : List Int} (h : lenE zs = 0) : 20 ≤ zs.length ∧ 20 ≤ numAt zs 2 2 ∧ numAt zs 2 2 ≤ zs.length := by
  unfold lenE at h
  split at h
  · omega
  split at h
  · omega
  split at h
  · omega
  split at h
  · omega
  split at h
  · omega
  omega

/-- a Decode under way: its three results' boxes. -/
def DecI (w : World) (H : Array Value) (D : Value) (w' : World) : Prop :=
  w'.heap[w.heap.size]? = some (.cells H 27 (0, 0)) ∧ w'.heap[w.heap.size + 1]? = some (.cells #[D] 28 (0, 0)) ∧ w'.heap[w.heap.size + 2]? = some (.cells #[.int .i64 0] 23 (0, 0)) ∧ Below w.heap.size w w'
theorem decI_first (w : World) (H : Array Value) (D : Value) : DecI w H D (((w.alloc (.cells H 27)).alloc (.cells #[D] 28)).alloc (.cells #[.int .i64 0] 23)) := by
  have h := (((Holds.nil w).push (.cells H 27)).push (.cells #[D] 28)).push (.cells #[.int .i64 0] 23)
  simp only [World.size_alloc] at h
  exact ⟨h.at 2 _ _ rfl, h.at 1 _ _ rfl, h.at 0 _ _ rfl, bpush (bpush (bpush (Below.refl _ _) _) _) _⟩
theorem decI_below {w W w' : World} {H : Array Value} {D : Value} (h : DecI w H D W) (hb : Below W.heap.size W w') : DecI w H D w' := ⟨kept h.1 hb, kept h.2.1 hb, kept h.2.2.1 hb, bstep h.2.2.2 hb⟩
theorem decI_head {w W w' : World} {H H' : Array Value} {D : Value} (h : DecI w H D W) (hg : w'.heap[w.heap.size]? = some (.cells H' 27 (0, 0))) (hb : But w.heap.size W w') : DecI w H' D w' := ⟨hg, keptBut h.2.1 hb (by omega), keptBut h.2.2.1 hb (by omega), bbut h.2.2.2 hb (Nat.le_refl _)⟩
theorem decI_data {w W w' : World} {H : Array Value} {D D' : Value} (h : DecI w H D W) (hg : w'.heap[w.heap.size + 1]? = some (.cells #[D'] 28 (0, 0))) (hb : But (w.heap.size + 1) W w') : DecI w H D' w' := ⟨keptBut h.1 hb (by omega), hg, keptBut h.2.2.1 hb (by omega), bbut h.2.2.2 hb (by omega)⟩
theorem decI_err {w W w' : World} {H : Array Value} {D : Value} (h : DecI w H D W) (hg : w'.heap[w.heap.size + 2]? = some (.cells #[.int .i64 0] 23 (0, 0))) (hb : But (w.heap.size + 2) W w') : DecI w H D w' := ⟨keptBut h.1 hb (by omega), keptBut h.2.1 hb (by omega), hg, bbut h.2.2.2 hb (by omega)⟩
theorem decI_but {w W w' : World} {g : Nat} {H : Array Value} {D : Value} (h : DecI w H D W) (hg : w.heap.size + 3 ≤ g) (hb : But g W w') : DecI w H D w' := ⟨keptBut h.1 hb (by omega), keptBut h.2.1 hb (by omega), keptBut h.2.2.1 hb (by omega), bbut h.2.2.2 hb (by omega)⟩
theorem decI_tri {w W w' : World} {H : Array Value} {D : Value} (h : DecI w H D W) (ht : Tri w.heap.size (w.heap.size + 1) (w.heap.size + 2) W w') : Below w.heap.size w w' :=
  h.2.2.2.trans ⟨ht.os, ht.tape, ht.output, ht.size, fun k hk => ht.block k (by omega) (by omega) (by omega) (by have := h.2.2.2.size; omega)⟩

/-- the door, where something was given up. -/
theorem door_panic (w W : World) (c : Int) (H : Array Value) (D : Value) (hs : H.size = 7) (h : DecI w H D W) (tmps : Array Value) (h2 : tmps.getD 2 undef = .pointer (some ⟨w.heap.size, 0, none⟩)) (h3 : tmps.getD 3 undef = .pointer (some ⟨w.heap.size + 1, 0, none⟩)) (h4 : tmps.getD 4 undef = .pointer (some ⟨w.heap.size + 2, 0, none⟩)) :
    Leaves Try.prog Try.f16 tmps (fun e w' => e = .returned (.tuple #[zeroIp.val, .slice none 0 0, .int .i64 c]) ∧ Below w.heap.size w w') [{ target := .fn (.func 25) #[.pointer (some ⟨w.heap.size, 0, none⟩), .pointer (some ⟨w.heap.size + 1, 0, none⟩), .pointer (some ⟨w.heap.size + 2, 0, none⟩)], args := #[] }] (.panicking [{ v := .iface 23 (.int .i64 c), recovered := false }]) W := by
  refine leaves_cons (f := 25) (args := #[.pointer (some ⟨w.heap.size, 0, none⟩), .pointer (some ⟨w.heap.size + 1, 0, none⟩), .pointer (some ⟨w.heap.size + 2, 0, none⟩)]) (by simp) (by simp [go_sem]) ?_
  refine (catch_panicking _ _ _ c [] W H D (.int .i64 0) h.1 hs h.2.1 h.2.2.1 (by omega) (by omega) (by omega)).mono ?_
  rintro e u' w' ⟨rfl, rfl, q1, q2, q3, q4⟩
  refine ⟨_, results_row3 Try.results16 _ _ _ _ _ _ _ _ #[] h2 h3 h4 q1 rfl q2 q3 ⟨_, _, _, rfl⟩ ⟨_, rfl⟩, rfl, decI_tri h q4⟩
/-- the door, where nothing was. -/
theorem door_return (w W : World) (H : Array Value) (a : Option Addr) (n c : Nat) (hs : H.size = 7) (h : DecI w H (.slice a n c) W) (tmps : Array Value) (h2 : tmps.getD 2 undef = .pointer (some ⟨w.heap.size, 0, none⟩)) (h3 : tmps.getD 3 undef = .pointer (some ⟨w.heap.size + 1, 0, none⟩)) (h4 : tmps.getD 4 undef = .pointer (some ⟨w.heap.size + 2, 0, none⟩)) (R : Ending → World → Prop) (hR : R (.returned (.tuple #[.agg H, .slice a n c, .int .i64 0])) W) :
    Leaves Try.prog Try.f16 tmps R [{ target := .fn (.func 25) #[.pointer (some ⟨w.heap.size, 0, none⟩), .pointer (some ⟨w.heap.size + 1, 0, none⟩), .pointer (some ⟨w.heap.size + 2, 0, none⟩)], args := #[] }] .returning W := by
  refine leaves_cons (f := 25) (args := #[.pointer (some ⟨w.heap.size, 0, none⟩), .pointer (some ⟨w.heap.size + 1, 0, none⟩), .pointer (some ⟨w.heap.size + 2, 0, none⟩)]) (by simp) (by simp [go_sem]) ?_
  refine (catch_idle _ _ _ W).mono ?_
  rintro e u' w' ⟨rfl, rfl, rfl⟩
  refine ⟨_, results_row3 Try.results16 _ _ _ _ _ _ _ _ #[] h2 h3 h4 h.1 hs h.2.1 h.2.2.1 ⟨_, _, _, rfl⟩ ⟨_, rfl⟩, hR⟩

set_option maxRecDepth 20000 in
set_option maxHeartbeats 1000000 in
theorem decode_len (pt : Part) (w : World) (hok : pt.ok w) (hl : pt.zs.length ≤ 281474976710656) (hE : ¬ lenE pt.zs = 0) :
    Calls Try.prog 16 #[pt.val] w fun e w' => e = .returned (.tuple #[zeroIp.val, .slice none 0 0, .int .i64 (lenE pt.zs)]) ∧ Below w.heap.size w w' := by
  have hmf : ∀ (fn : Fn) (first cap : Array Value) (w : World), (Instr.makeFunc fn first cap).run Try.prog w = .ok (.func fn first cap) w := fun _ _ _ _ => rfl
  have HL : Hid (∀ w' : World, Below w.heap.size w w' → Calls Try.prog 26 #[pt.val] w' fun e w'' => e = .panicked [{ v := .iface 23 (.int .i64 (lenE pt.zs)), recovered := false }] ∧ w'' = w') := fun w' hb => (readLength_any pt w' (Part.ok_below hok hb) hl).mono fun e w'' ⟨he, hw⟩ => ⟨by rw [he, upE, if_neg hE]; rfl, hw⟩
  have H0 := hid (decI_first w #[.int .i64 0, .int .i64 0, .int .i64 0, .int .i64 0, .bool false, .int .u32 0, .int .u32 0] (.slice none 0 0))
  generalize lenE pt.zs = E at *
  unfold Part.val at *
  generalize pt.zs.length = l at *
  clear hok
  go_enter_defers Try.func16, Try.ntmps16
  go_wp2_with fail
  refine (HL.out _ H0.out.2.2.2).mono ?_
  rintro e w1 ⟨rfl, hw⟩
  subst w1
  exact door_panic w _ E _ _ rfl H0.out _ rfl rfl rfl

set_option maxRecDepth 20000 in
set_option maxHeartbeats 1000000 in
theorem decode_sum (pt : Part) (w : World) (hok : pt.ok w) (hl : pt.zs.length ≤ 281474976710656) (hE : lenE pt.zs = 0) (hS : ¬ sumOf (pt.zs.take 20) = 0) :
    Calls Try.prog 16 #[pt.val] w fun e w' => e = .returned (.tuple #[zeroIp.val, .slice none 0 0, .int .i64 93]) ∧ Below w.heap.size w w' := by
  have hmf : ∀ (fn : Fn) (first cap : Array Value) (w : World), (Instr.makeFunc fn first cap).run Try.prog w = .ok (.func fn first cap) w := fun _ _ _ _ => rfl
  have HNo := hid @need_no
  obtain ⟨h20, hn0, hn1⟩ := lenE_len hE
  have HL : Hid (∀ w' : World, Below w.heap.size w w' → Calls Try.prog 26 #[pt.val] w' fun e w'' => e = .returned (.int .i64 (numAt pt.zs 2 2)) ∧ w'' = w') := fun w' hb => (readLength_any pt w' (Part.ok_below hok hb) hl).mono fun e w'' ⟨he, hw⟩ => ⟨by rw [he, upE, if_pos hE], hw⟩
  obtain ⟨b, o, ha⟩ : ∃ b o, pt.a = some ⟨b, o, none⟩ := by
    rcases hok.2.2 with he | ⟨b, o, ha, _⟩
    · rw [he] at h20; simp at h20
    · exact ⟨b, o, ha⟩
  have hcap := hok.2.1
  obtain ⟨pa, c, zs⟩ := pt
  simp only at *
  subst ha
  have HS : Hid (∀ (w' : World) (g : Nat), Below w.heap.size w w' → w'.cell? ⟨g, 0, none⟩ = some (.slice (some ⟨b, o, none⟩) 20 c) → Calls Try.prog 22 #[.slice (some ⟨g, 0, none⟩) 1 1] w' fun e w'' => e = .returned (.int .u16 (sumOf (zs.take 20))) ∧ w'' = w') := fun w' g hb hc => by
    have hsub := Part.sub_ok (Part.ok_below hok hb) 0 20 c (by omega) (by omega)
    have := sum_one g ⟨some ⟨b, o + 0, none⟩, c, (zs.drop 0).take 20⟩ w' (by rw [hc]; simp [Part.val]; omega) hsub (by simp; omega)
    simpa using this
  have H0 := hid (decI_first w #[.int .i64 0, .int .i64 0, .int .i64 0, .int .i64 0, .bool false, .int .u32 0, .int .u32 0] (.slice none 0 0))
  clear hok hE
  unfold Part.val at *
  simp only at *
  generalize numAt zs 2 2 = N at *
  generalize zs.length = l at *
  have c20 : (20 : Int) ≤ (c : Int) := by omega
  generalize sumOf (zs.take 20) = SU at *
  have q1 : (SU == 0) = false := by simpa using hS
  clear hS
  go_enter_defers Try.func16, Try.ntmps16
  go_wp2_with fail
  refine (HL.out _ H0.out.2.2.2).mono ?_
  rintro e w1 ⟨rfl, hw⟩
  subst w1
  generalize hW : World.alloc _ (.cells #[.int .i64 0] 23) = W at *
  clear hW
  go_wp2_with fail
  refine (HS.out _ W.heap.size (bpush H0.out.2.2.2 _) (by simp [go_sem])).mono ?_
  rintro e w1 ⟨rfl, hw⟩
  subst w1
  have H1 := hid (decI_below H0.out (bpush (Below.refl _ _) (.cells #[.slice (some ⟨b, o, none⟩) 20 c] 28)))
  generalize hW2 : W.alloc _ = W2 at *
  clear hW2 H0
  go_wp2_with fail
  refine (HNo.out _ _).mono ?_
  rintro e w1 ⟨rfl, hw⟩
  subst w1
  exact door_panic w _ 93 _ _ rfl H1.out _ rfl rfl rfl

set_option maxRecDepth 20000 in
set_option maxHeartbeats 1000000 in
theorem decode_fld (pt : Part) (w : World) (hok : pt.ok w) (hl : pt.zs.length ≤ 281474976710656) (hE : lenE pt.zs = 0) (hS : sumOf (pt.zs.take 20) = 0) (hF : ¬ fldE pt.zs = 0) :
    Calls Try.prog 16 #[pt.val] w fun e w' => e = .returned (.tuple #[zeroIp.val, .slice none 0 0, .int .i64 (fldE pt.zs)]) ∧ Below w.heap.size w w' := by
  have hmf : ∀ (fn : Fn) (first cap : Array Value) (w : World), (Instr.makeFunc fn first cap).run Try.prog w = .ok (.func fn first cap) w := fun _ _ _ _ => rfl
  have HYes := hid @need_yes
  have HRF : Hid (∀ w' : World, Below w.heap.size w w' → Calls Try.prog 28 #[pt.val] w' fun e w'' => e = .panicked [{ v := .iface 23 (.int .i64 (fldE pt.zs)), recovered := false }] ∧ Below w'.heap.size w' w'') := fun w' hb => (readFields_any pt w' (Part.ok_below hok hb) hl (lenE_len hE).1).mono fun e w'' ⟨he, hw⟩ => ⟨by rw [he, upE, if_neg hF]; rfl, hw⟩
  obtain ⟨h20, hn0, hn1⟩ := lenE_len hE
  have HL : Hid (∀ w' : World, Below w.heap.size w w' → Calls Try.prog 26 #[pt.val] w' fun e w'' => e = .returned (.int .i64 (numAt pt.zs 2 2)) ∧ w'' = w') := fun w' hb => (readLength_any pt w' (Part.ok_below hok hb) hl).mono fun e w'' ⟨he, hw⟩ => ⟨by rw [he, upE, if_pos hE], hw⟩
  obtain ⟨b, o, ha⟩ : ∃ b o, pt.a = some ⟨b, o, none⟩ := by
    rcases hok.2.2 with he | ⟨b, o, ha, _⟩
    · rw [he] at h20; simp at h20
    · exact ⟨b, o, ha⟩
  have hcap := hok.2.1
  obtain ⟨pa, c, zs⟩ := pt
  simp only at *
  subst ha
  have HS : Hid (∀ (w' : World) (g : Nat), Below w.heap.size w w' → w'.cell? ⟨g, 0, none⟩ = some (.slice (some ⟨b, o, none⟩) 20 c) → Calls Try.prog 22 #[.slice (some ⟨g, 0, none⟩) 1 1] w' fun e w'' => e = .returned (.int .u16 (sumOf (zs.take 20))) ∧ w'' = w') := fun w' g hb hc => by
    have hsub := Part.sub_ok (Part.ok_below hok hb) 0 20 c (by omega) (by omega)
    have := sum_one g ⟨some ⟨b, o + 0, none⟩, c, (zs.drop 0).take 20⟩ w' (by rw [hc]; simp [Part.val]; omega) hsub (by simp; omega)
    simpa using this
  have H0 := hid (decI_first w #[.int .i64 0, .int .i64 0, .int .i64 0, .int .i64 0, .bool false, .int .u32 0, .int .u32 0] (.slice none 0 0))
  clear hok hE
  unfold Part.val at *
  simp only at *
  generalize numAt zs 2 2 = N at *
  generalize zs.length = l at *
  have c20 : (20 : Int) ≤ (c : Int) := by omega
  generalize fldE zs = FE at *
  generalize sumOf (zs.take 20) = SU at *
  subst hS
  go_enter_defers Try.func16, Try.ntmps16
  go_wp2_with fail
  refine (HL.out _ H0.out.2.2.2).mono ?_
  rintro e w1 ⟨rfl, hw⟩
  subst w1
  generalize hW : World.alloc _ (.cells #[.int .i64 0] 23) = W at *
  clear hW
  go_wp2_with fail
  refine (HS.out _ W.heap.size (bpush H0.out.2.2.2 _) (by simp [go_sem])).mono ?_
  rintro e w1 ⟨rfl, hw⟩
  subst w1
  have H1 := hid (decI_below H0.out (bpush (Below.refl _ _) (.cells #[.slice (some ⟨b, o, none⟩) 20 c] 28)))
  generalize hW2 : W.alloc _ = W2 at *
  clear hW2 H0
  go_wp2_with (first
    | (go_at_call 27; (with_reducible refine (HYes.out _ _).mono ?_); rintro e w1 ⟨rfl, hw⟩; subst w1) | fail)
  refine (HRF.out _ H1.out.2.2.2).mono ?_
  rintro e w1 ⟨rfl, hb⟩
  exact door_panic w _ FE _ _ rfl (decI_below H1.out hb) _ rfl rfl rfl
end Go.Proofs.Ytccmkljbedddiaa
