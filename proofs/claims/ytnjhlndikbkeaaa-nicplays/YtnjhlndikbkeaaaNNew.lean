/-
  The driver's Send, Own, Stats; New.
-/
import Derived.Test.YtnjhlndikbkeaaaNSend
namespace Go.Proofs.Ytnjhlndikbkeaaa
open Go.RowKit
set_option linter.all false

theorem SentI.count {w w' : World} {q : Nat} {own : Mac} {c g h n m : Nat} {S : CS} {N N' : NS} {a : Option Addr} {l cc : Nat} {zs : List Int} (t : SentI w w' q own c g h n m S N a l cc zs) (hw : ∀ k, NicK q c g h k → k < w.heap.size) (j : Nat) (v : Value) (hb : (N.box own c n m).setIfInBounds j v = N'.box own c n m) (hr : N'.rt = N.rt) (ht : N'.tt = N.tt) :
    SentI w (w'.setCell ⟨q, j, none⟩ v) q own c g h n m S N' a l cc zs := by
  have hbt := But.setCell q w' j v
  refine ⟨⟨by rw [← hb]; exact heap_setCell t.nic.box, t.nic.card.keep fun k hk => hbt.block k (fun e => t.nic.qc (by rw [← e]; exact hk)) (t.nic.card.lt k hk), t.nic.qc, t.nic.ln, t.nic.lm, by rw [hr]; exact t.nic.rt, by rw [ht]; exact t.nic.tt⟩, t.row.keep fun b hb' => hbt.block b (fun e => by have := t.new b hb'; have := hw q (Or.inl rfl); omega) (t.row.lt hb'), t.new, t.only.trans (Only.of_but hbt (Or.inl rfl))⟩
theorem SentI.base {w W w' : World} {q : Nat} {own : Mac} {c g h n m : Nat} {S : CS} {N : NS} {a : Option Addr} {l cc : Nat} {zs : List Int} (t : SentI W w' q own c g h n m S N a l cc zs) (hb : Below w.heap.size w W) : SentI w w' q own c g h n m S N a l cc zs :=
  ⟨t.nic, t.row, fun b hb' => Nat.le_trans hb.size (t.new b hb'), (Only.of_below hb).trans t.only⟩
theorem SentI.to {w w' : World} {q : Nat} {own : Mac} {c g h n m : Nat} {S : CS} {N N' : NS} {a : Option Addr} {l cc : Nat} {zs : List Int} (t : SentI w w' q own c g h n m S N a l cc zs) (e : N = N') : SentI w w' q own c g h n m S N' a l cc zs := e ▸ t
set_option maxRecDepth 20000 in
set_option maxHeartbeats 4000000 in
theorem send_any (q : Nat) (own : Mac) (c g h n m : Nat) (S : CS) (N : NS) (d : Mac) (k : Int) (pt : Part) (w : World) (x : NicW w q own c g h n m S N) (ho : own.ok) (hd : d.ok) (hok : pt.ok w) (hl : pt.zs.length ≤ 140737488351232) (h1 : N.sn < 4611686018427387904) (h2 : N.rf < 4611686018427387904) :
    Calls Try.prog 20 #[.pointer (some ⟨q, 0, none⟩), sendV d k pt.val] w fun e w' => ∃ a l cc, e = .returned (.tuple #[.slice a l cc, .int .i64 (sendE k pt.zs S N)]) ∧ SentI w w' q own c g h n m (sendS own d k pt.zs S N) (sendN k pt.zs S N) a l cc (sendL own d k pt.zs S N) := by
  have HLY : Hid (∀ w', Below w.heap.size w w' → Calls Try.prog 52 #[.pointer (some ⟨q, 0, none⟩), sendV d k pt.val] w' fun e w'' => ∃ a l cc, e = .returned (.tuple #[.slice a l cc, .int .i64 (sendE k pt.zs S N)]) ∧ SentI w' w'' q own c g h n m (sendS own d k pt.zs S N) (layN k pt.zs S N) a l cc (sendL own d k pt.zs S N)) := fun w' hb => lay_any' q own c g h n m S N d k pt w' (x.below hb) ho hd (Part.ok_below hok hb) hl
  have hm : S.T.length = m := x.lm
  have HLT := hid x.lt
  have h0 : (layN k pt.zs S N).sn = N.sn ∧ (layN k pt.zs S N).rf = N.rf := by unfold layN; split <;> exact ⟨rfl, rfl⟩
  have HS1 : Hid (sendE k pt.zs S N = 0 → sendN k pt.zs S N = (layN k pt.zs S N).sent) := fun he => by unfold sendN layN; rw [if_pos he, if_pos he]
  have HS2 : Hid (¬ sendE k pt.zs S N = 0 → sendN k pt.zs S N = (layN k pt.zs S N).refd) := fun he => by unfold sendN layN; rw [if_neg he, if_neg he]
  have HS3 : Hid (¬ sendE k pt.zs S N = 0 → sendL own d k pt.zs S N = []) := fun he => by unfold sendL; rw [if_neg he]
  generalize sendE k pt.zs S N = E at *
  generalize sendL own d k pt.zs S N = Y at *
  generalize sendS own d k pt.zs S N = S' at *
  generalize sendN k pt.zs S N = N2 at *
  generalize layN k pt.zs S N = N1 at *
  have hv : pt.val = .slice pt.a pt.zs.length pt.c := rfl
  rw [hv] at HLY ⊢
  generalize pt.zs.length = l at *
  generalize pt.c = pc at *
  generalize pt.a = pa at *
  clear hv hok hd hl ho x
  obtain ⟨d0, d1, d2, d3, d4, d5⟩ := d
  simp only [sendV] at *
  obtain ⟨h01, h02⟩ := h0
  rw [← h01] at h1
  rw [← h02] at h2
  clear h01 h02
  by_cases hE0 : E = 0
  · subst hE0
    go_enter Try.func20, Try.ntmps20
    go_wp2_with (first
      | (go_at_call 52; refine (HLY.out _ (balloc w _)).mono ?_; rintro e w1 ⟨a, l1, c1, rfl, ht⟩; have HT := hid ht; obtain ⟨k0, k1, k2, k3, k4, k5, k6, k7, k8, k9, k10, k11, k12, k13, k14, kf, klt⟩ := nicC ht.nic.box; clear ht k0 k1 k3 k4 k5 k6 k7 k8 k9 k10 k11 k12 k13 k14)
      | (go_at_call 52; refine (HLY.out _ (Below.refl _ _)).mono ?_; rintro e w1 ⟨a, l1, c1, rfl, ht⟩; have HT := hid ht; obtain ⟨k0, k1, k2, k3, k4, k5, k6, k7, k8, k9, k10, k11, k12, k13, k14, kf, klt⟩ := nicC ht.nic.box; clear ht k0 k1 k3 k4 k5 k6 k7 k8 k9 k10 k11 k12 k13 k14)
      | fail)
    go_ret2
    exact ⟨a, l1, c1, rfl, ((HT.out.base (balloc w _)).count HLT.out 2 _ (box_sent N1 own c n m) rfl rfl).to (HS1.out (by simp)).symm⟩
  · have hE2 : (E == (0 : Int)) = false := by simpa using hE0
    go_enter Try.func20, Try.ntmps20
    go_wp2_with (first
      | (go_at_call 52; refine (HLY.out _ (balloc w _)).mono ?_; rintro e w1 ⟨a, l1, c1, rfl, ht⟩; have HT := hid ht; obtain ⟨k0, k1, k2, k3, k4, k5, k6, k7, k8, k9, k10, k11, k12, k13, k14, kf, klt⟩ := nicC ht.nic.box; clear ht k0 k1 k2 k4 k5 k6 k7 k8 k9 k10 k11 k12 k13 k14)
      | fail)
    go_ret2
    have hy : Y = [] := HS3.out hE0
    refine ⟨none, 0, 0, rfl, ?_⟩
    have hs := ((HT.out.base (balloc w _)).count HLT.out 3 _ (box_refd N1 own c n m) rfl rfl).to (HS2.out hE0).symm
    exact ⟨hs.nic, by rw [hy]; exact Row.nil _ _, by simp [Value.ownBlock], hs.only⟩
/-! ### Own, Stats, New -/
set_option maxHeartbeats 1000000 in
theorem own_any (q : Nat) (own : Mac) (c g h n m : Nat) (S : CS) (N : NS) (w : World) (x : NicW w q own c g h n m S N) :
    Calls Try.prog 21 #[.pointer (some ⟨q, 0, none⟩)] w fun e w' => e = .returned own.val ∧ Below w.heap.size w w' := by
  obtain ⟨k0, k1, k2, k3, k4, k5, k6, k7, k8, k9, k10, k11, k12, k13, k14, kf, klt⟩ := nicC x.box
  clear x k0 k1 k2 k3 k4 k11 k12 k13 k14
  go_enter Try.func21, Try.ntmps21
  go_wp2
  exact bodyPost_ret (v := own.val) (by simp [results, Try.results21, go_sem, Mac.val]) rfl ⟨rfl, balloc w _⟩
def NS.val (N : NS) : Value := .agg #[.int .i64 N.tk, .int .i64 N.th, .int .i64 N.sn, .int .i64 N.rf]
set_option maxHeartbeats 1000000 in
theorem stats_any (q : Nat) (own : Mac) (c g h n m : Nat) (S : CS) (N : NS) (w : World) (x : NicW w q own c g h n m S N) :
    Calls Try.prog 22 #[.pointer (some ⟨q, 0, none⟩)] w fun e w' => e = .returned N.val ∧ Below w.heap.size w w' := by
  obtain ⟨k0, k1, k2, k3, k4, k5, k6, k7, k8, k9, k10, k11, k12, k13, k14, kf, klt⟩ := nicC x.box
  clear x k4 k5 k6 k7 k8 k9 k10 k11 k12 k13 k14
  go_enter Try.func22, Try.ntmps22
  have HS : Hid (∀ w', Below w.heap.size w w' → w'.cell? ⟨q, 0, none⟩ = some (.int .i64 N.tk) ∧ w'.cell? ⟨q, 1, none⟩ = some (.int .i64 N.th) ∧ w'.cell? ⟨q, 2, none⟩ = some (.int .i64 N.sn) ∧ w'.cell? ⟨q, 3, none⟩ = some (.int .i64 N.rf)) := fun w' hb => ⟨cell_below hb k0, cell_below hb k1, cell_below hb k2, cell_below hb k3⟩
  go_wp2
  go_region_held3 (fun x => x.cell? ⟨q, 0, none⟩ = some (.int .i64 N.tk) ∧ x.cell? ⟨q, 1, none⟩ = some (.int .i64 N.th) ∧ x.cell? ⟨q, 2, none⟩ = some (.int .i64 N.sn) ∧ x.cell? ⟨q, 3, none⟩ = some (.int .i64 N.rf)) (first | exact HS.out _ (balloc w _).drew | exact HS.out _ (bset (bset (bset (bset (balloc w _).drew (Nat.le_refl _) _ _) (Nat.le_refl _) _ _) (Nat.le_refl _) _ _) (Nat.le_refl _) _ _) | go_keep | fail) (fail)
  go_wp2
  exact bodyPost_ret (v := N.val) (by simp [results, Try.results22, go_sem, NS.val]) rfl ⟨rfl, (balloc w _).drew⟩
set_option maxHeartbeats 1000000 in
theorem nnew_no (own : Mac) (w : World) : Calls Try.prog 9 #[.pointer none, own.val] w fun e w' => e = .returned (.pointer none) ∧ Below w.heap.size w w' := by
  unfold Mac.val
  go_enter Try.func9, Try.ntmps9
  go_wp2
  go_ret
  exact ⟨rfl, by first | exact Below.refl _ _ | exact balloc w _⟩
def NS.new : NS := ⟨0, 0, 0, 0, 0, 0⟩
set_option maxRecDepth 20000 in
set_option maxHeartbeats 1000000 in
theorem nnew_yes (own : Mac) (c g h : Nat) (S : CS) (w : World) (x : CardW w c g h S) :
    Calls Try.prog 9 #[.pointer (some ⟨c, 0, none⟩), own.val] w fun e w' => ∃ q, e = .returned (.pointer (some ⟨q, 0, none⟩)) ∧ NicW w' q own c g h S.R.length S.T.length S NS.new ∧ w.heap.size ≤ q ∧ Below w.heap.size w w' := by
  have HR : Hid (∀ w', Below w.heap.size w w' → Calls Try.prog 25 #[.pointer (some ⟨c, 0, none⟩)] w' fun e w'' => e = .returned (.tuple #[.int .i64 S.R.length, .int .i64 S.T.length]) ∧ Below w'.heap.size w' w'') := fun w' hb => rings_any c g h S w' (x.below hb)
  have HX := hid x
  clear x
  obtain ⟨o0, o1, o2, o3, o4, o5⟩ := own
  unfold Mac.val
  go_enter Try.func9, Try.ntmps9
  go_wp2_with (first
    | (go_at_call 25; refine (HR.out _ (balloc w _)).mono ?_; rintro e w1 ⟨rfl, hb1⟩; have HB1 := hid (bstep (balloc w _) hb1); have hco : ∀ o, w1.cell? ⟨w.heap.size, o, none⟩ = (#[.int .u8 o0, .int .u8 o1, .int .u8 o2, .int .u8 o3, .int .u8 o4, .int .u8 o5] : Array Value)[o]? := (fun o => cell_of_heap (kept (heap_new w _) hb1) o); have hwl : w.heap.size < w1.heap.size := (by have := hb1.size; simp at this; omega); clear hb1)
    | fail)
  go_ret
  have hs := HB1.out.size
  refine ⟨_, rfl, ⟨heap_new w1 _, (HX.out.below HB1.out).below (balloc w1 _), fun hk => by have := HX.out.lt _ hk; omega, rfl, rfl, by have := HX.out.r1; simp [NS.new]; omega, by have := HX.out.t1; simp [NS.new]; omega⟩, hs, bpush HB1.out _⟩
end Go.Proofs.Ytnjhlndikbkeaaa
