/-
  One call of a script, of the program and of the document.
-/
import Derived.Test.YtdfefhiajleejaaDiLent
namespace Go.Proofs.Ytdfefhiajleejaa
open Go.RowKit
set_option linter.all false

section
variable {w0 w : World} {l : DL} {X : List (Nat × Obj)} {a : Option Addr} {c : Nat} {ds : List Int}
def LentO (ds : List Int) : Obj := .cells (L2 ds) 37 (0, 0)
theorem ds_lent (h : DS w0 w l X) (hp : PartU w0 a c ds) (hl : ds.length ≤ 1048576) :
    Calls Try.prog 7 #[.slice a ds.length c] w fun e w' => ∃ g, e = .returned (.slice (some ⟨g, 0, none⟩) ds.length (ds.length + 2)) ∧ Hid (DS w0 w' l ((g, LentO ds) :: X)) ∧ Hid (w0.heap.size ≤ g ∧ ∀ x, x ∈ X → x.1 ≠ g) :=
  (lent_any a c ds w (hp.below h.bel) hl).mono fun e w' q => ⟨w.heap.size, q.1, by rw [q.2]; exact h.push _, h.bel.size, fun x hx => by have := h.ho.lt hx; omega⟩
theorem ds_asLent {g : Nat} (h : DS w0 w l ((g, LentO ds) :: X)) (hp : PartU w0 a c ds) (hl : ds.length ≤ 1048576) (hg : w0.heap.size ≤ g ∧ ∀ x, x ∈ X → x.1 ≠ g) :
    Calls Try.prog 10 #[.slice (some ⟨g, 0, none⟩) ds.length (ds.length + 2), .slice a ds.length c] w fun e w' => e = .returned (.bool true) ∧ Hid (DS w0 w' l X) := by
  refine (asLent_any g a c ds w (hp.below h.bel) ?_ hl (h.ho.at 0 _ _ rfl)).mono fun e w' q => ⟨q.1, h.but q.2 hg.2 hg.1⟩
  by_cases hz : ds = []
  · exact Or.inl hz
  · exact Or.inr fun e => by have := hp.lt hz e; omega
end
theorem spanL_le {lo hi : Int} {zs : List Int} : (spanL lo hi zs).length ≤ zs.length := by unfold spanL; split <;> simp
/-- what one call makes of the draws. -/
structure StepI (w0 : World) (l : DL) (X : List (Nat × Obj)) (i j p q : Nat) (zs ds : List Int) (w' : World) : Prop where
  ex : ∃ zs', zs'.length ≤ zs.length + ds.length ∧ DS w0 w' ((l.set i (46, p, zs')).set j (48, q, zs')) X
def OpO (kd on x y t : Int) (a : Option Addr) (n c : Nat) : Obj := .cells #[.int .i64 kd, .int .i64 on, .int .i64 x, .int .i64 y, .int .i64 t, .slice a n c] 34 (0, 0)
structure OpC (w : World) (g : Nat) (kd on x y t : Int) (a : Option Addr) (n c : Nat) : Prop where
  c0 : w.cell? ⟨g, 0, none⟩ = some (.int .i64 kd)
  c2 : w.cell? ⟨g, 2, none⟩ = some (.int .i64 x)
  c3 : w.cell? ⟨g, 3, none⟩ = some (.int .i64 y)
  c4 : w.cell? ⟨g, 4, none⟩ = some (.int .i64 t)
  c5 : w.cell? ⟨g, 5, none⟩ = some (.slice a n c)
theorem opC {w : World} {g : Nat} {kd on x y t : Int} {a : Option Addr} {n c : Nat} (h : w.heap[g]? = some (OpO kd on x y t a n c)) : OpC w g kd on x y t a n c :=
  ⟨cellHeap h 0 rfl, cellHeap h 2 rfl, cellHeap h 3 rfl, cellHeap h 4 rfl, cellHeap h 5 rfl⟩

set_option maxRecDepth 20000 in
set_option maxHeartbeats 4000000 in
theorem step_add {w0 : World} (w : World) {l : DL} {X : List (Nat × Obj)} (h : DS w0 w l X) (i j : Nat) (hij : i ≠ j) {p q : Nat} {zs : List Int} (hi : l[i]? = some (46, p, zs)) (hj : l[j]? = some (48, q, zs)) (on x y t : Int) (a : Option Addr) (c : Nat) (ds : List Int) (hp : PartU w0 a c ds) (hl : zs.length + ds.length ≤ 1048576)
    (hx : -9223372036854775808 ≤ x ∧ x ≤ 9223372036854775807) (hy : -9223372036854775808 ≤ y ∧ y ≤ 9223372036854775807) (ht : -9223372036854775808 ≤ t ∧ t ≤ 9223372036854775807) :
    Calls Try.prog 11 #[.pointer (some ⟨p, 0, none⟩), .pointer (some ⟨q, 0, none⟩), .agg #[.int .i64 1, .int .i64 on, .int .i64 x, .int .i64 y, .int .i64 t, .slice a ds.length c]] w fun e w' => e = .returned (.bool true) ∧ StepI w0 l X i j p q zs ds w' := by
  have hml : zs.length ≤ maxLen := by unfold maxLen; omega
  have HLM := hid hml
  have HL := hid hl
  have HP := hid hp
  have HX := hid hx
  have HY := hid hy
  have HT := hid ht
  have H0 : Hid (DS w0 (w.alloc (OpO 1 on x y t a ds.length c)) l ((w.heap.size, OpO 1 on x y t a ds.length c) :: X)) := h.push _
  have HJ : Hid (∀ v, (l.set i v)[j]? = some (48, q, zs)) := fun v => by rw [List.getElem?_set_ne hij]; exact hj
  have HI := hid hi
  clear h hi hj hp hl hml hx hy ht hij
  go_enter Try.func11, Try.ntmps11
  go_wp2_with (first
    | (go_at_call 7; refine (ds_lent H0.out HP.out (by have := HL.out; omega)).mono ?_; go_loud (rintro e w1 ⟨g, rfl, I1, G1⟩; clear H0))
    | (go_at_call 20; refine (ds_add I1.out i HI.out (partL2 (I1.out.ho.at 0 _ _ rfl) HP.out.words) (by have := HL.out; omega)).mono ?_; go_loud (rintro e w2 ⟨rfl, I2⟩; clear I1; obtain ⟨g0, g2, g3, g4, g5⟩ := opC (I2.out.ho.at 1 _ _ rfl); clear g0 g2 g3 g4))
    | (go_at_call 22; refine (dr_add I2.out j (HJ.out _) (HP.out.below I2.out.bel) (by have := HL.out; omega)).mono ?_; go_loud (rintro e w3 ⟨rfl, I3⟩; clear I2 g5; obtain ⟨g0, g2, g3, g4, g5⟩ := opC (I3.out.ho.at 1 _ _ rfl); clear g0 g2 g3 g4))
    | (go_at_call 10; refine (ds_asLent I3.out HP.out (by have := HL.out; omega) G1.out).mono ?_; go_loud (rintro e w4 ⟨rfl, I4⟩; clear I3 g5))
    | fail)
  go_ret
  exact ⟨rfl, zs ++ ds, by simp, I4.out.drop (fun x hx => by simp [hx])⟩

set_option maxRecDepth 20000 in
set_option maxHeartbeats 4000000 in
theorem step_next {w0 : World} (w : World) {l : DL} {X : List (Nat × Obj)} (h : DS w0 w l X) (i j : Nat) (hij : i ≠ j) {p q : Nat} {zs : List Int} (hi : l[i]? = some (46, p, zs)) (hj : l[j]? = some (48, q, zs)) (on x y t : Int) (a : Option Addr) (c : Nat) (ds : List Int) (hp : PartU w0 a c ds) (hl : zs.length + ds.length ≤ 1048576)
    (hx : -9223372036854775808 ≤ x ∧ x ≤ 9223372036854775807) (hy : -9223372036854775808 ≤ y ∧ y ≤ 9223372036854775807) (ht : -9223372036854775808 ≤ t ∧ t ≤ 9223372036854775807) :
    Calls Try.prog 11 #[.pointer (some ⟨p, 0, none⟩), .pointer (some ⟨q, 0, none⟩), .agg #[.int .i64 2, .int .i64 on, .int .i64 x, .int .i64 y, .int .i64 t, .slice a ds.length c]] w fun e w' => e = .returned (.bool true) ∧ StepI w0 l X i j p q zs ds w' := by
  have hml : zs.length ≤ maxLen := by unfold maxLen; omega
  have HLM := hid hml
  have HL := hid hl
  have HP := hid hp
  have HX := hid hx
  have HY := hid hy
  have HT := hid ht
  have H0 : Hid (DS w0 (w.alloc (OpO 2 on x y t a ds.length c)) l ((w.heap.size, OpO 2 on x y t a ds.length c) :: X)) := h.push _
  have HJ : Hid (∀ v, (l.set i v)[j]? = some (48, q, zs)) := fun v => by rw [List.getElem?_set_ne hij]; exact hj
  have HI := hid hi
  clear h hi hj hp hl hml hx hy ht hij
  go_enter Try.func11, Try.ntmps11
  go_wp2_with (first
    | (go_at_call 14; refine (ds_next H0.out i HI.out HLM.out).mono ?_; go_loud (rintro e w1 ⟨rfl, I1⟩; clear H0; obtain ⟨g0, g2, g3, g4, g5⟩ := opC (I1.out.ho.at 0 _ _ rfl)))
    | (go_at_call 15; refine (dr_next I1.out j (HJ.out _) HLM.out).mono ?_; go_loud (rintro e w2 ⟨rfl, I2⟩; clear I1 g0 g2 g3 g4 g5))
    | fail)
  go_ret
  exact ⟨rfl, zs.tail, by simp; omega, I2.out.drop (fun x hx => by simp [hx])⟩

set_option maxRecDepth 20000 in
set_option maxHeartbeats 4000000 in
theorem step_span {w0 : World} (w : World) {l : DL} {X : List (Nat × Obj)} (h : DS w0 w l X) (i j : Nat) (hij : i ≠ j) {p q : Nat} {zs : List Int} (hi : l[i]? = some (46, p, zs)) (hj : l[j]? = some (48, q, zs)) (on x y t : Int) (a : Option Addr) (c : Nat) (ds : List Int) (hp : PartU w0 a c ds) (hl : zs.length + ds.length ≤ 1048576)
    (hx : -9223372036854775808 ≤ x ∧ x ≤ 9223372036854775807) (hy : -9223372036854775808 ≤ y ∧ y ≤ 9223372036854775807) (ht : -9223372036854775808 ≤ t ∧ t ≤ 9223372036854775807) :
    Calls Try.prog 11 #[.pointer (some ⟨p, 0, none⟩), .pointer (some ⟨q, 0, none⟩), .agg #[.int .i64 3, .int .i64 on, .int .i64 x, .int .i64 y, .int .i64 t, .slice a ds.length c]] w fun e w' => e = .returned (.bool true) ∧ StepI w0 l X i j p q zs ds w' := by
  have hml : zs.length ≤ maxLen := by unfold maxLen; omega
  have HLM := hid hml
  have HL := hid hl
  have HP := hid hp
  have HX := hid hx
  have HY := hid hy
  have HT := hid ht
  have H0 : Hid (DS w0 (w.alloc (OpO 3 on x y t a ds.length c)) l ((w.heap.size, OpO 3 on x y t a ds.length c) :: X)) := h.push _
  have HJ : Hid (∀ v, (l.set i v)[j]? = some (48, q, zs)) := fun v => by rw [List.getElem?_set_ne hij]; exact hj
  have HI := hid hi
  clear h hi hj hp hl hml hx hy ht hij
  go_enter Try.func11, Try.ntmps11
  go_wp2_with (first
    | (go_at_call 16; refine (ds_span H0.out i HI.out HLM.out x y HX.out HY.out).mono ?_; go_loud (rintro e w1 ⟨rfl, I1⟩; clear H0; obtain ⟨g0, g2, g3, g4, g5⟩ := opC (I1.out.ho.at 0 _ _ rfl)))
    | (go_at_call 23; refine (dr_span I1.out j (HJ.out _) HLM.out x y HX.out HY.out).mono ?_; go_loud (rintro e w2 ⟨rfl, I2⟩; clear I1 g0 g2 g3 g4 g5))
    | fail)
  go_ret
  exact ⟨rfl, spanL x y zs, by have := @spanL_le x y zs; omega, I2.out.drop (fun x hx => by simp [hx])⟩

set_option maxRecDepth 20000 in
set_option maxHeartbeats 4000000 in
theorem step_port {w0 : World} (w : World) {l : DL} {X : List (Nat × Obj)} (h : DS w0 w l X) (i j : Nat) (hij : i ≠ j) {p q : Nat} {zs : List Int} (hi : l[i]? = some (46, p, zs)) (hj : l[j]? = some (48, q, zs)) (on x y t : Int) (a : Option Addr) (c : Nat) (ds : List Int) (hp : PartU w0 a c ds) (hl : zs.length + ds.length ≤ 1048576)
    (hx : -9223372036854775808 ≤ x ∧ x ≤ 9223372036854775807) (hy : -9223372036854775808 ≤ y ∧ y ≤ 9223372036854775807) (ht : -9223372036854775808 ≤ t ∧ t ≤ 9223372036854775807) :
    Calls Try.prog 11 #[.pointer (some ⟨p, 0, none⟩), .pointer (some ⟨q, 0, none⟩), .agg #[.int .i64 4, .int .i64 on, .int .i64 x, .int .i64 y, .int .i64 t, .slice a ds.length c]] w fun e w' => e = .returned (.bool true) ∧ StepI w0 l X i j p q zs ds w' := by
  have hml : zs.length ≤ maxLen := by unfold maxLen; omega
  have HLM := hid hml
  have HL := hid hl
  have HP := hid hp
  have HX := hid hx
  have HY := hid hy
  have HT := hid ht
  have H0 : Hid (DS w0 (w.alloc (OpO 4 on x y t a ds.length c)) l ((w.heap.size, OpO 4 on x y t a ds.length c) :: X)) := h.push _
  have HJ : Hid (∀ v, (l.set i v)[j]? = some (48, q, zs)) := fun v => by rw [List.getElem?_set_ne hij]; exact hj
  have HI := hid hi
  clear h hi hj hp hl hml hx hy ht hij
  go_enter Try.func11, Try.ntmps11
  go_wp2_with (first
    | (go_at_call 17; refine (ds_port H0.out i HI.out HLM.out).mono ?_; go_loud (rintro e w1 ⟨rfl, I1⟩; clear H0; obtain ⟨g0, g2, g3, g4, g5⟩ := opC (I1.out.ho.at 0 _ _ rfl)))
    | (go_at_call 24; refine (dr_port I1.out j (HJ.out _) HLM.out).mono ?_; go_loud (rintro e w2 ⟨rfl, I2⟩; clear I1 g0 g2 g3 g4 g5))
    | fail)
  go_ret
  exact ⟨rfl, zs.tail, by simp; omega, I2.out.drop (fun x hx => by simp [hx])⟩

set_option maxRecDepth 20000 in
set_option maxHeartbeats 4000000 in
theorem step_back {w0 : World} (w : World) {l : DL} {X : List (Nat × Obj)} (h : DS w0 w l X) (i j : Nat) (hij : i ≠ j) {p q : Nat} {zs : List Int} (hi : l[i]? = some (46, p, zs)) (hj : l[j]? = some (48, q, zs)) (on x y t : Int) (a : Option Addr) (c : Nat) (ds : List Int) (hp : PartU w0 a c ds) (hl : zs.length + ds.length ≤ 1048576)
    (hx : -9223372036854775808 ≤ x ∧ x ≤ 9223372036854775807) (hy : -9223372036854775808 ≤ y ∧ y ≤ 9223372036854775807) (ht : -9223372036854775808 ≤ t ∧ t ≤ 9223372036854775807) :
    Calls Try.prog 11 #[.pointer (some ⟨p, 0, none⟩), .pointer (some ⟨q, 0, none⟩), .agg #[.int .i64 5, .int .i64 on, .int .i64 x, .int .i64 y, .int .i64 t, .slice a ds.length c]] w fun e w' => e = .returned (.bool true) ∧ StepI w0 l X i j p q zs ds w' := by
  have hml : zs.length ≤ maxLen := by unfold maxLen; omega
  have HLM := hid hml
  have HL := hid hl
  have HP := hid hp
  have HX := hid hx
  have HY := hid hy
  have HT := hid ht
  have H0 : Hid (DS w0 (w.alloc (OpO 5 on x y t a ds.length c)) l ((w.heap.size, OpO 5 on x y t a ds.length c) :: X)) := h.push _
  have HJ : Hid (∀ v, (l.set i v)[j]? = some (48, q, zs)) := fun v => by rw [List.getElem?_set_ne hij]; exact hj
  have HI := hid hi
  clear h hi hj hp hl hml hx hy ht hij
  go_enter Try.func11, Try.ntmps11
  go_wp2_with (first
    | (go_at_call 18; refine (ds_back H0.out i HI.out HLM.out x y t HT.out).mono ?_; go_loud (rintro e w1 ⟨rfl, I1⟩; clear H0; obtain ⟨g0, g2, g3, g4, g5⟩ := opC (I1.out.ho.at 0 _ _ rfl)))
    | (go_at_call 25; refine (dr_back I1.out j (HJ.out _) HLM.out x y t HT.out).mono ?_; go_loud (rintro e w2 ⟨rfl, I2⟩; clear I1 g0 g2 g3 g4 g5))
    | fail)
  go_ret
  exact ⟨rfl, zs.tail, by simp; omega, I2.out.drop (fun x hx => by simp [hx])⟩

set_option maxRecDepth 20000 in
set_option maxHeartbeats 4000000 in
theorem step_left {w0 : World} (w : World) {l : DL} {X : List (Nat × Obj)} (h : DS w0 w l X) (i j : Nat) (hij : i ≠ j) {p q : Nat} {zs : List Int} (hi : l[i]? = some (46, p, zs)) (hj : l[j]? = some (48, q, zs)) (kd on x y t : Int) (a : Option Addr) (c : Nat) (ds : List Int) (hp : PartU w0 a c ds) (hl : zs.length + ds.length ≤ 1048576)
    (hx : -9223372036854775808 ≤ x ∧ x ≤ 9223372036854775807) (hy : -9223372036854775808 ≤ y ∧ y ≤ 9223372036854775807) (ht : -9223372036854775808 ≤ t ∧ t ≤ 9223372036854775807) (k1 : ¬ kd = 1) (k2 : ¬ kd = 2) (k3 : ¬ kd = 3) (k4 : ¬ kd = 4) (k5 : ¬ kd = 5) :
    Calls Try.prog 11 #[.pointer (some ⟨p, 0, none⟩), .pointer (some ⟨q, 0, none⟩), .agg #[.int .i64 kd, .int .i64 on, .int .i64 x, .int .i64 y, .int .i64 t, .slice a ds.length c]] w fun e w' => e = .returned (.bool true) ∧ StepI w0 l X i j p q zs ds w' := by
  have hml : zs.length ≤ maxLen := by unfold maxLen; omega
  have HLM := hid hml
  have HL := hid hl
  have HP := hid hp
  have HX := hid hx
  have HY := hid hy
  have HT := hid ht
  have H0 : Hid (DS w0 (w.alloc (OpO kd on x y t a ds.length c)) l ((w.heap.size, OpO kd on x y t a ds.length c) :: X)) := h.push _
  have HJ : Hid (∀ v, (l.set i v)[j]? = some (48, q, zs)) := fun v => by rw [List.getElem?_set_ne hij]; exact hj
  have HI := hid hi
  clear h hi hj hp hl hml hx hy ht hij
  go_enter Try.func11, Try.ntmps11
  have HSet : Hid ((l.set i (46, p, zs)).set j (48, q, zs) = l) := by
    unfold Hid
    have e1 : l.set i (46, p, zs) = l := by
      obtain ⟨hlt, he⟩ := List.getElem?_eq_some_iff.1 HI.out
      rw [← he]; exact List.set_getElem_self hlt
    have h2 := HJ.out (46, p, zs)
    rw [e1] at h2 ⊢
    obtain ⟨hlt, he⟩ := List.getElem?_eq_some_iff.1 h2
    rw [← he]; exact List.set_getElem_self hlt
  have HJ0 : Hid (l[j]? = some (48, q, zs)) := by
    have h2 := HJ.out (46, p, zs)
    have e1 : l.set i (46, p, zs) = l := by
      obtain ⟨hlt, he⟩ := List.getElem?_eq_some_iff.1 HI.out
      rw [← he]; exact List.set_getElem_self hlt
    rw [e1] at h2
    exact h2
  go_wp2_with (first
    | (go_at_call 12; refine (ds_left H0.out i HI.out).mono ?_; go_loud (rintro e w1 ⟨rfl, hw⟩; rw [hw]; clear hw w1))
    | (go_at_call 13; refine (dr_left H0.out j HJ0.out).mono ?_; go_loud (rintro e w1 ⟨rfl, hw⟩; rw [hw]; clear hw w1))
    | fail)
  go_ret
  exact ⟨rfl, zs, by omega, by rw [HSet.out]; exact H0.out.drop (fun x hx => by simp [hx])⟩

theorem step_any {w0 : World} (w : World) {l : DL} {X : List (Nat × Obj)} (h : DS w0 w l X) (i j : Nat) (hij : i ≠ j) {p q : Nat} {zs : List Int} (hi : l[i]? = some (46, p, zs)) (hj : l[j]? = some (48, q, zs)) (kd on x y t : Int) (a : Option Addr) (c : Nat) (ds : List Int) (hp : PartU w0 a c ds) (hl : zs.length + ds.length ≤ 1048576)
    (hx : -9223372036854775808 ≤ x ∧ x ≤ 9223372036854775807) (hy : -9223372036854775808 ≤ y ∧ y ≤ 9223372036854775807) (ht : -9223372036854775808 ≤ t ∧ t ≤ 9223372036854775807) :
    Calls Try.prog 11 #[.pointer (some ⟨p, 0, none⟩), .pointer (some ⟨q, 0, none⟩), .agg #[.int .i64 kd, .int .i64 on, .int .i64 x, .int .i64 y, .int .i64 t, .slice a ds.length c]] w fun e w' => e = .returned (.bool true) ∧ StepI w0 l X i j p q zs ds w' := by
  by_cases k1 : kd = 1
  · subst k1; exact step_add w h i j hij hi hj on x y t a c ds hp hl hx hy ht
  by_cases k2 : kd = 2
  · subst k2; exact step_next w h i j hij hi hj on x y t a c ds hp hl hx hy ht
  by_cases k3 : kd = 3
  · subst k3; exact step_span w h i j hij hi hj on x y t a c ds hp hl hx hy ht
  by_cases k4 : kd = 4
  · subst k4; exact step_port w h i j hij hi hj on x y t a c ds hp hl hx hy ht
  by_cases k5 : kd = 5
  · subst k5; exact step_back w h i j hij hi hj on x y t a c ds hp hl hx hy ht
  exact step_left w h i j hij hi hj kd on x y t a c ds hp hl hx hy ht k1 k2 k3 k4 k5
end Go.Proofs.Ytdfefhiajleejaa
