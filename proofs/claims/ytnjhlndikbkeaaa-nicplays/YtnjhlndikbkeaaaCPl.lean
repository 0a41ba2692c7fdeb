/-
  A place of a ring: its bytes handed out; a ring shown.
-/
import Derived.Test.YtnjhlndikbkeaaaCBase
namespace Go.Proofs.Ytnjhlndikbkeaaa
open Go.RowKit
set_option linter.all false

/-- a descriptor: is it the card's? its bytes. -/
structure Pl where
  b : Bool
  zs : List Int
def Pl.ok (p : Pl) : Prop := p.zs.length ≤ 1514 ∧ ∀ z, z ∈ p.zs → 0 ≤ z ∧ z ≤ 255
def PlAt (C : Array Value) (o : Nat) (p : Pl) : Prop :=
  C[o]? = some (.bool p.b) ∧ C[o + 1]? = some (.int .i64 p.zs.length) ∧ (∀ j, j < p.zs.length → C[o + 2 + j]? = some (.int .u8 (p.zs.getD j 0))) ∧ p.ok
/-- bytes in new memory. -/
def Fresh (w w' : World) (v : Value) (zs : List Int) : Prop :=
  ∃ g, v = .slice (some ⟨g, 0, none⟩) zs.length zs.length ∧ w.heap.size ≤ g ∧ w'.heap[g]? = some (.cells (u8s zs).toArray 5 (0, 0)) ∧ Below w.heap.size w w'

theorem drewN_below (w : World) (n : Nat) : Below w.heap.size w (w.drewN n) := ⟨rfl, rfl, rfl, Nat.le_refl _, fun _ _ => rfl⟩
theorem splice_all (n : Nat) (zs : List Int) (h : zs.length = n) : splice (List.replicate n 0) 0 zs = zs := by
  subst h; simp [splice]
set_option maxRecDepth 20000 in
set_option maxHeartbeats 1000000 in
theorem bytes_any (g o : Nat) (C : Array Value) (t : TypeId) (p : Pl) (w : World) (hc : w.heap[g]? = some (.cells C t (0, 0))) (hp : PlAt C o p) :
    Calls Try.prog 46 #[.pointer (some ⟨g, o, none⟩)] w fun e w' => ∃ v, e = .returned v ∧ Fresh w w' v p.zs := by
  obtain ⟨b, zs⟩ := p
  obtain ⟨p1, p2, p3, p4, p5⟩ := hp
  simp only at p1 p2 p3 p4 p5
  have hsz := cellHeap hc (o + 1) p2
  have HPT : Hid (∀ w' : World, Below w.heap.size w w' → Part.ok w' ⟨some ⟨g, o + 2, none⟩, zs.length, zs⟩) := fun w' hb => Part.ok_below (Part.of_heap hc (o + 2) (Nat.le_refl _) p3 p5) hb
  clear p3 p5 p1 p2 hc
  have HLN : Hid (zs.length = zs.length) := rfl
  have hmk : ∀ (N : Nat), N ≤ 1514 → ∀ wx : World, (Instr.makeSlice 43 (.int .i64 (N : Int)) (.int .i64 (N : Int))).run Try.prog wx = .ok (.slice (some ⟨wx.heap.size, 0, none⟩) N N) (wx.alloc (.cells (u8s (List.replicate N 0)).toArray 5)) := fun N hN wx => by
    rw [Go.run_make_row' (P := Try.prog) 43 5 (.int .u8 0) 1 Try.underlying43 infoU8 rfl .i64 .i64 N (by omega) (by omega) wx, made_eq]
  have hm := hmk zs.length p4
  clear hmk
  generalize hl : zs.length = n at hsz hm p4 HLN
  have HN := hid hl
  have HPA : Hid (∀ (q : Nat) (ob : Obj), Part.ok ((w.drewN q).alloc ob) ⟨some ⟨g, o + 2, none⟩, n, zs⟩) := fun q ob => by
    have := HPT.out _ ((drewN_below w q).alloc (Nat.le_refl _) ob)
    rwa [hl] at this
  clear hl HPT
  have b1 : (n : Int) ≤ 1514 := by omega
  go_enter Try.func46, Try.ntmps46
  go_wp2
  go_quiet (fail)
  go_wp2_with (first
    | (refine wpList_copy rfl _ _ rfl ⟨some ⟨g, o + 2, none⟩, n, zs⟩ w.heap.size 0 n n (List.replicate n 0) 5 rfl (by show _ = Value.slice _ _ _; rw [HN.out]; rfl) (heap_new (w.drewN nq) _) (by exact HPA.out nq _) (by rw [HN.out]; omega) (by rw [HN.out]; simp) ?_; intro w1 hg1 hb1))
  go_ret
  refine ⟨_, rfl, w.heap.size, by rw [HN.out]; rfl, Nat.le_refl _, by rw [← splice_all n zs HN.out]; exact hg1.out, ((drewN_below w nq).alloc (Nat.le_refl _) _).trans (hb1.out.below (Nat.le_refl _) (by simp))⟩
theorem cell_below {w w' : World} (hb : Below w.heap.size w w') {c k : Nat} {v : Value} (h : w.cell? ⟨c, k, none⟩ = some v) : w'.cell? ⟨c, k, none⟩ = some v :=
  (hb.cell (p := ⟨c, k, none⟩) (World.block_lt_of_cell? w _ h)).trans h
theorem bset {a w : World} {g : Nat} (h : Below a.heap.size a w) (hg : a.heap.size ≤ g) (o : Nat) (v : Value) : Below a.heap.size a (w.setCell ⟨g, o, none⟩ v) := h.setCell hg v
theorem balloc (w : World) (o : Obj) : Below w.heap.size w (w.alloc o) := (Below.refl _ _).alloc (Nat.le_refl _) _
set_option maxRecDepth 20000 in
set_option maxHeartbeats 1000000 in
theorem show_no (c k g m : Nat) (i : Int) (w : World) (h1 : w.cell? ⟨c, k, none⟩ = some (.slice (some ⟨g, 0, none⟩) m m)) (hi : hasB m i = false) :
    Calls Try.prog 58 #[.pointer (some ⟨c, k, none⟩), .int .i64 i] w fun e w' => e = .returned (.tuple #[.agg #[.bool false, .slice none 0 0], .int .i64 40]) ∧ Below w.heap.size w w' := by
  have H1 := hid h1
  clear h1
  go_enter Try.func58, Try.ntmps58
  go_wp2_with (first | (go_at_call 61; refine (has_any _ _ g m _ _ (cell_below (balloc w _) H1.out)).mono ?_; rintro e w' ⟨rfl, rfl⟩))
  exact bodyPost_ret (v := .tuple #[.agg #[.bool false, .slice none 0 0], .int .i64 40]) (by simp [results, Try.results58, go_sem]) rfl ⟨rfl, balloc w _⟩
set_option maxRecDepth 20000 in
set_option maxHeartbeats 1000000 in
theorem show_yes (c k g m j : Nat) (C : Array Value) (t : TypeId) (p : Pl) (w : World) (h1 : w.cell? ⟨c, k, none⟩ = some (.slice (some ⟨g, 0, none⟩) m m)) (hj : j < m) (hc : w.heap[g]? = some (.cells C t (0, 0))) (hp : PlAt C (j * 1516) p) :
    Calls Try.prog 58 #[.pointer (some ⟨c, k, none⟩), .int .i64 j] w fun e w' => ∃ v, e = .returned (.tuple #[.agg #[.bool p.b, v], .int .i64 0]) ∧ Fresh w w' v p.zs := by
  have hh : hasB m j = true := by simp [hasB]; omega
  have h2 : (j : Int) < m := by omega
  have hcb := cellHeap hc _ hp.1
  have H1 := hid h1
  have HC := hid hc
  have HP := hid hp
  have HCB := hid hcb
  have hcl := World.block_lt_of_cell? w _ h1
  simp only at hcl
  have hgl := heap_lt hc
  clear hc hp
  obtain ⟨b, zs⟩ := p
  simp only at *
  go_enter Try.func58, Try.ntmps58
  go_wp2_with (first | (go_at_call 61; refine (has_any _ _ g m _ _ (cell_below (balloc w _) H1.out)).mono ?_; rintro e w' ⟨rfl, rfl⟩))
  go_region_with (first | (go_at_call 46; refine (bytes_any g (j * 1516) C t ⟨b, zs⟩ _ (by exact (heap_old w _ hgl).trans HC.out) HP.out).mono ?_; rintro e w' ⟨v, rfl, g', rfl, hg', hv, hb⟩; have hcb' : w'.cell? ⟨g, j * 1516, none⟩ = some (.bool b) := cell_below hb (cell_below (w := w) (balloc w _) HCB.out); have h20 : w'.cell? ⟨w.heap.size, 0, none⟩ = some (.bool false) := (cell_below hb (cell_of_heap (heap_new w _) 0)); have h21 : w'.cell? ⟨w.heap.size, 1, none⟩ = some (.slice none 0 0) := (cell_below hb (cell_of_heap (heap_new w _) 1)); have h22 : ∀ q, w'.frozen? ⟨w.heap.size, q, none⟩ = false := fun q => frozen_of_heap ((hb.block _ (by simp)).trans (heap_new w _)) q; have hlt : w.heap.size < w'.heap.size := (by have := hb.size; simp at this; omega); have HR : Hid (w'.heap[w.heap.size]? = some (.cells #[.bool false, .slice none 0 0] 80 (0, 0))) := (hb.block _ (by simp)).trans (heap_new w _); have HV := hid hv; have HB := hid hb; have HG := hid hg'; clear hv hb hg'))
  all_goals
    go_wp2
    exact bodyPost_ret (results_row2 (P := Try.prog) rfl _ _ w.heap.size 80 #[.bool b, .slice (some ⟨g', 0, none⟩) zs.length zs.length] (0, 0) _ (.int .i64 0) rfl rfl (heap_setCell (heap_setCell HR.out)) Try.underlying80 rfl (by kernel_rfl)) rfl
      ⟨_, rfl, g', rfl, by have := HG.out; simp at this; omega, by have h3 := HG.out; simp at h3; rw [Below.heap_setCell _ _ _ _ (by simp; omega), Below.heap_setCell _ _ _ _ (by simp; omega)]; exact HV.out, bset (bset (bstep (balloc w _).drew HB.out) (Nat.le_refl _) _ _) (Nat.le_refl _) _ _⟩
end Go.Proofs.Ytnjhlndikbkeaaa
