/-
  frame.Seal of what it takes.
-/
import Derived.Test.YtnjhlndikbkeaaaFSeal
namespace Go.Proofs.Ytnjhlndikbkeaaa
open Go.RowKit
set_option linter.all false

/-- a frame's bytes. -/
def sealL (d s : Mac) (k : Int) (zs : List Int) : List Int := d.zs ++ s.zs ++ [k / 256, k % 256] ++ zs ++ List.replicate (46 - zs.length) 0
theorem sealL_len (d s : Mac) (k : Int) (zs : List Int) : (sealL d s k zs).length = max (14 + zs.length) 60 := by
  simp [sealL, Mac.zs]; omega

theorem splice_app (A Z X : List Int) (n : Nat) (hn : A.length = n) : splice (A ++ Z) n X = (A ++ X) ++ Z.drop X.length := by
  subst hn
  simp [splice, List.drop_append]
theorem sealL_splice (d s : Mac) (k : Int) (zs : List Int) (N : Nat) (hN : N = max (14 + zs.length) 60) :
    sealL d s k zs = splice (splice (splice (splice (List.replicate N 0) 0 d.zs) 6 s.zs) 12 [k / 256, k % 256]) 14 zs := by
  have e0 := splice_app [] (List.replicate N 0) d.zs 0 rfl
  rw [List.nil_append, List.nil_append] at e0
  rw [e0, splice_app _ _ _ 6 rfl, splice_app _ _ _ 12 rfl, splice_app _ _ _ 14 rfl]
  simp only [List.drop_replicate, sealL, List.append_assoc]
  congr 5
  simp [Mac.zs]
  omega

/-- a Seal under way: the frame's box, the bytes so far. -/
def SealI (w : World) (F : Array Value) (L : List Int) (w' : World) : Prop :=
  w'.heap[w.heap.size]? = some (.cells F 51 (0, 0)) ∧ w'.heap[w.heap.size + 1]? = some (.cells (u8s L).toArray 5 (0, 0)) ∧ Below w.heap.size w w'
theorem seal_first {w w' : World} {F B : Array Value} {L : List Int} (h0 : ((w.alloc (.cells F 51)).alloc (.cells B 5)).heap[w.heap.size]? = some (.cells F 51)) (hg : w'.heap[w.heap.size + 1]? = some (.cells (u8s L).toArray 5 (0, 0)))
    (hb : But (w.heap.size + 1) ((w.alloc (.cells F 51)).alloc (.cells B 5)) w') : SealI w F L w' :=
  ⟨keptBut h0 hb (by omega), hg, bbut (bpush (bpush (Below.refl _ _) _) _) hb (by omega)⟩
theorem seal_next {w W w' : World} {F : Array Value} {L L' : List Int} (h : SealI w F L W) (hg : w'.heap[w.heap.size + 1]? = some (.cells (u8s L').toArray 5 (0, 0))) (hb : But (w.heap.size + 1) W.drew w') : SealI w F L' w' :=
  ⟨keptBut (w := W.drew) h.1 hb (by omega), hg, bbut h.2.2.drew hb (by omega)⟩

theorem seal_nextB {w W W' w' : World} {F : Array Value} {L L' : List Int} (h : SealI w F L W) (hB : Below W.heap.size W W') (hg : w'.heap[w.heap.size + 1]? = some (.cells (u8s L').toArray 5 (0, 0))) (hb : But (w.heap.size + 1) W' w') : SealI w F L' w' :=
  ⟨keptBut (kept h.1 hB) hb (by omega), hg, bbut (bstep h.2.2 hB) hb (by omega)⟩
theorem seal_len (R D S X : List Int) (N : Nat) (hR : R.length = N) (hD : D.length = 6) (hS : S.length = 6) (hX : X.length = 2) (hN : 60 ≤ N) : (splice (splice (splice R 0 D) 6 S) 12 X).length = N := by
  have h1 : (splice R 0 D).length = N := by rw [length_splice _ _ _ (by omega), hR]
  have h2 : (splice (splice R 0 D) 6 S).length = N := by rw [length_splice _ _ _ (by omega), h1]
  rw [length_splice _ _ _ (by omega), h2]

set_option maxRecDepth 20000 in
set_option maxHeartbeats 2000000 in
theorem seal_ok (d s : Mac) (k : Int) (pt : Part) (w : World) (hd : d.ok) (hs : s.ok) (h1 : 1536 ≤ k) (h2 : k ≤ 65535) (h3 : pt.zs.length ≤ 1500) (hok : pt.ok w) :
    Calls Try.prog 62 #[frameV d s k pt.val] w fun e w' => ∃ g, e = .returned (.tuple #[.slice (some ⟨g, 0, none⟩) (max (14 + pt.zs.length) 60) (max (14 + pt.zs.length) 60), .int .i64 0]) ∧ w.heap.size ≤ g ∧ w'.heap[g]? = some (.cells (u8s (sealL d s k pt.zs)).toArray 5 (0, 0)) ∧ Below w.heap.size w w' := by
  obtain ⟨N, hN⟩ : ∃ N, N = max (14 + pt.zs.length) 60 := ⟨_, rfl⟩
  have HN := hid hN
  rw [← hN]
  have hn1 : 60 ≤ N := by omega
  have hn2 : N ≤ 1514 := by omega
  have hn3 : 14 + pt.zs.length ≤ N := by omega
  have HP := hid hok
  have HD := hid hd
  have HS := hid hs
  have hmk0 : ∀ (M : Int), M = (N : Int) → ∀ wx : World, (Instr.makeSlice 43 (.int .i64 M) (.int .i64 M)).run Try.prog wx = .ok (.slice (some ⟨wx.heap.size, 0, none⟩) N N) (wx.alloc (.cells (u8s (List.replicate N 0)).toArray 5)) := fun M hM wx => by
    subst hM
    rw [Go.run_make_row' (P := Try.prog) 43 5 (.int .u8 0) 1 Try.underlying43 infoU8 rfl .i64 .i64 N (by omega) (by omega) wx, made_eq]
  have HL : Hid ((sealL d s k pt.zs) = splice (splice (splice (splice (List.replicate N 0) 0 d.zs) 6 s.zs) 12 [k / 256, k % 256]) 14 pt.zs) := by
    exact sealL_splice d s k pt.zs N hN
  clear hok hd hs
  have HV : Hid (pt.val = .slice pt.a pt.zs.length pt.c) := rfl
  rw [HV.out]
  obtain ⟨R, hR⟩ : ∃ R, R = List.replicate N (0 : Int) := ⟨_, rfl⟩
  have HRL : Hid (R.length = N) := by unfold Hid; rw [hR]; simp
  rw [← hR] at hmk0 HL
  have HPL : Hid (pt.zs.length = pt.zs.length) := rfl
  generalize hl : pt.zs.length = l at *
  have Hl := hid hl
  clear hR hl
  have b1 : ¬ (1500 : Int) < (l : Int) := by omega
  have b2 : ¬ k < 1536 := by omega
  have b3 : ¬ 65535 < k := by omega
  have b4 : (6 : Int) ≤ (N : Int) := by omega
  have b5 : (12 : Int) ≤ (N : Int) := by omega
  have b6 : (14 : Int) ≤ (N : Int) := by omega
  have c6 : ¬ N = 6 := by omega
  have c12 : ¬ N = 12 := by omega
  have c14 : ¬ N = 14 := by omega
  have hkw : IntKind.u64.wrap k = k := by simp only [IntKind.wrap_u64]; omega
  have hmk : (∀ wx : World, (Instr.makeSlice 43 (.int .i64 60) (.int .i64 60)).run Try.prog wx = .ok (.slice (some ⟨wx.heap.size, 0, none⟩) N N) (wx.alloc (.cells (u8s R).toArray 5))) ∧ (14 : Int) + l < 60 ∨ (∀ wx : World, (Instr.makeSlice 43 (.int .i64 (14 + (l : Int))) (.int .i64 (14 + (l : Int)))).run Try.prog wx = .ok (.slice (some ⟨wx.heap.size, 0, none⟩) N N) (wx.alloc (.cells (u8s R).toArray 5))) ∧ (60 : Int) ≤ 14 + l := by
    by_cases h46 : l < 46
    · exact Or.inl ⟨hmk0 60 (by omega), by omega⟩
    · exact Or.inr ⟨hmk0 (14 + l) (by omega), by omega⟩
  clear hN hmk0
  have HCD : Hid (∀ w' : World, w'.heap[w.heap.size]? = some (.cells (frameC d s k (.slice pt.a l pt.c)) 51 (0, 0)) → Part.ok w' ⟨some ⟨w.heap.size, 0, none⟩, 6, d.zs⟩ ∧ Part.ok w' ⟨some ⟨w.heap.size, 6, none⟩, 6, s.zs⟩) := fun w' hg =>
    ⟨Part.of_heap hg 0 (by simp [Mac.zs]) (fun j hj => by simp only [Mac.zs, List.length_cons, List.length_nil] at hj; rcases (show j = 0 ∨ j = 1 ∨ j = 2 ∨ j = 3 ∨ j = 4 ∨ j = 5 by omega) with rfl | rfl | rfl | rfl | rfl | rfl <;> rfl) (Mac.bytes HD.out),
     Part.of_heap hg 6 (by simp [Mac.zs]) (fun j hj => by simp only [Mac.zs, List.length_cons, List.length_nil] at hj; rcases (show j = 0 ∨ j = 1 ∨ j = 2 ∨ j = 3 ∨ j = 4 ∨ j = 5 by omega) with rfl | rfl | rfl | rfl | rfl | rfl <;> rfl) (Mac.bytes HS.out)⟩
  have HK2 : Hid (∀ z, z ∈ [k / 256, k % 256] → 0 ≤ z ∧ z ≤ 255) := fun z hz => by simp at hz; omega
  have HD6 : Hid (d.zs.length = 6 ∧ s.zs.length = 6) := ⟨rfl, rfl⟩
  generalize hdz : d.zs = D at *
  generalize hsz : s.zs = S at *
  clear hdz hsz HD HS
  obtain ⟨d0, d1, d2, d3, d4, d5⟩ := d
  obtain ⟨s0, s1, s2, s3, s4, s5⟩ := s
  simp only [frameV, frameC] at *
  rcases hmk with ⟨hmk, b7⟩ | ⟨hmk, b7⟩
  all_goals
    go_enter Try.func62, Try.ntmps62
    have h00 : ∀ A B : Array Value, ((w.alloc (.cells A 51)).alloc (.cells B 5)).heap[w.heap.size]? = some (.cells A 51) := fun A B => by rw [heap_old _ _ (by simp)]; exact heap_new _ _
    have h01 : ∀ A B : Array Value, ((w.alloc (.cells A 51)).alloc (.cells B 5)).heap[w.heap.size + 1]? = some (.cells B 5) := fun A B => by have := heap_new (w.alloc (.cells A 51)) (.cells B 5); rwa [World.size_alloc] at this
    have H00 := hid h00
    have H01 := hid h01
    clear h00 h01
    go_wp2_with (first
      | (refine wpList_copy rfl _ _ rfl ⟨some ⟨w.heap.size, 0, none⟩, 6, D⟩ (w.heap.size + 1) 0 N N R 5 rfl (by show _ = Value.slice _ _ _; rw [HD6.out.1]; rfl) (H01.out _ _) (HCD.out _ (H00.out _ _)).1 (by rw [HD6.out.1]; omega) (by rw [HD6.out.1, HRL.out]; omega) ?_; intro w1 hg1 hb1))
    have H1 : Hid (SealI w _ (splice R 0 D) w1) := seal_first (H00.out _ _) hg1.out hb1.out
    clear hg1 hb1 H00 H01
    go_wp2
    go_region_held3 (fun w' => True) (exact trivial) (first
      | (refine step_copy rfl _ _ rfl ⟨some ⟨w.heap.size, 6, none⟩, 6, S⟩ (w.heap.size + 1) 6 _ _ (splice R 0 D) 5 rfl (by show _ = Value.slice _ _ _; rw [HD6.out.2]; rfl) (by exact H1.out.2.1) (by exact (HCD.out _ H1.out.1).2) (by rw [HD6.out.2]; omega) (by rw [length_splice _ _ _ (by rw [HD6.out.1, HRL.out]; omega), HD6.out.2, HRL.out]; omega) ?_; intro w2 hg2 hb2))
    have H2 : Hid (SealI w _ (splice (splice R 0 D) 6 S) w2) := seal_next H1.out hg2.out hb2.out
    clear hg2 hb2 H1
    have hck : w2.cell? ⟨w.heap.size, 12, none⟩ = some (.int .i64 k) := by rw [cell_of_heap H2.out.1]; rfl
    go_wp2
    go_region_held3 (fun w' => w'.cell? ⟨w.heap.size, 12, none⟩ = some (.int .i64 k)) (first | assumption | go_keep) (first
      | (refine step_copy rfl _ _ rfl ⟨some ⟨w2.heap.size, 0, none⟩, 2, [k / 256, k % 256]⟩ (w.heap.size + 1) 12 _ _ (splice (splice R 0 D) 6 S) 5 rfl rfl (by exact (heap_old w2.drew _ (heap_lt (w := w2.drew) H2.out.2.1)).trans H2.out.2.1) (by exact Part.of_row (heap_new w2.drew _) (by simp) HK2.out) (by simp; omega) (by rw [length_splice _ _ _ (by rw [length_splice _ _ _ (by rw [HD6.out.1, HRL.out]; omega), HD6.out.2, HRL.out]; omega), length_splice _ _ _ (by rw [HD6.out.1, HRL.out]; omega), HRL.out]; simp; omega) ?_; intro w3 hg3 hb3; have H3 : Hid (SealI w _ _ w3) := seal_nextB H2.out (((Below.refl _ _).drew).alloc (Nat.le_refl _) _) hg3.out hb3.out; have hck3 : w3.cell? ⟨w.heap.size, 12, none⟩ = some (.int .i64 k) := (by rw [cell_of_heap H3.out.1]; rfl))
      | (go_at_call 68; refine (put2_any _ _ (by omega) (by omega)).mono ?_; rintro e w' ⟨rfl, rfl⟩))
    clear hg3 hb3 H2 hck hck3
    have hcd : w3.cell? ⟨w.heap.size, 13, none⟩ = some (.slice pt.a l pt.c) := by rw [cell_of_heap H3.out.1]; rfl
    go_wp2
    go_region_held3 (fun w' => w'.cell? ⟨w.heap.size, 13, none⟩ = some (.slice pt.a l pt.c)) (first | assumption | go_keep) (first
      | (refine step_copy rfl _ _ rfl pt (w.heap.size + 1) 14 _ _ _ 5 rfl (by exact HV.out.symm) (by exact H3.out.2.1) (by exact Part.ok_below HP.out H3.out.2.2.drew) (by rw [Hl.out]; omega) (by rw [seal_len _ _ _ _ N HRL.out HD6.out.1 HD6.out.2 rfl hn1, Hl.out]; omega) ?_; intro w4 hg4 hb4; have H4 : Hid (SealI w _ _ w4) := seal_next H3.out hg4.out hb4.out; have hck4 : w4.cell? ⟨w.heap.size, 13, none⟩ = some (.slice pt.a l pt.c) := (by rw [cell_of_heap H4.out.1]; rfl)))
    clear hg4 hb4 H3 hcd hck4
    go_wp2
    go_ret2
    exact ⟨w.heap.size + 1, rfl, by omega, by rw [HL.out]; exact H4.out.2.1, H4.out.2.2⟩
end Go.Proofs.Ytnjhlndikbkeaaa
