/-
  The contract of option.Parse.
-/
import Derived.Test.YtmdkanbfpmdimaaORead
namespace Go.Proofs.Ytmdkanbfpmdimaa
open Go.RowKit
set_option linter.all false

/-- parts that are only read. -/
structure PV (w : World) (a : Option Addr) (ps : List Part) : Prop where
  cell : ∀ (i : Nat) p, ps[i]? = some p → ∃ b off, a = some ⟨b, off, none⟩ ∧ w.cell? ⟨b, off + i, none⟩ = some p.val
  oks : ∀ p ∈ ps, p.ok w
theorem PV.below {w w' : World} {a : Option Addr} {ps : List Part} (h : PV w a ps) (hb : Below w.heap.size w w') : PV w' a ps := by
  refine ⟨fun i p hp => ?_, fun p hp => Part.ok_below (h.oks p hp) hb⟩
  obtain ⟨b, off, e, c⟩ := h.cell i p hp
  exact ⟨b, off, e, (hb.cell (p := ⟨b, off + i, none⟩) (World.block_lt_of_cell? w _ c)).trans c⟩
def partsZ (ps : List Part) : List (List Int) := ps.map Part.zs
def okL : Except Int (List Opt) → List Opt
  | .ok g => g
  | .error _ => []
/-- what Parse hands out. -/
def ParseI (w w' : World) (R : Except Int (List Opt)) (v : Value) : Prop := ∃ E, OwnO w.heap.size w' v E ∧ codes E = okL R ∧ Below w.heap.size w w'
def G0 : List Value := .slice none 0 0 :: List.replicate 255 (.int .i64 0)
theorem G0_built : Try.prog.built 61 [] = some G0.toArray := by kernel_rfl
theorem GI.new (w w1 : World) (gb : Nat) (hg : w1.heap[gb]? = some (.cells G0.toArray 61 (0, 0))) (hb : w.heap.size ≤ gb) (hbel : Below w.heap.size w w1) : GI w.heap.size w1 gb (.slice none 0 0) [] G0.toArray := by
  refine ⟨hg, by rw [List.size_toArray, G0, List.length_cons, List.length_replicate], by rw [List.getElem?_toArray, G0]; exact List.getElem?_cons_zero, fun j hj => ?_, OwnO.nil _ _, hb, hbel.size⟩
  rw [List.getElem?_toArray, G0, Nat.add_comm, List.getElem?_cons_succ, List.getElem?_replicate, if_pos hj]
  simp [plV, plc, codes]
set_option maxRecDepth 20000 in
set_option maxHeartbeats 4000000 in
theorem parse_any (a : Option Addr) (c : Nat) (ps : List Part) (w : World) (h : PV w a ps) (hn : ps.length ≤ 4398046511104) (hs : sumB (partsZ ps) ≤ 140737488353280) :
    Calls Try.prog 9 #[.slice a ps.length c] w fun e w' => ∃ ax n cx, e = .returned (.tuple #[.slice ax n cx, .int .i64 (exR (parseG [] (partsZ ps)))]) ∧ Hid (ParseI w w' (parseG [] (partsZ ps)) (.slice ax n cx)) := by
  obtain ⟨R, hR⟩ : ∃ R, R = parseG [] (partsZ ps) := ⟨_, rfl⟩
  rw [← hR]
  have HR := hid hR
  obtain ⟨n, hnn⟩ : ∃ n, n = ps.length := ⟨_, rfl⟩
  have HN := hid hnn
  rw [← hnn] at hn ⊢
  have HV := hid h
  have HS := hid hs
  clear h hnn hs hR
  obtain ⟨w1, hw1⟩ : ∃ w1, w1 = (w.alloc (.cells G0.toArray 61)) := ⟨_, rfl⟩
  have HG1 : Hid (w1.heap[w.heap.size]? = some (.cells G0.toArray 61 (0, 0))) := by rw [hw1]; exact heap_new w _
  have HB1 : Hid (Below w.heap.size w w1) := by rw [hw1]; exact bpush (Below.refl _ _) _
  obtain ⟨gb, hgb⟩ : ∃ gb, gb = w.heap.size := ⟨_, rfl⟩
  have HGB : Hid (w.heap.size ≤ gb) := hid (by omega)
  rw [← hgb] at HG1
  go_enter Try.func9, Try.ntmps9
  go_wp2_with (first
    | (refine wpList_build_to rfl 61 _ rfl G0.toArray (by kernel_rfl) ?_)
    | (refine wpList_alloc_to rfl 61 rfl G0.toArray (by kernel_rfl) ?_; rw [← hw1, ← hgb]; clear hw1 hgb)
    | (refine wpList_store_row rfl 61 _ _ rfl gb G0.toArray rfl rfl 61 _ HG1.out (by kernel_rfl) rfl (by kernel_rfl) ?_))
  go_loopw [11] (fun i wr => ∃ (k : Nat) (v : Value) (E : List (Opt × Value)) (C : Array Value), k ≤ n ∧ i = .int .i64 k ∧ Hid (GI w.heap.size wr gb v E C ∧ parseG (codes E) (partsZ (ps.drop k)) = R ∧ Took (codes E) ∧ sumO (codes E) + sumB (partsZ (ps.drop k)) ≤ 140737488353280 ∧ Below w.heap.size w wr)) (fun i _ => n - (intOf i).toNat)
  case atStart =>
    have hb : Below w.heap.size w (w1.setRow gb G0.toArray) := bbut HB1.out (But.setRow _ _ _) HGB.out
    exact ⟨0, _, [], _, Nat.zero_le _, rfl, GI.new w _ gb (setRow_heap _ _ _ _ _ _ HG1.out) HGB.out hb, HR.out.symm, took_nil, by simpa [sumO] using HS.out, hb⟩
  case round =>
    obtain ⟨k, v, E, C, hk, rfl, HG⟩ := hrel
    clear HB1 HG1
    by_cases hlt : k < n
    · have hlt' : (k : Int) < n := by omega
      obtain ⟨⟨pa, pc, pz⟩, hp⟩ : ∃ p, ps[k]? = some p := ⟨ps[k]'(by rw [← HN.out]; exact hlt), List.getElem?_eq_getElem _⟩
      obtain ⟨b, off, ea, c0⟩ := (HV.out.below HG.out.2.2.2.2).cell k _ hp
      simp only [Part.val] at c0
      subst ea
      have HP := hid hp
      have hpo := HV.out.oks _ (List.mem_of_getElem? hp)
      have edrop : ps.drop k = ⟨pa, pc, pz⟩ :: ps.drop (k + 1) := by
        have hkl : k < ps.length := (List.getElem?_eq_some_iff.1 hp).1
        rw [List.drop_eq_getElem_cons hkl]
        rw [List.getElem?_eq_getElem hkl] at hp
        simp only [Option.some.injEq] at hp
        rw [hp]
      have HD := hid edrop
      obtain ⟨g1, g2, g3, g4, g5⟩ := HG.out
      rw [edrop] at g2 g4
      simp only [partsZ, List.map_cons, sumB, List.sum_cons, parseG] at g2 g4
      have CR := read_any w.heap.size gb v E C ⟨pa, pc, pz⟩ wr g1 (by have := g3.few; simpa [codes] using this) (Part.ok_below hpo g5) (Part.low hpo) (by simp only; omega)
      simp only [Part.val] at CR
      have HT : Hid (∀ g', readG (codes E) pz = .ok g' → Took g' ∧ sumO g' ≤ sumO (codes E) + pz.length) := fun g' hg => readG_took g3 hpo.1 g' hg
      have HB := hid g5
      clear hp hpo edrop
      cases hrd : readG (codes E) pz with
      | error x =>
        rw [hrd] at g2 CR
        simp only at g2
        have HRE := hid g2
        have hx0 : x ≠ 0 := by
          have key : ∀ (g : List Opt) (l : List Int) (x : Int), readG g l = .error x → x = 2 ∨ x = 5 := by
            intro g l
            fun_induction readG g l with
            | case1 => intro x h; simp at h
            | case2 => intro x h; simp at h
            | case3 g r h1 ih => exact ih
            | case4 => intro x h; simp at h; exact Or.inl h.symm
            | case5 => intro x h; simp at h; exact Or.inr h.symm
            | case6 => intro x h; simp at h; exact Or.inr h.symm
            | case7 g c h1 h0 hn n r hl ih => exact ih
          have := key _ _ _ hrd
          omega
        have hx1 : (x != 0) = true := by simpa using hx0
        simp only [exR] at CR
        clear g1 g2 g3 g4 g5 hrd HG
        go_wp2_with (first
          | (go_at_call 23; refine CR.mono ?_; rintro e w2 ⟨rfl, H2⟩))
        go_ret2
        exact ⟨none, 0, 0, by rw [← HRE.out]; rfl, [], OwnO.nil _ _, by rw [← HRE.out]; rfl, HB.out.trans H2.out.2⟩
      | ok g' =>
        rw [hrd] at g2 CR
        simp only at g2
        have HRE := hid g2
        have HT2 := hid (HT.out g' hrd)
        have HG4 := hid g4
        have HRD := hid hrd
        simp only [exR] at CR
        clear g1 g2 g3 g4 g5 hrd HG
        go_wp2_with (first
          | (go_at_call 23; refine CR.mono ?_; rintro e w2 ⟨rfl, H2⟩))
        go_roundw
        case rel =>
          obtain ⟨v', E', C', G', hc'⟩ := H2.out.1 g' rfl
          refine ⟨k + 1, v', E', C', by omega, by go_num, G', by rw [hc']; exact HRE.out, by rw [hc']; exact HT2.out.1, ?_, HB.out.trans H2.out.2⟩
          have h1 := HT2.out.2
          have h2 := HG4.out
          rw [hc']
          simp only [partsZ, sumB] at h2 ⊢
          omega
        case measure => simp [intOf]; omega
    · have hge : ¬ (k : Int) < n := by omega
      have hkn : k = n := by omega
      obtain ⟨av, cv, ev, _⟩ := HG.out.1.own.form
      have c0 : wr.cell? ⟨gb, 0, none⟩ = some (.slice av E.length cv) := by rw [cell_of_heap HG.out.1.box, HG.out.1.at0, ev]
      have HO : Hid (OwnO w.heap.size wr (.slice av E.length cv) E) := by rw [← ev]; exact HG.out.1.own
      have HRE : Hid (R = .ok (codes E)) := hid (by
        rw [← HG.out.2.1, hkn, HN.out]
        simp [partsZ, parseG])
      have HB := hid HG.out.2.2.2.2
      clear HG ev
      go_wp2
      go_ret2
      exact ⟨av, _, cv, by rw [HRE.out]; rfl, E, HO.out, by rw [HRE.out]; rfl, HB.out⟩
end Go.Proofs.Ytmdkanbfpmdimaa
