/-
  bootp.withMore. (BoMor over OMem alone.)
-/
import Derived.Test.YtgcpoanjjgbfjaaLzMsg
import Derived.Test.YtgcpoanjjgbfjaaBClone
import Derived.Deep.RegionHeldLaw
namespace Go.Proofs.Ytgcpoanjjgbfjaa
open Go.RowKit
set_option linter.all false

abbrev codes (E : List (Opt × Value)) : List Opt := E.map Prod.fst
/-- options laid behind those of v0; what else stays. -/
def MoreI (B : Nat) (v0 : Value) (w W : World) (v : Value) (L : List Opt) : Prop := ∃ E, OwnO B W v E ∧ codes E = L ∧ Below B w W ∧ (∀ k, v.ownBlock = some k → v0.ownBlock = some k ∨ w.heap.size ≤ k) ∧ (∀ b, b < w.heap.size → v0.ownBlock ≠ some b → W.heap[b]? = w.heap[b]?)
/-- one more option behind those of the call's own; what else stays. -/
theorem OwnO.app2 {B : Nat} {w : World} {v : Value} {E : List (Opt × Value)} (h : OwnO B w v E) (hB : B ≤ w.heap.size) (hn : E.length < 4398046511104) (c : Int) (zs : List Int) (d : Value) (hd : Row w 5 d (u8s zs)) (hz : ∀ z ∈ zs, 0 ≤ z ∧ z ≤ 255) (hl : ∀ b, d.ownBlock = some b → B ≤ b ∧ ∀ p ∈ E, p.2.ownBlock ≠ some b) :
    ∃ a n cp w', (Builtin.append_ #[39, 39] 39 #[v, .slice (some ⟨w.heap.size, 0, none⟩) 1 1]).run Try.prog (w.alloc (.cells #[.int .i64 c, d] 38)) = .ok (.slice a n cp) w' ∧ OwnO B w' (.slice a n cp) (E ++ [((c, zs), d)]) ∧ Below B w w' ∧ (∀ b, b < w.heap.size → v.ownBlock ≠ some b → w'.heap[b]? = w.heap[b]?) ∧ ∀ k, (Value.slice a n cp).ownBlock = some k → v.ownBlock = some k ∨ w.heap.size ≤ k := by
  have ha := h.below (bpush (Below.refl _ w) (.cells #[.int .i64 c, d] 38))
  obtain ⟨v', w1, h1, h2, h3, h4⟩ := append_s 39 39 38 _ 2 32 Try.underlying39 infoOpt rfl (by decide) ha.row ⟨w.heap.size, 0, none⟩ 1 1 [.int .i64 c, d] rfl (fun j u hj => by
    have e : (⟨w.heap.size, 0, none⟩ : Addr).add j = ⟨w.heap.size, j, none⟩ := by unfold Addr.add; split <;> simp_all
    rw [e, cell_of_heap (heap_new w _)]
    simpa using hj) (by
      intro u hu
      simp only [List.mem_cons, List.not_mem_nil, or_false] at hu
      rcases hu with rfl | rfl
      · rfl
      · obtain ⟨a, c, e, _⟩ := hd.form
        rw [e]
        rfl) (by unfold maxLen; omega) (by omega)
  obtain ⟨o1, o2⟩ := ha.push (c := c) (zs := zs) (d := d) (Nat.le_trans hB (by simp)) (hd.below (bpush (Below.refl _ _) _)) hz hl h2 h3 h4
  obtain ⟨a, cp, e, _⟩ := o1.form
  rw [e] at h1 o1 h4
  refine ⟨a, _, cp, w1, h1, o1, ((bpush (Below.refl _ w) _).mono hB).trans o2, fun b hb hv => ?_, fun k hk => (h4 k hk).imp id (fun h => by simp at h; omega)⟩
  rw [h3.block b (by simp; omega) (fun e => hv e.symm), heap_old _ _ hb]
def OptB (gx : Nat) (cd : Int) (d : Value) (s : World) : Prop := s.cell? ⟨gx, 0, none⟩ = some (.int .i64 cd) ∧ s.cell? ⟨gx, 1, none⟩ = some d
def CloI (B : Nat) (v0 : Value) (w W1 : World) (cd : Int) (d : Value) (lz : Nat) (L : List Opt) (VV : Value) (gx : Nat) (e : Ending) (w2 : World) : Prop := ∃ a2 c2, e = .returned (.slice a2 lz c2) ∧ ∃ a3 n3 c3 w3, Hid ((Builtin.append_ #[39, 39] 39 #[VV, .slice (some ⟨w2.heap.size, 0, none⟩) 1 1]).run Try.prog (w2.alloc (.cells #[.int .i64 cd, .slice a2 lz c2] 38)) = .ok (.slice a3 n3 c3) w3) ∧ Hid (MoreI B v0 w w3 (.slice a3 n3 c3) L) ∧ OptB gx cd d w2 ∧ OptB gx cd d (w2.alloc (.cells #[.int .i64 cd, .slice a2 lz c2] 38)) ∧ OptB gx cd d w3
theorem optB_of {gx : Nat} {cd : Int} {d : Value} {s : World} (h : s.heap[gx]? = some (.cells #[.int .i64 cd, d] 38 (0, 0))) : OptB gx cd d s := ⟨(cell_of_heap h 0).trans rfl, (cell_of_heap h 1).trans rfl⟩
set_option maxRecDepth 20000 in
set_option maxHeartbeats 1000000 in
theorem withMore_any (B : Nat) (a a0 : Option Addr) (n0 c0 c : Nat) (os : List OP) (L0 : List Opt) (w : World) (hB : B ≤ w.heap.size) (h0 : MoreI B (.slice a0 n0 c0) w w (.slice a0 n0 c0) L0) (hl0 : L0.length ≤ 5) (hf : os.length ≤ 4294967296) (h : Low B w a os) :
    Calls Try.prog 79 #[.slice a0 n0 c0, .slice a os.length c] w fun e w' => ∃ ax nx cx, e = .returned (.slice ax nx cx) ∧ Hid (MoreI B (.slice a0 n0 c0) w w' (.slice ax nx cx) (L0 ++ absO os)) := by
  obtain ⟨n, hn⟩ : ∃ n, n = os.length := ⟨_, rfl⟩
  have HN := hid hn
  rw [← hn] at hf ⊢
  have HV := hid h
  have HBB := hid hB
  have HL0 := hid hl0
  have H0 := hid h0
  clear h hn h0 hl0 hB
  go_enter Try.func79, Try.ntmps79
  go_wp2
  go_loopw [5, 11] (fun v i wr => ∃ (k : Nat) (a' : Option Addr) (n' c' : Nat), k ≤ n ∧ i = .int .i64 k ∧ v = .slice a' n' c' ∧ Hid (MoreI B (.slice a0 n0 c0) w wr (.slice a' n' c') (L0 ++ absO (os.take k)))) (fun _ i _ => n - (intOf i).toNat)
  case atStart => exact ⟨0, a0, n0, c0, Nat.zero_le _, rfl, rfl, hid (by simpa [absO] using H0.out)⟩
  case round =>
    obtain ⟨k, a1, n1, c1, hk, rfl, rfl, HI⟩ := hrel
    by_cases hlt : k < n
    · have hlt' : (k : Int) < n := by omega
      obtain ⟨⟨cd, ad, cp, zs⟩, ho⟩ : ∃ o, os[k]? = some o := ⟨os[k]'(by rw [← HN.out]; exact hlt), List.getElem?_eq_getElem _⟩
      have hbel : Below B w wr := by obtain ⟨E, _, _, h3, _⟩ := HI.out; exact h3
      obtain ⟨b, off, ea, e0, e1⟩ := (HV.out.below hbel).v.cell k _ ho
      simp only [Part.val] at e0 e1
      subst ea
      have hok := (HV.out.below hbel).v.oks _ (List.mem_of_getElem? ho)
      have HT : Hid (absO (os.take (k + 1)) = absO (os.take k) ++ [(cd, zs)]) := absO_take ho
      obtain ⟨gx, hgx⟩ : ∃ g, g = wr.heap.size := ⟨_, rfl⟩
      obtain ⟨W1, hW1⟩ : ∃ W, W = wr.alloc (.cells #[.int .i64 cd, .slice ad zs.length cp] 38) := ⟨_, rfl⟩
      have HB1 : Hid (Below wr.heap.size wr W1) := by rw [hW1]; exact bpush (Below.refl _ _) _
      have HX1 : Hid (W1.heap[gx]? = some (.cells #[.int .i64 cd, .slice ad zs.length cp] 38 (0, 0))) := by rw [hW1, hgx]; exact heap_new _ _
      have hkl : (L0 ++ absO (os.take k)).length = L0.length + k := by
        rw [List.length_append, absO_len, List.length_take, ← HN.out, Nat.min_eq_left (by omega)]
      have HCL : Hid (∀ W, Below W1.heap.size W1 W → Calls Try.prog 76 #[.slice ad zs.length cp] W fun e w2 => CloI B (.slice a0 n0 c0) w W1 cd (.slice ad zs.length cp) zs.length (L0 ++ absO (os.take (k + 1))) (.slice a1 n1 c1) gx e w2) := fun W hW => by
        have hW0 : Below wr.heap.size wr W := bstep HB1.out hW
        refine (bclone_any ⟨ad, cp, zs⟩ W (Part.ok_below hok.1 hW0) (by have := hok.2; simp only at this ⊢; omega)).mono ?_
        rintro e w2 ⟨a2, c2, rfl, HA⟩
        obtain ⟨E, h1, h2, h3, h4, h5⟩ := HI.out
        have hel : E.length = L0.length + k := by rw [← hkl, ← h2]; simp
        have hb2 : Below wr.heap.size wr w2 := bstep hW0 HA.out.2.2
        obtain ⟨a3, n3, c3, w3, r3, O3, B3, K3, V3⟩ := (h1.below hb2).app2 (Nat.le_trans (Nat.le_trans HBB.out h3.size) hb2.size) (by have := HL0.out; omega) cd zs (.slice a2 zs.length c2) HA.out.1 hok.1.1 (fun b hb => ⟨Nat.le_trans (Nat.le_trans HBB.out h3.size) (Nat.le_trans hW0.size (HA.out.2.1 b hb)), fun p hp e => by
          have hq5 := HA.out.2.1 b hb
          have h6 := (h1.data p hp).lt e
          have h7 := hW0.size
          omega⟩)
        have q2 : w2.heap[gx]? = some (.cells #[.int .i64 cd, .slice ad zs.length cp] 38 (0, 0)) := kept HX1.out (bstep hW HA.out.2.2)
        refine ⟨a2, c2, rfl, a3, n3, c3, w3, r3, ⟨_, O3, ?_, (h3.trans (hb2.mono (Nat.le_trans HBB.out h3.size))).trans B3, fun k hk => (V3 k hk).elim (h4 k) (fun h => Or.inr (Nat.le_trans (Nat.le_trans h3.size hb2.size) h)), fun b hb hv => (K3 b (Nat.lt_of_lt_of_le hb (Nat.le_trans h3.size hb2.size)) (fun e => (h4 b e).elim hv (fun h => by omega))).trans ((hb2.block b (Nat.lt_of_lt_of_le hb h3.size)).trans (h5 b hb hv))⟩, optB_of q2, optB_of (kept q2 (bpush (Below.refl _ _) _)), optB_of ((K3 gx (heap_lt q2) (fun e => by
          have := (h1.lt (Or.inl e)).2
          omega)).trans q2)⟩
        rw [HT.out, ← List.append_assoc, ← h2]
        simp [codes]
      have hgl : gx < W1.heap.size := heap_lt HX1.out
      have x0 : W1.cell? ⟨gx, 0, none⟩ = some (.int .i64 cd) := (cell_of_heap HX1.out 0).trans rfl
      have x1 : W1.cell? ⟨gx, 1, none⟩ = some (.slice ad zs.length cp) := (cell_of_heap HX1.out 1).trans rfl
      clear ho hok hbel hkl HB1
      generalize zs.length = lz at *
      go_upto_region 5 with (fail)
      rw [← hW1, ← hgx]
      clear hW1 hgx e0 e1
      have xx : OptB gx cd (.slice ad lz cp) W1 := ⟨x0, x1⟩
      unfold OptB at xx
      go_region_held_law (fun s => s.cell? ⟨gx, 0, none⟩ = some (.int .i64 cd) ∧ s.cell? ⟨gx, 1, none⟩ = some (.slice ad lz cp)) (first
        | assumption
        | exact xx
        | exact hy
        | exact hu
        | exact hz) (first
        | (refine step_append_run rfl (.tmp 15) (.tmp 22) 39 39 rfl _ _ rfl rfl HAPH.out ?_)
        | (go_at_call 76; refine (HCL.out _ (Below.refl _ _).drew).mono ?_; rintro e w2 ⟨a2, c2, rfl, a3, n3, c3, w3, HAPH, HMH, hy, hu, hz⟩)
        | fail)
      all_goals go_wp2
      all_goals go_roundw
      all_goals first
        | exact ⟨k + 1, a3, n3, c3, by omega, by go_num, rfl, HMH⟩
        | (simp [intOf]; omega)
    · have hge : ¬ (k : Int) < n := by omega
      have hkn : k = n := by omega
      have HF : Hid (MoreI B (.slice a0 n0 c0) w wr (.slice a1 n1 c1) (L0 ++ absO os)) := by
        have e : os.take k = os := by rw [hkn, HN.out]; simp
        have h := HI.out
        rw [e] at h
        exact h
      go_wp2
      go_ret
      exact ⟨a1, n1, c1, rfl, HF⟩
theorem MoreI.later {B : Nat} {w W : World} {v : Value} {E : List (Opt × Value)} (h : OwnO B w v E) (hb : Below w.heap.size w W) : MoreI B v W W v (codes E) := ⟨E, h.below hb, rfl, Below.refl _ _, fun k hk => Or.inl hk, fun _ _ _ => rfl⟩
end Go.Proofs.Ytgcpoanjjgbfjaa
