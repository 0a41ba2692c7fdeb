/-
  Port: PortQueues: Put and Take at one of the three ports, as the walk needs them.
-/
import Derived.Test.YtkgjlfbnjccckaaPQS2
namespace Go.Proofs.Ytkgjlfbnjccckaa
open Go.RowKit
set_option linter.all false

section
variable {w0 W W3 w w' w1 w2 : World} {c m : Nat} {M D : Int} {S S' : List Pa} {p : Nat} {zs zs' : List Int} {gw gd : Nat} {V : Nat → Value} {X : Nat → Pa} {k k' : Nat}
theorem kt_putB (h : LT w0 W c m M D S p zs) (hb : Below W.heap.size W W3) (d : Dg) (va : Option Addr) (vc : Nat) (hok : d.ok) (hp : Part.ok W3 ⟨va, vc, d.zs⟩) (hz : d.zs.length ≤ 140737488355328) (hdr : ∀ y ∈ S, y.dr < 4611686018427387904) :
    Calls Try.prog 19 #[.pointer (some ⟨c, 0, none⟩), .agg (d.cells (.slice va d.zs.length vc)).toArray] W3 fun e w' => e = .returned (.int .i64 (putE D S d)) ∧ LT w0 w' c m M D (putF D S d) p zs ∧ Keeps W3 w' ∧ ∀ b, W.heap.size ≤ b → b < W3.heap.size → w'.heap[b]? = W3.heap[b]? := by
  obtain ⟨L, a, cp, h, rfl⟩ := h
  have x3 := h.tab.below hb
  have h3 : LTx w0 W3 c m M D L p a cp zs := ⟨x3, h.low, h.dice.below hb, h.dlow, bstep h.bel hb⟩
  refine (pput_any c m M D L d va vc W3 x3 hok hp hz hdr).mono fun e w' ⟨a1, a2⟩ => ⟨a1, h3.pz a2.out, Pz.keeps x3 a2.out, fun b h1 h2 => ?_⟩
  obtain ⟨L', _, _, a3⟩ := a2.out
  exact a3.only.block b (fun hk => by have := h.tab.lt b (Or.inr (Or.inl hk)); omega) h2
/-- what waits, as the statement has it. -/
theorem QS.vform (h : QS w0 w c m D S p zs gw gd V X k) (j : Nat) (hj : j < 3) : ∃ va vc, V j = .slice va (X j).ds.length vc ∧ (X j).ds.length ≤ vc := by
  rcases h.rows j hj with ⟨hv, hs⟩ | ⟨g, off, cap, cur, hv, _, hl, _⟩
  · refine ⟨none, 0, ?_, ?_⟩
    · rw [hv, show (X j).ds.length = 0 from by rw [← strs_len, hs]; rfl]
    · rw [show (X j).ds.length = 0 from by rw [← strs_len, hs]; rfl]; omega
  · exact ⟨_, _, by rw [hv, strs_len], by rw [strs_len] at hl; exact hl⟩
theorem QS.vcell (h : QS w0 w c m D S p zs gw gd V X k) (j : Nat) (hj : j < 3) : w.cell? ⟨gw, j, none⟩ = some (V j) ∧ w.frozen? ⟨gw, j, none⟩ = false := by
  refine ⟨?_, frozen_of_heap h.bw _⟩
  rw [cell_of_heap h.bw]
  rcases j with _ | _ | _ | j
  · rfl
  · rfl
  · rfl
  · omega
theorem putE_at {d : Dg} {x : Pa} (h : alook S d.dp = some x) : (putE D S d = if (x.ds.length : Int) = D then 3 else 0) ∧ putF D S d = if (x.ds.length : Int) = D then aput S { x with dr := x.dr + 1 } else aput S { x with ds := x.ds ++ [d] } := by
  unfold putE putF
  rw [h]
  exact ⟨rfl, rfl⟩
/-- Put where no room is left. -/
theorem QS.putFull (h : QS w0 W c m D S p zs gw gd V X k) (hb : Below W.heap.size W W3) (j : Nat) (hj : j < 3) (si di s0 : Int) (pa : Option Addr) (pc : Nat) (pz : List Int) (hok : Dg.ok ⟨si, di, s0, 100 + j, pz⟩) (hp0 : Part.ok w0 ⟨pa, pc, pz⟩) (hz : pz.length ≤ 140737488355328) (hk : k < 4611686018427387904) (hf : ((X j).ds.length : Int) = D) :
    Calls Try.prog 19 #[.pointer (some ⟨c, 0, none⟩), .agg #[.int .u32 si, .int .u32 di, .int .i64 s0, .int .i64 (100 + (j : Int)), .slice pa pz.length pc]] W3 fun e w' => e = .returned (.int .i64 3) ∧ w'.cell? ⟨gw, j, none⟩ = some (V j) ∧ w'.cell? ⟨gd, j, none⟩ = some (.int .i64 (X j).dr) ∧ w'.frozen? ⟨gd, j, none⟩ = false ∧
      Hid (∃ S' V' X', QS w0 (w'.setCell ⟨gd, j, none⟩ (.int .i64 ((X j).dr + 1))) c m D S' p zs gw gd V' X' (k + 1)) := by
  have h3 := h.below hb
  have hp := Part.ok_below hp0 h3.lt.bel
  obtain ⟨e1, e2⟩ := putE_at (D := D) (S := S) (d := ⟨si, di, s0, 100 + j, pz⟩) (h.look j hj)
  rw [if_pos hf] at e1 e2
  refine (kt_putB h.lt hb ⟨si, di, s0, 100 + j, pz⟩ pa pc hok hp hz (fun y hy => by have := h.drs y hy; omega)).mono fun e w' ⟨a1, a2, a3, a4⟩ => ?_
  rw [e1] at a1
  rw [e2] at a2
  obtain ⟨f1, f2, f3⟩ := h3.full j hj a2 a3
  refine ⟨a1, ?_, f1, f2, _, _, _, f3⟩
  have kw := a3 _ _ _ _ h3.bw (by decide) (by decide) (by decide)
  rw [cell_of_heap kw, ← cell_of_heap h3.bw]
  exact (h3.vcell j hj).1
/-- Put where room is left: what is laid behind then. -/
theorem QS.putRoom (h : QS w0 W c m D S p zs gw gd V X k) (hb : Below W.heap.size W W3) (j : Nat) (hj : j < 3) (si di s0 : Int) (pa : Option Addr) (pc : Nat) (pz : List Int) (hok : Dg.ok ⟨si, di, s0, 100 + j, pz⟩) (hp0 : Part.ok w0 ⟨pa, pc, pz⟩) (hz : pz.length ≤ 140737488355328) (hk : k < 4611686018427387904) (hf : ((X j).ds.length : Int) ≠ D) (hD : D ≤ 32)
    (gx : Nat) (hgx : W.heap.size ≤ gx) (C : Array Value) (hC : W3.heap[gx]? = some (.cells C 53 (0, 0))) (hC4 : C[4]? = some (.slice pa pz.length pc)) :
    Calls Try.prog 19 #[.pointer (some ⟨c, 0, none⟩), .agg #[.int .u32 si, .int .u32 di, .int .i64 s0, .int .i64 (100 + (j : Int)), .slice pa pz.length pc]] W3 fun e w' => e = .returned (.int .i64 0) ∧ w'.cell? ⟨gw, j, none⟩ = some (V j) ∧ w'.cell? ⟨gx, 4, none⟩ = some (.slice pa pz.length pc) ∧
      (convert 51 9 (.slice pa pz.length pc)).run Try.prog w'.drew = .ok (.string (strOfNums pz)) w'.drew ∧ ∃ (g off cp : Nat) (w7 : World), Hid ((Builtin.append_ #[43, 43] 43 #[V j, .slice (some ⟨w'.heap.size, 0, none⟩) 1 1]).run Try.prog (w'.alloc (.cells #[.string (strOfNums pz)] 9)).drew = .ok (.slice (some ⟨g, off, none⟩) ((X j).ds.length + 1) cp) w7) ∧
        w7.cell? ⟨gw, j, none⟩ = some (V j) ∧ w7.frozen? ⟨gw, j, none⟩ = false ∧ Hid (∃ S' V' X', QS w0 (w7.setCell ⟨gw, j, none⟩ (.slice (some ⟨g, off, none⟩) ((X j).ds.length + 1) cp)) c m D S' p zs gw gd V' X' (k + 1)) := by
  have h3 := h.below hb
  have hp := Part.ok_below hp0 h3.lt.bel
  obtain ⟨e1, e2⟩ := putE_at (D := D) (S := S) (d := ⟨si, di, s0, 100 + j, pz⟩) (h.look j hj)
  rw [if_neg hf] at e1 e2
  refine (kt_putB h.lt hb ⟨si, di, s0, 100 + j, pz⟩ pa pc hok hp hz (fun y hy => by have := h.drs y hy; omega)).mono fun e w' ⟨a1, a2, a3, a4⟩ => ?_
  rw [e1] at a1
  rw [e2] at a2
  have kw := a3 _ _ _ _ h3.bw (by decide) (by decide) (by decide)
  have hcw : w'.cell? ⟨gw, j, none⟩ = some (V j) := by
    rw [cell_of_heap kw, ← cell_of_heap h3.bw]
    exact (h3.vcell j hj).1
  have hpw : Part.ok w' ⟨pa, pc, pz⟩ := Part.ok_below hp0 a2.bel
  have hrj := h3.rows j hj
  have hr5 : RowO w'.drew 9 (V j) (strs (X j).ds) := hrj.keep fun b hb => by
    obtain ⟨cur, hc⟩ := hrj.cells hb
    show w'.heap[b]? = _
    rw [a3 _ _ _ _ hc (by decide) (by decide) (by decide), hc]
  have hdeep : (X j).ds.length ≤ 32 := by have := h3.lt.aok.deep _ (alook_mem (h3.look j hj)).1; omega
  obtain ⟨g, off, cp, w7, hrun, hr7, hg7, hs7, hk7, o1, o2, o3⟩ := hr5.push (.string (strOfNums pz)) rfl (by rw [strs_len]; omega)
  rw [strs_len] at hrun hr7
  have hst : strs (X j).ds ++ [.string (strOfNums pz)] = strs ((X j).ds ++ [⟨si, di, s0, 100 + j, pz⟩]) := by simp [strs]
  rw [hst] at hr7
  have hw : Only (fun b => (V j).ownBlock = some b) w' w7 := ⟨o1, o2, o3, hs7, fun b hb hl => hk7 b hl hb⟩
  obtain ⟨f1, f2, f3⟩ := h3.lay j hj ((X j).ds ++ [⟨si, di, s0, 100 + j, pz⟩]) a2 a3 (fun d hd => by
    rcases List.mem_append.1 hd with hd | hd
    · exact h3.dps j hj d hd
    · simp only [List.mem_singleton] at hd
      subst hd
      rfl) hw _ hr7 (fun b hb => by
    simp [Value.ownBlock] at hb
    subst hb
    exact hg7)
  refine ⟨a1, hcw, ?_, conv_part ⟨pa, pc, pz⟩ w'.drew hpw, g, off, cp, w7, hrun, f1, f2, _, _, _, f3⟩
  have := a4 gx hgx (heap_lt hC)
  rw [hC] at this
  rw [cell_of_heap this]
  exact hC4
/-- Take, elsewhere. -/
theorem QS.takeO (h : QS w0 w c m D S p zs gw gd V X k) (n : Int) (hn : ipOk n) (ho : ¬ (100 ≤ n ∧ n < 103)) :
    Calls Try.prog 21 #[.pointer (some ⟨c, 0, none⟩), .int .i64 n] w fun e w' => ∃ si di s d va vl vc b, e = .returned (.tuple #[.agg #[.int .u32 si, .int .u32 di, .int .i64 s, .int .i64 d, .slice va vl vc], .bool b]) ∧ ∃ S', Hid (QS w0 w' c m D S' p zs gw gd V X k) := by
  obtain ⟨t1, t2⟩ := h.takeO_look ho
  cases hd : takeD S n with
  | none => exact (kt_take_none h.lt n hn hd).mono fun e w' ⟨a1, a2⟩ => ⟨0, 0, 0, 0, none, 0, 0, false, a1, _, h.call a2.out.1 a2.out.2 (Nat.le_refl _) h.look h.drs⟩
  | some d => exact (kt_take_some h.lt n hn d hd).mono fun e w' ⟨va, vc, a1, a2⟩ => ⟨_, _, _, _, va, _, vc, true, a1, _, h.call a2.out.1 a2.out.2.1 (Nat.le_refl _) t1 t2⟩
/-- Take where nothing waits. -/
theorem QS.takeN (h : QS w0 w c m D S p zs gw gd V X k) (j : Nat) (hj : j < 3) (hd : (X j).ds = []) :
    Calls Try.prog 21 #[.pointer (some ⟨c, 0, none⟩), .int .i64 (100 + (j : Int))] w fun e w' => e = .returned (.tuple #[.agg #[.int .u32 0, .int .u32 0, .int .i64 0, .int .i64 0, .slice none 0 0], .bool false]) ∧ Hid (QS w0 w' c m D S p zs gw gd V X k) := by
  have hn : takeD S (100 + (j : Int)) = none := by unfold takeD; rw [h.look j hj]; simp [hd]
  exact (kt_take_none h.lt _ (by unfold ipOk; omega) hn).mono fun e w' ⟨a1, a2⟩ => ⟨a1, h.call a2.out.1 a2.out.2 (Nat.le_refl _) h.look h.drs⟩
/-- what the statement lays down when something was taken. -/
def TkZ (w0 W6 : World) (c m : Nat) (D : Int) (p : Nat) (zs : List Int) (gw gd j k : Nat) (v' : Value) : Prop := ∀ q : Nat, ∃ S' V' X', QS w0 ((W6.drewN q).setCell ⟨gw, j, none⟩ v') c m D S' p zs gw gd V' X' (k + 1)
/-- Take where something waits. -/
theorem QS.takeS (h : QS w0 w c m D S p zs gw gd V X k) (j : Nat) (hj : j < 3) (d : Dg) (r : List Dg) (hd : (X j).ds = d :: r) :
    Calls Try.prog 21 #[.pointer (some ⟨c, 0, none⟩), .int .i64 (100 + (j : Int))] w fun e w' => ∃ va vc, e = .returned (.tuple #[.agg #[.int .u32 d.sip, .int .u32 d.dip, .int .i64 d.sp, .int .i64 (100 + (j : Int)), .slice va d.zs.length vc], .bool true]) ∧
      Hid (∀ W6, Below w'.heap.size w' W6 → (∃ g off cap, V j = .slice (some ⟨g, off, none⟩) (r.length + 1) cap ∧ W6.cell? ⟨g, off, none⟩ = some (.string (strOfNums d.zs)) ∧ r.length + 1 ≤ cap ∧ (cap = 1 → TkZ w0 W6 c m D p zs gw gd j k (.slice (some ⟨g, off, none⟩) 0 0)) ∧ (cap ≠ 1 → TkZ w0 W6 c m D p zs gw gd j k (.slice (some ⟨g, off + 1, none⟩) r.length (cap - 1)))) ∧
        W6.cell? ⟨gw, j, none⟩ = some (V j) ∧ W6.frozen? ⟨gw, j, none⟩ = false ∧ (∀ q : Nat, (convert 51 9 (.slice va d.zs.length vc)).run Try.prog (W6.drewN q) = .ok (.string (strOfNums d.zs)) (W6.drewN q)) ∧ Keeps w W6) := by
  have hn : takeD S (100 + (j : Int)) = some d := by unfold takeD; rw [h.look j hj]; simp [hd]
  have hf : takeF S (100 + (j : Int)) = aput S { X j with ds := r } := by unfold takeF; rw [h.look j hj]; simp [hd]
  have hdp : d.dp = 100 + j := h.dps j hj d (by rw [hd]; simp)
  refine (kt_take_some h.lt _ (by unfold ipOk; omega) d hn).mono fun e w' ⟨va, vc, a1, a2⟩ => ⟨va, vc, by rw [← hdp]; exact a1, fun W6 hb6 => ?_⟩
  obtain ⟨b1, b2, b3, b4⟩ := a2.out
  rw [hf] at b1
  have kp := b2.trans (Keeps.below hb6)
  have hrj := h.rows j hj
  have hr6 : RowO W6 9 (V j) (strs (X j).ds) := hrj.keep fun b hb => by
    obtain ⟨cur, hc⟩ := hrj.cells hb
    rw [kp _ _ _ _ hc (by decide) (by decide) (by decide), hc]
  have hv6 := h.vcell j hj
  have kw := kp _ _ _ _ h.bw (by decide) (by decide) (by decide)
  have hcw : W6.cell? ⟨gw, j, none⟩ = some (V j) := by rw [cell_of_heap kw, ← cell_of_heap h.bw]; exact hv6.1
  have lay : ∀ (v' : Value), RowO W6 9 v' (strs r) → (∀ b, v'.ownBlock = some b → (V j).ownBlock = some b ∨ W6.heap.size ≤ b) → TkZ w0 W6 c m D p zs gw gd j k v' := fun v' hr hl q => by
    obtain ⟨_, _, f3⟩ := h.lay j hj r (b1.below hb6) kp (fun d' hd' => h.dps j hj d' (by rw [hd]; exact List.mem_cons_of_mem _ hd')) (w' := W6.drewN q) (Only.of_below (below_drewN _ q)) v' (hr.keep fun _ _ => rfl) hl
    exact ⟨_, _, _, f3⟩
  refine ⟨?_, hcw, frozen_of_heap kw _, fun q => (b3.below hb6).conv b4.zs q, kp⟩
  rw [hd] at hr6
  have hlen : (strs (d :: r)).length = r.length + 1 := by simp [strs]
  rcases hr6 with ⟨_, hs⟩ | ⟨g, off, cap, cur, hv, hg, hl, hs, hc⟩
  · simp [strs] at hs
  · rw [hlen] at hv hl
    have hrow : RowO W6 9 (.slice (some ⟨g, off, none⟩) (r.length + 1) cap) (strs (d :: r)) := Or.inr ⟨g, off, cap, cur, by rw [hlen], hg, by rw [hlen]; exact hl, hs, hc⟩
    refine ⟨g, off, cap, hv, ?_, hl, fun h1 => ?_, fun h1 => ?_⟩
    · rw [cell_of_heap hg]; exact hc 0 _ rfl
    · have hr0 : r = [] := List.eq_nil_of_length_eq_zero (by omega)
      subst hr0
      exact lay _ hrow.over (fun b hb => Or.inl (by rw [hv]; simpa [Value.ownBlock] using hb))
    · have := hrow.drop 1 (by omega)
      simp only [Nat.add_sub_cancel, strs, List.map_cons, List.drop_succ_cons, List.drop_zero] at this
      exact lay _ this (fun b hb => Or.inl (by rw [hv]; simpa [Value.ownBlock] using hb))
end
end Go.Proofs.Ytkgjlfbnjccckaa
