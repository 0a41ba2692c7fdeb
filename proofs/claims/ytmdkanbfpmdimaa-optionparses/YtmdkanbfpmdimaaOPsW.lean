/-
  The walk of OptionParses.
-/
import Derived.Test.YtmdkanbfpmdimaaOLive
import Derived.Test.YtmdkanbfpmdimaaOBkP
import Derived.Test.YtmdkanbfpmdimaaOBey
import Derived.Test.YtmdkanbfpmdimaaORPw
import Derived.Test.YtmdkanbfpmdimaaOSame
import Derived.Test.YtmdkanbfpmdimaaOPAs
namespace Go.Proofs.Ytmdkanbfpmdimaa
open Go.RowKit
set_option linter.all false

theorem K15.begin (w : World) (B : Nat) (hB : B ≤ w.heap.size) : K15 (w.alloc (.cells #[.slice none 0 0, .slice none 0 0, .slice none 0 0, .slice none 0 0] 39)) B w.heap.size (.slice none 0 0) (.slice none 0 0) (.slice none 0 0) (.slice none 0 0) [] [] [] := by
  refine ⟨⟨heap_new _ _, Row.nil _ _, Row.nil _ _, fun k hk => ?_, by simp [Value.ownBlock], by simp [Value.ownBlock], by simp [Value.ownBlock], by simp, by simp, by simp⟩, fun k hk => ?_, Nat.le_trans hB (by simp), Row.nil _ _, Row.nil _ _, by simp [Value.ownBlock], by simp [Value.ownBlock], by simp [Value.ownBlock], by simp, by simp, by simp, by simp, by simp, rfl⟩
  · rcases hk with rfl | hk | hk
    · exact hB
    · simp [Value.ownBlock] at hk
    · simp [Value.ownBlock] at hk
  · rcases hk with rfl | hk | hk
    · exact Nat.le_refl _
    · simp [Value.ownBlock] at hk
    · simp [Value.ownBlock] at hk
/-- options of a call's own, their blocks from B to below T. -/
def OwnX (B T : Nat) (W : World) (v : Value) (g : List Opt) : Prop := ∃ E, OwnO B W v E ∧ codes E = g ∧ (∀ b, InO v E b → b < T) ∧ T ≤ W.heap.size
theorem OwnX.of {w w' : World} {R : Except Int (List Opt)} {v : Value} (h : ParseI w w' R v) : OwnX w.heap.size w'.heap.size w' v (okL R) ∧ Below w.heap.size w w' := by
  obtain ⟨E, h1, h2, h3⟩ := h
  exact ⟨⟨E, h1, h2, fun b hb => (h1.lt hb).2, Nat.le_refl _⟩, h3⟩
theorem OwnX.below {B T : Nat} {W W' : World} {v : Value} {g : List Opt} (h : OwnX B T W v g) (hb : Below W.heap.size W W') : OwnX B T W' v g := by
  obtain ⟨E, h1, h2, h3, h4⟩ := h
  exact ⟨E, h1.below hb, h2, h3, Nat.le_trans h4 hb.size⟩
theorem OwnX.btw {B T lo hi : Nat} {W W' : World} {v : Value} {g : List Opt} (h : OwnX B T W v g) (hb : Btw lo hi W W') (hd : T ≤ lo ∨ hi ≤ B) : OwnX B T W' v g := by
  obtain ⟨E, h1, h2, h3, h4⟩ := h
  refine ⟨E, h1.keep fun b hi' => hb.block b (h1.lt hi').2 ?_, h2, h3, Nat.le_trans h4 hb.size⟩
  rcases hd with hd | hd
  · exact Or.inl (Nat.lt_of_lt_of_le (h3 b hi') hd)
  · exact Or.inr (Nat.le_trans hd (h1.lt hi').1)
theorem OwnX.low {B T gk : Nat} {W W' : World} {v : Value} {g : List Opt} (h : OwnX B T W v g) (hk : ∀ b, b < gk → W'.heap[b]? = W.heap[b]?) (hT : T ≤ gk) (hs : W.heap.size ≤ W'.heap.size) : OwnX B T W' v g := by
  obtain ⟨E, h1, h2, h3, h4⟩ := h
  exact ⟨E, h1.keep fun b hi => hk b (Nat.lt_of_lt_of_le (h3 b hi) hT), h2, h3, Nat.le_trans h4 hs⟩
structure GoodG (g : List Opt) : Prop where
  took : Took g
  sum : sumO g ≤ 2147483647
theorem goodG_of {ps : List Part} {w : World} {a : Option Addr} (h : PV w a ps) (hb : bulkP ps ≤ 2147483647) : GoodG (okL (parseG [] (partsZ ps))) := by
  have hz : ∀ p ∈ partsZ ps, ∀ z ∈ p, 0 ≤ z ∧ z ≤ 255 := fun p hp z hzp => by
    obtain ⟨q, hq, rfl⟩ := List.mem_map.1 hp
    exact (h.oks q hq).1 z hzp
  have hs := bulkP_sum ps
  cases hr : parseG [] (partsZ ps) with
  | error e => exact ⟨took_nil, by simp [okL, sumO]⟩
  | ok g =>
    have := parseG_took (partsZ ps) [] took_nil hz g hr
    exact ⟨this.1, by have h2 := this.2; simp [sumO] at h2; simp only [okL, sumO]; omega⟩
theorem optLen {g : List Opt} {o : Opt} (h : o ∈ g) : o.2.length ≤ sumO g := by
  unfold sumO
  obtain ⟨s, t, e⟩ := List.append_of_mem h
  rw [e]
  simp
  omega
theorem OwnX.view {B T : Nat} {W : World} {a : Option Addr} {n c : Nat} {g : List Opt} (h : OwnX B T W (.slice a n c) g) (hg : GoodG g) : ∃ os, OV W a os ∧ n = os.length ∧ absO os = g := by
  obtain ⟨E, h1, h2, _⟩ := h
  have hcd : ∀ p ∈ E, p.1 ∈ g := fun p hp => by rw [← h2]; exact List.mem_map.2 ⟨p, hp, rfl⟩
  have hl : E.length = g.length := by rw [← h2]; simp
  obtain ⟨hv, hn⟩ := h1.view (fun p hp => by have := optLen (hcd p hp); have := hg.sum; omega) (by have := hg.took.few; omega) (fun p hp => by have := hg.took.apart.1 _ (hcd p hp); omega)
  exact ⟨_, hv, by rw [hn, List.length_map], by rw [ptOf_abs]; exact h2⟩
theorem same_x {B T B' T' : Nat} {W : World} {a a' : Option Addr} {n n' c c' : Nat} {g : List Opt} (h : OwnX B T W (.slice a n c) g) (h' : OwnX B' T' W (.slice a' n' c') g) (hg : GoodG g) :
    Calls Try.prog 11 #[.slice a n c, .slice a' n' c'] W fun e w' => e = .returned (.bool true) ∧ Hid (Below W.heap.size W w') := by
  obtain ⟨os, v1, rfl, e1⟩ := h.view hg
  obtain ⟨qs, v2, rfl, e2⟩ := h'.view hg
  exact osame_yes a a' c c' os qs W v1 v2 (e1.trans e2.symm)
/-- the book: what was taken lies below T. -/
def KX (W : World) (B gk T : Nat) : Prop := ∃ L V R S ls rs ws, K15 W B gk L V R S ls rs ws ∧ rs.length ≤ 10 ∧ ls.length ≤ 900 ∧ (∀ p ∈ rs, ∀ b, p.1.ownBlock = some b → b < T) ∧ (∀ p ∈ ls, ∀ b, p.1.ownBlock = some b → b < T)
structure KX2 (k l : Nat) (W : World) (B gk T : Nat) : Prop where
  h : ∃ L V R S ls rs ws, K15 W B gk L V R S ls rs ws ∧ rs.length ≤ k ∧ ls.length ≤ l ∧ (∀ p ∈ rs, ∀ b, p.1.ownBlock = some b → b < T) ∧ (∀ p ∈ ls, ∀ b, p.1.ownBlock = some b → b < T)
theorem take_x {k l B Bi Ti T gk : Nat} {W : World} {v : Value} {g : List Opt} (h : KX2 k l W B gk T) (ho : OwnX Bi Ti W v g) (hg : GoodG g) (hk : k ≤ 9) (hl : l ≤ 800) (h1 : T ≤ Bi) (h2 : Ti ≤ gk) (h3 : B ≤ Bi) (h4 : T ≤ Ti) :
    Calls Try.prog 12 #[.pointer (some ⟨gk, 0, none⟩), v] W fun e w' => e = .returned (.tuple #[]) ∧ Hid (KX2 (k + 1) (l + 64) w' B gk Ti ∧ (∀ b, b < gk → w'.heap[b]? = W.heap[b]?) ∧ Below B W w') := by
  obtain ⟨L, V, R, S, ls, rs, ws, k1, k2, k3, k4, k5⟩ := h.h
  obtain ⟨E, o1, o2, o3, o4⟩ := ho
  have hcd : ∀ p ∈ E, p.1 ∈ g := fun p hp => by rw [← o2]; exact List.mem_map.2 ⟨p, hp, rfl⟩
  have hlen : E.length ≤ 64 := by
    have := hg.took.few
    rw [← o2] at this
    simpa [codes] using this
  refine (take15_any B gk L V R S v ls rs ws E W k1 (o1.le h3) (fun b hb => Nat.lt_of_lt_of_le (o3 b hb) h2) (fun p hp b hb e => ?_) (fun q hq b hb p hp e => ?_) (by omega) (by omega) (by omega) (fun q hq => Nat.le_trans (optLen (hcd q hq)) hg.sum) (fun q hq => by have := hg.took.apart.1 _ (hcd q hq); omega)).mono ?_
  · have := k4 p hp b hb
    have := o1.low b e
    omega
  · have := k5 p hp b e
    have := o1.dlow q hq b hb
    omega
  · rintro e w' ⟨rfl, H⟩
    obtain ⟨⟨L', V', R', S', qv, qE, hK⟩, p2, p3⟩ := H.out
    refine ⟨rfl, ⟨⟨L', V', R', S', _, _, _, hK, by simp; omega, by simp [dat]; omega, fun p hp b hb => ?_, fun p hp b hb => ?_⟩⟩, p2, p3⟩
    · rcases List.mem_append.1 hp with hp | hp
      · exact Nat.lt_of_lt_of_le (k4 p hp b hb) h4
      · simp only [List.mem_singleton] at hp
        subst hp
        exact o3 b (Or.inl hb)
    · rcases List.mem_append.1 hp with hp | hp
      · exact Nat.lt_of_lt_of_le (k5 p hp b hb) h4
      · obtain ⟨q, hq, rfl⟩ := List.mem_map.1 hp
        exact o3 b (Or.inr ⟨q, hq, hb⟩)
theorem owned_x {k l B gk T : Nat} {W : World} (h : KX2 k l W B gk T) (hk : k ≤ 900) :
    Calls Try.prog 13 #[.pointer (some ⟨gk, 0, none⟩)] W fun e w' => e = .returned (.bool true) ∧ Hid (Below B W w') := by
  obtain ⟨L, V, R, S, ls, rs, ws, k1, k2, _⟩ := h.h
  exact owned15_any B gk L V R S ls rs ws W k1 (by omega)
theorem kx_start (W : World) (B T : Nat) (hB : B ≤ W.heap.size) : KX2 0 0 (W.alloc (.cells #[.slice none 0 0, .slice none 0 0, .slice none 0 0, .slice none 0 0] 39)) B W.heap.size T :=
  ⟨_, _, _, _, [], [], [], K15.begin W B hB, by simp, by simp, by simp, by simp⟩
theorem refParse_x (a : Option Addr) (c : Nat) (ps : List Part) (w : World) (h : PV w a ps) (hb : bulkP ps ≤ 2147483647) :
    Calls Try.prog 7 #[.slice a ps.length c] w fun e w' => ∃ ax n cx, e = .returned (.tuple #[.slice ax n cx, .int .i64 (exR (parseG [] (partsZ ps)))]) ∧ Hid (OwnX w.heap.size w'.heap.size w' (.slice ax n cx) (okL (parseG [] (partsZ ps))) ∧ Below w.heap.size w w') := by
  have hs := bulkP_sum ps
  refine (refParse_any a c ps w h (by omega) (by omega)).mono ?_
  rintro e w' ⟨ax, n, cx, rfl, H⟩
  exact ⟨ax, n, cx, rfl, OwnX.of H.out⟩
theorem parse_x (ga : Nat) (X : Array Value) (a : Option Addr) (ps : List Part) (w w0 : World) (hk : LpK w ga ps X) (h : PV w0 a ps) (hb : bulkP ps ≤ 2147483647) :
    Calls Try.prog 9 #[.slice (some ⟨ga, 0, none⟩) ps.length (ps.length + 1)] w fun e w' => ∃ ax n cx, e = .returned (.tuple #[.slice ax n cx, .int .i64 (exR (parseG [] (partsZ ps)))]) ∧ Hid (OwnX w.heap.size w'.heap.size w' (.slice ax n cx) (okL (parseG [] (partsZ ps))) ∧ Below w.heap.size w w') := by
  have hs := bulkP_sum ps
  have := parse_any (some ⟨ga, 0, none⟩) (ps.length + 1) (lentPs ga ps) w (hk.view h) (by rw [lentPs_len]; omega) (by rw [lentPs_zs]; omega)
  rw [lentPs_len, lentPs_zs] at this
  refine this.mono ?_
  rintro e w' ⟨ax, n, cx, rfl, H⟩
  exact ⟨ax, n, cx, rfl, OwnX.of H.out⟩
set_option maxRecDepth 20000 in
set_option maxHeartbeats 8000000 in
theorem optionParses_walk (ps : List Part) (pa : Option Addr) (pc : Nat) (qs : List Part) (qa : Option Addr) (qc : Nat) (w : World) (hp : PV w pa ps) (hps : ps.length * 24 ≤ 140737488351232 ∧ ∀ p, p ∈ ps → p.zs.length ≤ 140737488351232) (hq : PV w qa qs) (hqs : qs.length * 24 ≤ 140737488351232 ∧ ∀ p, p ∈ qs → p.zs.length ≤ 140737488351232) :
    Calls Try.prog 3 #[.slice pa ps.length pc, .slice qa qs.length qc] w fun e w' => e = .returned (.bool true) ∧ Below w.heap.size w w' := by
  have HBP : Hid (∀ W, Below w.heap.size w W → _) := fun W hW => obey_any pa pc ps W (hp.below hW) (by omega) (fun p h => by have := hps.2 p h; omega)
  have HBQ : Hid (∀ W, Below w.heap.size w W → _) := fun W hW => obey_any qa qc qs W (hq.below hW) (by omega) (fun p h => by have := hqs.2 p h; omega)
  have HRP : Hid (bulkP ps ≤ 2147483647 → ∀ W, Below w.heap.size w W → _) := fun hb W hW => refParse_x pa pc ps W (hp.below hW) hb
  have HRQ : Hid (bulkP qs ≤ 2147483647 → ∀ W, Below w.heap.size w W → _) := fun hb W hW => refParse_x qa qc qs W (hq.below hW) hb
  have HLP : Hid (∀ W, Below w.heap.size w W → _) := fun W hW => lentP_any pa pc ps W (hp.below hW) (by omega) (fun p h => by have := hps.2 p h; omega)
  have HLQ : Hid (∀ W, Below w.heap.size w W → _) := fun W hW => lentP_any qa qc qs W (hq.below hW) (by omega) (fun p h => by have := hqs.2 p h; omega)
  have HPP : Hid (bulkP ps ≤ 2147483647 → ∀ W ga X, LpK W ga ps X → _) := fun hb W ga X hk => parse_x ga X pa ps W w hk hp hb
  have HPQ : Hid (bulkP qs ≤ 2147483647 → ∀ W ga X, LpK W ga qs X → _) := fun hb W ga X hk => parse_x ga X qa qs W w hk hq hb
  have HAP : Hid (∀ W ga X, LpK W ga ps X → Below w.heap.size w W → w.heap.size ≤ ga → _) := fun W ga X hk hW hg => asLentP_any ga w.heap.size X pa pc ps W hk ((PLow.of hp).below hW) hg (by omega) (fun p h => by have := hps.2 p h; omega)
  have HAQ : Hid (∀ W ga X, LpK W ga qs X → Below w.heap.size w W → w.heap.size ≤ ga → _) := fun W ga X hk hW hg => asLentP_any ga w.heap.size X qa qc qs W hk ((PLow.of hq).below hW) hg (by omega) (fun p h => by have := hqs.2 p h; omega)
  have HGP : Hid (bulkP ps ≤ 2147483647 → GoodG (okL (parseG [] (partsZ ps)))) := fun hb => goodG_of hp hb
  have HGQ : Hid (bulkP qs ≤ 2147483647 → GoodG (okL (parseG [] (partsZ qs)))) := fun hb => goodG_of hq hb
  clear hp hps hq hqs
  generalize okL (parseG [] (partsZ ps)) = gp at *
  generalize okL (parseG [] (partsZ qs)) = gq at *
  generalize exR (parseG [] (partsZ ps)) = ep at *
  generalize exR (parseG [] (partsZ qs)) = eq at *
  obtain ⟨n, hn⟩ : ∃ n, n = ps.length := ⟨_, rfl⟩
  obtain ⟨m, hm⟩ : ∃ m, m = qs.length := ⟨_, rfl⟩
  rw [← hn] at HBP HRP HLP HPP HAP ⊢
  rw [← hm] at HBQ HRQ HLQ HPQ HAQ ⊢
  have HNN := hid (And.intro hn hm)
  clear hn hm
  go_enter Try.func3, Try.ntmps3
  go_upto_region 2 with (first
    | (go_at_call 5; refine (awake_any _).mono ?_; rintro e w1 ⟨rfl, HB1⟩)
    | fail)
  have H1 := hid (HBP.out _ HB1.out)
  have H2 := hid (HBQ.out _ HB1.out)
  clear HBP HBQ
  by_cases hbp : 2147483647 < bulkP ps
  · rw [decide_eq_true hbp] at H1
    generalize decide (2147483647 < bulkP qs) = BB at *
    go_wp2_with (first
      | (go_at_call_of 6 (Value.slice pa n pc); refine H1.out.mono ?_; rintro e wx ⟨rfl, hw⟩; subst wx)
      | (go_at_call_of 6 (Value.slice qa m qc); refine H2.out.mono ?_; rintro e wx ⟨rfl, hw⟩; subst wx)
      | fail)
    go_ret
    exact ⟨rfl, HB1.out⟩
  · by_cases hbq : 2147483647 < bulkP qs
    · rw [decide_eq_false hbp] at H1
      rw [decide_eq_true hbq] at H2
      go_wp2_with (first
        | (go_at_call_of 6 (Value.slice pa n pc); refine H1.out.mono ?_; rintro e wx ⟨rfl, hw⟩; subst wx)
        | (go_at_call_of 6 (Value.slice qa m qc); refine H2.out.mono ?_; rintro e wx ⟨rfl, hw⟩; subst wx)
        | fail)
      go_ret
      exact ⟨rfl, HB1.out⟩
    · rw [decide_eq_false hbp] at H1
      rw [decide_eq_false hbq] at H2
      have KRP := hid (HRP.out (by omega))
      have KRQ := hid (HRQ.out (by omega))
      have KPP := hid (HPP.out (by omega))
      have KPQ := hid (HPQ.out (by omega))
      have KGP := hid (HGP.out (by omega))
      have KGQ := hid (HGQ.out (by omega))
      clear HRP HRQ HPP HPQ HGP HGQ hbp hbq
      go_upto_region 6 with (first
        | (go_at_call_of 6 (Value.slice pa n pc); refine H1.out.mono ?_; rintro e wx ⟨rfl, hw⟩; subst wx)
        | (go_at_call_of 6 (Value.slice qa m qc); refine H2.out.mono ?_; rintro e wx ⟨rfl, hw⟩; subst wx)
        | fail)
      clear H1 H2
      have C1 := hid (KRP.out _ HB1.out)
      go_upto_region 7 with (first
        | (go_at_call 7; refine C1.out.mono ?_; rintro e w2 ⟨a2, n2, c2, rfl, O2⟩)
        | fail)
      clear C1 KRP
      have HB2 := hid (bstep HB1.out O2.out.2)
      have C1 := hid (KRQ.out _ HB2.out)
      go_upto_region 8 with (first
        | (go_at_call 7; refine C1.out.mono ?_; rintro e w3 ⟨a3, n3, c3, rfl, O3⟩)
        | fail)
      clear C1 KRQ
      have HB3 := hid (bstep HB2.out O3.out.2)
      have OP3 := hid (O2.out.1.below O3.out.2)
      have OQ3 := hid O3.out.1
      have Z23 : Hid (w2.heap.size ≤ w3.heap.size) := O3.out.2.size
      clear O2 O3
      obtain ⟨g1, hg1⟩ : ∃ g, g = w3.heap.size := ⟨_, rfl⟩
      have HG1 := hid hg1
      have C1 := hid (HLP.out _ HB3.out)
      rw [← hg1] at C1
      clear hg1
      go_upto_region 9 with (first
        | (go_at_call 8; refine C1.out.mono ?_; rintro e w4 ⟨rfl, HF⟩)
        | fail)
      clear C1 HLP
      obtain ⟨X1, hF⟩ := HF.out
      have HB4 := hid (bstep HB3.out hF.below)
      have OP4 := hid (OP3.out.below hF.below)
      have OQ4 := hid (OQ3.out.below hF.below)
      have LK4 := hid hF.k
      have Z4 : Hid (w4.heap.size = g1 + 2 + ps.length) := hF.hs
      clear hF HF OP3 OQ3
      obtain ⟨g2, hg2⟩ : ∃ g, g = w4.heap.size := ⟨_, rfl⟩
      have HG2 := hid hg2
      have C1 := hid (HLQ.out _ HB4.out)
      rw [← hg2] at C1
      clear hg2
      go_upto_region 10 with (first
        | (go_at_call 8; refine C1.out.mono ?_; rintro e w5 ⟨rfl, HF⟩)
        | fail)
      clear C1 HLQ
      obtain ⟨X2, hF⟩ := HF.out
      have HB5 := hid (bstep HB4.out hF.below)
      have OP5 := hid (OP4.out.below hF.below)
      have OQ5 := hid (OQ4.out.below hF.below)
      have LK5 := hid (LK4.out.below hF.below)
      have LQ5 := hid hF.k
      have Z5 : Hid (w5.heap.size = g2 + 2 + qs.length) := hF.hs
      clear hF HF OP4 OQ4 LK4
      have C1 := hid (KPP.out _ _ _ LK5.out)
      go_upto_region 11 with (first
        | (go_at_call 9; refine C1.out.mono ?_; rintro e w6 ⟨a6, n6, c6, rfl, O6⟩)
        | fail)
      clear C1
      have HB6 := hid (bstep HB5.out O6.out.2)
      have OP6 := hid (OP5.out.below O6.out.2)
      have OQ6 := hid (OQ5.out.below O6.out.2)
      have LK6 := hid (LK5.out.below O6.out.2)
      have LQ6 := hid (LQ5.out.below O6.out.2)
      have OA6 := hid O6.out.1
      have Z6 : Hid (w5.heap.size ≤ w6.heap.size) := O6.out.2.size
      clear O6 OP5 OQ5 LK5 LQ5
      have C1 := hid (KPQ.out _ _ _ LQ6.out)
      go_upto_region 12 with (first
        | (go_at_call 9; refine C1.out.mono ?_; rintro e w7 ⟨a7, n7, c7, rfl, O7⟩)
        | fail)
      clear C1 KPQ
      have HB7 := hid (bstep HB6.out O7.out.2)
      have OP7 := hid (OP6.out.below O7.out.2)
      have OQ7 := hid (OQ6.out.below O7.out.2)
      have LK7 := hid (LK6.out.below O7.out.2)
      have LQ7 := hid (LQ6.out.below O7.out.2)
      have OA7 := hid (OA6.out.below O7.out.2)
      have OB7 := hid O7.out.1
      have Z7 : Hid (w6.heap.size ≤ w7.heap.size) := O7.out.2.size
      clear O7 OP6 OQ6 LK6 LQ6 OA6
      have C1 := hid (KPP.out _ _ _ LK7.out)
      go_upto_region 13 with (first
        | (go_at_call 9; refine C1.out.mono ?_; rintro e w8 ⟨a8, n8, c8, rfl, O8⟩)
        | fail)
      clear C1 KPP
      have HB8 := hid (bstep HB7.out O8.out.2)
      have OP8 := hid (OP7.out.below O8.out.2)
      have OQ8 := hid (OQ7.out.below O8.out.2)
      have LK8 := hid (LK7.out.below O8.out.2)
      have LQ8 := hid (LQ7.out.below O8.out.2)
      have OA8 := hid (OA7.out.below O8.out.2)
      have OB8 := hid (OB7.out.below O8.out.2)
      have OC8 := hid O8.out.1
      have Z8 : Hid (w7.heap.size ≤ w8.heap.size) := O8.out.2.size
      clear O8 OP7 OQ7 LK7 LQ7 OA7 OB7
      have L1 : Hid (w.heap.size ≤ g1) := hid (by have := HB3.out.size; have := HG1.out; omega)
      have C1 := hid (HAP.out _ _ _ LK8.out HB8.out L1.out)
      go_upto_region 14 with (first
        | (go_at_call 10; refine C1.out.mono ?_; rintro e w9 ⟨rfl, T9⟩)
        | fail)
      clear C1 HAP
      have HB9 := hid (HB8.out.trans (T9.out.below L1.out HB8.out.size))
      have OP9 := hid (OP8.out.btw T9.out (Or.inl (by have := HNN.out; have := Z23.out; have := HG1.out; omega)))
      have OQ9 := hid (OQ8.out.btw T9.out (Or.inl (by have := HNN.out; have := HG1.out; omega)))
      have LQ9 : Hid (LpK w9 g2 qs X2) := LQ8.out.keep fun k h1 h2 => T9.out.block k (LQ8.out.lt k h1 h2) (Or.inr (by have := HNN.out; have := HG2.out; have := Z4.out; omega))
      have OA9 := hid (OA8.out.btw T9.out (Or.inr (by have := HNN.out; have := HG2.out; have := Z4.out; have := Z5.out; omega)))
      have OB9 := hid (OB8.out.btw T9.out (Or.inr (by have := HNN.out; have := HG2.out; have := Z4.out; have := Z5.out; have := Z6.out; omega)))
      have OC9 := hid (OC8.out.btw T9.out (Or.inr (by have := HNN.out; have := HG2.out; have := Z4.out; have := Z5.out; have := Z6.out; have := Z7.out; omega)))
      have Z9 : Hid (w8.heap.size ≤ w9.heap.size) := T9.out.size
      clear OP8 OQ8 LK8 LQ8 OA8 OB8 OC8 T9
      have L2 : Hid (w.heap.size ≤ g2) := hid (by have := HNN.out; have := HG2.out; have := Z4.out; have := L1.out; omega)
      have C1 := hid (HAQ.out _ _ _ LQ9.out HB9.out L2.out)
      go_upto_region 15 with (first
        | (go_at_call 10; refine C1.out.mono ?_; rintro e w10 ⟨rfl, T10⟩)
        | fail)
      clear C1 HAQ
      have HB10 := hid (HB9.out.trans (T10.out.below L2.out HB9.out.size))
      have OP10 := hid (OP9.out.btw T10.out (Or.inl (by have := HNN.out; have := Z23.out; have := HG1.out; have := HG2.out; have := Z4.out; omega)))
      have OQ10 := hid (OQ9.out.btw T10.out (Or.inl (by have := HNN.out; have := HG1.out; have := HG2.out; have := Z4.out; omega)))
      have OA10 := hid (OA9.out.btw T10.out (Or.inr (by have := HNN.out; have := Z5.out; omega)))
      have OB10 := hid (OB9.out.btw T10.out (Or.inr (by have := HNN.out; have := Z5.out; have := Z6.out; omega)))
      have OC10 := hid (OC9.out.btw T10.out (Or.inr (by have := HNN.out; have := Z5.out; have := Z6.out; have := Z7.out; omega)))
      have Z10 : Hid (w9.heap.size ≤ w10.heap.size) := T10.out.size
      clear OP9 OQ9 LQ9 OA9 OB9 OC9 T10
      have C1 := hid (same_x OA10.out OP10.out KGP.out)
      go_upto_region 16 with (first
        | (go_at_call 11; refine C1.out.mono ?_; rintro e w11 ⟨rfl, T11⟩)
        | fail)
      clear C1
      have C1 := hid (same_x (OB10.out.below T11.out) (OQ10.out.below T11.out) KGQ.out)
      go_upto_region 17 with (first
        | (go_at_call 11; refine C1.out.mono ?_; rintro e w12 ⟨rfl, T12⟩)
        | fail)
      clear C1
      have T10b := hid (bstep T11.out T12.out)
      have C1 := hid (same_x (OC10.out.below T10b.out) (OP10.out.below T10b.out) KGP.out)
      go_upto_region 18 with (first
        | (go_at_call 11; refine C1.out.mono ?_; rintro e w13 ⟨rfl, T13⟩)
        | fail)
      clear C1
      have T10c := hid (bstep T10b.out T13.out)
      have HB13 := hid (bstep HB10.out T10c.out)
      have hb14 := bpush (Below.refl _ w13) (.cells #[.slice none 0 0, .slice none 0 0, .slice none 0 0, .slice none 0 0] 39)
      have OA13 := hid ((OA10.out.below T10c.out).below hb14)
      have OB13 := hid ((OB10.out.below T10c.out).below hb14)
      have OC13 := hid ((OC10.out.below T10c.out).below hb14)
      have K0 := hid (kx_start w13 w.heap.size 0 HB13.out.size)
      have HB14 := hid (bstep HB13.out hb14)
      have Z13 : Hid (w10.heap.size ≤ w13.heap.size) := T10c.out.size
      clear hb14 OA10 OB10 OC10 OP10 OQ10 T11 T12 T13 T10b T10c HB13
      go_upto_region 21 with fail
      obtain ⟨w14, hw14⟩ : ∃ W, W = w13.alloc (.cells #[.slice none 0 0, .slice none 0 0, .slice none 0 0, .slice none 0 0] 39) := ⟨_, rfl⟩
      rw [← hw14] at OA13 OB13 OC13 K0 HB14 ⊢
      clear hw14
      obtain ⟨gk, hgk⟩ : ∃ g, g = w13.heap.size := ⟨_, rfl⟩
      have HGK := hid hgk
      rw [← hgk] at K0 ⊢
      clear hgk
      have L3 : Hid (w.heap.size ≤ w5.heap.size) := HB5.out.size
      have C1 := hid (take_x K0.out OA13.out KGP.out (by omega) (by omega) (by omega) (by have := HGK.out; have := Z13.out; have := Z10.out; have := Z9.out; have := Z8.out; have := Z7.out; omega) L3.out (by omega))
      go_upto_region 22 with (first
        | (go_at_call 12; refine C1.out.mono ?_; rintro e w15 ⟨rfl, K1⟩)
        | fail)
      clear C1 K0 OA13
      have OB15 := hid (OB13.out.low K1.out.2.1 (by have := HGK.out; have := Z13.out; have := Z10.out; have := Z9.out; have := Z8.out; omega) K1.out.2.2.size)
      have OC15 := hid (OC13.out.low K1.out.2.1 (by have := HGK.out; have := Z13.out; have := Z10.out; have := Z9.out; omega) K1.out.2.2.size)
      have C1 := hid (take_x K1.out.1 OB15.out KGQ.out (by omega) (by omega) (by omega) (by have := HGK.out; have := Z13.out; have := Z10.out; have := Z9.out; have := Z8.out; omega) (by have := L3.out; have := Z6.out; omega) Z7.out)
      go_upto_region 23 with (first
        | (go_at_call 12; refine C1.out.mono ?_; rintro e w16 ⟨rfl, K2⟩)
        | fail)
      clear C1 OB13 OB15
      have OC16 := hid (OC15.out.low K2.out.2.1 (by have := HGK.out; have := Z13.out; have := Z10.out; have := Z9.out; omega) K2.out.2.2.size)
      have C1 := hid (take_x K2.out.1 OC16.out KGP.out (by omega) (by omega) (by omega) (by have := HGK.out; have := Z13.out; have := Z10.out; have := Z9.out; omega) (by have := L3.out; have := Z6.out; have := Z7.out; omega) Z8.out)
      go_upto_region 24 with (first
        | (go_at_call 12; refine C1.out.mono ?_; rintro e w17 ⟨rfl, K3⟩)
        | fail)
      clear C1 OC13 OC15 OC16
      have C1 := hid (owned_x K3.out.1 (by omega))
      have HB17 := hid (((HB14.out.trans K1.out.2.2).trans K2.out.2.2).trans K3.out.2.2)
      go_wp2_with (first
        | (go_at_call 13; refine C1.out.mono ?_; rintro e w18 ⟨rfl, T18⟩)
        | fail)
      go_ret
      exact ⟨rfl, HB17.out.trans T18.out⟩
end Go.Proofs.Ytmdkanbfpmdimaa
