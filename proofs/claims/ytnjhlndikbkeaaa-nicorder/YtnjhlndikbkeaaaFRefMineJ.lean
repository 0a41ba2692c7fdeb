import Derived.Test.YtnjhlndikbkeaaaFMineW
import Derived.Test.YtnjhlndikbkeaaaNLiveJ
/-
  The document's Mine.
-/
namespace Go.Proofs.Ytnjhlndikbkeaaa
open Go.RowKit
set_option linter.all false

theorem mine_start0 (w : World) (A B : Array Value) (t t' : TypeId) : (∀ o, ((w.alloc (.cells A t)).alloc (.cells B t')).cell? ⟨w.heap.size, o, none⟩ = A[o]?) ∧ (∀ o, ((w.alloc (.cells A t)).alloc (.cells B t')).cell? ⟨w.heap.size + 1, o, none⟩ = B[o]?) ∧ Below w.heap.size w ((w.alloc (.cells A t)).alloc (.cells B t')) ∧ w.heap.size + 1 < ((w.alloc (.cells A t)).alloc (.cells B t')).heap.size := by
  have h0 : ((w.alloc (.cells A t)).alloc (.cells B t')).heap[w.heap.size]? = some (.cells A t) := by rw [heap_old _ _ (by simp)]; exact heap_new _ _
  have h1 : ((w.alloc (.cells A t)).alloc (.cells B t')).heap[w.heap.size + 1]? = some (.cells B t') := by have := heap_new (w.alloc (.cells A t)) (.cells B t'); rwa [World.size_alloc] at this
  exact ⟨fun o => cell_of_heap h0 o, fun o => cell_of_heap h1 o, (bpush (bpush (Below.refl _ _) _) _), heap_lt h1⟩

set_option maxRecDepth 20000 in
set_option maxHeartbeats 2000000 in
theorem refMine_any (own d s : Mac) (k : Int) (a : Option Addr) (l c : Nat) (w : World) (ho : own.ok) (hd : d.ok) (hs : s.ok) :
    Calls Try.prog 16 #[own.val, frameV d s k (.slice a l c)] w fun e w' => e = .returned (.bool (mineB own d s)) ∧ Below w.heap.size w w' := by
  have HG : Hid (∀ w, Calls Try.prog 44 #[s.val] w fun e w' => e = .returned (.bool (s.b0 % 2 == 1)) ∧ Below w.heap.size w w') := fun w => refGroup_any s w hs
  have HE : Hid (∀ w, Calls Try.prog 45 #[] w fun e w' => e = .returned everyMac.val ∧ Below w.heap.size w w') := refEveryone_any
  have q1 := mac_eq d own hd ho
  have q2 := mac_eq d everyMac hd every_ok
  have HM : Hid (mineB own d s = (!(s.b0 % 2 == 1) && (decide (d = own) || decide (d = everyMac)))) := rfl
  generalize mineB own d s = R at *
  generalize (s.b0 % 2 == 1) = G at *
  generalize decide (d = own) = E1 at *
  generalize decide (d = everyMac) = E2 at *
  obtain ⟨d0, d1, d2, d3, d4, d5⟩ := d
  obtain ⟨s0, s1, s2, s3, s4, s5⟩ := s
  obtain ⟨o0, o1, o2, o3, o4, o5⟩ := own
  simp only [Mac.val, frameV, everyMac] at *
  clear ho hd hs
  have HM' : Hid (R = (!G && (E1 || E2))) := HM
  clear HM
  cases G <;> cases E1 <;> cases E2
  all_goals
    go_enter Try.func16, Try.ntmps16
    go_wp2_with fail
    refine (HG.out _).mono ?_
    rintro e w1 ⟨rfl, hb1⟩
    have k1 := mine_keep (mine_start0 _ _ _ _ _) hb1
    clear hb1
    go_wp2_with fail
    refine (HE.out _).mono ?_
    rintro e w2 ⟨rfl, hb2⟩
    obtain ⟨hc1, hc2, hb3, hlt⟩ := mine_keep k1 hb2
    have HB := hid hb3
    have hlt0 : w.heap.size < w2.heap.size := by omega
    clear k1 hb2 hb3
    go_wp2
    go_ret
    exact ⟨ret_bool (by rw [HM'.out]; rfl), bpush HB.out _⟩
end Go.Proofs.Ytnjhlndikbkeaaa

/-
  NicOrder: what a Poll hands out, held against what was to come out.
-/
namespace Go.Proofs.Ytnjhlndikbkeaaa
open Go.RowKit
set_option linter.all false

theorem pollF_len (own : Mac) : ∀ (k : Nat) (S : CS) (N : NS), (pollF own k S N).1.length ≤ k
  | 0, S, N => by simp [pollF]
  | k + 1, S, N => by
    unfold pollF
    split
    · simp
    · rename_i p _
      split
      · simp
      · have := pollF_len own k (S.given N.rt) ((N.saw (goodB own p.zs)).on S.R.length)
        simp only [List.length_append]
        split <;> simp <;> omega
theorem ord_poll2 {wr : World} {n m q : Nat} {own : Mac} {c g h : Nat} {S : CS} {N : NS} {came laid : List (List Int)} {got gone i : Nat} (x : OrdC wr n m q own c g h S N came laid got gone i) (hi : i < 4398046511104) (ho : own.ok) (b : Int) (hb : b ≤ 9223372036854775807) :
    Calls Try.prog 18 #[.pointer (some ⟨q, 0, none⟩), .int .i64 b] wr fun e w' => ∃ (v : Value) (fs : List (List Int × Value)) (S' : CS) (N' : NS) (got' : Nat), e = .returned v ∧ got ≤ got' ∧ (got' = came.length ∨ got' = got + b.toNat) ∧ got' ≤ came.length ∧ fs.map Prod.fst = ((came.drop got).take (got' - got)).filter (goodB own) ∧ OrdC w' n m q own c g h S' N' came laid got' gone (i + 1) ∧ Frs wr.heap.size w' v fs ∧ Only (NicK q c g h) wr w' ∧ fs.length ≤ b.toNat := by
  refine (poll_any q own c g h n m S N b i wr x.nic ho hb x.cn (by omega)).mono ?_
  rintro e w' ⟨v, fs, rfl, h1, h2, h3, h4⟩
  obtain ⟨got', g1, g2, g3, g4, g5, g6, g7⟩ := pollF_win own n came b.toNat S N got x.rx x.rt
  have hlen : fs.length ≤ b.toNat := by
    have := pollF_len own b.toNat S N
    rw [← h1, List.length_map] at this
    exact this
  refine ⟨v, fs, _, _, got', rfl, g1, g2, g3, h1.trans g4, ⟨h2, g5, by rw [g7.T]; exact x.tx, by rw [g7.nr]; exact x.nr, by rw [g7.nt]; exact x.nt, g6, by rw [g7.tt]; exact x.tt, ?_, ?_, ?_, ?_, ?_⟩, h3, h4, hlen⟩
  · have := x.ci; rw [g7.ci]; omega
  · have := x.cd; rw [g7.cd]; omega
  · have := x.co; rw [g7.co]; omega
  · have := x.cn; rw [g7.sum]; omega
  · have := x.sn; rw [g7.sn, g7.rf]; omega
/-- a frame that is taken is sealed as it came. -/
theorem good_seal {own : Mac} {zs : List Int} (h : goodB own zs = true) (hz : ∀ z, z ∈ zs → 0 ≤ z ∧ z ≤ 255) : sealE (openR zs).k (openR zs).ys = 0 ∧ sealB (openR zs).d (openR zs).s (openR zs).k (openR zs).ys = zs := by
  have h0 : (openR zs).er = 0 := by unfold goodB at h; simp at h; exact h.1
  unfold openR at h0 ⊢
  by_cases h1 : zs.length < 60
  · rw [if_pos h1] at h0; simp at h0
  · rw [if_neg h1] at h0 ⊢
    by_cases h2 : 1514 < zs.length
    · rw [if_pos h2] at h0; simp at h0
    · rw [if_neg h2] at h0 ⊢
      by_cases h3 : kindAt zs < 1536
      · rw [if_pos h3] at h0; simp at h0
      · rw [if_neg h3]
        have hk : kindAt zs ≤ 65535 := by
          have b12 := getD_mem_bd hz 12
          have b13 := getD_mem_bd hz 13
          unfold kindAt; omega
        have hl : (zs.drop 14).length = zs.length - 14 := by simp
        unfold sealE sealB
        simp only
        rw [if_neg (by omega), if_neg (by omega), if_neg (by omega), if_neg (by omega)]
        exact ⟨rfl, sealL_back zs ⟨by omega, by omega, by omega⟩ hz⟩
theorem flat14 : ∀ (fs : List (List Int × Value)) (j t : Nat) (p : List Int × Value), fs[j]? = some p → t < 14 → (fs.flatMap frL)[j * 14 + t]? = (frL p)[t]?
  | [], j, t, p, h, _ => by simp at h
  | f :: r, 0, t, p, h, ht => by
    simp at h
    subst h
    rw [List.flatMap_cons, Nat.zero_mul, Nat.zero_add, List.getElem?_append_left (by rw [frL_len]; exact ht)]
  | f :: r, j + 1, t, p, h, ht => by
    rw [List.flatMap_cons, List.getElem?_append_right (by rw [frL_len]; omega), frL_len, show (j + 1) * 14 + t - 14 = j * 14 + t by omega]
    exact flat14 r j t p (by simpa using h) ht
/-- one frame of a Poll's. -/
structure OneI (w w5 : World) (av : Option Addr) (j : Nat) (pt : Part) (gl : Nat) (d s : Mac) (kk : Int) (a : Option Addr) (n c : Nat) : Prop where
  av : av = some ⟨gl, 0, none⟩
  cells : ∀ W, Below w5.heap.size w5 W → ∀ t u, (frameC d s kk (.slice a n c)).toList[t]? = some u → W.cell? ⟨gl, j * 14 + t, none⟩ = some u
  sld : ∀ W, Below w5.heap.size w5 W → Calls Try.prog 19 #[frameV d s kk (.slice a n c)] W fun e w' => ∃ a' n' c', e = .returned (.tuple #[.slice a' n' c', .int .i64 0]) ∧ Ans W w' pt.zs a' n' c'
/-- what a Poll has handed out, beside the list. -/
structure PolledI (w w5 : World) (av : Option Addr) (lf : Nat) (inP : List Part) : Prop where
  le : lf ≤ inP.length
  one : ∀ j, j < lf → ∃ gl d s kk a n c, OneI w w5 av j (inP.getD j Part.nil) gl d s kk a n c
theorem polled_of {w W0 w5 : World} {own : Mac} {came : List (List Int)} {got got' : Nat} {inP : List Part} {fs : List (List Int × Value)} {av : Option Addr} {cv : Nat} (hin : inP.map Part.zs = (came.drop got).filter (goodB own)) (hg : got ≤ got') (hf : fs.map Prod.fst = ((came.drop got).take (got' - got)).filter (goodB own)) (hr : Frs W0.heap.size w5 (.slice av fs.length cv) fs) (hip : ∀ p, p ∈ inP → p.ok w) :
    PolledI w w5 av fs.length inP ∧ (inP.drop fs.length).map Part.zs = (came.drop got').filter (goodB own) := by
  have e1 : came.drop got = (came.drop got).take (got' - got) ++ came.drop got' := by
    conv => lhs; rw [← List.take_append_drop (got' - got) (came.drop got)]
    rw [List.drop_drop, show got + (got' - got) = got' by omega]
  have e2 : inP.map Part.zs = fs.map Prod.fst ++ (came.drop got').filter (goodB own) := by rw [hin, hf, ← List.filter_append, ← e1]
  have hle : fs.length ≤ inP.length := by have := congrArg List.length e2; simp at this; omega
  refine ⟨⟨hle, fun j hj => ?_⟩, ?_⟩
  · have hjp : j < inP.length := by omega
    have hget : (inP.getD j Part.nil) = inP[j] := by simp [List.getD_eq_getElem?_getD, hjp]
    have hzs : (fs[j]).1 = (inP[j]).zs := by
      have h1 : (inP.map Part.zs)[j]? = (fs.map Prod.fst ++ (came.drop got').filter (goodB own))[j]? := by rw [e2]
      rw [List.getElem?_append_left (by simpa using hj)] at h1
      simp [hjp, hj] at h1
      exact h1.symm
    have hok := hip _ (List.getElem_mem hjp)
    have hgood : goodB own (inP[j]).zs = true := by
      have h2 : (fs[j]).1 ∈ fs.map Prod.fst := List.mem_map.2 ⟨_, List.getElem_mem hj, rfl⟩
      rw [hf] at h2
      rw [← hzs]
      exact (List.mem_filter.1 h2).2
    obtain ⟨hr2, hr3⟩ := hr.dat _ (List.getElem_mem hj)
    rw [hzs] at hr2
    obtain ⟨a, n, hv, hn⟩ := hr2.form
    have hopn := openR_ok (inP[j]).zs hok.1
    obtain ⟨hs1, hs2⟩ := good_seal hgood hok.1
    have hrow := hr.row
    rcases hrow.2 with ⟨_, h0⟩ | ⟨gl, cap, cur, hva, hB, hgl, hnc, hcm, hcs, htk⟩
    · omega
    · simp only [Value.slice.injEq] at hva
      rw [hget]
      refine ⟨gl, (openR (inP[j]).zs).d, (openR (inP[j]).zs).s, (openR (inP[j]).zs).k, a, (u8s (openR (inP[j]).zs).ys).length, n, hva.1, fun W hb t u ht => ?_, fun W hb => ?_⟩
      · have ht14 : t < 14 := by have := (List.getElem?_eq_some_iff.1 ht).1; exact this
        rw [cell_of_heap (kept hgl hb), ← Array.getElem?_toList]
        have h1 : (cur.toList.take (fs.length * 14))[j * 14 + t]? = (fs.flatMap frL)[j * 14 + t]? := by rw [htk]
        rw [List.getElem?_take, if_pos (by omega), flat14 fs j t _ (List.getElem?_eq_getElem hj) ht14] at h1
        rw [h1, ← ht]
        unfold frL
        rw [hzs, hv]
      · obtain ⟨pt, p1, p2, p3⟩ := (hr2.below hb).part hopn.2.2.1
        have := refSeal_u (openR (inP[j]).zs).d (openR (inP[j]).zs).s (openR (inP[j]).zs).k pt W hopn.1 hopn.2.1 (by rw [p2]; have := hopn.2.2.2; omega) p3
        rw [← p1, p2, hs1, hs2, hv] at this
        exact this
  · rw [List.map_drop, e2, List.drop_append_of_le_length (by simp)]
    simp
end Go.Proofs.Ytnjhlndikbkeaaa
