/-
  The contracts of option.pieces, and of the function that it hands back.
-/
import Derived.Test.YtmdkanbfpmdimaaOMem
import Derived.RangeFuncNested
import Derived.RangeFuncBound
import Derived.RangeFuncCalls
import Derived.RangeFuncLeaves
import Derived.RangeFuncBox
import Derived.Shelf.Abstract
import Derived.Shelf.RegionOpen
import Derived.OwnWalkIn
import Derived.TacticsInMore
import Derived.LoopNIn
import Derived.LoopIn
namespace Go.Proofs.Ytmdkanbfpmdimaa
open Go.RowKit Go.Shelf
set_option linter.all false
attribute [local go_sem] Oper.semAt_some

/-- a slice from a place on. -/
def Part.from (p : Part) (k : Nat) : Part := ⟨p.a.map (fun x => ⟨x.block, x.off + k, x.spot⟩), p.c - k, p.zs.drop k⟩
/-- the pieces of a slice. -/
def chopP (p : Part) : List Part := if h : p.zs.length ≤ 255 then [p] else ⟨p.a, p.c, p.zs.take 255⟩ :: chopP (p.from 255)
termination_by p.zs.length
decreasing_by simp [Part.from]; omega
theorem chopP_short {p : Part} (h : p.zs.length ≤ 255) : chopP p = [p] := by rw [chopP, dif_pos h]
theorem chopP_long {p : Part} (h : ¬ p.zs.length ≤ 255) : chopP p = ⟨p.a, p.c, p.zs.take 255⟩ :: chopP (p.from 255) := by rw [chopP, dif_neg h]
theorem chopP_zs (p : Part) : (chopP p).map Part.zs = chop p.zs := by
  fun_induction chopP p with
  | case1 p h => rw [chop_short h]; rfl
  | case2 p h ih => rw [chop_long h, List.map_cons, ih]; rfl
theorem Part.long {w : World} {p : Part} (h : p.ok w) (hl : p.zs ≠ []) : ∃ b o, p.a = some ⟨b, o, none⟩ := by
  rcases h.2.2 with h | ⟨b, o, ha, _⟩
  · exact absurd h hl
  · exact ⟨b, o, ha⟩
theorem Part.from_ok {w : World} {p : Part} (h : p.ok w) (k : Nat) (hk : k ≤ p.zs.length) : (p.from k).ok w := by
  refine ⟨fun z hz => h.1 z (List.mem_of_mem_drop hz), by simp [Part.from]; have := h.2.1; omega, ?_⟩
  rcases h.2.2 with he | ⟨b, o, ha, hc⟩
  · left; simp [Part.from, he]
  · right
    refine ⟨b, o + k, by simp [Part.from, ha], fun j hj => ?_⟩
    have hj' : j < p.zs.length - k := by simpa [Part.from] using hj
    rw [show o + k + j = o + (k + j) by omega, hc (k + j) (by omega)]
    simp [Part.from, List.getD_eq_getElem?_getD, List.getElem?_drop]
theorem Part.head_ok {w : World} {p : Part} (h : p.ok w) (k : Nat) (hk : k ≤ p.zs.length) : Part.ok w ⟨p.a, p.c, p.zs.take k⟩ := by
  refine ⟨fun z hz => h.1 z (List.mem_of_mem_take hz), by simp; have := h.2.1; omega, ?_⟩
  rcases h.2.2 with he | ⟨b, o, ha, hc⟩
  · left; simp [he]
  · right
    refine ⟨b, o, ha, fun j hj => ?_⟩
    have hj' : j < k := by simp at hj; omega
    rw [hc j (by simp at hj; omega)]
    simp [List.getD_eq_getElem?_getD, List.getElem?_take, hj']
theorem chopP_ok {w : World} {p x : Part} (h : p.ok w) (hx : x ∈ chopP p) : x.ok w ∧ x.zs.length ≤ 255 := by
  fun_induction chopP p with
  | case1 p hl => simp at hx; subst hx; exact ⟨h, hl⟩
  | case2 p hl ih =>
    rcases List.mem_cons.1 hx with rfl | hx
    · exact ⟨Part.head_ok h 255 (by omega), by simp; omega⟩
    · exact ih (Part.from_ok h 255 (by omega)) hx

set_option maxHeartbeats 1000000 in
theorem pieces_any (p : Part) (w : World) :
    Calls Try.prog 29 #[p.val] w fun e w' => e = .returned (.func (.func 36) #[] #[.pointer (some ⟨w.heap.size, 0, none⟩)]) ∧ w' = w.alloc (.cells #[p.val] 41) := by
  unfold Part.val
  have hmf : ∀ (fn : Fn) (first cap : Array Value) (w : World), (Instr.makeFunc fn first cap).run Try.prog w = .ok (.func fn first cap) w := fun _ _ _ _ => rfl
  go_enter Try.func29, Try.ntmps29
  go_wp2
  go_ret
  exact ⟨rfl, rfl⟩

def lenOf : Value → Nat
  | .slice _ n _ => n
  | _ => 0
/-- a piece of p. -/
abbrev Pce (p : Part) := { x : Part // x ∈ chopP p }
set_option maxRecDepth 100000 in
set_option maxHeartbeats 2000000 in
theorem pieces1_in (n : Nat) (hn : 1 ≤ n) (p : Part) (W0 : World) (hok : p.ok W0) (hlen : p.zs.length ≤ 140737488353280) (l Bn : Nat) (J Jx : List (Pce p) → World → Prop)
    (hY : ∀ pre x W, J pre W → pre.length < (chopP p).length → YieldAt Fence.wide (n - 1) Try.prog l #[x.1.val] W fun e W' =>
      (e = .returned (.bool true) ∧ J (pre ++ [x]) W' ∧ True) ∨ (e = .returned (.bool false) ∧ Jx (pre ++ [x]) W'))
    (W : World) (hBn : W.cell? ⟨Bn, 0, none⟩ = some p.val) (h0 : J [] W) :
    CallsIn Fence.wide n Try.prog 36 #[.func (.yield l) #[] #[], .pointer (some ⟨Bn, 0, none⟩)] W fun e W' => (∃ v, e = .returned v) ∧
      ((∃ ys : List (Pce p), ys.map Subtype.val = chopP p ∧ J ys W') ∨ (∃ pre : List (Pce p), pre.map Subtype.val <+: chopP p ∧ Jx pre W')) := by
  refine callsIn_of_wp Try.func36 rfl trivial ?_ rfl
  simp only [Try.ntmps36, List.size_toArray, List.length_cons, List.length_nil, Nat.reduceAdd, Nat.reduceSub, Array.replicate_succ, Array.replicate_zero, List.push_toArray, List.append_toArray, List.nil_append, List.cons_append]
  unfold Part.val at hBn
  gi_wp2
  gi_loopw [3] (fun v wr => ∃ (pre : List (Pce p)) (q : Part), v = .slice q.a q.zs.length q.c ∧ Hid (chopP p = pre.map Subtype.val ++ chopP q) ∧ Hid (q.ok W0) ∧ q.zs.length ≤ 140737488353280 ∧ Hid (J pre wr))
    (fun v _ => lenOf v)
  case atStart =>
    exact ⟨[], p, rfl, rfl, hok, hlen, h0⟩
  case round =>
    obtain ⟨pre, ⟨qa, qc, qz⟩, rfl, HC, HQ, hql, HJ⟩ := hrel
    simp only at hql ⊢
    have hqc : qz.length ≤ qc := HQ.out.2.1
    have HPL : Hid (pre.length < (chopP p).length) := by
      have := congrArg List.length HC.out
      rw [List.length_append, List.length_map] at this
      have h1 : 0 < (chopP (⟨qa, qc, qz⟩ : Part)).length := by rw [chopP]; split <;> simp
      exact hid (by omega)
    have hsub : ∀ x, x ∈ chopP (⟨qa, qc, qz⟩ : Part) → x ∈ chopP p := fun x hx => by rw [HC.out]; exact List.mem_append.2 (Or.inr hx)
    by_cases hlong : qz.length ≤ 255
    · have e1 : chopP (⟨qa, qc, qz⟩ : Part) = [⟨qa, qc, qz⟩] := chopP_short hlong
      obtain ⟨x, hx⟩ : ∃ x : Pce p, x.1 = ⟨qa, qc, qz⟩ := ⟨⟨⟨qa, qc, qz⟩, hsub _ (by rw [e1]; simp)⟩, rfl⟩
      obtain ⟨fn, tmps, assign, body, hy, hR⟩ := hY pre x wr HJ.out HPL.out
      simp only [hx, Part.val] at hy
      have HX := hid hx
      clear hx
      have HE := hid e1
      clear e1 hsub
      have hl1 : ¬ (255 : Int) < (qz.length : Int) := by omega
      gi_wp2
      refine hR.mono ?_
      rintro e W3 (⟨rfl, hJ3, _⟩ | ⟨rfl, hJx3⟩)
      · gi_wp2
        go_end0
        exact ⟨⟨_, rfl⟩, .inl ⟨_, Eq.trans (by rw [HE.out]; simp [HX.out]) HC.out.symm, hJ3⟩⟩
      · gi_wp2
        go_end0
        exact ⟨⟨_, rfl⟩, .inr ⟨_, ⟨[], Eq.trans (by rw [HE.out]; simp [HX.out]) HC.out.symm⟩, hJx3⟩⟩
    · obtain ⟨b, o, hqa⟩ := Part.long HQ.out (fun e => by simp only at e; rw [e] at hlong; simp at hlong)
      simp only at hqa
      subst hqa
      have e1 : chopP (⟨some ⟨b, o, none⟩, qc, qz⟩ : Part) = ⟨some ⟨b, o, none⟩, qc, qz.take 255⟩ :: chopP (Part.from ⟨some ⟨b, o, none⟩, qc, qz⟩ 255) := chopP_long hlong
      obtain ⟨x, hx⟩ : ∃ x : Pce p, x.1 = ⟨some ⟨b, o, none⟩, qc, qz.take 255⟩ := ⟨⟨⟨some ⟨b, o, none⟩, qc, qz.take 255⟩, hsub _ (by rw [e1]; simp)⟩, rfl⟩
      obtain ⟨fn, tmps, assign, body, hy, hR⟩ := hY pre x wr HJ.out HPL.out
      have h255 : (qz.take 255).length = 255 := by simp; omega
      simp only [hx, Part.val, h255] at hy
      have HX := hid hx
      clear hx
      have HE := hid e1
      have HF : Hid (Part.ok W0 (Part.from ⟨some ⟨b, o, none⟩, qc, qz⟩ 255)) := Part.from_ok HQ.out 255 (by simp only; omega)
      have HD : Hid ((qz.drop 255).length = qz.length - 255) := hid (by simp)
      clear e1 hsub h255
      have hl1 : (255 : Int) < (qz.length : Int) := by omega
      have hl2 : (255 : Int) ≤ (qc : Int) := by omega
      have hl3 : 255 ≤ qc := by omega
      have hl4 : 255 ≤ qz.length := by omega
      gi_wp2
      refine hR.mono ?_
      rintro e W3 (⟨rfl, hJ3, _⟩ | ⟨rfl, hJx3⟩)
      · gi_wp2
        go_roundw
        case rel => exact ⟨_, Part.from ⟨some ⟨b, o, none⟩, qc, qz⟩ 255, by simp only [Part.from, Option.map_some, HD.out], hid (Eq.trans HC.out (by rw [HE.out]; simp [HX.out])), HF.out, by simp only [Part.from, HD.out]; omega, hJ3⟩
        case measure => simp [lenOf]; omega
      · gi_wp2
        refine bodyPost_ret (results_none rfl _ _ _) rfl ?_
        exact ⟨⟨_, rfl⟩, .inr ⟨_, ⟨chopP (Part.from ⟨some ⟨b, o, none⟩, qc, qz⟩ 255), Eq.trans (by rw [HE.out]; simp [HX.out]) HC.out.symm⟩, hJx3⟩⟩
/-- what pieces hands back gives all the pieces, or fewer. -/
theorem pieces_stops (n : Nat) (hn : 1 ≤ n) (p : Part) (w : World) (hok : p.ok w) (hlen : p.zs.length ≤ 140737488353280) (Bn : Nat) (hBn : Bn < w.heap.size) (hc : w.cell? ⟨Bn, 0, none⟩ = some p.val) :
    SeqStopsK Fence.wide n Try.prog 36 #[.pointer (some ⟨Bn, 0, none⟩)] (fun x : Pce p => #[x.1.val]) (fun _ _ => True) (fun ys => ys.map Subtype.val = chopP p) (fun pre => pre.map Subtype.val <+: chopP p) (chopP p).length w := fun l J Jx W hW _ _ hY h0 =>
  pieces1_in n hn p w hok hlen l Bn J Jx hY W ((hW.cell (p := ⟨Bn, 0, none⟩) hBn).trans hc) h0
end Go.Proofs.Ytmdkanbfpmdimaa
