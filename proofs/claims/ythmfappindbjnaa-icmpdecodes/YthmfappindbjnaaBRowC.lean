/-
  Copies into slices of bytes that a call itself has made. For every seat.
-/
import Derived.Test.YthmfappindbjnaaBNum
namespace Go.Proofs.Ythmfappindbjnaa
open Go.RowKit
set_option linter.all false

theorem putCells_list : ∀ (l : List Value) (cur : Array Value) (o : Nat), o + l.length ≤ cur.size → (putCells cur o l).toList = splice cur.toList o l
  | [], cur, o, h => by simp [putCells, splice]
  | v :: r, cur, o, h => by
    simp only [List.length_cons] at h
    rw [putCells, putCells_list r (cur.setIfInBounds o v) (o + 1) (by simp; omega)]
    have hl : o < cur.toList.length := by simp; omega
    unfold splice
    rw [Array.toList_setIfInBounds, List.take_succ_eq_append_getElem (by simpa using hl)]
    simp [List.take_set_of_le, List.drop_set, Nat.add_assoc, Nat.add_comm 1]
theorem splice_take {α : Type} (L X : List α) (o n : Nat) (h : o + X.length ≤ n) (hn : n ≤ L.length) : (splice L o X).take n = splice (L.take n) o X := by
  unfold splice
  have hl : (L.take o).length = o := by simp; omega
  rw [List.take_take, Nat.min_eq_left (by omega), List.drop_take, List.take_append, List.take_of_length_le (by rw [hl]; omega), hl, List.take_append, List.take_of_length_le (i := n - o) (l := X) (by omega), Nat.sub_sub]
theorem Row.copy {w : World} {g n cap : Nat} {zs : List Int} (h : Row w 5 (.slice (some ⟨g, 0, none⟩) n cap) (u8s zs)) (pt : Part) (hok : pt.ok w) (hne : pt.zs ≠ []) (o dn dc : Nat) (hn : pt.zs.length ≤ dn) (ho : o + pt.zs.length ≤ zs.length) (ty : TypeId) :
    ∃ w', (Builtin.copy_ #[24, 24] ty #[.slice (some ⟨g, o, none⟩) dn dc, pt.val]).run Try.prog w = .ok (goInt pt.zs.length) w' ∧ Row w' 5 (.slice (some ⟨g, 0, none⟩) n cap) (u8s (splice zs o pt.zs)) ∧ But g w w' := by
  rcases h with ⟨hv, _⟩ | ⟨g', cap', cur, lo, hi, hv, hg, hf, hl, hm, hs, ht⟩
  · simp at hv
  · simp only [Value.slice.injEq, Option.some.injEq, Addr.mk.injEq, and_true] at hv
    obtain ⟨rfl, rfl, rfl⟩ := hv
    rw [u8s_len] at hl ht
    rcases hok.2.2 with he | ⟨b, o', ha, hc⟩
    · exact absurd he hne
    · have hrun := run_copy_cells (P := Try.prog) w 24 24 ty 5 g o dn dc ⟨b, o', none⟩ pt.zs.length pt.c (u8s pt.zs) Try.underlying24 sizeU8 (by rw [u8s_len]; exact (Nat.min_eq_left hn).symm) (part_news hc)
        (fun j hj => by rw [u8s_len] at hj; rw [cell_of_heap hg, Array.getElem?_eq_getElem (by omega)]; rfl) (fun j hj => by rw [u8s_len] at hj; exact frozen_of_heap' hg hf _ (by omega)) (u8s_one _)
      rw [u8s_len] at hrun
      have hv : pt.val = .slice (some ⟨b, o', none⟩) pt.zs.length pt.c := by unfold Part.val; rw [ha]
      rw [hv]
      have hlen : (splice zs o pt.zs).length = zs.length := by simp [splice]; omega
      refine ⟨_, hrun, Or.inr ⟨g, cap, putCells cur o (u8s pt.zs), lo, hi, by simp only [u8s_len, hlen], heap_setCells _ _ _ _ _ _ _ hg, by rw [putCells_size]; exact hf, by rw [u8s_len, hlen]; exact hl, hm, by rw [putCells_size]; exact hs, ?_⟩, ?_⟩
      · rw [u8s_len, hlen, putCells_list _ _ _ (by rw [u8s_len]; omega), splice_take _ _ _ _ (by rw [u8s_len]; exact ho) (by simp; omega), ht, splice_u8s]
      · have hgr := grown_setCells (u8s pt.zs) w g o
        exact ⟨hgr.os, hgr.tape, hgr.output, hgr.size, fun k hk hl => hgr.block k hl (fun e => hk (by simpa using e))⟩
theorem Row.addr {w : World} {e : TypeId} {a : Option Addr} {n c : Nat} {vs : List Value} (h : Row w e (.slice a n c) vs) (hp : 0 < vs.length) : ∃ g, a = some ⟨g, 0, none⟩ ∧ n = vs.length ∧ n ≤ c := by
  rcases h with ⟨_, rfl⟩ | ⟨g, cap, cur, lo, hi, hv, hg, hf, hl, r⟩
  · simp at hp
  · simp only [Value.slice.injEq] at hv
    obtain ⟨rfl, rfl, rfl⟩ := hv
    exact ⟨g, rfl, rfl, hl⟩
/-- a copy whose run is known, as a step of a region that draws. -/
theorem step_copy_run {ops : Array Oper} {o : Oper} {a : Act} {w : World} {K : Act → World → Prop} {Q : Exit → Act → World → Prop} {E : Prop} (hgd : o.guard = none) (d s : Operand) (t t' : TypeId)
    (ho : o.op = .call { callee := .builtin .copy, args := #[d, s], argTypes := #[t, t'] }) (v u : Value) (hd : a.eval d = v) (hs : a.eval s = u) {v' : Value} {w' : World}
    (hr : (Builtin.copy_ #[t, t'] o.type #[v, u]).run Try.prog w = .ok v' w') (h : K (a.put o.dst v') w') :
    if Region.wanted o (yielded ops a.tmps) = true then Oper.wp Try.prog o a w K Q else E := by
  have hw : Region.wanted o (yielded ops a.tmps) = true := by simp [Region.wanted, hgd]
  rw [if_pos hw]
  unfold Oper.wp execOp
  simp only [ho, resolve, invoke, builtin, Sem.run_bind, Sem.run_pure, Result.andThen_ok, List.map_toArray, List.map_cons, List.map_nil, hd, hs, hr]
  exact h
end Go.Proofs.Ythmfappindbjnaa
