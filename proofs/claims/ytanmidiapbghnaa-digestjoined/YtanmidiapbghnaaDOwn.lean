/-
  Slices of bytes that a call itself has made: what appends, conversions and stores do to them.
-/
import Derived.Test.YtanmidiapbghnaaDRefU
import Derived.ArgAppend
import Derived.Deep.Upon
import Derived.Laws.IdiomStrings
namespace Go.Proofs.Ytanmidiapbghnaa
open Go.RowKit
set_option linter.unusedVariables false

/-- v is a slice of the bytes zs, in a block of the call's own (from B on). -/
def OwnB (w : World) (B : Nat) (v : Value) (zs : List Int) : Prop :=
  (v = .slice none 0 0 ∧ zs = []) ∨ ∃ (g cap : Nat) (cur : Array Value) (lo hi : Nat), v = .slice (some ⟨g, 0, none⟩) zs.length cap ∧ B ≤ g ∧ w.heap[g]? = some (.cells cur 5 (lo, hi)) ∧ (cur.size ≤ lo ∨ hi = 0) ∧
    zs.length ≤ cap ∧ cap ≤ maxLen ∧ cur.size = cap ∧ cur.toList.take zs.length = u8s zs

theorem frozen_of_heap' {w : World} {g : Nat} {cs : Array Value} {t : TypeId} {lo hi : Nat} (h : w.heap[g]? = some (.cells cs t (lo, hi))) (hf : cs.size ≤ lo ∨ hi = 0) (j : Nat) (hj : j < cs.size) : w.frozen? ⟨g, j, none⟩ = false := by
  simp [World.frozen?, h]; omega
theorem heap_setCell_at' {w : World} {g j : Nat} {cs : Array Value} {t : TypeId} {f : Nat × Nat} {v : Value} (h : w.heap[g]? = some (.cells cs t f)) : (w.setCell ⟨g, j, none⟩ v).heap[g]? = some (.cells (cs.setIfInBounds j v) t f) := by
  simp [World.setCell, Array.getElem?_modify, h]
theorem heap_lt {w : World} {g : Nat} {o : Obj} (h : w.heap[g]? = some o) : g < w.heap.size := (Array.getElem?_eq_some_iff.1 h).1

theorem take_get {l : List Value} {zs : List Int} (h : l.take zs.length = u8s zs) (j : Nat) (hj : j < zs.length) : l[j]? = some (.int .u8 (zs.getD j 0)) := by
  have h1 : (l.take zs.length)[j]? = (u8s zs)[j]? := by rw [h]
  rw [List.getElem?_take, if_pos hj] at h1
  rw [h1]
  simp [u8s, hj]

/-- as a part that is only read. -/
theorem OwnB.part {w : World} {B : Nat} {v : Value} {zs : List Int} (h : OwnB w B v zs) (hz : ∀ z, z ∈ zs → 0 ≤ z ∧ z ≤ 255) : ∃ pt : Part, v = pt.val ∧ pt.zs = zs ∧ pt.ok w := by
  rcases h with ⟨rfl, rfl⟩ | ⟨g, cap, cur, lo, hi, rfl, hB, hg, hf, hl, hm, hs, ht⟩
  · exact ⟨⟨none, 0, []⟩, rfl, rfl, by simp, by simp, Or.inl rfl⟩
  · refine ⟨⟨some ⟨g, 0, none⟩, cap, zs⟩, rfl, rfl, hz, hl, Or.inr ⟨g, 0, rfl, fun j hj => ?_⟩⟩
    rw [cell_of_heap' hg, Nat.zero_add, ← Array.getElem?_toList]
    exact take_get ht j hj

theorem OwnB.below {w w' : World} {B : Nat} {v : Value} {zs : List Int} (h : OwnB w B v zs) (hb : Below w.heap.size w w') : OwnB w' B v zs := by
  rcases h with h | ⟨g', cap, cur, lo, hi, rfl, hB, hg', r⟩
  · exact Or.inl h
  · exact Or.inr ⟨g', cap, cur, lo, hi, rfl, hB, by rw [hb.block g' (heap_lt hg')]; exact hg', r⟩

/-- cells laid one behind the other. -/
def putCells (cur : Array Value) : Nat → List Value → Array Value
  | _, [] => cur
  | o, v :: r => putCells (cur.setIfInBounds o v) (o + 1) r
theorem putCells_size : ∀ (l : List Value) (cur : Array Value) (o : Nat), (putCells cur o l).size = cur.size
  | [], _, _ => rfl
  | v :: r, cur, o => by rw [putCells, putCells_size r]; simp
theorem putCells_take : ∀ (l : List Value) (cur : Array Value) (o : Nat), o + l.length ≤ cur.size → (putCells cur o l).toList.take (o + l.length) = cur.toList.take o ++ l
  | [], cur, o, h => by simp [putCells]
  | v :: r, cur, o, h => by
    simp only [List.length_cons] at h
    have ih := putCells_take r (cur.setIfInBounds o v) (o + 1) (by simp; omega)
    rw [putCells, List.length_cons, show o + (r.length + 1) = o + 1 + r.length from by omega, ih]
    have hl : o < cur.toList.length := by simp; omega
    rw [Array.toList_setIfInBounds, List.take_succ_eq_append_getElem (by simpa using hl)]
    simp [List.take_set_of_le]
theorem heap_setCells : ∀ (l : List Value) (w : World) (g o : Nat) (cur : Array Value) (t : TypeId) (f : Nat × Nat), w.heap[g]? = some (.cells cur t f) → (w.setCells g o l).heap[g]? = some (.cells (putCells cur o l) t f)
  | [], _, _, _, _, _, _, h => h
  | v :: r, w, g, o, cur, t, f, h => by
    rw [World.setCells, putCells]
    exact heap_setCells r _ g (o + 1) _ t f (heap_setCell_at' h)
theorem but_setCells : ∀ (l : List Value) (w : World) (g o : Nat), But g w (w.setCells g o l)
  | [], w, g, _ => But.refl g w
  | v :: r, w, g, o => (But.setCell g w o v).trans (but_setCells r _ g (o + 1))

theorem OwnB.of_row {w : World} {B : Nat} {v : Value} {zs : List Int} (h : w.ownsRow B 5 1 v zs.length (u8s zs)) : OwnB w B v zs := by
  rcases h.2 with ⟨hv, hn⟩ | ⟨g, cap, cur, hv, hB, hg, hl, hm, hs, ht⟩
  · exact Or.inl ⟨hv, List.eq_nil_of_length_eq_zero hn⟩
  · exact Or.inr ⟨g, cap, cur, 0, 0, hv, hB, hg, Or.inr rfl, hl, hm, by omega, by simpa using ht⟩
theorem u8s_app (a b : List Int) : u8s (a ++ b) = u8s a ++ u8s b := by simp [u8s]

theorem part_news {pt : Part} {w : World} {b o : Nat} (hc : ∀ j, j < pt.zs.length → w.cell? ⟨b, o + j, none⟩ = some (.int .u8 (pt.zs.getD j 0))) : ∀ j u, (u8s pt.zs)[j]? = some u → w.cell? ((⟨b, o, none⟩ : Addr).add j) = some u := by
  intro j v hj
  have hjl : j < pt.zs.length := by
    rcases Nat.lt_or_ge j pt.zs.length with h | h
    · exact h
    · simp [u8s, List.getElem?_eq_none h] at hj
  rw [show (⟨b, o, none⟩ : Addr).add j = ⟨b, o + j, none⟩ from by unfold Addr.add; split <;> simp_all, hc j hjl]
  simp [u8s, hjl] at hj
  simp [hjl, hj]

/-- 'append(v, part...)'. -/
theorem append_own {w : World} {B : Nat} {v : Value} {zs : List Int} (h : OwnB w B v zs) (pt : Part) (hok : pt.ok w) (hlen : zs.length + pt.zs.length ≤ 140737488355328) (hB : B ≤ w.heap.size) (ty : TypeId) :
    ∃ v' w', (Builtin.append_ #[37, 37] ty #[v, pt.val]).run Try.prog w = .ok v' w' ∧ OwnB w' B v' (zs ++ pt.zs) ∧ Below B w w' := by
  obtain ⟨i, hi, hz0, hz1, hz2⟩ := info_parts infoU8
  have hml : zs.length + pt.zs.length ≤ maxLen := by unfold maxLen; omega
  rcases hok.2.2 with he | ⟨b, o, ha, hc⟩
  · have hs : Src Try.prog i.size 37 pt.val 0 [] w := by
      obtain ⟨a, c, ps⟩ := pt
      simp only at he
      subst he
      cases a with
      | none => exact Src.ofNil w Try.underlying37 c
      | some x => exact Src.ofSlice w Try.underlying37 x 0 c [] (by simp) (by simp) (by simp)
    rw [he, List.append_nil]
    rcases h with ⟨rfl, rfl⟩ | ⟨g, cap, cur, lo, hi', rfl, r⟩
    · exact ⟨_, _, run_append_nothing w _ _ _ _ i Try.underlying37 hi none 0 0 (Nat.le_refl _) _ hs, Or.inl ⟨rfl, rfl⟩, Below.refl _ _⟩
    · exact ⟨_, _, run_append_nothing w _ _ _ _ i Try.underlying37 hi _ _ _ r.2.2.2.1 _ hs, Or.inr ⟨g, cap, cur, lo, hi', rfl, r⟩, Below.refl _ _⟩
  · have hv : pt.val = .slice (some ⟨b, o, none⟩) pt.zs.length pt.c := by unfold Part.val; rw [ha]
    rw [hv]
    have hnews := part_news hc
    rcases h with ⟨rfl, rfl⟩ | ⟨g, cap, cur, lo, hi', rfl, hBg, hg, hf, hl, hm, hs, ht⟩
    · obtain ⟨v', w', hrun, hown, hgr, _⟩ := run_append_own (P := Try.prog) w B 37 ty 5 i (.int .u8 0) 1 1 Try.underlying37 hi hz0 hz1 hz2 rfl (by decide) (.slice none 0 0) 0 [] (World.ownsRow_nil w B 5 1) ⟨b, o, none⟩ pt.zs.length pt.c (u8s pt.zs) (by simp [u8s_len]) hnews (u8s_one _) (by simpa using hml) (by simp at hlen; omega) hB
      refine ⟨v', w', hrun, OwnB.of_row ?_, (Below.refl B w).grown hgr hB (by simp [Value.ownBlock])⟩
      simpa using hown
    · by_cases hroom : zs.length + pt.zs.length ≤ cap
      · have hrun := run_append_room_cells (P := Try.prog) w 37 ty 5 i Try.underlying37 hi g 0 zs.length cap ⟨b, o, none⟩ pt.zs.length pt.c (u8s pt.zs) (by rw [hz1]; simp [u8s_len]) hnews (u8s_one _) hroom
          (fun j hj => by rw [u8s_len] at hj; rw [hz1, cell_of_heap' hg, Array.getElem?_eq_getElem (by omega)]; rfl)
          (fun j hj => by rw [u8s_len] at hj; rw [hz1]; exact frozen_of_heap' hg hf _ (by omega))
        refine ⟨_, _, hrun, Or.inr ⟨g, cap, putCells cur zs.length (u8s pt.zs), lo, hi', by simp, hBg, ?_, by rw [putCells_size]; exact hf, by simpa using hroom, hm, by rw [putCells_size]; exact hs, ?_⟩, (but_setCells _ _ _ _).below hBg hB⟩
        · rw [hz1, Nat.mul_one, Nat.zero_add]; exact heap_setCells _ _ _ _ _ _ _ hg
        · have hp := putCells_take (u8s pt.zs) cur zs.length (by rw [u8s_len]; omega)
          rw [u8s_len, ht] at hp
          rw [List.length_append, hp, u8s_app]
      · obtain ⟨v', w', hrun, hown, hgr⟩ := run_append_arg_grows (P := Try.prog) w 37 ty 5 i (.int .u8 0) 1 1 Try.underlying37 hi hz0 hz1 hz2 rfl (by decide) ⟨g, 0, none⟩ zs.length cap (u8s zs) (by simp [u8s_len])
          (fun j u hj => by
            have hjl : j < zs.length := by
              rcases Nat.lt_or_ge j zs.length with h | h
              · exact h
              · simp [u8s, List.getElem?_eq_none h] at hj
            rw [show (⟨g, 0, none⟩ : Addr).add j = ⟨g, j, none⟩ from by unfold Addr.add; split <;> simp_all, cell_of_heap' hg, ← Array.getElem?_toList, take_get ht j hjl]
            simp [u8s, hjl] at hj
            simp [hjl, hj])
          ⟨b, o, none⟩ pt.zs.length pt.c (u8s pt.zs) (by simp [u8s_len]) hnews (by omega) hml (by omega)
        refine ⟨v', w', hrun, OwnB.of_row ?_, (Below.refl B w).grown hgr hB (by simp)⟩
        rw [List.length_append, u8s_app]
        rcases hown with ⟨h1, h2⟩
        refine ⟨h1, ?_⟩
        rcases h2 with h2 | ⟨g2, cap2, cur2, e1, e2, r⟩
        · exact Or.inl h2
        · exact Or.inr ⟨g2, cap2, cur2, e1, by omega, r⟩

end Go.Proofs.Ytanmidiapbghnaa
