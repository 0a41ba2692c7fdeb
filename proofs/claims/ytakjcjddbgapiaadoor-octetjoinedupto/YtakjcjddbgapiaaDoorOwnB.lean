/-
  Slices of bytes that a call itself has made: what appends, conversions and stores do to them.
-/
import Derived.Test.YtakjcjddbgapiaaDoorMem
import Derived.ArgAppend
import Derived.Deep.Upon
import Derived.Laws.IdiomStrings
namespace Go.Proofs.YtakjcjddbgapiaaDoor
open Go.RowKit
set_option linter.unusedVariables false

/-- v is a slice of the bytes zs, in a block of the call's own (from B on). -/
def OwnB (w : World) (B : Nat) (v : Value) (zs : List Int) : Prop :=
  (v = .slice none 0 0 ∧ zs = []) ∨ ∃ (g cap : Nat) (cur : Array Value) (lo hi : Nat), v = .slice (some ⟨g, 0, none⟩) zs.length cap ∧ B ≤ g ∧ w.heap[g]? = some (.cells cur 5 (lo, hi)) ∧ (cur.size ≤ lo ∨ hi = 0) ∧
    zs.length ≤ cap ∧ cap ≤ maxLen ∧ cur.size = cap ∧ cur.toList.take zs.length = u8s zs

theorem cell_of_heap' {w : World} {g : Nat} {cs : Array Value} {t : TypeId} {f : Nat × Nat} (h : w.heap[g]? = some (.cells cs t f)) (j : Nat) : w.cell? ⟨g, j, none⟩ = cs[j]? := by
  simp [World.cell?, h]
theorem frozen_of_heap' {w : World} {g : Nat} {cs : Array Value} {t : TypeId} {lo hi : Nat} (h : w.heap[g]? = some (.cells cs t (lo, hi))) (hf : cs.size ≤ lo ∨ hi = 0) (j : Nat) (hj : j < cs.size) : w.frozen? ⟨g, j, none⟩ = false := by
  simp [World.frozen?, h]; omega
theorem heap_setCell_at' {w : World} {g j : Nat} {cs : Array Value} {t : TypeId} {f : Nat × Nat} {v : Value} (h : w.heap[g]? = some (.cells cs t f)) : (w.setCell ⟨g, j, none⟩ v).heap[g]? = some (.cells (cs.setIfInBounds j v) t f) := by
  simp [World.setCell, Array.getElem?_modify, h]
theorem heap_lt {w : World} {g : Nat} {o : Obj} (h : w.heap[g]? = some o) : g < w.heap.size := (Array.getElem?_eq_some_iff.1 h).1

theorem take_get {l : List Value} {zs : List Int} (h : l.take zs.length = u8s zs) (j : Nat) (hj : j < zs.length) : l[j]? = some (.int .u8 (zs.getD j 0)) := by
  have h1 : (l.take zs.length)[j]? = (u8s zs)[j]? := by rw [h]
  rw [List.getElem?_take, if_pos hj] at h1
  rw [h1]
  simp [u8s, hj]

/-- as a part that is only read. -/
theorem OwnB.part {w : World} {B : Nat} {v : Value} {zs : List Int} (h : OwnB w B v zs) (hz : ∀ z, z ∈ zs → 0 ≤ z ∧ z ≤ 255) : ∃ pt : Part, v = pt.val ∧ pt.zs = zs ∧ pt.ok w := by
  rcases h with ⟨rfl, rfl⟩ | ⟨g, cap, cur, lo, hi, rfl, hB, hg, hf, hl, hm, hs, ht⟩
  · exact ⟨⟨none, 0, []⟩, rfl, rfl, by simp, Or.inl rfl⟩
  · refine ⟨⟨some ⟨g, 0, none⟩, cap, zs⟩, rfl, rfl, hz, Or.inr ⟨g, 0, rfl, fun j hj => ?_⟩⟩
    rw [cell_of_heap' hg, Nat.zero_add, ← Array.getElem?_toList]
    exact take_get ht j hj

theorem OwnB.only {w w' : World} {B g : Nat} {v : Value} {zs : List Int} (h : OwnB w B v zs) (hg : v.ownBlock ≠ some g) (ho : Only g w w') : OwnB w' B v zs := by
  rcases h with h | ⟨g', cap, cur, lo, hi, rfl, hB, hg', r⟩
  · exact Or.inl h
  · exact Or.inr ⟨g', cap, cur, lo, hi, rfl, hB, by rw [ho.block g' (fun e => hg (by simp [Value.ownBlock, e]))]; exact hg', r⟩
theorem OwnB.below {w w' : World} {B : Nat} {v : Value} {zs : List Int} (h : OwnB w B v zs) (hb : Below w.heap.size w w') : OwnB w' B v zs := by
  rcases h with h | ⟨g', cap, cur, lo, hi, rfl, hB, hg', r⟩
  · exact Or.inl h
  · exact Or.inr ⟨g', cap, cur, lo, hi, rfl, hB, by rw [hb.block g' (heap_lt hg')]; exact hg', r⟩

/-- '[]byte(s)'. -/
theorem conv_own (w : World) (zs : List Int) (hz : ∀ z, z ∈ zs → 0 ≤ z ∧ z ≤ 255) (hl : zs.length ≤ maxLen) :
    ∃ cap w', (convert 9 28 (.string (strOfNums zs))).run Tryd.prog w = .ok (.slice (some ⟨w.heap.size, 0, none⟩) zs.length cap) w' ∧ OwnB w' w.heap.size (.slice (some ⟨w.heap.size, 0, none⟩) zs.length cap) zs ∧ Below w.heap.size w w' ∧ w'.heap.size = w.heap.size + 1 := by
  have h := run_bytes_of_string (P := Tryd.prog) w 9 28 5 (strOfNums zs) Tryd.underlying9 Tryd.underlying28 Tryd.underlying5
  rw [strOfNums_size] at h
  have hge := grownCap_ge w zs.length 0 5
  have hle := grownCap_le_maxLen w zs.length 0 5 hl
  refine ⟨_, _, h, Or.inr ⟨w.heap.size, _, _, _, _, rfl, Nat.le_refl _, heap_new w.drew _, Or.inl (Nat.le_refl _), hge, hle, ?_, ?_⟩, ?_, ?_⟩
  · simp [bytesRow, strOfNums, ByteArray.size]; omega
  · simp only [bytesRow, Array.toList_append, Array.toList_map, strOfNums_data, List.map_map]
    rw [List.take_append_of_le_length (by simp), List.take_of_length_le (by simp)]
    apply List.map_congr_left
    intro z hzm
    have := hz z hzm
    simp [UInt8.toNat_ofNat']
    omega
  · exact ((Below.refl _ _).drew).alloc (Nat.le_refl _) _
  · simp

/-- cells laid one behind the other. -/
def putCells (cur : Array Value) : Nat → List Value → Array Value
  | _, [] => cur
  | o, v :: r => putCells (cur.setIfInBounds o v) (o + 1) r
theorem putCells_size : ∀ (l : List Value) (cur : Array Value) (o : Nat), (putCells cur o l).size = cur.size
  | [], _, _ => rfl
  | v :: r, cur, o => by rw [putCells, putCells_size r]; simp
theorem putCells_take : ∀ (l : List Value) (cur : Array Value) (o : Nat), o + l.length ≤ cur.size → (putCells cur o l).toList.take (o + l.length) = cur.toList.take o ++ l
  | [], cur, o, h => by simp [putCells]
  | v :: r, cur, o, h => by
    simp only [List.length_cons] at h
    have ih := putCells_take r (cur.setIfInBounds o v) (o + 1) (by simp; omega)
    rw [putCells, List.length_cons, show o + (r.length + 1) = o + 1 + r.length from by omega, ih]
    have hl : o < cur.toList.length := by simp; omega
    rw [Array.toList_setIfInBounds, List.take_succ_eq_append_getElem (by simpa using hl)]
    simp [List.take_set_of_le]
theorem heap_setCells : ∀ (l : List Value) (w : World) (g o : Nat) (cur : Array Value) (t : TypeId) (f : Nat × Nat), w.heap[g]? = some (.cells cur t f) → (w.setCells g o l).heap[g]? = some (.cells (putCells cur o l) t f)
  | [], _, _, _, _, _, _, h => h
  | v :: r, w, g, o, cur, t, f, h => by
    rw [World.setCells, putCells]
    exact heap_setCells r _ g (o + 1) _ t f (heap_setCell_at' h)
theorem only_setCells : ∀ (l : List Value) (w : World) (g o : Nat), Only g w (w.setCells g o l)
  | [], w, g, _ => Only.refl g w
  | v :: r, w, g, o => ((Only.refl g w).setCell (p := ⟨g, o, none⟩) rfl v).trans (only_setCells r _ g (o + 1))

theorem OwnB.of_row {w : World} {B : Nat} {v : Value} {zs : List Int} (h : w.ownsRow B 5 1 v zs.length (u8s zs)) : OwnB w B v zs := by
  rcases h.2 with ⟨hv, hn⟩ | ⟨g, cap, cur, hv, hB, hg, hl, hm, hs, ht⟩
  · exact Or.inl ⟨hv, List.eq_nil_of_length_eq_zero hn⟩
  · exact Or.inr ⟨g, cap, cur, 0, 0, hv, hB, hg, Or.inr rfl, hl, hm, by omega, by simpa using ht⟩
theorem u8s_app (a b : List Int) : u8s (a ++ b) = u8s a ++ u8s b := by simp [u8s]
theorem u8s_len (a : List Int) : (u8s a).length = a.length := by simp [u8s]

theorem part_news {pt : Part} {w : World} {b o : Nat} (hc : ∀ j, j < pt.zs.length → w.cell? ⟨b, o + j, none⟩ = some (.int .u8 (pt.zs.getD j 0))) : ∀ j u, (u8s pt.zs)[j]? = some u → w.cell? ((⟨b, o, none⟩ : Addr).add j) = some u := by
  intro j v hj
  have hjl : j < pt.zs.length := by
    rcases Nat.lt_or_ge j pt.zs.length with h | h
    · exact h
    · simp [u8s, List.getElem?_eq_none h] at hj
  rw [show (⟨b, o, none⟩ : Addr).add j = ⟨b, o + j, none⟩ from by unfold Addr.add; split <;> simp_all, hc j hjl]
  simp [u8s, hjl] at hj
  simp [hjl, hj]

/-- an append whose run is known, in a walk. -/
theorem wp_append_run (w : World) {o : Oper} {a : Act} {K : Act → World → Prop} {Q : Exit → Act → World → Prop} (d s : Operand) (t t' : TypeId)
    (ho : o.op = .call { callee := .builtin .append, args := #[d, s], argTypes := #[t, t'] }) (v u : Value) (hd : a.eval d = v) (hs : a.eval s = u) {v' : Value} {w' : World}
    (hr : (Builtin.append_ #[t, t'] o.type #[v, u]).run Tryd.prog w = .ok v' w') (h : K (a.put o.dst v') w') : Oper.wp Tryd.prog o a w K Q := by
  unfold Oper.wp execOp
  simp only [ho, resolve, invoke, builtin, Sem.run_bind, Sem.run_pure, Result.andThen_ok, List.map_toArray, List.map_cons, List.map_nil, hd, hs, hr]
  exact h
theorem wpList_append_run (w : World) {ops : Array Oper} {rest : List Oper} {o : Oper} {a : Act} {Q : Exit → Act → World → Prop} (hgd : o.guard = none) (d s : Operand) (t t' : TypeId)
    (ho : o.op = .call { callee := .builtin .append, args := #[d, s], argTypes := #[t, t'] }) (v u : Value) (hd : a.eval d = v) (hs : a.eval s = u) {v' : Value} {w' : World}
    (hr : (Builtin.append_ #[t, t'] o.type #[v, u]).run Tryd.prog w = .ok v' w') (h : wpList Tryd.prog ops Q rest (a.put o.dst v') w') : wpList Tryd.prog ops Q (o :: rest) a w :=
  wpList_plain hgd fun _ hK => wp_append_run w d s t t' ho v u hd hs hr (hK _ _ h)

/-- 'append(v, part...)'. -/
theorem append_own {w : World} {B : Nat} {v : Value} {zs : List Int} (h : OwnB w B v zs) (pt : Part) (hok : pt.ok w) (hlen : zs.length + pt.zs.length ≤ 140737488355328) (hB : B ≤ w.heap.size) (ty : TypeId) :
    ∃ v' w', (Builtin.append_ #[28, 28] ty #[v, pt.val]).run Tryd.prog w = .ok v' w' ∧ OwnB w' B v' (zs ++ pt.zs) ∧ Below B w w' := by
  obtain ⟨i, hi, hz0, hz1, hz2⟩ := info_parts infoU8
  have hml : zs.length + pt.zs.length ≤ maxLen := by unfold maxLen; omega
  rcases hok.2 with he | ⟨b, o, ha, hc⟩
  · have hs : Src Tryd.prog i.size 28 pt.val 0 [] w := by
      obtain ⟨a, c, ps⟩ := pt
      simp only at he
      subst he
      cases a with
      | none => exact Src.ofNil w Tryd.underlying28 c
      | some x => exact Src.ofSlice w Tryd.underlying28 x 0 c [] (by simp) (by simp) (by simp)
    rw [he, List.append_nil]
    rcases h with ⟨rfl, rfl⟩ | ⟨g, cap, cur, lo, hi', rfl, r⟩
    · exact ⟨_, _, run_append_nothing w _ _ _ _ i Tryd.underlying28 hi none 0 0 (Nat.le_refl _) _ hs, Or.inl ⟨rfl, rfl⟩, Below.refl _ _⟩
    · exact ⟨_, _, run_append_nothing w _ _ _ _ i Tryd.underlying28 hi _ _ _ r.2.2.2.1 _ hs, Or.inr ⟨g, cap, cur, lo, hi', rfl, r⟩, Below.refl _ _⟩
  · have hv : pt.val = .slice (some ⟨b, o, none⟩) pt.zs.length pt.c := by unfold Part.val; rw [ha]
    rw [hv]
    have hnews := part_news hc
    rcases h with ⟨rfl, rfl⟩ | ⟨g, cap, cur, lo, hi', rfl, hBg, hg, hf, hl, hm, hs, ht⟩
    · obtain ⟨v', w', hrun, hown, hgr, _⟩ := run_append_own (P := Tryd.prog) w B 28 ty 5 i (.int .u8 0) 1 1 Tryd.underlying28 hi hz0 hz1 hz2 rfl (by decide) (.slice none 0 0) 0 [] (World.ownsRow_nil w B 5 1) ⟨b, o, none⟩ pt.zs.length pt.c (u8s pt.zs) (by simp [u8s_len]) hnews (u8s_one _) (by simpa using hml) (by simp at hlen; omega) hB
      refine ⟨v', w', hrun, OwnB.of_row ?_, (Below.refl B w).grown hgr hB (by simp [Value.ownBlock])⟩
      simpa using hown
    · by_cases hroom : zs.length + pt.zs.length ≤ cap
      · have hrun := run_append_room_cells (P := Tryd.prog) w 28 ty 5 i Tryd.underlying28 hi g 0 zs.length cap ⟨b, o, none⟩ pt.zs.length pt.c (u8s pt.zs) (by rw [hz1]; simp [u8s_len]) hnews (u8s_one _) hroom
          (fun j hj => by rw [u8s_len] at hj; rw [hz1, cell_of_heap' hg, Array.getElem?_eq_getElem (by omega)]; rfl)
          (fun j hj => by rw [u8s_len] at hj; rw [hz1]; exact frozen_of_heap' hg hf _ (by omega))
        refine ⟨_, _, hrun, Or.inr ⟨g, cap, putCells cur zs.length (u8s pt.zs), lo, hi', by simp, hBg, ?_, by rw [putCells_size]; exact hf, by simpa using hroom, hm, by rw [putCells_size]; exact hs, ?_⟩, (only_setCells _ _ _ _).below hBg⟩
        · rw [hz1, Nat.mul_one, Nat.zero_add]; exact heap_setCells _ _ _ _ _ _ _ hg
        · have hp := putCells_take (u8s pt.zs) cur zs.length (by rw [u8s_len]; omega)
          rw [u8s_len, ht] at hp
          rw [List.length_append, hp, u8s_app]
      · obtain ⟨v', w', hrun, hown, hgr⟩ := run_append_arg_grows (P := Tryd.prog) w 28 ty 5 i (.int .u8 0) 1 1 Tryd.underlying28 hi hz0 hz1 hz2 rfl (by decide) ⟨g, 0, none⟩ zs.length cap (u8s zs) (by simp [u8s_len])
          (fun j u hj => by
            have hjl : j < zs.length := by
              rcases Nat.lt_or_ge j zs.length with h | h
              · exact h
              · simp [u8s, List.getElem?_eq_none h] at hj
            rw [show (⟨g, 0, none⟩ : Addr).add j = ⟨g, j, none⟩ from by unfold Addr.add; split <;> simp_all, cell_of_heap' hg, ← Array.getElem?_toList, take_get ht j hjl]
            simp [u8s, hjl] at hj
            simp [hjl, hj])
          ⟨b, o, none⟩ pt.zs.length pt.c (u8s pt.zs) (by simp [u8s_len]) hnews (by omega) hml (by omega)
        refine ⟨v', w', hrun, OwnB.of_row ?_, (Below.refl B w).grown hgr hB (by simp)⟩
        rw [List.length_append, u8s_app]
        rcases hown with ⟨h1, h2⟩
        refine ⟨h1, ?_⟩
        rcases h2 with h2 | ⟨g2, cap2, cur2, e1, e2, r⟩
        · exact Or.inl h2
        · exact Or.inr ⟨g2, cap2, cur2, e1, by omega, r⟩

/-- 'v[j] = x', whose cell may be written, and what it leaves. -/
theorem OwnB.set {w : World} {B g n cap : Nat} {zs : List Int} (h : OwnB w B (.slice (some ⟨g, 0, none⟩) n cap) zs) (j : Nat) (hj : j < n) (x : Int) :
    (∃ u, w.cell? ⟨g, j, none⟩ = some u) ∧ w.frozen? ⟨g, j, none⟩ = false ∧ OwnB (w.setCell ⟨g, j, none⟩ (.int .u8 x)) B (.slice (some ⟨g, 0, none⟩) n cap) (zs.set j x) := by
  rcases h with ⟨h, _⟩ | ⟨g', cap', cur, lo, hi, hv, hB, hg, hf, hl, hm, hs, ht⟩
  · cases h
  · simp only [Value.slice.injEq, Option.some.injEq, Addr.mk.injEq] at hv
    obtain ⟨⟨rfl, _, _⟩, rfl, rfl⟩ := hv
    refine ⟨⟨cur[j]'(by omega), by rw [cell_of_heap' hg, Array.getElem?_eq_getElem (by omega)]⟩, frozen_of_heap' hg hf j (by omega), Or.inr ⟨g, cap, cur.setIfInBounds j (.int .u8 x), lo, hi, by simp, hB, heap_setCell_at' hg, by simpa using hf, by simpa using hl, hm, by simpa using hs, ?_⟩⟩
    rw [Array.toList_setIfInBounds, List.length_set, List.take_set, ht]
    simp [u8s, List.map_set]
theorem OwnB.at {w : World} {B g n cap : Nat} {zs : List Int} (h : OwnB w B (.slice (some ⟨g, 0, none⟩) n cap) zs) : B ≤ g ∧ g < w.heap.size ∧ n = zs.length := by
  rcases h with ⟨h, _⟩ | ⟨g', cap', cur, lo, hi, hv, hB, hg, hf, hl, hm, hs, ht⟩
  · cases h
  · simp only [Value.slice.injEq, Option.some.injEq, Addr.mk.injEq] at hv
    obtain ⟨⟨rfl, _, _⟩, rfl, rfl⟩ := hv
    exact ⟨hB, heap_lt hg, rfl⟩
theorem OwnB.cell {w : World} {B g n cap : Nat} {zs : List Int} (h : OwnB w B (.slice (some ⟨g, 0, none⟩) n cap) zs) (j : Nat) (hj : j < n) : w.cell? ⟨g, j, none⟩ = some (.int .u8 (zs.getD j 0)) := by
  rcases h with ⟨h, _⟩ | ⟨g', cap', cur, lo, hi, hv, hB, hg, hf, hl, hm, hs, ht⟩
  · cases h
  · simp only [Value.slice.injEq, Option.some.injEq, Addr.mk.injEq] at hv
    obtain ⟨⟨rfl, _, _⟩, rfl, rfl⟩ := hv
    rw [cell_of_heap' hg, ← Array.getElem?_toList]
    exact take_get ht j hj
theorem OwnB.drewN {w : World} {B : Nat} {v : Value} {zs : List Int} (h : OwnB w B v zs) (k : Nat) : OwnB (w.drewN k) B v zs := h
end Go.Proofs.YtakjcjddbgapiaaDoor
