/-
  Lists of draws in memory: slices of words of 32 bits that are read, and such as lie in a block of their own.
-/
import Derived.Test.YtgcpoanjjgbfjaaBOwnP
namespace Go.Proofs.Ytgcpoanjjgbfjaa
open Go.RowKit
set_option linter.all false

/-- only blocks of K may have turned, and new ones come. -/
structure Only (K : Nat → Prop) (w w' : World) : Prop where
  os : w'.os = w.os
  tape : w'.tape = w.tape
  output : w'.output = w.output
  size : w.heap.size ≤ w'.heap.size
  block : ∀ k, ¬ K k → k < w.heap.size → w'.heap[k]? = w.heap[k]?
theorem Only.refl (K : Nat → Prop) (w : World) : Only K w w := ⟨rfl, rfl, rfl, Nat.le_refl _, fun _ _ _ => rfl⟩
theorem Only.trans {K : Nat → Prop} {a b c : World} (h : Only K a b) (k : Only K b c) : Only K a c :=
  ⟨k.os.trans h.os, k.tape.trans h.tape, k.output.trans h.output, Nat.le_trans h.size k.size, fun i hi hl => (k.block i hi (Nat.lt_of_lt_of_le hl h.size)).trans (h.block i hi hl)⟩
theorem Only.of_but {K : Nat → Prop} {g : Nat} {w w' : World} (h : But g w w') (hg : K g) : Only K w w' := ⟨h.os, h.tape, h.output, h.size, fun k hk hl => h.block k (fun e => hk (e ▸ hg)) hl⟩
theorem Only.of_below {K : Nat → Prop} {w w' : World} (h : Below w.heap.size w w') : Only K w w' := ⟨h.os, h.tape, h.output, h.size, fun k _ hl => h.block k hl⟩
theorem Only.mono {K L : Nat → Prop} {w w' : World} (h : Only K w w') (hk : ∀ k, K k → L k) : Only L w w' := ⟨h.os, h.tape, h.output, h.size, fun k hn hl => h.block k (fun e => hn (hk k e)) hl⟩
/-- K may hold new blocks besides. -/
theorem Only.old {K L : Nat → Prop} {w w' : World} (h : Only K w w') (hk : ∀ k, K k → k < w.heap.size → L k) : Only L w w' := ⟨h.os, h.tape, h.output, h.size, fun k hn hl => h.block k (fun e => hn (hk k e hl)) hl⟩
theorem Only.below {K : Nat → Prop} {B : Nat} {w w' : World} (h : Only K w w') (hk : ∀ k, K k → B ≤ k) (hB : B ≤ w.heap.size) : Below B w w' := ⟨h.os, h.tape, h.output, h.size, fun k hl => h.block k (fun e => by have := hk k e; omega) (by omega)⟩
theorem Only.grown {row : Option Nat} {w w' : World} (h : w.grownBy w' row) : Only (fun k => row = some k) w w' := ⟨h.os, h.tape, h.output, h.size, fun k hk hl => h.block k hl (fun e => hk e.symm)⟩
theorem balloc (w : World) (o : Obj) : Below w.heap.size w (w.alloc o) := (Below.refl _ _).alloc (Nat.le_refl _) _
theorem cellHeap {w : World} {g : Nat} {C : Array Value} {t : TypeId} {f : Nat × Nat} (h : w.heap[g]? = some (.cells C t f)) (o : Nat) {v : Value} (hv : C[o]? = some v) : w.cell? ⟨g, o, none⟩ = some v := by rw [cell_of_heap h, hv]

theorem infoU32 : (Try.prog.info? 30).map (fun i => (i.zero, i.size, i.bytes)) = some (some (.int .u32 0), 1, 4) := by kernel_rfl
theorem sizeU32 : (Try.prog.info? 30).map (·.size) = some 1 := by kernel_rfl
def u32s (zs : List Int) : List Value := zs.map (Value.int .u32)
theorem u32s_len (a : List Int) : (u32s a).length = a.length := by simp [u32s]
theorem u32s_app (a b : List Int) : u32s (a ++ b) = u32s a ++ u32s b := by simp [u32s]
theorem u32s_one (zs : List Int) : ∀ v, v ∈ u32s zs → v.oneCell' = true := by
  intro v hv
  obtain ⟨z, _, rfl⟩ := List.mem_map.1 hv
  rfl
theorem u32s_get {zs : List Int} {j : Nat} {u : Value} (h : (u32s zs)[j]? = some u) : j < zs.length ∧ u = .int .u32 (zs.getD j 0) := by
  have hl := (List.getElem?_eq_some_iff.1 h).1
  rw [u32s_len] at hl
  refine ⟨hl, ?_⟩
  simp [u32s, hl] at h
  simp [hl, h]
theorem u32s_at (zs : List Int) (j : Nat) (h : j < zs.length) : (u32s zs)[j]? = some (.int .u32 (zs.getD j 0)) := by simp [u32s, h]
/-- all are words of 32 bits. -/
def Words (zs : List Int) : Prop := ∀ z, z ∈ zs → 0 ≤ z ∧ z ≤ 4294967295
theorem Words.nil : Words [] := by simp [Words]
theorem Words.app {a b : List Int} (h : Words a) (k : Words b) : Words (a ++ b) := fun z hz => by
  rcases List.mem_append.1 hz with hz | hz
  · exact h z hz
  · exact k z hz
theorem Words.tail {a : List Int} (h : Words a) : Words a.tail := fun z hz => h z (List.mem_of_mem_tail hz)
theorem Words.drop {a : List Int} (h : Words a) (n : Nat) : Words (a.drop n) := fun z hz => h z (List.mem_of_mem_drop hz)
theorem Words.get {a : List Int} (h : Words a) (j : Nat) : 0 ≤ a.getD j 0 ∧ a.getD j 0 ≤ 4294967295 := by
  rw [List.getD_eq_getElem?_getD]
  by_cases hj : j < a.length
  · rw [List.getElem?_eq_getElem hj]; exact h _ (List.getElem_mem hj)
  · rw [List.getElem?_eq_none (by omega)]; simp
theorem Words.head {a : List Int} (h : Words a) : 0 ≤ a.headD 0 ∧ a.headD 0 ≤ 4294967295 := by
  cases a with
  | nil => simp
  | cons x r => exact h x (by simp)

def blk (a : Option Addr) : Option Nat := a.map (·.block)
/-- a slice of draws that is only read. -/
structure PartU (w : World) (a : Option Addr) (c : Nat) (zs : List Int) : Prop where
  words : Words zs
  room : zs.length ≤ c
  lies : zs = [] ∨ ∃ b o, a = some ⟨b, o, none⟩ ∧ ∀ j, j < zs.length → w.cell? ⟨b, o + j, none⟩ = some (.int .u32 (zs.getD j 0))
theorem PartU.nil (w : World) : PartU w none 0 [] := ⟨Words.nil, by simp, Or.inl rfl⟩
theorem PartU.keep {w w' : World} {a : Option Addr} {c : Nat} {zs : List Int} (h : PartU w a c zs) (hk : ∀ b, blk a = some b → b < w.heap.size → w'.heap[b]? = w.heap[b]?) : PartU w' a c zs := by
  refine ⟨h.words, h.room, ?_⟩
  rcases h.lies with he | ⟨b, o, ha, hc⟩
  · exact Or.inl he
  · refine Or.inr ⟨b, o, ha, fun j hj => ?_⟩
    have h1 := hc j hj
    rw [World.cell?_of_block (w := w) (hk b (by rw [ha]; rfl) (World.block_lt_of_cell? w _ h1)), h1]
theorem PartU.below {w w' : World} {a : Option Addr} {c : Nat} {zs : List Int} (h : PartU w a c zs) (hb : Below w.heap.size w w') : PartU w' a c zs := h.keep fun b _ hl => hb.block b hl
/-- it lies where the world had come to. -/
theorem PartU.lt {w : World} {a : Option Addr} {c : Nat} {zs : List Int} (h : PartU w a c zs) (hz : zs ≠ []) {b : Nat} (hb : blk a = some b) : b < w.heap.size := by
  rcases h.lies with he | ⟨b', o, ha, hc⟩
  · exact absurd he hz
  · have h1 := hc 0 (List.length_pos_iff.2 hz)
    rw [ha] at hb
    simp [blk] at hb
    subst hb
    exact World.block_lt_of_cell? w _ h1
/-- a slice of draws in a block of its own that may be written, from any place of it on. -/
def RowU (w : World) (a : Option Addr) (c : Nat) (zs : List Int) : Prop :=
  (a = none ∧ c = 0 ∧ zs = []) ∨ ∃ (g off : Nat) (cur : Array Value), a = some ⟨g, off, none⟩ ∧ w.heap[g]? = some (.cells cur 30 (0, 0)) ∧ zs.length ≤ c ∧ off + c ≤ cur.size ∧ ∀ j, j < zs.length → cur[off + j]? = some (.int .u32 (zs.getD j 0))
theorem RowU.nil (w : World) : RowU w none 0 [] := Or.inl ⟨rfl, rfl, rfl⟩
theorem RowU.room {w : World} {a : Option Addr} {c : Nat} {zs : List Int} (h : RowU w a c zs) : zs.length ≤ c := by
  rcases h with ⟨_, rfl, rfl⟩ | ⟨g, off, cur, _, _, h, _⟩
  · simp
  · exact h
theorem RowU.part {w : World} {a : Option Addr} {c : Nat} {zs : List Int} (h : RowU w a c zs) (hz : Words zs) : PartU w a c zs := by
  refine ⟨hz, h.room, ?_⟩
  rcases h with ⟨_, _, rfl⟩ | ⟨g, off, cur, rfl, hg, _, _, hc⟩
  · exact Or.inl rfl
  · exact Or.inr ⟨g, off, rfl, fun j hj => by rw [cell_of_heap hg]; exact hc j hj⟩
theorem RowU.cells {w : World} {a : Option Addr} {c : Nat} {zs : List Int} (h : RowU w a c zs) {b : Nat} (hb : blk a = some b) : ∃ cur, w.heap[b]? = some (.cells cur 30 (0, 0)) := by
  rcases h with ⟨rfl, _⟩ | ⟨g, off, cur, rfl, hg, _⟩
  · simp [blk] at hb
  · simp [blk] at hb; subst hb; exact ⟨cur, hg⟩
theorem RowU.lt {w : World} {a : Option Addr} {c : Nat} {zs : List Int} (h : RowU w a c zs) {b : Nat} (hb : blk a = some b) : b < w.heap.size := by
  obtain ⟨cur, h⟩ := h.cells hb
  exact heap_lt h
theorem RowU.keep {w w' : World} {a : Option Addr} {c : Nat} {zs : List Int} (h : RowU w a c zs) (hk : ∀ b, blk a = some b → w'.heap[b]? = w.heap[b]?) : RowU w' a c zs := by
  rcases h with h | ⟨g, off, cur, rfl, hg, r⟩
  · exact Or.inl h
  · exact Or.inr ⟨g, off, cur, rfl, (hk g rfl).trans hg, r⟩
theorem RowU.below {w w' : World} {a : Option Addr} {c : Nat} {zs : List Int} (h : RowU w a c zs) (hb : Below w.heap.size w w') : RowU w' a c zs := h.keep fun b hv => hb.block b (h.lt hv)
/-- v[1:], where room is left behind; where none is. -/
theorem RowU.tail {w : World} {g off c : Nat} {zs : List Int} (h : RowU w (some ⟨g, off, none⟩) c zs) (hz : 0 < zs.length) : RowU w (some ⟨g, off + 1, none⟩) (c - 1) zs.tail := by
  rcases h with ⟨h, _⟩ | ⟨g', off', cur, ha, hg, hl, hs, hc⟩
  · simp at h
  · simp only [Option.some.injEq, Addr.mk.injEq, and_true] at ha
    obtain ⟨rfl, rfl⟩ := ha
    refine Or.inr ⟨g, off + 1, cur, rfl, hg, by simp; omega, by omega, fun j hj => ?_⟩
    rw [List.length_tail] at hj
    rw [Nat.add_assoc, hc (1 + j) (by omega)]
    cases zs with
    | nil => simp at hz
    | cons x r => simp [List.getD_eq_getElem?_getD, Nat.add_comm 1 j]
theorem RowU.over {w : World} {a : Option Addr} {c : Nat} {zs : List Int} (h : RowU w a c zs) : RowU w a 0 [] := by
  rcases h with ⟨rfl, _⟩ | ⟨g', off', cur, rfl, hg, hl, hs, hc⟩
  · exact Or.inl ⟨rfl, rfl, rfl⟩
  · exact Or.inr ⟨g', off', cur, rfl, hg, by simp, by omega, fun j hj => by simp at hj⟩
theorem putCells_get : ∀ (l : List Value) (cur : Array Value) (o k : Nat), o + l.length ≤ cur.size → (putCells cur o l)[k]? = if o ≤ k ∧ k < o + l.length then l[k - o]? else cur[k]?
  | [], cur, o, k, h => by simp [putCells]; intros; omega
  | v :: r, cur, o, k, h => by
    simp only [List.length_cons] at h
    rw [putCells, putCells_get r _ (o + 1) k (by simp; omega)]
    by_cases h1 : o + 1 ≤ k ∧ k < o + 1 + r.length
    · rw [if_pos h1, if_pos (by simp; omega), show k - o = (k - (o + 1)) + 1 by omega, List.getElem?_cons_succ]
    · rw [if_neg h1]
      by_cases h2 : k = o
      · subst h2
        rw [Array.getElem?_setIfInBounds_self_of_lt (by omega), if_pos (by simp)]
        simp
      · rw [Array.getElem?_setIfInBounds_ne (fun e => h2 e.symm), if_neg (by simp; omega)]
theorem part_newsU {w : World} {b o : Nat} {ps : List Int} (hc : ∀ j, j < ps.length → w.cell? ⟨b, o + j, none⟩ = some (.int .u32 (ps.getD j 0))) : ∀ j u, (u32s ps)[j]? = some u → w.cell? ((⟨b, o, none⟩ : Addr).add j) = some u := by
  intro j v hj
  obtain ⟨hl, rfl⟩ := u32s_get hj
  rw [show (⟨b, o, none⟩ : Addr).add j = ⟨b, o + j, none⟩ from by unfold Addr.add; split <;> simp_all, hc j hl]
theorem getD_app_left {a b : List Int} {j : Nat} (h : j < a.length) : (a ++ b).getD j 0 = a.getD j 0 := by
  simp [List.getD_eq_getElem?_getD, List.getElem?_append_left h]
theorem getD_app_right {a b : List Int} {j : Nat} (h : a.length ≤ j) : (a ++ b).getD j 0 = b.getD (j - a.length) 0 := by
  simp [List.getD_eq_getElem?_getD, List.getElem?_append_right h]
/-- 'append(v, part...)'. -/
theorem append_u {w : World} {a : Option Addr} {c : Nat} {zs : List Int} (h : RowU w a c zs) {a2 : Option Addr} {c2 : Nat} {ps : List Int} (hp : PartU w a2 c2 ps) (hlen : (zs.length + ps.length) * 4 ≤ 140737488355328) (ty : TypeId) :
    ∃ a' c' w', (Builtin.append_ #[31, 31] ty #[.slice a zs.length c, .slice a2 ps.length c2]).run Try.prog w = .ok (.slice a' (zs ++ ps).length c') w' ∧ RowU w' a' c' (zs ++ ps) ∧ Only (fun k => blk a = some k) w w' ∧ (blk a' = blk a ∨ ∀ b, blk a' = some b → w.heap.size ≤ b) := by
  obtain ⟨i, hi, hz0, hz1, hz2⟩ := info_three infoU32
  have hml : zs.length + ps.length ≤ maxLen := by unfold maxLen; omega
  have of_new : ∀ (v' : Value) (w' : World), w'.ownsRow w.heap.size 30 1 v' (zs.length + ps.length) (u32s zs ++ u32s ps) → ∃ a' c', v' = .slice a' (zs ++ ps).length c' ∧ RowU w' a' c' (zs ++ ps) ∧ ∀ b, blk a' = some b → w.heap.size ≤ b := fun v' w' ho => by
    rcases ho.2 with ⟨hv, h0⟩ | ⟨g, cap, cur, hv, hB, hg, hl, hm, hs, htk⟩
    · have h1 : (zs ++ ps).length = 0 := by rw [List.length_append]; exact h0
      refine ⟨none, 0, by rw [hv, h1], Or.inl ⟨rfl, rfl, List.eq_nil_of_length_eq_zero h1⟩, fun b hb => by simp [blk] at hb⟩
    · refine ⟨some ⟨g, 0, none⟩, cap, by rw [hv, List.length_append], Or.inr ⟨g, 0, cur, rfl, hg, by simpa using hl, by omega, fun j hj => ?_⟩, fun b hb => by simp [blk] at hb; omega⟩
      rw [Nat.zero_add, ← Array.getElem?_toList]
      have h1 : (cur.toList.take ((zs.length + ps.length) * 1))[j]? = (u32s (zs ++ ps))[j]? := by rw [htk, u32s_app]
      rw [List.getElem?_take, if_pos (by simpa using hj)] at h1
      rw [h1, u32s_at _ _ hj]
  rcases hp.lies with he | ⟨b, o, ha, hc⟩
  · subst he
    have hs : Src Try.prog i.size 31 (.slice a2 0 c2) 0 [] w := by
      cases a2 with
      | none => exact Src.ofNil w Try.underlying31 c2
      | some x => exact Src.ofSlice w Try.underlying31 x 0 c2 [] (by simp) (by simp) (by simp)
    refine ⟨a, c, w, ?_, by simpa using h, Only.refl _ _, Or.inl rfl⟩
    rw [List.append_nil]
    exact run_append_nothing w _ _ _ _ i Try.underlying31 hi a zs.length c h.room _ hs
  · subst ha
    have hnews := part_newsU hc
    rcases h with ⟨rfl, rfl, rfl⟩ | ⟨g, off, cur, rfl, hg, hl, hs, ht⟩
    · obtain ⟨v', w', hrun, hown, hgr, _⟩ := run_append_own (P := Try.prog) w w.heap.size 31 ty 30 i (.int .u32 0) 1 4 Try.underlying31 hi hz0 hz1 hz2 rfl (by decide) (.slice none 0 0) 0 [] (World.ownsRow_nil w w.heap.size 30 1) ⟨b, o, none⟩ ps.length c2 (u32s ps) (by simp [u32s_len]) hnews (u32s_one _) (by simpa using hml) (by simp at hlen; omega) (Nat.le_refl _)
      obtain ⟨a', c', rfl, h1, h2⟩ := of_new v' w' (by simpa [u32s] using hown)
      exact ⟨a', c', w', hrun, h1, (Only.grown hgr).mono (fun k hk => by simp [Value.ownBlock] at hk), Or.inr h2⟩
    · by_cases hroom : zs.length + ps.length ≤ c
      · have hrun := run_append_room_cells (P := Try.prog) w 31 ty 30 i Try.underlying31 hi g off zs.length c ⟨b, o, none⟩ ps.length c2 (u32s ps) (by rw [hz1]; simp [u32s_len]) hnews (u32s_one _) hroom
          (fun j hj => by rw [u32s_len] at hj; rw [hz1, cell_of_heap hg, Array.getElem?_eq_getElem (by omega)]; rfl)
          (fun j hj => by rw [u32s_len] at hj; rw [hz1]; exact frozen_of_heap hg _)
        simp only [hz1, Nat.mul_one] at hrun
        refine ⟨_, _, _, by rw [List.length_append]; exact hrun, Or.inr ⟨g, off, putCells cur (off + zs.length) (u32s ps), rfl, heap_setCells _ _ _ _ _ _ _ hg, by simpa using hroom, by rw [putCells_size]; exact hs, fun j hj => ?_⟩, (Only.grown (grown_setCells _ _ _ _)).mono (fun k hk => by simpa [blk] using hk), Or.inl rfl⟩
        rw [List.length_append] at hj
        rw [putCells_get _ _ _ _ (by rw [u32s_len]; omega), u32s_len]
        by_cases hj2 : j < zs.length
        · rw [if_neg (by omega), ht j hj2, getD_app_left hj2]
        · rw [if_pos (by omega), show off + j - (off + zs.length) = j - zs.length by omega, u32s_at _ _ (by omega), getD_app_right (by omega)]
      · obtain ⟨v', w', hrun, hown, hgr⟩ := run_append_arg_grows (P := Try.prog) w 31 ty 30 i (.int .u32 0) 1 4 Try.underlying31 hi hz0 hz1 hz2 rfl (by decide) ⟨g, off, none⟩ zs.length c (u32s zs) (by simp [u32s_len])
          (fun j u hj => by
            obtain ⟨hl', rfl⟩ := u32s_get hj
            rw [show (⟨g, off, none⟩ : Addr).add j = ⟨g, off + j, none⟩ from by unfold Addr.add; split <;> simp_all, cell_of_heap hg]
            exact ht j hl')
          ⟨b, o, none⟩ ps.length c2 (u32s ps) (by simp [u32s_len]) hnews (by omega) hml (by omega)
        obtain ⟨a', c', rfl, h1, h2⟩ := of_new v' w' (by simpa using hown)
        exact ⟨a', c', w', hrun, h1, (Only.grown hgr).mono (fun k hk => by simp at hk), Or.inr h2⟩

/-- a dice (the program's, or the document's: t) in memory. -/
structure DiceW (t : TypeId) (w : World) (p : Nat) (a : Option Addr) (c : Nat) (zs : List Int) : Prop where
  box : w.heap[p]? = some (.cells #[.slice a zs.length c] t (0, 0))
  row : RowU w a c zs
  words : Words zs
/-- its blocks. -/
def DiceK (p : Nat) (a : Option Addr) (k : Nat) : Prop := k = p ∨ blk a = some k
theorem DiceW.lt {t : TypeId} {w : World} {p : Nat} {a : Option Addr} {c : Nat} {zs : List Int} (h : DiceW t w p a c zs) : ∀ k, DiceK p a k → k < w.heap.size := fun k hk => by
  rcases hk with rfl | hk
  · exact heap_lt h.box
  · exact h.row.lt hk
theorem DiceW.keep {t : TypeId} {w w' : World} {p : Nat} {a : Option Addr} {c : Nat} {zs : List Int} (h : DiceW t w p a c zs) (hk : ∀ k, DiceK p a k → w'.heap[k]? = w.heap[k]?) : DiceW t w' p a c zs :=
  ⟨(hk p (Or.inl rfl)).trans h.box, h.row.keep fun b hb => hk b (Or.inr hb), h.words⟩
theorem DiceW.below {t : TypeId} {w w' : World} {p : Nat} {a : Option Addr} {c : Nat} {zs : List Int} (h : DiceW t w p a c zs) (hb : Below w.heap.size w w') : DiceW t w' p a c zs := h.keep fun k hk => hb.block k (h.lt k hk)
theorem DiceW.only {t : TypeId} {w w' : World} {p : Nat} {a : Option Addr} {c : Nat} {zs : List Int} {K : Nat → Prop} (h : DiceW t w p a c zs) (hb : Only K w w') (hn : ∀ k, DiceK p a k → ¬ K k) : DiceW t w' p a c zs := h.keep fun k hk => hb.block k (hn k hk) (h.lt k hk)
/-- the box does not lie in the list's block. -/
theorem DiceW.apart {t : TypeId} (ht : t ≠ 30) {w : World} {p : Nat} {a : Option Addr} {c : Nat} {zs : List Int} (h : DiceW t w p a c zs) : blk a ≠ some p := fun e => by
  obtain ⟨cur, hg⟩ := h.row.cells e
  rw [h.box] at hg
  simp only [Option.some.injEq, Obj.cells.injEq] at hg
  exact ht hg.2.1
end Go.Proofs.Ytgcpoanjjgbfjaa
