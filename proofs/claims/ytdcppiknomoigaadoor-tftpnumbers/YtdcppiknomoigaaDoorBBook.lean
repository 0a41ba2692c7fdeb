/-
  The statements' book of lists that came out: Take. For every seat.
-/
import Derived.Test.YtdcppiknomoigaaDoorBOwn
import Derived.Deep.RegionLaw
namespace Go.Proofs.YtdcppiknomoigaaDoor
open Go.RowKit
set_option linter.all false

theorem infoSl : (Tryd.prog.info? 24).map (fun i => (i.zero, i.size, i.bytes)) = some (some (.slice none 0 0), 1, 24) := by kernel_rfl
theorem infoStr : (Tryd.prog.info? 9).map (fun i => (i.zero, i.size, i.bytes)) = some (some (.string ⟨#[]⟩), 1, 16) := by kernel_rfl

/-- block k is one of the book's own. -/
def InBook (gk : Nat) (L V : Value) (k : Nat) : Prop := k = gk ∨ L.ownBlock = some k ∨ V.ownBlock = some k
/-- the book at gk holds the lists ls: each as a value and the bytes that it had; no two of them share a block, none lies in a block of the book's. -/
structure BookI (w : World) (B gk : Nat) (L V : Value) (ls : List (Value × List Int)) : Prop where
  box : w.heap[gk]? = some (.cells #[L, V] 38 (0, 0))
  lists : Row w 24 L (ls.map Prod.fst)
  was : Row w 9 V (ls.map fun p => .string (strOfNums p.2))
  low : ∀ k, InBook gk L V k → B ≤ k
  bL : L.ownBlock ≠ some gk
  bV : V.ownBlock ≠ some gk
  bLV : ∀ b, L.ownBlock = some b → V.ownBlock ≠ some b
  rows : ∀ p, p ∈ ls → Row w 5 p.1 (u8s p.2) ∧ (∀ z, z ∈ p.2 → 0 ≤ z ∧ z ≤ 255) ∧ p.2.length ≤ 140737488351232
  own : ∀ (j : Nat) p, ls[j]? = some p → ∀ b, p.1.ownBlock = some b → B ≤ b ∧ ¬ InBook gk L V b ∧ ∀ (j' : Nat) p', j' ≠ j → ls[j']? = some p' → p'.1.ownBlock ≠ some b
  few : ls.length ≤ 4398046511104

theorem Row.one {w : World} {e : TypeId} {v : Value} {vs : List Value} (h : Row w e v vs) : v.oneCell' = true := by
  rcases h with ⟨rfl, _⟩ | ⟨g, cap, cur, lo, hi, rfl, _⟩ <;> rfl
theorem slice_one (a : Option Addr) (l c : Nat) : (Value.slice a l c).oneCell' = true := rfl
theorem string_one (s : ByteArray) : (Value.string s).oneCell' = true := rfl
theorem BookI.new (w : World) (B : Nat) (hB : B ≤ w.heap.size) : BookI (w.alloc (.cells #[.slice none 0 0, .slice none 0 0] 38)) B w.heap.size (.slice none 0 0) (.slice none 0 0) [] :=
  ⟨heap_new _ _, Row.nil _ _, Row.nil _ _, fun k hk => by rcases hk with rfl | h | h <;> simp_all [Value.ownBlock], by simp [Value.ownBlock], by simp [Value.ownBlock], by simp [Value.ownBlock], by simp, by simp, by simp⟩
/-- what the book leaves alone is let alone. -/
theorem BookI.keep {w w' : World} {B gk : Nat} {L V : Value} {ls : List (Value × List Int)} (h : BookI w B gk L V ls) (hk : ∀ k, InBook gk L V k → w'.heap[k]? = w.heap[k]?) (hl : ∀ p, p ∈ ls → ∀ b, p.1.ownBlock = some b → w'.heap[b]? = w.heap[b]?) : BookI w' B gk L V ls :=
  ⟨(hk gk (Or.inl rfl)).trans h.box, h.lists.keep fun b hb => hk b (Or.inr (Or.inl hb)), h.was.keep fun b hb => hk b (Or.inr (Or.inr hb)), h.low, h.bL, h.bV, h.bLV, fun p hp => ⟨(h.rows p hp).1.keep fun b hb => hl p hp b hb, (h.rows p hp).2⟩, h.own, h.few⟩
theorem BookI.lt {w : World} {B gk : Nat} {L V : Value} {ls : List (Value × List Int)} (h : BookI w B gk L V ls) : ∀ k, InBook gk L V k → k < w.heap.size := fun k hk => by
  rcases hk with rfl | hk | hk
  · exact heap_lt h.box
  · exact h.lists.lt hk
  · exact h.was.lt hk
theorem BookI.below {w w' : World} {B gk : Nat} {L V : Value} {ls : List (Value × List Int)} (h : BookI w B gk L V ls) (hb : Below w.heap.size w w') : BookI w' B gk L V ls :=
  h.keep (fun k hk => hb.block k (h.lt k hk)) (fun p hp b hv => hb.block b ((h.rows p hp).1.lt hv))

/-- an append moves a slice to a block from N on, or leaves it in its own. -/
def Moved (N : Nat) (v v' : Value) : Prop := ∃ g n c, v' = .slice (some ⟨g, 0, none⟩) n c ∧ (v.ownBlock = some g ∨ N ≤ g)
theorem Moved.of {N : Nat} {w w' : World} {v v' : Value} {n : Nat} (h : (∃ g cap, v = .slice (some ⟨g, 0, none⟩) n cap ∧ v' = .slice (some ⟨g, 0, none⟩) (n + 1) cap) ∨ ∃ g cap, v' = .slice (some ⟨g, 0, none⟩) (n + 1) cap ∧ w.heap.size ≤ g ∧ w.grownBy w' none) (hN : N ≤ w.heap.size) : Moved N v v' := by
  rcases h with ⟨g, cap, rfl, rfl⟩ | ⟨g, cap, rfl, hg, _⟩
  · exact ⟨g, _, _, rfl, Or.inl rfl⟩
  · exact ⟨g, _, _, rfl, Or.inr (by omega)⟩
theorem Moved.own {N : Nat} {v v' : Value} (h : Moved N v v') {b : Nat} (hb : v'.ownBlock = some b) : v.ownBlock = some b ∨ N ≤ b := by
  obtain ⟨g, n, c, rfl, hg⟩ := h
  simp [Value.ownBlock] at hb
  subst hb
  exact hg
theorem BookI.step {w w4 : World} {B gk : Nat} {L V L' V' v : Value} {ls : List (Value × List Int)} {zs : List Int} (h : BookI w B gk L V ls) (hB : B ≤ w.heap.size) (hr : Row w 5 v (u8s zs)) (hz : ∀ z, z ∈ zs → 0 ≤ z ∧ z ≤ 255) (hl : zs.length ≤ 140737488351232) (hf : ls.length < 4398046511104)
    (ho : ∀ b, v.ownBlock = some b → B ≤ b ∧ ¬ InBook gk L V b ∧ ∀ p, p ∈ ls → p.1.ownBlock ≠ some b)
    (box : w4.heap[gk]? = some (.cells #[L', V'] 38 (0, 0))) (rL : Row w4 24 L' (ls.map Prod.fst ++ [v])) (rV : Row w4 9 V' ((ls.map fun p => .string (strOfNums p.2)) ++ [.string (strOfNums zs)]))
    (mL : Moved w.heap.size L L') (mV : Moved w.heap.size V V') (bLV : ∀ b, L'.ownBlock = some b → V'.ownBlock ≠ some b) (hk : ∀ k, k < w.heap.size → ¬ InBook gk L V k → w4.heap[k]? = w.heap[k]?) :
    BookI w4 B gk L' V' (ls ++ [(v, zs)]) ∧ (∀ k, InBook gk L' V' k → InBook gk L V k ∨ w.heap.size ≤ k) := by
  have hgk := heap_lt h.box
  have fresh : ∀ k, InBook gk L' V' k → InBook gk L V k ∨ w.heap.size ≤ k := fun k hk => by
    rcases hk with rfl | hk | hk
    · exact Or.inl (Or.inl rfl)
    · rcases mL.own hk with h1 | h1
      · exact Or.inl (Or.inr (Or.inl h1))
      · exact Or.inr h1
    · rcases mV.own hk with h1 | h1
      · exact Or.inl (Or.inr (Or.inr h1))
      · exact Or.inr h1
  have notIn : ∀ b, b < w.heap.size → ¬ InBook gk L V b → ¬ InBook gk L' V' b := fun b hb hn hi => by
    rcases fresh b hi with h1 | h1
    · exact hn h1
    · omega
  have rows' : ∀ p, p ∈ ls → Row w4 5 p.1 (u8s p.2) := fun p hp => (h.rows p hp).1.keep fun b hb => by
    obtain ⟨j, hj⟩ := List.getElem?_of_mem hp
    exact hk b ((h.rows p hp).1.lt hb) (h.own j p hj b hb).2.1
  refine ⟨⟨box, by simpa using rL, by simpa using rV, fun k hk => ?_, fun e => ?_, fun e => ?_, bLV, fun p hp => ?_, fun j p hj b hb => ?_, by simp; omega⟩, fresh⟩
  · rcases fresh k hk with h1 | h1
    · exact h.low k h1
    · omega
  · rcases mL.own e with h1 | h1
    · exact h.bL h1
    · omega
  · rcases mV.own e with h1 | h1
    · exact h.bV h1
    · omega
  · rcases List.mem_append.1 hp with hp | hp
    · exact ⟨rows' p hp, (h.rows p hp).2⟩
    · simp at hp
      subst hp
      exact ⟨hr.keep fun b hb => hk b (hr.lt hb) (ho b hb).2.1, hz, hl⟩
  · rcases Nat.lt_or_ge j ls.length with hj1 | hj1
    · rw [List.getElem?_append_left hj1] at hj
      obtain ⟨o1, o2, o3⟩ := h.own j p hj b hb
      have hbs : b < w.heap.size := (h.rows p (List.mem_of_getElem? hj)).1.lt hb
      refine ⟨o1, notIn b hbs o2, fun j' p' hne hj' => ?_⟩
      rcases Nat.lt_or_ge j' ls.length with hj2 | hj2
      · rw [List.getElem?_append_left hj2] at hj'
        exact o3 j' p' hne hj'
      · rw [List.getElem?_append_right hj2] at hj'
        have : p' = (v, zs) := by
          rcases Nat.eq_zero_or_pos (j' - ls.length) with h0 | h0
          · rw [h0] at hj'; simpa using hj'.symm
          · rw [List.getElem?_eq_none (by simp; omega)] at hj'; simp at hj'
        subst this
        exact fun e => (ho b e).2.2 p (List.mem_of_getElem? hj) hb
    · rw [List.getElem?_append_right hj1] at hj
      have : p = (v, zs) := by
        rcases Nat.eq_zero_or_pos (j - ls.length) with h0 | h0
        · rw [h0] at hj; simpa using hj.symm
        · rw [List.getElem?_eq_none (by simp; omega)] at hj; simp at hj
      subst this
      obtain ⟨o1, o2, o3⟩ := ho b hb
      have hjl : j = ls.length := by
        rcases Nat.eq_zero_or_pos (j - ls.length) with h0 | h0
        · omega
        · rw [List.getElem?_eq_none (by simp; omega)] at hj; simp at hj
      refine ⟨o1, notIn b (hr.lt hb) o2, fun j' p' hne hj' => ?_⟩
      have hj2 : j' < ls.length := by
        have := (List.getElem?_eq_some_iff.1 hj').1
        simp at this
        omega
      rw [List.getElem?_append_left hj2] at hj'
      exact o3 p' (List.mem_of_getElem? hj')

set_option maxRecDepth 20000 in
set_option maxHeartbeats 1000000 in
theorem take_any (gk : Nat) (L V v : Value) (ls : List (Value × List Int)) (zs : List Int) (B : Nat) (w : World) (h : BookI w B gk L V ls) (hB : B ≤ w.heap.size) (hr : Row w 5 v (u8s zs)) (hz : ∀ z, z ∈ zs → 0 ≤ z ∧ z ≤ 255) (hl : zs.length ≤ 140737488351232) (hf : ls.length < 4398046511104)
    (ho : ∀ b, v.ownBlock = some b → B ≤ b ∧ ¬ InBook gk L V b ∧ ∀ p, p ∈ ls → p.1.ownBlock ≠ some b) :
    Calls Tryd.prog 15 #[.pointer (some ⟨gk, 0, none⟩), v] w fun e w' => e = .returned (.tuple #[]) ∧ ∃ L' V', BookI w' B gk L' V' (ls ++ [(v, zs)]) ∧ (∀ k, k < w.heap.size → ¬ InBook gk L V k → w'.heap[k]? = w.heap[k]?) ∧ (∀ k, InBook gk L' V' k → InBook gk L V k ∨ w.heap.size ≤ k) ∧ Below B w w' := by
  obtain ⟨a, c, hv, _⟩ := hr.form
  obtain ⟨aL, cL, hLe, _⟩ := h.lists.form
  obtain ⟨aV, cV, hVe, _⟩ := h.was.form
  obtain ⟨pt, hpv, hpz, hpo⟩ := hr.part hz
  rw [u8s_len] at hv
  have hgk := heap_lt h.box
  -- the lists
  have r0 : Row (w.alloc (.cells #[v] 24)) 24 L (ls.map Prod.fst) := h.lists.below ((Below.refl _ _).alloc (Nat.le_refl _) _)
  obtain ⟨L', w1, hap0, rL, hgr0, hL'⟩ := append_one 35 35 24 _ 24 Tryd.underlying35 infoSl rfl r0 v hr.one w.heap.size _ (heap_new _ _) (by simp; unfold maxLen; omega) (by simp; omega)
  have m0 : Moved w.heap.size L L' := Moved.of hL' (by simp)
  obtain ⟨gL, nL, cL', hL'e, xx0⟩ := id m0
  have sz0 : w.heap.size + 1 ≤ w1.heap.size := by have := hgr0.size; simpa using this
  have box1 : w1.heap[gk]? = some (.cells #[L, V] 38 (0, 0)) := (hgr0.block gk (by simp; omega) (fun e => h.bL e.symm)).trans ((heap_old _ _ hgk).trans h.box)
  have rV1 : Row w1 9 V (ls.map fun p => .string (strOfNums p.2)) := (h.was.below ((Below.refl _ _).alloc (Nat.le_refl _) _)).grown hgr0 (fun b hb e => h.bLV b e hb)
  have keep1 : ∀ k, k < w.heap.size → L.ownBlock ≠ some k → w1.heap[k]? = w.heap[k]? := fun k hk hn => (hgr0.block k (by simp; omega) (fun e => hn e.symm)).trans (heap_old _ _ hk)
  have nL' : L'.ownBlock ≠ some gk := fun e => by rcases m0.own e with h1 | h1; · exact h.bL h1
                                                  · omega
  -- the box behind the first store
  have hw2 : ∃ w2, w2 = w1.setCell ⟨gk, 0, none⟩ L' := ⟨_, rfl⟩
  obtain ⟨w2, hw2⟩ := hw2
  have box2 : w2.heap[gk]? = some (.cells #[L', V] 38 (0, 0)) := by rw [hw2]; exact heap_setCell box1
  have hg2 : w1.grownBy w2 (some gk) := by rw [hw2]; exact grown_setCell w1 gk 0 L'
  have rL2 := rL.grown hg2 (fun b hb e => by simp only [Option.some.injEq] at e; subst e; exact nL' hb)
  have rV2 := rV1.grown hg2 (fun b hb e => by simp only [Option.some.injEq] at e; subst e; exact h.bV hb)
  -- what was
  have r1 : Row (w2.alloc (.cells #[.string (strOfNums zs)] 9)).drew 9 V (ls.map fun p => .string (strOfNums p.2)) := rV2.below (((Below.refl _ w2).alloc (Nat.le_refl _) _).drew)
  obtain ⟨V', w3, hap1, rV3, hgr1, hV'⟩ := append_one 36 36 9 _ 16 Tryd.underlying36 infoStr rfl r1 (.string (strOfNums zs)) rfl w2.heap.size _ (heap_new w2 _) (by simp; unfold maxLen; omega) (by simp; omega)
  have sz2 : w2.heap.size = w1.heap.size := by rw [hw2]; simp [World.setCell]
  have m1 : Moved w2.heap.size V V' := Moved.of hV' (by simp)
  obtain ⟨gV, nV, cV', hV'e, xx1⟩ := id m1
  have mV : Moved w.heap.size V V' := by
    obtain ⟨g, n, c', e1, e2⟩ := m1
    exact ⟨g, n, c', e1, e2.imp id (fun e => by omega)⟩
  have lt2 : gk < w2.heap.size := heap_lt box2
  have sz3 : w2.heap.size + 1 ≤ w3.heap.size := by have := hgr1.size; simpa using this
  have box3 : w3.heap[gk]? = some (.cells #[L', V] 38 (0, 0)) := (hgr1.block gk (by simp; omega) (fun e => h.bV e.symm)).trans ((heap_old w2 _ lt2).trans box2)
  have hLV : ∀ b, L'.ownBlock = some b → V.ownBlock ≠ some b := fun b hb e => by
    rcases m0.own hb with h1 | h1
    · exact h.bLV b h1 e
    · have := h.was.lt e; omega
  have rL3 : Row w3 24 L' (ls.map Prod.fst ++ [v]) := (rL2.below (((Below.refl _ w2).alloc (Nat.le_refl _) _).drew)).grown hgr1 (fun b hb e => hLV b hb e)
  have nV' : V'.ownBlock ≠ some gk := fun e => by rcases m1.own e with h1 | h1; · exact h.bV h1
                                                  · omega
  have bLV : ∀ b, L'.ownBlock = some b → V'.ownBlock ≠ some b := fun b hb e => by
    rcases m1.own e with h1 | h1
    · exact hLV b hb h1
    · have := rL2.lt hb; omega
  have hg4 : w3.grownBy (w3.setCell ⟨gk, 1, none⟩ V') (some gk) := grown_setCell w3 gk 1 V'
  have keep4 : ∀ k, k < w.heap.size → ¬ InBook gk L V k → (w3.setCell ⟨gk, 1, none⟩ V').heap[k]? = w.heap[k]? := fun k hk hn => by
    rw [hg4.block k (by omega) (fun e => hn (Or.inl (by simpa using e))), hgr1.block k (by simp; omega) (fun e => hn (Or.inr (Or.inr e.symm))), show (w2.alloc _).drew.heap[k]? = w2.heap[k]? from heap_old w2 _ (by omega), hg2.block k (by omega) (fun e => hn (Or.inl (by simpa using e))), keep1 k hk (fun e => hn (Or.inr (Or.inl e)))]
  have fin := h.step (w4 := w3.setCell ⟨gk, 1, none⟩ V') hB hr hz hl hf ho (heap_setCell box3) (rL3.grown hg4 (fun b hb e => by simp only [Option.some.injEq] at e; subst e; exact nL' hb)) (rV3.grown hg4 (fun b hb e => by simp only [Option.some.injEq] at e; subst e; exact nV' hb)) m0 mV bLV keep4
  have hbel : Below B w (w3.setCell ⟨gk, 1, none⟩ V') := ⟨hg4.os.trans (hgr1.os.trans (hg2.os.trans hgr0.os)), hg4.tape.trans (hgr1.tape.trans (hg2.tape.trans hgr0.tape)), hg4.output.trans (hgr1.output.trans (hg2.output.trans hgr0.output)), by have := hg4.size; omega, fun k hk => keep4 k (by omega) (fun hi => by have := h.low k hi; omega)⟩
  have HFIN : Hid (∃ L' V', BookI (w3.setCell ⟨gk, 1, none⟩ (.slice (some ⟨gV, 0, none⟩) nV cV')) B gk L' V' (ls ++ [(v, zs)]) ∧ (∀ k, k < w.heap.size → ¬ InBook gk L V k → (w3.setCell ⟨gk, 1, none⟩ (.slice (some ⟨gV, 0, none⟩) nV cV')).heap[k]? = w.heap[k]?) ∧ (∀ k, InBook gk L' V' k → InBook gk L V k ∨ w.heap.size ≤ k) ∧ Below B w (w3.setCell ⟨gk, 1, none⟩ (.slice (some ⟨gV, 0, none⟩) nV cV'))) := by
    rw [← hV'e]
    exact ⟨L', V', fin.1, keep4, fin.2, hbel⟩
  have HC0 : Hid (∀ q, w.cell? ⟨gk, q, none⟩ = (#[L, V] : Array Value)[q]?) := fun q => cell_of_heap h.box q
  have HC1 : Hid (∀ q, w1.cell? ⟨gk, q, none⟩ = (#[L, V] : Array Value)[q]?) := fun q => cell_of_heap box1 q
  have HZ1 : Hid (∀ q, w1.frozen? ⟨gk, q, none⟩ = false) := fun q => frozen_of_heap box1 q
  have HC2 : Hid (∀ q, w2.cell? ⟨gk, q, none⟩ = (#[L', V] : Array Value)[q]?) := fun q => cell_of_heap box2 q
  have HC3 : Hid (∀ q, w3.cell? ⟨gk, q, none⟩ = (#[L', V] : Array Value)[q]?) := fun q => cell_of_heap box3 q
  have HZ3 : Hid (∀ q, w3.frozen? ⟨gk, q, none⟩ = false) := fun q => frozen_of_heap box3 q
  have HCV : Hid ((convert 24 9 v).run Tryd.prog w2.drew = .ok (.string (strOfNums zs)) w2.drew) := by
    rw [hpv, ← hpz]
    refine conv_part pt _ ⟨hpo.1, hpo.2.1, ?_⟩
    rcases hpo.2.2 with he | ⟨b, o, hpa, hc⟩
    · exact Or.inl he
    · refine Or.inr ⟨b, o, hpa, fun j hj => ?_⟩
      have hlt := World.block_lt_of_cell? w _ (hc j hj)
      have hvb : v.ownBlock = some b := by rw [hpv]; simp [Part.val, hpa, Value.ownBlock]
      show w2.cell? _ = _
      have hn := (ho b hvb).2.1
      rw [World.cell?_of_block (w := w) (a := ⟨b, o + j, none⟩) (by rw [hg2.block b (by simp only at hlt; omega) (fun e => hn (Or.inl (by simpa using e))), keep1 b hlt (fun e => hn (Or.inr (Or.inl e)))]), hc j hj]
  have HAP0 := hid hap0
  have HAP1 := hid hap1
  have HW2 := hid hw2
  clear sz2 sz3 sz0 xx0 xx1 hap0 hap1 hw2 hV' hL' rL rV3 rL3 rL2 rV2 rV1 r0 r1 fin keep4 keep1 bLV hLV hg4 hgr0 hgr1 hg2 box1 box2 box3 hbel m0 m1 mV nL' nV' hpo hpv hpz h hr ho
  subst hv hLe hVe hL'e hV'e
  simp only [List.length_map] at *
  have hc0 := HC0.out
  have hc1 := HC1.out
  have hz1 := HZ1.out
  go_enter Tryd.func15, Tryd.ntmps15
  go_wp2_with (first | (at_builtin; refine wpList_append_run _ rfl (.tmp 8) (.tmp 10) 35 35 rfl _ _ rfl rfl HAP0.out ?_))
  rw [← HW2.out]
  clear hc0 hc1 hz1
  have hc2 := HC2.out
  have hcv := HCV.out
  have hc3 := HC3.out
  have hz3 := HZ3.out
  go_region_law (refine step_append_run rfl (.tmp 18) (.tmp 21) 36 36 rfl _ _ rfl rfl HAP1.out ?_)
  all_goals go_wp2
  all_goals exact bodyPost_end (v := .tuple #[]) (by simp [results, Tryd.results15, go_sem]) rfl ⟨rfl, HFIN.out⟩
end Go.Proofs.YtdcppiknomoigaaDoor
