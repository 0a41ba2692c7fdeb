import Derived.Test.YtdcppiknomoigaaDoorBOwn
import Derived.Deep.RegionLaw
import Derived.Deep.DeepCutAuto
import Derived.Test.YtdcppiknomoigaaDoorBOwnP
/-
  The statements' book of lists that came out: Take. For every seat.
-/
namespace Go.Proofs.YtdcppiknomoigaaDoor
open Go.RowKit
set_option linter.all false

theorem infoSl : (Tryd.prog.info? 24).map (fun i => (i.zero, i.size, i.bytes)) = some (some (.slice none 0 0), 1, 24) := by kernel_rfl
theorem infoStr : (Tryd.prog.info? 9).map (fun i => (i.zero, i.size, i.bytes)) = some (some (.string ⟨#[]⟩), 1, 16) := by kernel_rfl

/-- block k is one of the book's own. -/
def InBook (gk : Nat) (L V : Value) (k : Nat) : Prop := k = gk ∨ L.ownBlock = some k ∨ V.ownBlock = some k
/-- the book at gk holds the lists ls: each as a value and the bytes that it had; no two of them share a block, none lies in a block of the book's. -/
structure BookI (w : World) (B gk : Nat) (L V : Value) (ls : List (Value × List Int)) : Prop where
  box : w.heap[gk]? = some (.cells #[L, V] 38 (0, 0))
  lists : Row w 24 L (ls.map Prod.fst)
  was : Row w 9 V (ls.map fun p => .string (strOfNums p.2))
  low : ∀ k, InBook gk L V k → B ≤ k
  bL : L.ownBlock ≠ some gk
  bV : V.ownBlock ≠ some gk
  bLV : ∀ b, L.ownBlock = some b → V.ownBlock ≠ some b
  rows : ∀ p, p ∈ ls → Row w 5 p.1 (u8s p.2) ∧ (∀ z, z ∈ p.2 → 0 ≤ z ∧ z ≤ 255) ∧ p.2.length ≤ 140737488351232
  own : ∀ (j : Nat) p, ls[j]? = some p → ∀ b, p.1.ownBlock = some b → B ≤ b ∧ ¬ InBook gk L V b ∧ ∀ (j' : Nat) p', j' ≠ j → ls[j']? = some p' → p'.1.ownBlock ≠ some b
  few : ls.length ≤ 4398046511104

theorem Row.one {w : World} {e : TypeId} {v : Value} {vs : List Value} (h : Row w e v vs) : v.oneCell' = true := by
  rcases h with ⟨rfl, _⟩ | ⟨g, cap, cur, lo, hi, rfl, _⟩ <;> rfl
theorem slice_one (a : Option Addr) (l c : Nat) : (Value.slice a l c).oneCell' = true := rfl
theorem string_one (s : ByteArray) : (Value.string s).oneCell' = true := rfl
theorem BookI.new (w : World) (B : Nat) (hB : B ≤ w.heap.size) : BookI (w.alloc (.cells #[.slice none 0 0, .slice none 0 0] 38)) B w.heap.size (.slice none 0 0) (.slice none 0 0) [] :=
  ⟨heap_new _ _, Row.nil _ _, Row.nil _ _, fun k hk => by rcases hk with rfl | h | h <;> simp_all [Value.ownBlock], by simp [Value.ownBlock], by simp [Value.ownBlock], by simp [Value.ownBlock], by simp, by simp, by simp⟩
/-- what the book leaves alone is let alone. -/
theorem BookI.keep {w w' : World} {B gk : Nat} {L V : Value} {ls : List (Value × List Int)} (h : BookI w B gk L V ls) (hk : ∀ k, InBook gk L V k → w'.heap[k]? = w.heap[k]?) (hl : ∀ p, p ∈ ls → ∀ b, p.1.ownBlock = some b → w'.heap[b]? = w.heap[b]?) : BookI w' B gk L V ls :=
  ⟨(hk gk (Or.inl rfl)).trans h.box, h.lists.keep fun b hb => hk b (Or.inr (Or.inl hb)), h.was.keep fun b hb => hk b (Or.inr (Or.inr hb)), h.low, h.bL, h.bV, h.bLV, fun p hp => ⟨(h.rows p hp).1.keep fun b hb => hl p hp b hb, (h.rows p hp).2⟩, h.own, h.few⟩
theorem BookI.lt {w : World} {B gk : Nat} {L V : Value} {ls : List (Value × List Int)} (h : BookI w B gk L V ls) : ∀ k, InBook gk L V k → k < w.heap.size := fun k hk => by
  rcases hk with rfl | hk | hk
  · exact heap_lt h.box
  · exact h.lists.lt hk
  · exact h.was.lt hk
theorem BookI.below {w w' : World} {B gk : Nat} {L V : Value} {ls : List (Value × List Int)} (h : BookI w B gk L V ls) (hb : Below w.heap.size w w') : BookI w' B gk L V ls :=
  h.keep (fun k hk => hb.block k (h.lt k hk)) (fun p hp b hv => hb.block b ((h.rows p hp).1.lt hv))

/-- an append moves a slice to a block from N on, or leaves it in its own. -/
def Moved (N : Nat) (v v' : Value) : Prop := ∃ g n c, v' = .slice (some ⟨g, 0, none⟩) n c ∧ (v.ownBlock = some g ∨ N ≤ g)
theorem Moved.of {N : Nat} {w w' : World} {v v' : Value} {n : Nat} (h : (∃ g cap, v = .slice (some ⟨g, 0, none⟩) n cap ∧ v' = .slice (some ⟨g, 0, none⟩) (n + 1) cap) ∨ ∃ g cap, v' = .slice (some ⟨g, 0, none⟩) (n + 1) cap ∧ w.heap.size ≤ g ∧ w.grownBy w' none) (hN : N ≤ w.heap.size) : Moved N v v' := by
  rcases h with ⟨g, cap, rfl, rfl⟩ | ⟨g, cap, rfl, hg, _⟩
  · exact ⟨g, _, _, rfl, Or.inl rfl⟩
  · exact ⟨g, _, _, rfl, Or.inr (by omega)⟩
theorem Moved.own {N : Nat} {v v' : Value} (h : Moved N v v') {b : Nat} (hb : v'.ownBlock = some b) : v.ownBlock = some b ∨ N ≤ b := by
  obtain ⟨g, n, c, rfl, hg⟩ := h
  simp [Value.ownBlock] at hb
  subst hb
  exact hg
theorem BookI.step {w w4 : World} {B gk : Nat} {L V L' V' v : Value} {ls : List (Value × List Int)} {zs : List Int} (h : BookI w B gk L V ls) (hB : B ≤ w.heap.size) (hr : Row w 5 v (u8s zs)) (hz : ∀ z, z ∈ zs → 0 ≤ z ∧ z ≤ 255) (hl : zs.length ≤ 140737488351232) (hf : ls.length < 4398046511104)
    (ho : ∀ b, v.ownBlock = some b → B ≤ b ∧ ¬ InBook gk L V b ∧ ∀ p, p ∈ ls → p.1.ownBlock ≠ some b)
    (box : w4.heap[gk]? = some (.cells #[L', V'] 38 (0, 0))) (rL : Row w4 24 L' (ls.map Prod.fst ++ [v])) (rV : Row w4 9 V' ((ls.map fun p => .string (strOfNums p.2)) ++ [.string (strOfNums zs)]))
    (mL : Moved w.heap.size L L') (mV : Moved w.heap.size V V') (bLV : ∀ b, L'.ownBlock = some b → V'.ownBlock ≠ some b) (hk : ∀ k, k < w.heap.size → ¬ InBook gk L V k → w4.heap[k]? = w.heap[k]?) :
    BookI w4 B gk L' V' (ls ++ [(v, zs)]) ∧ (∀ k, InBook gk L' V' k → InBook gk L V k ∨ w.heap.size ≤ k) := by
  have hgk := heap_lt h.box
  have fresh : ∀ k, InBook gk L' V' k → InBook gk L V k ∨ w.heap.size ≤ k := fun k hk => by
    rcases hk with rfl | hk | hk
    · exact Or.inl (Or.inl rfl)
    · rcases mL.own hk with h1 | h1
      · exact Or.inl (Or.inr (Or.inl h1))
      · exact Or.inr h1
    · rcases mV.own hk with h1 | h1
      · exact Or.inl (Or.inr (Or.inr h1))
      · exact Or.inr h1
  have notIn : ∀ b, b < w.heap.size → ¬ InBook gk L V b → ¬ InBook gk L' V' b := fun b hb hn hi => by
    rcases fresh b hi with h1 | h1
    · exact hn h1
    · omega
  have rows' : ∀ p, p ∈ ls → Row w4 5 p.1 (u8s p.2) := fun p hp => (h.rows p hp).1.keep fun b hb => by
    obtain ⟨j, hj⟩ := List.getElem?_of_mem hp
    exact hk b ((h.rows p hp).1.lt hb) (h.own j p hj b hb).2.1
  refine ⟨⟨box, by simpa using rL, by simpa using rV, fun k hk => ?_, fun e => ?_, fun e => ?_, bLV, fun p hp => ?_, fun j p hj b hb => ?_, by simp; omega⟩, fresh⟩
  · rcases fresh k hk with h1 | h1
    · exact h.low k h1
    · omega
  · rcases mL.own e with h1 | h1
    · exact h.bL h1
    · omega
  · rcases mV.own e with h1 | h1
    · exact h.bV h1
    · omega
  · rcases List.mem_append.1 hp with hp | hp
    · exact ⟨rows' p hp, (h.rows p hp).2⟩
    · simp at hp
      subst hp
      exact ⟨hr.keep fun b hb => hk b (hr.lt hb) (ho b hb).2.1, hz, hl⟩
  · rcases Nat.lt_or_ge j ls.length with hj1 | hj1
    · rw [List.getElem?_append_left hj1] at hj
      obtain ⟨o1, o2, o3⟩ := h.own j p hj b hb
      have hbs : b < w.heap.size := (h.rows p (List.mem_of_getElem? hj)).1.lt hb
      refine ⟨o1, notIn b hbs o2, fun j' p' hne hj' => ?_⟩
      rcases Nat.lt_or_ge j' ls.length with hj2 | hj2
      · rw [List.getElem?_append_left hj2] at hj'
        exact o3 j' p' hne hj'
      · rw [List.getElem?_append_right hj2] at hj'
        have : p' = (v, zs) := by
          rcases Nat.eq_zero_or_pos (j' - ls.length) with h0 | h0
          · rw [h0] at hj'; simpa using hj'.symm
          · rw [List.getElem?_eq_none (by simp; omega)] at hj'; simp at hj'
        subst this
        exact fun e => (ho b e).2.2 p (List.mem_of_getElem? hj) hb
    · rw [List.getElem?_append_right hj1] at hj
      have : p = (v, zs) := by
        rcases Nat.eq_zero_or_pos (j - ls.length) with h0 | h0
        · rw [h0] at hj; simpa using hj.symm
        · rw [List.getElem?_eq_none (by simp; omega)] at hj; simp at hj
      subst this
      obtain ⟨o1, o2, o3⟩ := ho b hb
      have hjl : j = ls.length := by
        rcases Nat.eq_zero_or_pos (j - ls.length) with h0 | h0
        · omega
        · rw [List.getElem?_eq_none (by simp; omega)] at hj; simp at hj
      refine ⟨o1, notIn b (hr.lt hb) o2, fun j' p' hne hj' => ?_⟩
      have hj2 : j' < ls.length := by
        have := (List.getElem?_eq_some_iff.1 hj').1
        simp at this
        omega
      rw [List.getElem?_append_left hj2] at hj'
      exact o3 p' (List.mem_of_getElem? hj')

set_option maxRecDepth 20000 in
set_option maxHeartbeats 1000000 in
theorem take_any (gk : Nat) (L V v : Value) (ls : List (Value × List Int)) (zs : List Int) (B : Nat) (w : World) (h : BookI w B gk L V ls) (hB : B ≤ w.heap.size) (hr : Row w 5 v (u8s zs)) (hz : ∀ z, z ∈ zs → 0 ≤ z ∧ z ≤ 255) (hl : zs.length ≤ 140737488351232) (hf : ls.length < 4398046511104)
    (ho : ∀ b, v.ownBlock = some b → B ≤ b ∧ ¬ InBook gk L V b ∧ ∀ p, p ∈ ls → p.1.ownBlock ≠ some b) :
    Calls Tryd.prog 15 #[.pointer (some ⟨gk, 0, none⟩), v] w fun e w' => e = .returned (.tuple #[]) ∧ ∃ L' V', BookI w' B gk L' V' (ls ++ [(v, zs)]) ∧ (∀ k, k < w.heap.size → ¬ InBook gk L V k → w'.heap[k]? = w.heap[k]?) ∧ (∀ k, InBook gk L' V' k → InBook gk L V k ∨ w.heap.size ≤ k) ∧ Below B w w' := by
  obtain ⟨a, c, hv, _⟩ := hr.form
  obtain ⟨aL, cL, hLe, _⟩ := h.lists.form
  obtain ⟨aV, cV, hVe, _⟩ := h.was.form
  obtain ⟨pt, hpv, hpz, hpo⟩ := hr.part hz
  rw [u8s_len] at hv
  have hgk := heap_lt h.box
  -- the lists
  have r0 : Row (w.alloc (.cells #[v] 24)) 24 L (ls.map Prod.fst) := h.lists.below ((Below.refl _ _).alloc (Nat.le_refl _) _)
  obtain ⟨L', w1, hap0, rL, hgr0, hL'⟩ := append_one 35 35 24 _ 24 Tryd.underlying35 infoSl rfl r0 v hr.one w.heap.size _ (heap_new _ _) (by simp; unfold maxLen; omega) (by simp; omega)
  have m0 : Moved w.heap.size L L' := Moved.of hL' (by simp)
  obtain ⟨gL, nL, cL', hL'e, xx0⟩ := id m0
  have sz0 : w.heap.size + 1 ≤ w1.heap.size := by have := hgr0.size; simpa using this
  have box1 : w1.heap[gk]? = some (.cells #[L, V] 38 (0, 0)) := (hgr0.block gk (by simp; omega) (fun e => h.bL e.symm)).trans ((heap_old _ _ hgk).trans h.box)
  have rV1 : Row w1 9 V (ls.map fun p => .string (strOfNums p.2)) := (h.was.below ((Below.refl _ _).alloc (Nat.le_refl _) _)).grown hgr0 (fun b hb e => h.bLV b e hb)
  have keep1 : ∀ k, k < w.heap.size → L.ownBlock ≠ some k → w1.heap[k]? = w.heap[k]? := fun k hk hn => (hgr0.block k (by simp; omega) (fun e => hn e.symm)).trans (heap_old _ _ hk)
  have nL' : L'.ownBlock ≠ some gk := fun e => by rcases m0.own e with h1 | h1; · exact h.bL h1
                                                  · omega
  -- the box behind the first store
  have hw2 : ∃ w2, w2 = w1.setCell ⟨gk, 0, none⟩ L' := ⟨_, rfl⟩
  obtain ⟨w2, hw2⟩ := hw2
  have box2 : w2.heap[gk]? = some (.cells #[L', V] 38 (0, 0)) := by rw [hw2]; exact heap_setCell box1
  have hg2 : w1.grownBy w2 (some gk) := by rw [hw2]; exact grown_setCell w1 gk 0 L'
  have rL2 := rL.grown hg2 (fun b hb e => by simp only [Option.some.injEq] at e; subst e; exact nL' hb)
  have rV2 := rV1.grown hg2 (fun b hb e => by simp only [Option.some.injEq] at e; subst e; exact h.bV hb)
  -- what was
  have r1 : Row (w2.alloc (.cells #[.string (strOfNums zs)] 9)).drew 9 V (ls.map fun p => .string (strOfNums p.2)) := rV2.below (((Below.refl _ w2).alloc (Nat.le_refl _) _).drew)
  obtain ⟨V', w3, hap1, rV3, hgr1, hV'⟩ := append_one 36 36 9 _ 16 Tryd.underlying36 infoStr rfl r1 (.string (strOfNums zs)) rfl w2.heap.size _ (heap_new w2 _) (by simp; unfold maxLen; omega) (by simp; omega)
  have sz2 : w2.heap.size = w1.heap.size := by rw [hw2]; simp [World.setCell]
  have m1 : Moved w2.heap.size V V' := Moved.of hV' (by simp)
  obtain ⟨gV, nV, cV', hV'e, xx1⟩ := id m1
  have mV : Moved w.heap.size V V' := by
    obtain ⟨g, n, c', e1, e2⟩ := m1
    exact ⟨g, n, c', e1, e2.imp id (fun e => by omega)⟩
  have lt2 : gk < w2.heap.size := heap_lt box2
  have sz3 : w2.heap.size + 1 ≤ w3.heap.size := by have := hgr1.size; simpa using this
  have box3 : w3.heap[gk]? = some (.cells #[L', V] 38 (0, 0)) := (hgr1.block gk (by simp; omega) (fun e => h.bV e.symm)).trans ((heap_old w2 _ lt2).trans box2)
  have hLV : ∀ b, L'.ownBlock = some b → V.ownBlock ≠ some b := fun b hb e => by
    rcases m0.own hb with h1 | h1
    · exact h.bLV b h1 e
    · have := h.was.lt e; omega
  have rL3 : Row w3 24 L' (ls.map Prod.fst ++ [v]) := (rL2.below (((Below.refl _ w2).alloc (Nat.le_refl _) _).drew)).grown hgr1 (fun b hb e => hLV b hb e)
  have nV' : V'.ownBlock ≠ some gk := fun e => by rcases m1.own e with h1 | h1; · exact h.bV h1
                                                  · omega
  have bLV : ∀ b, L'.ownBlock = some b → V'.ownBlock ≠ some b := fun b hb e => by
    rcases m1.own e with h1 | h1
    · exact hLV b hb h1
    · have := rL2.lt hb; omega
  have hg4 : w3.grownBy (w3.setCell ⟨gk, 1, none⟩ V') (some gk) := grown_setCell w3 gk 1 V'
  have keep4 : ∀ k, k < w.heap.size → ¬ InBook gk L V k → (w3.setCell ⟨gk, 1, none⟩ V').heap[k]? = w.heap[k]? := fun k hk hn => by
    rw [hg4.block k (by omega) (fun e => hn (Or.inl (by simpa using e))), hgr1.block k (by simp; omega) (fun e => hn (Or.inr (Or.inr e.symm))), show (w2.alloc _).drew.heap[k]? = w2.heap[k]? from heap_old w2 _ (by omega), hg2.block k (by omega) (fun e => hn (Or.inl (by simpa using e))), keep1 k hk (fun e => hn (Or.inr (Or.inl e)))]
  have fin := h.step (w4 := w3.setCell ⟨gk, 1, none⟩ V') hB hr hz hl hf ho (heap_setCell box3) (rL3.grown hg4 (fun b hb e => by simp only [Option.some.injEq] at e; subst e; exact nL' hb)) (rV3.grown hg4 (fun b hb e => by simp only [Option.some.injEq] at e; subst e; exact nV' hb)) m0 mV bLV keep4
  have hbel : Below B w (w3.setCell ⟨gk, 1, none⟩ V') := ⟨hg4.os.trans (hgr1.os.trans (hg2.os.trans hgr0.os)), hg4.tape.trans (hgr1.tape.trans (hg2.tape.trans hgr0.tape)), hg4.output.trans (hgr1.output.trans (hg2.output.trans hgr0.output)), by have := hg4.size; omega, fun k hk => keep4 k (by omega) (fun hi => by have := h.low k hi; omega)⟩
  have HFIN : Hid (∃ L' V', BookI (w3.setCell ⟨gk, 1, none⟩ (.slice (some ⟨gV, 0, none⟩) nV cV')) B gk L' V' (ls ++ [(v, zs)]) ∧ (∀ k, k < w.heap.size → ¬ InBook gk L V k → (w3.setCell ⟨gk, 1, none⟩ (.slice (some ⟨gV, 0, none⟩) nV cV')).heap[k]? = w.heap[k]?) ∧ (∀ k, InBook gk L' V' k → InBook gk L V k ∨ w.heap.size ≤ k) ∧ Below B w (w3.setCell ⟨gk, 1, none⟩ (.slice (some ⟨gV, 0, none⟩) nV cV'))) := by
    rw [← hV'e]
    exact ⟨L', V', fin.1, keep4, fin.2, hbel⟩
  have HC0 : Hid (∀ q, w.cell? ⟨gk, q, none⟩ = (#[L, V] : Array Value)[q]?) := fun q => cell_of_heap h.box q
  have HC1 : Hid (∀ q, w1.cell? ⟨gk, q, none⟩ = (#[L, V] : Array Value)[q]?) := fun q => cell_of_heap box1 q
  have HZ1 : Hid (∀ q, w1.frozen? ⟨gk, q, none⟩ = false) := fun q => frozen_of_heap box1 q
  have HC2 : Hid (∀ q, w2.cell? ⟨gk, q, none⟩ = (#[L', V] : Array Value)[q]?) := fun q => cell_of_heap box2 q
  have HC3 : Hid (∀ q, w3.cell? ⟨gk, q, none⟩ = (#[L', V] : Array Value)[q]?) := fun q => cell_of_heap box3 q
  have HZ3 : Hid (∀ q, w3.frozen? ⟨gk, q, none⟩ = false) := fun q => frozen_of_heap box3 q
  have HCV : Hid ((convert 24 9 v).run Tryd.prog w2.drew = .ok (.string (strOfNums zs)) w2.drew) := by
    rw [hpv, ← hpz]
    refine conv_part pt _ ⟨hpo.1, hpo.2.1, ?_⟩
    rcases hpo.2.2 with he | ⟨b, o, hpa, hc⟩
    · exact Or.inl he
    · refine Or.inr ⟨b, o, hpa, fun j hj => ?_⟩
      have hlt := World.block_lt_of_cell? w _ (hc j hj)
      have hvb : v.ownBlock = some b := by rw [hpv]; simp [Part.val, hpa, Value.ownBlock]
      show w2.cell? _ = _
      have hn := (ho b hvb).2.1
      rw [World.cell?_of_block (w := w) (a := ⟨b, o + j, none⟩) (by rw [hg2.block b (by simp only at hlt; omega) (fun e => hn (Or.inl (by simpa using e))), keep1 b hlt (fun e => hn (Or.inr (Or.inl e)))]), hc j hj]
  have HAP0 := hid hap0
  have HAP1 := hid hap1
  have HW2 := hid hw2
  clear sz2 sz3 sz0 xx0 xx1 hap0 hap1 hw2 hV' hL' rL rV3 rL3 rL2 rV2 rV1 r0 r1 fin keep4 keep1 bLV hLV hg4 hgr0 hgr1 hg2 box1 box2 box3 hbel m0 m1 mV nL' nV' hpo hpv hpz h hr ho
  subst hv hLe hVe hL'e hV'e
  simp only [List.length_map] at *
  have hc0 := HC0.out
  have hc1 := HC1.out
  have hz1 := HZ1.out
  go_enter Tryd.func15, Tryd.ntmps15
  go_wp2_with (first | (at_builtin; refine wpList_append_run _ rfl (.tmp 8) (.tmp 10) 35 35 rfl _ _ rfl rfl HAP0.out ?_))
  rw [← HW2.out]
  clear hc0 hc1 hz1
  have hc2 := HC2.out
  have hcv := HCV.out
  have hc3 := HC3.out
  have hz3 := HZ3.out
  go_region_law (refine step_append_run rfl (.tmp 18) (.tmp 21) 36 36 rfl _ _ rfl rfl HAP1.out ?_)
  all_goals go_wp2
  all_goals exact bodyPost_end (v := .tuple #[]) (by simp [results, Tryd.results15, go_sem]) rfl ⟨rfl, HFIN.out⟩
end Go.Proofs.YtdcppiknomoigaaDoor

/-
  The statements' book: what Owned keeps, round by round. For every seat.
-/
namespace Go.Proofs.YtdcppiknomoigaaDoor
open Go.RowKit
set_option linter.all false

def markV (i n : Nat) : Int := ((i : Int) * 7 + (n : Int) * 13 + (i : Int) / 256 + 1) % 256
def marks (i n : Nat) : List Int := (List.range n).map (markV i)
theorem marks_len (i n : Nat) : (marks i n).length = n := by simp [marks]
theorem marks_succ (i n : Nat) : marks i (n + 1) = marks i n ++ [markV i n] := by simp [marks, List.range_succ]
theorem marks_at (i n j : Nat) (h : j < n) : (marks i n)[j]? = some (markV i j) := by simp [marks, h]
theorem marks_take (i n m : Nat) (h : m ≤ n) : (marks i n).take m = marks i m := by
  apply List.ext_getElem?
  intro j
  rw [List.getElem?_take]
  by_cases hj : j < m
  · rw [if_pos hj, marks_at i n j (by omega), marks_at i m j hj]
  · rw [if_neg hj, List.getElem?_eq_none (by rw [marks_len]; omega)]
theorem set_drop (a zs : List Int) (x : Int) (m : Nat) (hm : m = a.length) (h : m < zs.length) : (a ++ zs.drop m).set m x = (a ++ [x]) ++ zs.drop (m + 1) := by
  subst hm
  rw [List.set_append_right _ _ (Nat.le_refl _), Nat.sub_self, List.drop_eq_getElem_cons h, List.set_cons_zero, List.append_assoc]
  rfl
set_option maxHeartbeats 400000 in
theorem mark_any (i n : Nat) (w : World) (hi : i ≤ 4398046511104) (hn : n ≤ 281474976710656) : Calls Tryd.prog 38 #[.int .i64 i, .int .i64 n] w fun e w' => e = .returned (.int .u8 (markV i n)) ∧ w' = w := by
  have HM : Hid (((i : Int) * 7 + (n : Int) * 13 + (i : Int) / 256 + 1) % 256 = markV i n) := rfl
  go_enter Tryd.func38, Tryd.ntmps38
  go_wp2
  go_ret
  exact ⟨ret_int (by first | exact HM.out | (rw [← HM.out]; simp only [IntKind.wrap_u8])), rfl⟩

/-- v reads as zs at the head of its block. -/
def Reads (w : World) (v : Value) (zs : List Int) : Prop := ∀ j, j < zs.length → ∃ b cap, v = .slice (some ⟨b, 0, none⟩) zs.length cap ∧ w.cell? ⟨b, j, none⟩ = some (.int .u8 (zs.getD j 0))
theorem Reads.of_row {w : World} {v : Value} {zs : List Int} (h : Row w 5 v (u8s zs)) : Reads w v zs := fun j hj => by
  obtain ⟨g, cap, hv, hc⟩ := h.cell j (by rw [u8s_len]; exact hj)
  rw [u8s_len] at hv
  refine ⟨g, cap, hv, ?_⟩
  rw [hc]
  simp [u8s, hj]
theorem Reads.keep {w w' : World} {v : Value} {zs : List Int} (h : Reads w v zs) (hk : ∀ b, v.ownBlock = some b → b < w.heap.size → w'.heap[b]? = w.heap[b]?) : Reads w' v zs := fun j hj => by
  obtain ⟨b, cap, hv, hc⟩ := h j hj
  exact ⟨b, cap, hv, by rw [World.cell?_of_block (w := w) (a := ⟨b, j, none⟩) (hk b (by rw [hv]; rfl) (World.block_lt_of_cell? w _ hc)), hc]⟩
/-- a longer slice of the same block reads as the shorter one does. -/
theorem Reads.of_longer {w : World} {b n m cap : Nat} {zs ys : List Int} (h : Row w 5 (.slice (some ⟨b, 0, none⟩) m cap) (u8s ys)) (hp : ys.take zs.length = zs) : Reads w (.slice (some ⟨b, 0, none⟩) zs.length n) zs := fun j hj => by
  have hl : zs.length ≤ ys.length := by have := congrArg List.length hp; simp at this; omega
  obtain ⟨g, cap', hv, hc⟩ := h.cell j (by rw [u8s_len]; omega)
  simp only [Value.slice.injEq, Option.some.injEq, Addr.mk.injEq] at hv
  obtain ⟨⟨rfl, _⟩, _⟩ := hv
  refine ⟨b, n, rfl, ?_⟩
  rw [hc]
  have e : (ys.take zs.length)[j]? = zs[j]? := by rw [hp]
  rw [List.getElem?_take, if_pos hj] at e
  have hjy : j < ys.length := by omega
  simp only [u8s, List.getElem_map, List.getD_eq_getElem?_getD]
  rw [← e, List.getElem?_eq_getElem hjy]
  rfl

/-- behind k rounds of Owned's second loop: gv is the list of the grown ones, gvs. -/
structure OwnedI (w wr : World) (B gk : Nat) (L V : Value) (ls : List (Value × List Int)) (k : Nat) (gv : Value) (gvs : List Value) : Prop where
  len : gvs.length = k
  row : Row wr 24 gv gvs
  book : ∀ b, InBook gk L V b → wr.heap[b]? = w.heap[b]?
  later : ∀ j p b, k ≤ j → ls[j]? = some p → p.1.ownBlock = some b → wr.heap[b]? = w.heap[b]?
  done : ∀ j p, j < k → ls[j]? = some p → ∃ g, gvs[j]? = some g ∧ Row wr 5 g (u8s (marks j (p.2.length + 9))) ∧ Reads wr p.1 (marks j p.2.length) ∧ (g.ownBlock = p.1.ownBlock ∨ ∀ b, g.ownBlock = some b → w.heap.size ≤ b)
  apart : ∀ (j j' : Nat) g g' b, j ≠ j' → gvs[j]? = some g → gvs[j']? = some g' → g.ownBlock = some b → g'.ownBlock ≠ some b
  off : ∀ (j : Nat) g b, gvs[j]? = some g → g.ownBlock = some b → gv.ownBlock ≠ some b
  fresh : ∀ b, gv.ownBlock = some b → w.heap.size ≤ b
  size : w.heap.size ≤ wr.heap.size
  below : Below B w wr
  rest : ∀ b, b < w.heap.size → ¬ InBook gk L V b → (∀ p, p ∈ ls → p.1.ownBlock ≠ some b) → wr.heap[b]? = w.heap[b]?
theorem OwnedI.start {w wr : World} {B gk : Nat} {L V : Value} {ls : List (Value × List Int)} (hh : wr.heap = w.heap) (hb : Below B w wr) : OwnedI w wr B gk L V ls 0 (.slice none 0 0) [] :=
  ⟨rfl, Row.nil _ _, fun b _ => by rw [hh], fun j p b _ _ _ => by rw [hh], fun j p h => by omega, by simp, by simp, by simp [Value.ownBlock], by rw [hh]; exact Nat.le_refl _, hb, fun b _ _ _ => by rw [hh]⟩

/-- one round: list k is marked and grown between wr and w2, the list of the grown ones gets it between w2 and w3. -/
theorem OwnedI.step {w wr w2 w3 : World} {B gk : Nat} {L V gv gv' g : Value} {ls : List (Value × List Int)} {k : Nat} {gvs : List Value} {p : Value × List Int} (hB : B ≤ w.heap.size) (hbk : BookI w B gk L V ls) (h : OwnedI w wr B gk L V ls k gv gvs) (hp : ls[k]? = some p)
    (hg2 : wr.grownBy w2 p.1.ownBlock) (rg : Row w2 5 g (u8s (marks k (p.2.length + 9)))) (rd : Reads w2 p.1 (marks k p.2.length)) (hgb : g.ownBlock = p.1.ownBlock ∨ ∃ b, g.ownBlock = some b ∧ wr.heap.size ≤ b)
    (hg3 : w2.grownBy w3 gv.ownBlock) (rv : Row w3 24 gv' (gvs ++ [g])) (hm : Moved w2.heap.size gv gv') : OwnedI w w3 B gk L V ls (k + 1) gv' (gvs ++ [g]) := by
  have hl := h.len
  have hpm : p ∈ ls := List.mem_of_getElem? hp
  have plt : ∀ b, p.1.ownBlock = some b → b < w.heap.size := fun b hb => (hbk.rows p hpm).1.lt hb
  have s2 := hg2.size
  have s3 := hg3.size
  have ss := h.size
  have gvlt : ∀ b, gv.ownBlock = some b → b < wr.heap.size := fun b hb => h.row.lt hb
  -- a block of before that is neither list k's nor gv's
  have keep : ∀ b, b < wr.heap.size → p.1.ownBlock ≠ some b → gv.ownBlock ≠ some b → w3.heap[b]? = wr.heap[b]? := fun b hb h1 h2 => by
    rw [hg3.block b (by omega) (fun e => h2 e.symm), hg2.block b hb (fun e => h1 e.symm)]
  have old : ∀ b, b < w.heap.size → p.1.ownBlock ≠ some b → w3.heap[b]? = wr.heap[b]? := fun b hb h1 => keep b (by omega) h1 (fun e => by have := h.fresh b e; omega)
  have gblt : ∀ b, g.ownBlock = some b → b < w2.heap.size := fun b hb => rg.lt hb
  have goff : ∀ b, g.ownBlock = some b → gv.ownBlock ≠ some b := fun b hb e => by
    rcases hgb with h1 | ⟨b', h1, h2⟩
    · have a1 := plt b (by rw [← h1]; exact hb)
      have a2 := h.fresh b e
      omega
    · rw [hb] at h1
      simp only [Option.some.injEq] at h1
      have := gvlt b e
      omega
  have gnew : ∀ (j : Nat) g', gvs[j]? = some g' → ∀ b, g'.ownBlock = some b → g.ownBlock ≠ some b := fun j g' hj b hb e => by
    have hjk : j < k := by have := (List.getElem?_eq_some_iff.1 hj).1; omega
    obtain ⟨pj, hpj⟩ : ∃ pj, ls[j]? = some pj := by
      have : k < ls.length := (List.getElem?_eq_some_iff.1 hp).1
      exact ⟨ls[j]'(by omega), List.getElem?_eq_getElem _⟩
    obtain ⟨gj, hgj, rj, _, oj⟩ := h.done j pj hjk hpj
    rw [hj] at hgj
    simp only [Option.some.injEq] at hgj
    subst hgj
    rcases hgb with h1 | ⟨b', h1, h2⟩
    · rw [h1] at e
      rcases oj with o1 | o1
      · exact (hbk.own k p hp b e).2.2 j pj (by omega) hpj (by rw [← o1]; exact hb)
      · have a1 := o1 b hb
        have a2 := plt b e
        omega
    · rw [e] at h1
      simp only [Option.some.injEq] at h1
      have := rj.lt hb
      omega
  refine ⟨by simp [hl], rv, fun b hb => ?_, fun j pj b hj hpj hb => ?_, fun j pj hj hpj => ?_, fun j j' g1 g2 b hne h1 h2 hb => ?_, fun j g1 b h1 hb => ?_, fun b hb => ?_, by omega, ?_, fun b hlt hn hl => ?_⟩
  · have hlt := hbk.lt b hb
    rw [old b hlt (fun e => (hbk.own k p hp b e).2.1 hb), h.book b hb]
  · have hlt : b < w.heap.size := (hbk.rows pj (List.mem_of_getElem? hpj)).1.lt hb
    rw [old b hlt (fun e => (hbk.own j pj hpj b hb).2.2 k p (by omega) hp e), h.later j pj b (by omega) hpj hb]
  · rcases Nat.lt_or_ge j k with hjk | hjk
    · obtain ⟨gj, hgj, rj, dj, oj⟩ := h.done j pj hjk hpj
      refine ⟨gj, by rw [List.getElem?_append_left (by omega)]; exact hgj, rj.keep fun b hb => ?_, dj.keep fun b hb hlt => ?_, oj⟩
      · refine keep b (rj.lt hb) (fun e => ?_) (fun e => h.off j gj b hgj hb e)
        rcases oj with o1 | o1
        · exact (hbk.own k p hp b e).2.2 j pj (by omega) hpj (by rw [← o1]; exact hb)
        · have a1 := o1 b hb
          have a2 := plt b e
          omega
      · have hbw : b < w.heap.size := (hbk.rows pj (List.mem_of_getElem? hpj)).1.lt hb
        exact old b hbw (fun e => (hbk.own k p hp b e).2.2 j pj (by omega) hpj hb)
    · have hjk' : j = k := by omega
      subst hjk'
      rw [hp] at hpj
      simp only [Option.some.injEq] at hpj
      subst hpj
      refine ⟨g, by rw [List.getElem?_append_right (by omega), hl]; simp, rg.grown hg3 (fun b hb e => goff b hb e), rd.keep fun b hb hlt => ?_, ?_⟩
      · exact hg3.block b hlt (fun e => by
          have a1 := plt b hb
          have a2 := h.fresh b e.symm
          omega)
      · rcases hgb with h1 | ⟨b', h1, h2⟩
        · exact Or.inl h1
        · exact Or.inr fun b hb => by rw [hb] at h1; simp only [Option.some.injEq] at h1; omega
  · rcases Nat.lt_or_ge j k with hjk | hjk
    · rw [List.getElem?_append_left (by omega)] at h1
      rcases Nat.lt_or_ge j' k with hjk' | hjk'
      · rw [List.getElem?_append_left (by omega)] at h2
        exact h.apart j j' g1 g2 b hne h1 h2 hb
      · have hj' : j' = k := by have := (List.getElem?_eq_some_iff.1 h2).1; simp [hl] at this; omega
        subst hj'
        rw [List.getElem?_append_right (by omega), hl] at h2
        simp at h2
        subst h2
        exact gnew j g1 h1 b hb
    · have hj : j = k := by have := (List.getElem?_eq_some_iff.1 h1).1; simp [hl] at this; omega
      subst hj
      rw [List.getElem?_append_right (by omega), hl] at h1
      simp at h1
      subst h1
      have hj' : j' < j := by have := (List.getElem?_eq_some_iff.1 h2).1; simp [hl] at this; omega
      rw [List.getElem?_append_left (by omega)] at h2
      exact fun e => gnew j' g2 h2 b e hb
  · intro e
    have hblt : b < w2.heap.size ∧ gv.ownBlock ≠ some b := by
      rcases Nat.lt_or_ge j k with hjk | hjk
      · rw [List.getElem?_append_left (by omega)] at h1
        obtain ⟨pj, hpj⟩ : ∃ pj, ls[j]? = some pj := by
          have : k < ls.length := (List.getElem?_eq_some_iff.1 hp).1
          exact ⟨ls[j]'(by omega), List.getElem?_eq_getElem _⟩
        obtain ⟨gj, hgj, rj, _, _⟩ := h.done j pj hjk hpj
        rw [h1] at hgj
        simp only [Option.some.injEq] at hgj
        subst hgj
        have := rj.lt hb
        exact ⟨by omega, h.off j g1 b h1 hb⟩
      · have hj : j = k := by have := (List.getElem?_eq_some_iff.1 h1).1; simp [hl] at this; omega
        subst hj
        rw [List.getElem?_append_right (by omega), hl] at h1
        simp at h1
        subst h1
        exact ⟨gblt b hb, goff b hb⟩
    rcases hm.own e with h3 | h3
    · exact hblt.2 h3
    · omega
  · rcases hm.own hb with h3 | h3
    · exact h.fresh b h3
    · omega
  · exact ⟨hg3.os.trans (hg2.os.trans h.below.os), hg3.tape.trans (hg2.tape.trans h.below.tape), hg3.output.trans (hg2.output.trans h.below.output), by have := h.below.size; omega, fun b hb => by
      rw [old b (by omega) (fun e => by have := (hbk.own k p hp b e).1; omega), h.below.block b hb]⟩
  · rw [old b hlt (hl p hpm), h.rest b hlt hn hl]
theorem u8s_set (zs : List Int) (j : Nat) (x : Int) : (u8s zs).set j (.int .u8 x) = u8s (zs.set j x) := by simp [u8s, List.map_set]
theorem Row.head {w : World} {e : TypeId} {a : Option Addr} {n c : Nat} {vs : List Value} (h : Row w e (.slice a n c) vs) : n = vs.length ∧ (a = none ∨ ∃ b, a = some ⟨b, 0, none⟩ ∧ b < w.heap.size) := by
  rcases h with ⟨h1, rfl⟩ | ⟨g, cap, cur, lo, hi, hv, hg, _⟩
  · simp only [Value.slice.injEq] at h1
    exact ⟨by simp [h1.2.1], Or.inl h1.1⟩
  · simp only [Value.slice.injEq] at hv
    exact ⟨hv.2.1, Or.inr ⟨g, hv.1, heap_lt hg⟩⟩
/-- a byte is put behind a list that is being grown. -/
theorem grow_step {W0 wx : World} {a : Option Addr} {l c k q : Nat} {g : Value} (hrow : Row wx 5 g (u8s (marks k (l + q)))) (hrd : Reads wx (.slice a l c) (marks k l)) (hgb : g.ownBlock = (Value.slice a l c).ownBlock ∨ ∃ b, g.ownBlock = some b ∧ W0.heap.size ≤ b)
    (hgr : W0.grownBy wx (Value.slice a l c).ownBlock) (hlv : a = none ∨ ∃ b, a = some ⟨b, 0, none⟩ ∧ b < W0.heap.size) (hl : l ≤ 140737488351232) (hq : q ≤ 9) :
    ∃ gg nn cc w', (Builtin.append_ #[24, 24] 24 #[g, .slice (some ⟨wx.heap.size, 0, none⟩) 1 1]).run Tryd.prog (wx.alloc (.cells #[.int .u8 (markV k (l + q))] 5)) = .ok (.slice (some ⟨gg, 0, none⟩) nn cc) w' ∧
      W0.grownBy w' (Value.slice a l c).ownBlock ∧ Row w' 5 (.slice (some ⟨gg, 0, none⟩) nn cc) (u8s (marks k (l + (q + 1)))) ∧ Reads w' (.slice a l c) (marks k l) ∧ ((Value.slice (some ⟨gg, 0, none⟩) nn cc).ownBlock = (Value.slice a l c).ownBlock ∨ ∃ b, (Value.slice (some ⟨gg, 0, none⟩) nn cc).ownBlock = some b ∧ W0.heap.size ≤ b) := by
  have ra := hrow.below (w' := wx.alloc (.cells #[.int .u8 (markV k (l + q))] 5)) ((Below.refl _ _).alloc (Nat.le_refl _) _)
  have hsz := hgr.size
  obtain ⟨g', w', hrun, row', hgr', hcase⟩ := append_one 24 24 5 _ 1 Tryd.underlying24 infoU8 rfl ra (.int .u8 (markV k (l + q))) rfl wx.heap.size _ (heap_new _ _) (by rw [u8s_len, marks_len]; unfold maxLen; omega) (by rw [u8s_len, marks_len]; omega)
  have erow : u8s (marks k (l + q)) ++ [Value.int .u8 (markV k (l + q))] = u8s (marks k (l + (q + 1))) := by
    rw [show l + (q + 1) = l + q + 1 by omega, marks_succ, u8s_app]; rfl
  rw [erow] at row'
  have hgr2 : W0.grownBy w' (Value.slice a l c).ownBlock := by
    refine grown_trans (grown_trans hgr (grown_alloc wx _ _) (Or.inl rfl)) hgr' ?_
    rcases hgb with h1 | ⟨b, h1, h2⟩
    · exact Or.inl h1
    · exact Or.inr fun g hg => by rw [h1] at hg; simp only [Option.some.injEq] at hg; omega
  rcases hcase with ⟨g0, cap, e1, e2⟩ | ⟨g0, cap, e2, hnew, hnone⟩
  · subst e1 e2
    refine ⟨g0, _, cap, w', hrun, hgr2, row', ?_, ?_⟩
    · rcases hlv with rfl | ⟨b, rfl, hb⟩
      · intro j hj
        obtain ⟨b, cap, hv, _⟩ := hrd j hj
        simp at hv
      · rcases hgb with h1 | ⟨b', h1, h2⟩
        · simp [Value.ownBlock] at h1
          subst h1
          have := Reads.of_longer (n := c) (zs := marks k l) row' (by rw [marks_len]; exact marks_take _ _ _ (by omega))
          rw [marks_len] at this
          exact this
        · refine hrd.keep fun b2 hb2 hlt => ?_
          simp [Value.ownBlock] at hb2
          subst hb2
          rw [hgr'.block b (by simp; omega) (fun e => by rw [h1] at e; simp only [Option.some.injEq] at e; omega)]
          exact heap_old wx _ hlt
    · exact hgb
  · subst e2
    refine ⟨g0, _, cap, w', hrun, hgr2, row', ?_, Or.inr ⟨g0, rfl, by simp at hnew; omega⟩⟩
    refine hrd.keep fun b2 hb2 hlt => ?_
    rw [hnone.block b2 (by simp; omega) (by simp)]
    exact heap_old wx _ hlt
end Go.Proofs.YtdcppiknomoigaaDoor

/-
  The statements' book: Owned. For every seat.
-/
namespace Go.Proofs.YtdcppiknomoigaaDoor
open Go.RowKit
set_option linter.all false

theorem BookI.at {w : World} {B gk : Nat} {L V : Value} {ls : List (Value × List Int)} (h : BookI w B gk L V ls) {k : Nat} {p : Value × List Int} (hk : ls[k]? = some p) :
    ∃ gL cL gV cV, L = .slice (some ⟨gL, 0, none⟩) ls.length cL ∧ V = .slice (some ⟨gV, 0, none⟩) ls.length cV ∧ w.cell? ⟨gL, k, none⟩ = some p.1 ∧ w.cell? ⟨gV, k, none⟩ = some (.string (strOfNums p.2)) := by
  obtain ⟨hlt, hp⟩ := List.getElem?_eq_some_iff.1 hk
  obtain ⟨gL, cL, e1, c1⟩ := h.lists.cell k (by simpa using hlt)
  obtain ⟨gV, cV, e2, c2⟩ := h.was.cell k (by simpa using hlt)
  simp only [List.length_map, List.getElem_map] at e1 c1 e2 c2
  rw [hp] at c1 c2
  exact ⟨gL, cL, gV, cV, e1, e2, c1, c2⟩
theorem BookI.conv {w : World} {B gk : Nat} {L V : Value} {ls : List (Value × List Int)} (h : BookI w B gk L V ls) {p : Value × List Int} (hp : p ∈ ls) (m : Nat) : (convert 24 9 p.1).run Tryd.prog (w.drewN m) = .ok (.string (strOfNums p.2)) (w.drewN m) := by
  obtain ⟨pt, e1, e2, ok⟩ := (h.rows p hp).1.part (h.rows p hp).2.1
  rw [e1, ← e2]
  exact conv_part pt _ (Part.ok_drewN ok m)
theorem BookI.heap_eq {w wr : World} {B gk : Nat} {L V : Value} {ls : List (Value × List Int)} (h : BookI w B gk L V ls) (hh : wr.heap = w.heap) : BookI wr B gk L V ls := h.keep (fun k _ => by rw [hh]) (fun p _ b _ => by rw [hh])
theorem str_same (s : ByteArray) : (s != s) = false := by
  have : (s == s) = true := by
    cases s with | mk d => show (d == d) = true; simp
  show (!(s == s)) = false
  rw [this]; rfl

set_option maxRecDepth 20000 in
set_option maxHeartbeats 2000000 in
theorem owned_any (gk : Nat) (L V : Value) (ls : List (Value × List Int)) (B : Nat) (w : World) (h : BookI w B gk L V ls) (hB : B ≤ w.heap.size) :
    Calls Tryd.prog 16 #[.pointer (some ⟨gk, 0, none⟩)] w fun e w' => e = .returned (.bool true) ∧ Below B w w' ∧ (∀ b, b < w.heap.size → ¬ InBook gk L V b → (∀ p, p ∈ ls → p.1.ownBlock ≠ some b) → w'.heap[b]? = w.heap[b]?) := by
  obtain ⟨N, hN⟩ : ∃ N, ls.length = N := ⟨_, rfl⟩
  have HN := hid hN
  have hNb : N ≤ 4398046511104 := by rw [← hN]; exact h.few
  obtain ⟨aL, cL, hLe, hjunk⟩ := h.lists.form
  rw [List.length_map, hN] at hLe
  have HBK := hid h
  have HBB := hid hB
  have HC : Hid (∀ wr : World, wr.heap[gk]? = w.heap[gk]? → ∀ q, wr.cell? ⟨gk, q, none⟩ = (#[L, V] : Array Value)[q]?) := fun wr hw q => cell_of_heap (hw.trans h.box) q
  clear hN hB h hjunk
  subst hLe
  go_enter Tryd.func16, Tryd.ntmps16
  go_wp2
  go_loopw [3] (fun i wr => ∃ k : Nat, k ≤ N ∧ i = .int .i64 k ∧ wr.heap = w.heap ∧ Below B w wr) (fun i _ => N - (intOf i).toNat)
  case atStart => exact ⟨0, Nat.zero_le _, rfl, rfl, Below.refl _ _⟩
  case round =>
    obtain ⟨k, hk, rfl, hh, hb⟩ := hrel
    have HH := hid hh
    have HB := hid hb
    have hc := HC.out wr (by rw [hh])
    clear hh hb
    by_cases hlt : k < N
    · obtain ⟨p, hp⟩ : ∃ p, ls[k]? = some p := ⟨ls[k]'(by rw [HN.out]; exact hlt), List.getElem?_eq_getElem _⟩
      have hbr := HBK.out.heap_eq HH.out
      obtain ⟨gL, cL', gV, cV', eL, eV, c1, c2⟩ := hbr.at hp
      have hcv := hbr.conv (List.mem_of_getElem? hp)
      obtain ⟨a, c, e3, _⟩ := (hbr.rows p (List.mem_of_getElem? hp)).1.form
      rw [u8s_len] at e3
      rw [HN.out] at eL eV
      simp only [Value.slice.injEq] at eL
      obtain ⟨rfl, _, rfl⟩ := eL
      subst eV
      rw [e3] at c1 hcv
      have hs := str_same (strOfNums p.2)
      generalize strOfNums p.2 = S at *
      generalize p.2.length = l at *
      clear e3 hp hbr
      go_wp2
      go_quiet (fail)
      go_wp2
      go_roundw
      case rel => exact ⟨k + 1, by omega, by go_num, HH.out, ⟨HB.out.os, HB.out.tape, HB.out.output, HB.out.size, HB.out.block⟩⟩
      case measure => simp [intOf]; omega
    · go_wp2
      clear hc
      go_loopw [4, 5] (fun gs i wx => ∃ k : Nat, ∃ gvs : List Value, k ≤ N ∧ i = .int .i64 k ∧ OwnedI w wx B gk (.slice aL N cL) V ls k gs gvs) (fun _ i _ => N - (intOf i).toNat)
      case atStart => exact ⟨0, [], Nat.zero_le _, rfl, OwnedI.start HH.out HB.out⟩
      case round =>
        obtain ⟨j, gvs, hj, rfl, ho⟩ := hrel
        obtain ⟨W0, rfl⟩ : ∃ W0, W0 = wr := ⟨_, rfl⟩
        have HO := hid ho
        obtain ⟨ag0, cg0, eg0, hjk0⟩ := ho.row.form
        rw [ho.len] at eg0
        have hc := HC.out W0 (ho.book gk (Or.inl rfl))
        clear ho hjk0
        subst eg0
        by_cases hlj : j < N
        · obtain ⟨p, hp⟩ : ∃ p, ls[j]? = some p := ⟨ls[j]'(by rw [HN.out]; exact hlj), List.getElem?_eq_getElem _⟩
          obtain ⟨gL, cL', gV, cV', eL, eV, c1, c2⟩ := HBK.out.at hp
          have hrows := HBK.out.rows p (List.mem_of_getElem? hp)
          have r0 : Row W0 5 p.1 (u8s p.2) := hrows.1.keep fun b hb => HO.out.later j p b (Nat.le_refl _) hp hb
          obtain ⟨a, c, e3, hjk⟩ := r0.form
          rw [u8s_len] at e3
          rw [HN.out] at eL
          simp only [Value.slice.injEq] at eL
          obtain ⟨rfl, _, rfl⟩ := eL
          have c1' : W0.cell? ⟨gL, j, none⟩ = some (.slice a p.2.length c) := by
            rw [World.cell?_of_block (w := w) (a := ⟨gL, j, none⟩) (HO.out.book gL (Or.inr (Or.inl rfl))), c1, e3]
          have hpl := hrows.2.2
          obtain ⟨ps, hps⟩ : ∃ ps, ps = p.2 := ⟨_, rfl⟩
          obtain ⟨pv, hpv⟩ : ∃ pv, pv = p.1 := ⟨_, rfl⟩
          rw [← hps] at hpl c1' e3 r0
          rw [← hpv] at e3 r0
          subst e3
          have HP : Hid (ls[j]? = some (.slice a ps.length c, ps)) := by unfold Hid; rw [hp, hpv, hps]
          have HR0 := hid r0
          have HLT : Hid (∀ b, (Value.slice a ps.length c).ownBlock = some b → b < w.heap.size) := fun b hb => hrows.1.lt (by rw [← hpv]; exact hb)
          have hhd := r0.head.2
          have HHD : Hid (a = none ∨ ∃ b, a = some ⟨b, 0, none⟩ ∧ b < W0.heap.size) := hhd
          clear hhd hp hps hpv hrows c1 c2 eV r0 hjk
          obtain ⟨l, hll⟩ : ∃ l, ps.length = l := ⟨_, rfl⟩
          have HLL := hid hll
          rw [hll] at c1' hpl HR0 HP HLT
          clear hll
          go_wp2
          clear hc c1'
          go_loopw [7] (fun i wx => ∃ m : Nat, m ≤ l ∧ i = .int .i64 m ∧ W0.grownBy wx (Value.slice a l c).ownBlock ∧ Row wx 5 (.slice a l c) (u8s (marks j m ++ ps.drop m))) (fun i _ => l - (intOf i).toNat)
          case atStart => exact ⟨0, Nat.zero_le _, rfl, grown_refl _ _, by simpa [marks] using HR0.out⟩
          case round =>
            obtain ⟨m, hm, rfl, hgr, hrow⟩ := hrel
            have HGR := hid hgr
            have HROW := hid hrow
            clear hgr hrow
            by_cases hml : m < l
            · obtain ⟨g, hag, ⟨u, hu⟩, hfz, hset⟩ := HROW.out.set m (by rw [u8s_len, List.length_append, marks_len, List.length_drop, HLL.out]; omega) (.int .u8 (markV j m))
              rw [u8s_set, set_drop _ _ _ _ (marks_len j m).symm (by rw [HLL.out]; exact hml), ← marks_succ] at hset
              have HSET := hid hset
              have HAG := hid hag
              clear hset
              subst hag
              go_wp2_with (first | (go_at_call 38; refine (mark_any _ _ _ (by omega) (by omega)).mono ?_; rintro e w' ⟨rfl, rfl⟩))
              go_roundw
              case rel => exact ⟨m + 1, by omega, by go_num, grown_trans HGR.out (grown_setCell _ _ _ _) (Or.inl rfl), HSET.out⟩
              case measure => simp [intOf]; omega
            · have hme : m = l := by omega
              subst hme
              have HR1 : Hid (Row wr 5 (.slice a m c) (u8s (marks j m))) := by
                have := HROW.out
                rw [List.drop_eq_nil_of_le (by rw [HLL.out]; exact Nat.le_refl _), List.append_nil] at this
                exact this
              go_wp2
              obtain ⟨W1, rfl⟩ : ∃ W1, W1 = wr := ⟨_, rfl⟩
              clear HROW
              go_loopw [8, 9, 10] (fun g i mm wx => ∃ (q : Nat), q ≤ 9 ∧ i = .int .i64 q ∧ W0.grownBy wx (Value.slice a m c).ownBlock ∧ Row wx 5 g (u8s (marks j (m + q))) ∧ Reads wx (.slice a m c) (marks j m) ∧ (g.ownBlock = (Value.slice a m c).ownBlock ∨ ∃ b, g.ownBlock = some b ∧ W0.heap.size ≤ b)) (fun _ i _ _ => 9 - (intOf i).toNat)
              case atStart => exact ⟨0, by omega, rfl, HGR.out, HR1.out, Reads.of_row HR1.out |> (fun h => by exact h), Or.inl rfl⟩
              case round =>
                obtain ⟨q, hq, rfl, hgr, hrow, hrd, hgb⟩ := hrel
                have HGR2 := hid hgr
                have HROW2 := hid hrow
                have HRD2 := hid hrd
                have HGB2 := hid hgb
                obtain ⟨ag, cg, eg, hjk⟩ := hrow.form
                rw [u8s_len, marks_len] at eg
                clear hgr hrow hrd hgb hjk
                subst eg
                by_cases hq9 : q < 9
                · obtain ⟨gg, nn, cc, w', hrun, f1, f2, f3, f4⟩ := grow_step HROW2.out HRD2.out HGB2.out HGR2.out HHD.out hpl (by omega)
                  have HRUN := hid hrun
                  have HF1 := hid f1
                  have HF2 := hid f2
                  have HF3 := hid f3
                  have HF4 := hid f4
                  clear hrun f1 f2 f3 f4
                  go_wp2_with (first
                    | (go_at_call 38; rw [show ((m : Int) + (q : Int)) = ((m + q : Nat) : Int) by omega]; refine (mark_any _ _ _ (by omega) (by omega)).mono ?_; rintro e w' ⟨rfl, rfl⟩)
                    | (at_builtin; refine wpList_append_run _ rfl (.tmp 79) (.tmp 81) 24 24 rfl _ _ rfl rfl HRUN.out ?_))
                  go_roundw
                  case rel => exact ⟨q + 1, by omega, by go_num, HF1.out, HF2.out, HF3.out, HF4.out⟩
                  case measure => simp [intOf]; omega
                · have hq9e : q = 9 := by omega
                  subst hq9e
                  have rgs := (HO.out.row.grown HGR2.out (fun b hb e => by have a1 := HLT.out b e; have a2 := HO.out.fresh b hb; omega)).below (w' := wr.alloc (.cells #[.slice ag (m + 9) cg] 24)) ((Below.refl _ _).alloc (Nat.le_refl _) _)
                  obtain ⟨gv', w3, hrun, rv, hgr3, hcase⟩ := append_one 35 35 24 _ 24 Tryd.underlying35 infoSl rfl rgs (.slice ag (m + 9) cg) rfl wr.heap.size _ (heap_new _ _) (by rw [HO.out.len]; unfold maxLen; omega) (by rw [HO.out.len]; omega)
                  have hmv : Moved wr.heap.size _ gv' := Moved.of hcase (by simp)
                  have HST := hid (OwnedI.step HBB.out HBK.out HO.out HP.out HGR2.out (by rw [HLL.out]; exact HROW2.out) (by rw [HLL.out]; exact HRD2.out) HGB2.out (grown_trans (grown_alloc wr _ _) hgr3 (Or.inl rfl)) rv hmv)
                  have HRUN := hid hrun
                  obtain ⟨g5, n5, c5, e5, _⟩ := hmv
                  subst e5
                  clear rgs hrun rv hgr3 hcase
                  go_wp2_with (first
                    | (at_builtin; refine wpList_append_run _ rfl (.tmp 83) (.tmp 85) 35 35 rfl _ _ rfl rfl HRUN.out ?_))
                  go_roundw
                  case rel => exact ⟨j + 1, _, by omega, by go_num, HST.out⟩
                  case measure => simp [intOf]; omega
        · have hje : j = N := by omega
          subst hje
          go_wp2
          go_loop [11] (fun i => ∃ q : Nat, q ≤ j ∧ i = .int .i64 q) (fun i => j - (intOf i).toNat)
          case atStart => exact ⟨0, Nat.zero_le _, rfl⟩
          case round =>
            obtain ⟨q, hq, rfl⟩ := hrel
            by_cases hqj : q < j
            · obtain ⟨p, hp⟩ : ∃ p, ls[q]? = some p := ⟨ls[q]'(by rw [HN.out]; exact hqj), List.getElem?_eq_getElem _⟩
              obtain ⟨gL, cL', gV, cV', eL, eV, c1, c2⟩ := HBK.out.at hp
              rw [HN.out] at eL
              simp only [Value.slice.injEq] at eL
              obtain ⟨rfl, _, rfl⟩ := eL
              have hrows := HBK.out.rows p (List.mem_of_getElem? hp)
              obtain ⟨a, c, e3, hjk⟩ := hrows.1.form
              rw [u8s_len] at e3
              have hpl := hrows.2.2
              obtain ⟨g, hg, rg, rd, _⟩ := HO.out.done q p hqj hp
              rw [e3] at c1 rd
              obtain ⟨l, hll⟩ : ∃ l, p.2.length = l := ⟨_, rfl⟩
              rw [hll] at c1 rg rd hpl
              have c1' : W0.cell? ⟨gL, q, none⟩ = some (.slice a l c) := by
                rw [World.cell?_of_block (w := w) (a := ⟨gL, q, none⟩) (HO.out.book gL (Or.inr (Or.inl rfl))), c1]
              obtain ⟨gG, cG, e4, c4⟩ := HO.out.row.cell q (by rw [HO.out.len]; exact hqj)
              rw [HO.out.len] at e4
              simp only [Value.slice.injEq] at e4
              obtain ⟨rfl, _, rfl⟩ := e4
              have e5 : gvs[q]'(by rw [HO.out.len]; exact hqj) = g := by
                have := List.getElem?_eq_getElem (l := gvs) (i := q) (by rw [HO.out.len]; exact hqj)
                rw [hg] at this
                simpa using this.symm
              rw [e5] at c4
              obtain ⟨ag, cg, e6, hjk2⟩ := rg.form
              rw [u8s_len, marks_len] at e6
              subst e6
              have HRG := hid rg
              have HRD := hid rd
              clear e5 hg rg rd c1 c2 eV e3 hll hrows hp hjk hjk2
              go_wp2
              go_loop [13, 14] (fun i _ => ∃ r : Nat, r ≤ l + 9 ∧ i = .int .i64 r) (fun i _ => l + 9 - (intOf i).toNat)
              case atStart => exact ⟨0, Nat.zero_le _, rfl⟩
              case round =>
                obtain ⟨r, hr, rfl⟩ := hrel
                by_cases hrl : r < l + 9
                · obtain ⟨g6, c6, e7, c7⟩ := HRG.out.cell r (by rw [u8s_len, marks_len]; exact hrl)
                  rw [u8s_len, marks_len] at e7
                  simp only [Value.slice.injEq] at e7
                  obtain ⟨rfl, _, rfl⟩ := e7
                  have c7' : W0.cell? ⟨g6, r, none⟩ = some (.int .u8 (markV q r)) := by
                    rw [c7]
                    simp [u8s, marks]
                  have hne : (markV q r != markV q r) = false := by simp
                  have hrl' : (r : Int) < (l : Int) + 9 := by omega
                  clear c7
                  by_cases hr2 : r < l
                  · obtain ⟨b8, c8, e8, c9⟩ := HRD.out r (by rw [marks_len]; exact hr2)
                    rw [marks_len] at e8
                    simp only [Value.slice.injEq] at e8
                    obtain ⟨rfl, _, rfl⟩ := e8
                    have c9' : W0.cell? ⟨b8, r, none⟩ = some (.int .u8 (markV q r)) := by
                      rw [c9, List.getD_eq_getElem?_getD, marks_at q l r hr2]; rfl
                    have hr2' : (r : Int) < (l : Int) := by omega
                    clear c9
                    generalize hmk : markV q r = MK at *
                    have HMK := hid hmk
                    clear hmk
                    go_wp2_with (first
                      | (go_at_call 38; refine (mark_any _ _ _ (by omega) (by omega)).mono ?_; rintro e w' ⟨rfl, rfl⟩; rw [HMK.out]))
                    go_round
                    case rel => exact ⟨r + 1, by omega, by go_num⟩
                    case measure => simp [intOf]; omega
                  · have hr2' : decide ((r : Int) < (l : Int)) = false := by simp; omega
                    generalize hmk : markV q r = MK at *
                    have HMK := hid hmk
                    clear hmk
                    go_wp2_with (first
                      | (go_at_call 38; refine (mark_any _ _ _ (by omega) (by omega)).mono ?_; rintro e w' ⟨rfl, rfl⟩; rw [HMK.out]))
                    go_round
                    case rel => exact ⟨r + 1, by omega, by go_num⟩
                    case measure => simp [intOf]; omega
                · go_wp2
                  go_round
                  case rel => exact ⟨q + 1, by omega, by go_num⟩
                  case measure => simp [intOf]; omega
            · go_wp2
              go_ret
              exact ⟨rfl, HO.out.below, fun b h1 h2 h3 => HO.out.rest b h1 h2 (fun p hp => h3 p.1 p.2 hp)⟩
end Go.Proofs.YtdcppiknomoigaaDoor

/-
  The statements' book, where it is made behind all the lists that it takes. For every seat.
-/
namespace Go.Proofs.YtdcppiknomoigaaDoor
open Go.RowKit
set_option linter.all false

/-- the book at gk, whose own blocks lie from gk on. -/
structure Late (w : World) (B gk : Nat) (L V : Value) (ls : List (Value × List Int)) : Prop where
  book : BookI w B gk L V ls
  from_ : ∀ k, InBook gk L V k → gk ≤ k
  base : B ≤ w.heap.size
theorem Late.new (w : World) (B : Nat) (hB : B ≤ w.heap.size) : Late (w.alloc (.cells #[.slice none 0 0, .slice none 0 0] 38)) B w.heap.size (.slice none 0 0) (.slice none 0 0) [] :=
  ⟨BookI.new w B hB, fun k hk => by rcases hk with rfl | h | h <;> simp_all [Value.ownBlock], by simp; omega⟩
theorem take_late (gk : Nat) (L V v : Value) (ls : List (Value × List Int)) (zs : List Int) (B : Nat) (w : World) (h : Late w B gk L V ls) (hr : Row w 5 v (u8s zs)) (hz : ∀ z, z ∈ zs → 0 ≤ z ∧ z ≤ 255) (hl : zs.length ≤ 140737488351232) (hf : ls.length < 4398046511104)
    (ho : ∀ b, v.ownBlock = some b → B ≤ b ∧ b < gk ∧ ∀ p, p ∈ ls → p.1.ownBlock ≠ some b) :
    Calls Tryd.prog 15 #[.pointer (some ⟨gk, 0, none⟩), v] w fun e w' => e = .returned (.tuple #[]) ∧ ∃ L' V', Late w' B gk L' V' (ls ++ [(v, zs)]) ∧ (∀ k, k < gk → w'.heap[k]? = w.heap[k]?) ∧ Below B w w' := by
  have hgk := heap_lt h.book.box
  refine (take_any gk L V v ls zs B w h.book h.base hr hz hl hf (fun b hb => ⟨(ho b hb).1, fun hi => by have := h.from_ b hi; have := (ho b hb).2.1; omega, (ho b hb).2.2⟩)).mono ?_
  rintro e w' ⟨he, L', V', bk, keep, fresh, bel⟩
  refine ⟨he, L', V', ⟨bk, fun k hk => ?_, Nat.le_trans h.base bel.size⟩, fun k hk => keep k (by omega) (fun hi => by have := h.from_ k hi; omega), bel⟩
  rcases fresh k hk with h1 | h1
  · exact h.from_ k h1
  · omega
theorem owned_late (gk : Nat) (L V : Value) (ls : List (Value × List Int)) (B : Nat) (w : World) (h : Late w B gk L V ls) :
    Calls Tryd.prog 16 #[.pointer (some ⟨gk, 0, none⟩)] w fun e w' => e = .returned (.bool true) ∧ Below B w w' ∧ (∀ k, k < gk → (∀ p, p ∈ ls → p.1.ownBlock ≠ some k) → w'.heap[k]? = w.heap[k]?) :=
  (owned_any gk L V ls B w h.book h.base).mono fun e w' ⟨he, hb, hr⟩ => ⟨he, hb, fun k hk hn => hr k (by have := heap_lt h.book.box; omega) (fun hi => by have := h.from_ k hi; omega) hn⟩
theorem Row.low {w w' : World} {e : TypeId} {v : Value} {vs : List Value} {N : Nat} (h : Row w e v vs) (hk : ∀ k, k < N → w'.heap[k]? = w.heap[k]?) (hv : ∀ b, v.ownBlock = some b → b < N) : Row w' e v vs := h.keep fun b hb => hk b (hv b hb)
end Go.Proofs.YtdcppiknomoigaaDoor

/-
  Answers that are bytes of the call's own. For every seat.
-/
namespace Go.Proofs.YtdcppiknomoigaaDoor
open Go.RowKit
set_option linter.all false

theorem Row.but {w w' : World} {e : TypeId} {v : Value} {vs : List Value} {g : Nat} (h : Row w e v vs) (hb : But g w w') (hn : ∀ b, v.ownBlock = some b → b ≠ g) : Row w' e v vs := h.keep fun b hv => hb.block b (hn b hv) (h.lt hv)
theorem Row.conv {w : World} {v : Value} {zs : List Int} (h : Row w 5 v (u8s zs)) (hz : ∀ z, z ∈ zs → 0 ≤ z ∧ z ≤ 255) (k : Nat) : (convert 24 9 v).run Tryd.prog (w.drewN k) = .ok (.string (strOfNums zs)) (w.drewN k) := by
  obtain ⟨pt, e1, e2, ok⟩ := h.part hz
  rw [e1, ← e2]
  exact conv_part pt _ (Part.ok_drewN ok k)
theorem Row.conv0 {w : World} {v : Value} {zs : List Int} (h : Row w 5 v (u8s zs)) (hz : ∀ z, z ∈ zs → 0 ≤ z ∧ z ≤ 255) : (convert 24 9 v).run Tryd.prog w = .ok (.string (strOfNums zs)) w := by
  obtain ⟨pt, e1, e2, ok⟩ := h.part hz
  rw [e1, ← e2]
  exact conv_part pt _ ok
/-- an answer: bytes of the call's own. -/
def Ans (w w' : World) (ys : List Int) (a : Option Addr) (n c : Nat) : Prop := Row w' 5 (.slice a n c) (u8s ys) ∧ (∀ b, (Value.slice a n c).ownBlock = some b → w.heap.size ≤ b) ∧ Below w.heap.size w w'
theorem ans_nil {w w' : World} (h : Below w.heap.size w w') : Ans w w' [] none 0 0 := ⟨Row.nil _ _, by simp [Value.ownBlock], h⟩
theorem ans_row {w w' : World} {g n : Nat} {ys : List Int} (hn : ys.length = n) (hm : n ≤ maxLen) (hg : w'.heap[g]? = some (.cells (u8s ys).toArray 5 (0, 0))) (hw : w.heap.size ≤ g) (h : Below w.heap.size w w') : Ans w w' ys (some ⟨g, 0, none⟩) n n := by
  subst hn
  have := Row.of_heap hg (by rw [u8s_len]; exact hm)
  rw [u8s_len] at this
  exact ⟨this, fun b hb => by simp [Value.ownBlock] at hb; omega, h⟩
theorem ans_lt {w w' : World} {ys : List Int} {a : Option Addr} {n c : Nat} (h : Ans w w' ys a n c) : ∀ b, (Value.slice a n c).ownBlock = some b → w.heap.size ≤ b ∧ b < w'.heap.size := fun b hb => ⟨h.2.1 b hb, h.1.lt hb⟩
end Go.Proofs.YtdcppiknomoigaaDoor
