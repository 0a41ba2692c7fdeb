/-
  Port: a table of ports in memory; what a call may turn of it.
-/
import Derived.Test.YthipdchdbdmmnaaPMap
import Derived.Test.YthipdchdbdmmnaaBRowT
import Derived.Test.YthipdchdbdmmnaaPDMem
namespace Go.Proofs.Ythipdchdbdmmnaa
open Go.RowKit
open Go.ChangeMaps (setBlock)
set_option linter.all false

def dcells (ds : List (Dg × Value)) : List Value := ds.flatMap fun d => d.1.cells d.2
theorem dcells_len (ds : List (Dg × Value)) : (dcells ds).length = ds.length * 5 := by
  induction ds with
  | nil => rfl
  | cons d r ih => unfold dcells at *; rw [List.flatMap_cons, List.length_append, ih]; simp [Dg.cells]; omega
theorem dcells_app (a b : List (Dg × Value)) : dcells (a ++ b) = dcells a ++ dcells b := by simp [dcells]
theorem dcells_one (d : Dg × Value) : dcells [d] = d.1.cells d.2 := by simp [dcells]
theorem dcells_cons (d : Dg × Value) (r : List (Dg × Value)) : dcells (d :: r) = d.1.cells d.2 ++ dcells r := by simp [dcells]
structure Dg.ok (d : Dg) : Prop where
  sip : 0 ≤ d.sip ∧ d.sip ≤ 4294967295
  dip : 0 ≤ d.dip ∧ d.dip ≤ 4294967295
  sp : ipOk d.sp
  dp : ipOk d.dp
  zs : ∀ z, z ∈ d.zs → 0 ≤ z ∧ z ≤ 255
/-- the blocks of the bytes that wait. -/
def dblk (ds : List (Dg × Value)) : List Nat := ds.filterMap fun d => d.2.ownBlock
theorem dblk_app (a b : List (Dg × Value)) : dblk (a ++ b) = dblk a ++ dblk b := by simp [dblk]
/-- an open port in memory. -/
structure EntW (w : World) (x : Ab) : Prop where
  box : w.heap[x.b]? = some (.cells #[x.q, .int .i64 x.dr] 85 (0, 0))
  row : RowS w 53 5 x.q x.ds.length (dcells x.ds)
  data : ∀ d ∈ x.ds, Row w 5 d.2 (u8s d.1.zs)
  oks : ∀ d ∈ x.ds, d.1.ok
  dr : 0 ≤ x.dr
/-- a table of ports in memory. -/
structure PoW (w : World) (c m : Nat) (M D : Int) (L : List Ab) : Prop where
  box : w.heap[c]? = some (.cells #[.int .i64 M, .int .i64 D, .map (some m)] 75 (0, 0))
  map : MapE w m L
  ents : ∀ x ∈ L, EntW w x
  nb : (L.map (·.b)).Nodup
  nq : (L.filterMap (·.q.ownBlock)).Nodup
  nd : (L.flatMap fun x => dblk x.ds).Nodup
  most : 1 ≤ M ∧ M ≤ 16
  depth : 1 ≤ D ∧ D ≤ 32
  len : (L.length : Int) ≤ M
  deep : ∀ x ∈ L, (x.ds.length : Int) ≤ D
  nums : ∀ x ∈ L, 1 ≤ x.ip ∧ x.ip ≤ 65535
/-- what a call may turn. -/
def PK (m : Nat) (L : List Ab) (k : Nat) : Prop := k = m ∨ ∃ x ∈ L, k = x.b ∨ x.q.ownBlock = some k
/-- a call that turned a table. -/
structure PAct (w w' : World) (m : Nat) (L L' : List Ab) : Prop where
  only : Only (PK m L) w w'
  foot : ∀ k, PK m L' k → PK m L k ∨ w.heap.size ≤ k
  data : ∀ k, k ∈ L'.flatMap (fun x => dblk x.ds) → k ∈ L.flatMap (fun x => dblk x.ds) ∨ w.heap.size ≤ k
theorem PAct.refl {w w' : World} {m : Nat} {L : List Ab} (h : Below w.heap.size w w') : PAct w w' m L L := ⟨Only.of_below h, fun k hk => Or.inl hk, fun k hk => Or.inl hk⟩
theorem PAct.trans {a b c : World} {m : Nat} {L L' L'' : List Ab} (h : PAct a b m L L') (k : PAct b c m L' L'') : PAct a c m L L'' := by
  have s1 := h.only.size
  refine ⟨⟨k.only.os.trans h.only.os, k.only.tape.trans h.only.tape, k.only.output.trans h.only.output, Nat.le_trans s1 k.only.size, fun i hi hl => ?_⟩, fun i hi => ?_, fun i hi => ?_⟩
  · rw [k.only.block i (fun e => ?_) (by omega), h.only.block i hi hl]
    rcases h.foot i e with h1 | h1
    · exact hi h1
    · omega
  · rcases k.foot i hi with h1 | h1
    · exact h.foot i h1
    · exact Or.inr (by omega)
  · rcases k.data i hi with h1 | h1
    · exact h.data i h1
    · exact Or.inr (by omega)
theorem EntW.keep {w w' : World} {x : Ab} (h : EntW w x) (hb : w'.heap[x.b]? = w.heap[x.b]?) (hq : ∀ g, x.q.ownBlock = some g → w'.heap[g]? = w.heap[g]?) (hd : ∀ d ∈ x.ds, ∀ g, d.2.ownBlock = some g → w'.heap[g]? = w.heap[g]?) : EntW w' x :=
  ⟨hb.trans h.box, h.row.keep hq, fun d hx => (h.data d hx).keep (hd d hx), h.oks, h.dr⟩
theorem EntW.below {w w' : World} {x : Ab} (h : EntW w x) (hb : Below w.heap.size w w') : EntW w' x :=
  h.keep (hb.block _ (heap_lt h.box)) (fun g hg => hb.block g (h.row.lt hg)) (fun d hx g hg => hb.block g ((h.data d hx).lt hg))
theorem PoW.below {w w' : World} {c m : Nat} {M D : Int} {L : List Ab} (h : PoW w c m M D L) (hb : Below w.heap.size w w') : PoW w' c m M D L :=
  { h with box := kept h.box hb, map := h.map.keep (hb.block _ h.map.lt), ents := fun x hx => (h.ents x hx).below hb }
/-- the blocks that hold a table. -/
def PF (c m : Nat) (L : List Ab) (k : Nat) : Prop := k = c ∨ PK m L k ∨ k ∈ L.flatMap (fun x => dblk x.ds)
theorem Row.obj {w : World} {e : TypeId} {v : Value} {vs : List Value} (h : Row w e v vs) {g : Nat} (hg : v.ownBlock = some g) : ∃ cur f, w.heap[g]? = some (.cells cur e f) := by
  rcases h with ⟨rfl, _⟩ | ⟨g', cap, cur, lo, hi, rfl, h1, _⟩
  · simp [Value.ownBlock] at hg
  · simp [Value.ownBlock] at hg; subst hg; exact ⟨_, _, h1⟩
theorem mem_dblk {ds : List (Dg × Value)} {k : Nat} : k ∈ dblk ds ↔ ∃ d ∈ ds, d.2.ownBlock = some k := by simp [dblk]
theorem PoW.keep {w w' : World} {c m : Nat} {M D : Int} {L : List Ab} (h : PoW w c m M D L) (hk : ∀ k, PF c m L k → w'.heap[k]? = w.heap[k]?) : PoW w' c m M D L :=
  { h with
    box := (hk c (Or.inl rfl)).trans h.box
    map := h.map.keep (hk m (Or.inr (Or.inl (Or.inl rfl))))
    ents := fun x hx => (h.ents x hx).keep (hk _ (Or.inr (Or.inl (Or.inr ⟨x, hx, Or.inl rfl⟩)))) (fun g hg => hk g (Or.inr (Or.inl (Or.inr ⟨x, hx, Or.inr hg⟩))))
      (fun d hd g hg => hk g (Or.inr (Or.inr (List.mem_flatMap.2 ⟨x, hx, mem_dblk.2 ⟨d, hd, hg⟩⟩)))) }
theorem PoW.lt {w : World} {c m : Nat} {M D : Int} {L : List Ab} (h : PoW w c m M D L) : ∀ k, PF c m L k → k < w.heap.size := by
  rintro k (rfl | (rfl | ⟨x, hx, rfl | hq⟩) | hk)
  · exact heap_lt h.box
  · exact h.map.lt
  · exact heap_lt (h.ents x hx).box
  · exact (h.ents x hx).row.lt hq
  · obtain ⟨x, hx, hk⟩ := List.mem_flatMap.1 hk
    obtain ⟨d, hd, hg⟩ := mem_dblk.1 hk
    exact ((h.ents x hx).data d hd).lt hg
theorem nodup_mid {α : Type} {A B C : List α} (h : (A ++ B ++ C).Nodup) {a : α} (ha : a ∈ B) : a ∉ A ∧ a ∉ C := by
  rw [List.nodup_append, List.nodup_append] at h
  exact ⟨fun h1 => h.1.2.2 a h1 a ha rfl, fun h1 => h.2.2 a (List.mem_append_right _ ha) a h1 rfl⟩
/-- one entry turns. -/
theorem PoW.turn {w w' : World} {c m : Nat} {M D : Int} {L1 L2 : List Ab} {x x' : Ab} (h : PoW w c m M D (L1 ++ x :: L2)) (ho : Only (fun k => k = x.b ∨ x.q.ownBlock = some k) w w') (he : EntW w' x') (hi : x'.ip = x.ip) (hb : x'.b = x.b)
    (hq : ∀ k, x'.q.ownBlock = some k → x.q.ownBlock = some k ∨ w.heap.size ≤ k) (F : List Nat) (hF : F.Nodup) (hFn : ∀ k ∈ F, w.heap.size ≤ k) (hd : (dblk x'.ds).Sublist (dblk x.ds ++ F)) (hlen : (x'.ds.length : Int) ≤ D) :
    PoW w' c m M D (L1 ++ x' :: L2) ∧ PAct w w' m (L1 ++ x :: L2) (L1 ++ x' :: L2) := by
  have hx : x ∈ L1 ++ x :: L2 := by simp
  have ex := h.ents x hx
  have hsub : ∀ y, y ∈ L1 ∨ y ∈ L2 → y ∈ L1 ++ x :: L2 := fun y hy => by
    rcases hy with hy | hy
    · exact List.mem_append_left _ hy
    · exact List.mem_append_right _ (List.mem_cons_of_mem _ hy)
  -- other boxes and rows
  have hbn : ∀ y, y ∈ L1 ∨ y ∈ L2 → y.b ≠ x.b := fun y hy e => by
    have := h.nb
    rw [List.map_append, List.map_cons, show L1.map (·.b) ++ x.b :: L2.map (·.b) = L1.map (·.b) ++ [x.b] ++ L2.map (·.b) by simp] at this
    have := nodup_mid this (a := x.b) (by simp)
    rcases hy with hy | hy
    · exact this.1 (e ▸ List.mem_map.2 ⟨y, hy, rfl⟩)
    · exact this.2 (e ▸ List.mem_map.2 ⟨y, hy, rfl⟩)
  have hqn : ∀ y, y ∈ L1 ∨ y ∈ L2 → ∀ k, y.q.ownBlock = some k → x.q.ownBlock ≠ some k := fun y hy k e1 e2 => by
    have := h.nq
    rw [show L1 ++ x :: L2 = L1 ++ [x] ++ L2 by simp, List.filterMap_append, List.filterMap_append] at this
    have := nodup_mid this (a := k) (by simp [e2])
    rcases hy with hy | hy
    · exact this.1 (List.mem_filterMap.2 ⟨y, hy, e1⟩)
    · exact this.2 (List.mem_filterMap.2 ⟨y, hy, e1⟩)
  have hne : ∀ {g : Nat} {cs : Array Value} {t : TypeId} {f : Nat × Nat}, w.heap[g]? = some (.cells cs t f) → t ≠ 85 → t ≠ 53 → ¬ (g = x.b ∨ x.q.ownBlock = some g) := fun {g cs t f} hg h1 h2 hk => by
    rcases hk with rfl | hk
    · rw [ex.box] at hg; simp only [Option.some.injEq, Obj.cells.injEq] at hg; exact h1 hg.2.1.symm
    · obtain ⟨cur, hc⟩ := ex.row.obj hk
      rw [hc] at hg; simp only [Option.some.injEq, Obj.cells.injEq] at hg; exact h2 hg.2.1.symm
  have hmn : ¬ (m = x.b ∨ x.q.ownBlock = some m) := fun hk => by
    obtain ⟨es, clock, hm, _⟩ := h.map
    rcases hk with rfl | hk
    · rw [ex.box] at hm; simp at hm
    · obtain ⟨cur, hc⟩ := ex.row.obj hk
      rw [hc] at hm; simp at hm
  have hents : ∀ y, y ∈ L1 ∨ y ∈ L2 → EntW w' y := fun y hy => by
    have ey := h.ents y (hsub y hy)
    refine ey.keep (ho.block _ (fun hk => ?_) (heap_lt ey.box)) (fun g hg => ho.block _ (fun hk => ?_) (ey.row.lt hg)) (fun d hd g hg => ?_)
    · rcases hk with hk | hk
      · exact hbn y hy hk
      · obtain ⟨cur, hc⟩ := ex.row.obj hk
        rw [ey.box] at hc; simp only [Option.some.injEq, Obj.cells.injEq] at hc; exact absurd hc.2.1 (by decide)
    · rcases hk with rfl | hk
      · obtain ⟨cur, hc⟩ := ey.row.obj hg
        rw [ex.box] at hc; simp only [Option.some.injEq, Obj.cells.injEq] at hc; exact absurd hc.2.1 (by decide)
      · exact hqn y hy g hg hk
    · obtain ⟨cur, f, hc⟩ := (ey.data d hd).obj hg
      exact ho.block _ (hne hc (by decide) (by decide)) (heap_lt hc)
  have hlt := h.lt
  refine ⟨{ box := (ho.block c (hne h.box (by decide) (by decide)) (heap_lt h.box)).trans h.box, map := (h.map.keep (ho.block m hmn h.map.lt)).same (by simp [hi, hb]), ents := fun y hy => ?_, nb := by have := h.nb; simpa [hb] using this, nq := ?_, nd := ?_, most := h.most, depth := h.depth, len := by have := h.len; simpa using this, deep := fun y hy => ?_, nums := fun y hy => ?_ }, ⟨ho.mono fun k hk => Or.inr ⟨x, hx, hk⟩, fun k hk => ?_, fun k hk => ?_⟩⟩
  · rcases List.mem_append.1 hy with hy | hy
    · exact hents y (Or.inl hy)
    · rcases List.mem_cons.1 hy with rfl | hy
      · exact he
      · exact hents y (Or.inr hy)
  · have hq0 := h.nq
    rw [show L1 ++ x :: L2 = L1 ++ [x] ++ L2 by simp, List.filterMap_append, List.filterMap_append] at hq0
    rw [show L1 ++ x' :: L2 = L1 ++ [x'] ++ L2 by simp, List.filterMap_append, List.filterMap_append]
    cases e : x'.q.ownBlock with
    | none =>
      rw [show List.filterMap (fun y : Ab => y.q.ownBlock) [x'] = [] by simp [e], List.append_nil]
      exact hq0.sublist (by rw [List.append_assoc]; exact List.Sublist.append_left (List.sublist_append_right _ _) _)
    | some k =>
      rw [show List.filterMap (fun y : Ab => y.q.ownBlock) [x'] = [k] by simp [e]]
      rcases hq k e with h1 | h1
      · rw [show List.filterMap (fun y : Ab => y.q.ownBlock) [x] = [k] by simp [h1]] at hq0
        exact hq0
      · have hnew : ∀ y, y ∈ L1 ∨ y ∈ L2 → y.q.ownBlock ≠ some k := fun y hy e2 => by
          have := (h.ents y (hsub y hy)).row.lt e2; omega
        have h0 : (List.filterMap (fun y : Ab => y.q.ownBlock) L1 ++ List.filterMap (fun y : Ab => y.q.ownBlock) L2).Nodup := hq0.sublist (by rw [List.append_assoc]; exact List.Sublist.append_left (List.sublist_append_right _ _) _)
        rw [List.append_assoc, List.singleton_append]
        have hp : (List.filterMap (fun y : Ab => y.q.ownBlock) L1 ++ k :: List.filterMap (fun y : Ab => y.q.ownBlock) L2).Perm (k :: (List.filterMap (fun y : Ab => y.q.ownBlock) L1 ++ List.filterMap (fun y : Ab => y.q.ownBlock) L2)) := List.perm_middle
        rw [hp.nodup_iff, List.nodup_cons]
        refine ⟨fun hk => ?_, h0⟩
        rcases List.mem_append.1 hk with hk | hk
        · obtain ⟨y, hy, hy2⟩ := List.mem_filterMap.1 hk; exact hnew y (Or.inl hy) hy2
        · obtain ⟨y, hy, hy2⟩ := List.mem_filterMap.1 hk; exact hnew y (Or.inr hy) hy2
  · have hd0 := h.nd
    rw [show L1 ++ x :: L2 = L1 ++ [x] ++ L2 by simp, List.flatMap_append, List.flatMap_append, show List.flatMap (fun y : Ab => dblk y.ds) [x] = dblk x.ds by simp] at hd0
    rw [show L1 ++ x' :: L2 = L1 ++ [x'] ++ L2 by simp, List.flatMap_append, List.flatMap_append, show List.flatMap (fun y : Ab => dblk y.ds) [x'] = dblk x'.ds by simp]
    have h2 : (List.flatMap (fun y : Ab => dblk y.ds) L1 ++ (dblk x.ds ++ F) ++ List.flatMap (fun y : Ab => dblk y.ds) L2).Nodup := by
      have hp : (List.flatMap (fun y : Ab => dblk y.ds) L1 ++ (dblk x.ds ++ F) ++ List.flatMap (fun y : Ab => dblk y.ds) L2).Perm (List.flatMap (fun y : Ab => dblk y.ds) L1 ++ dblk x.ds ++ List.flatMap (fun y : Ab => dblk y.ds) L2 ++ F) := by
        simp only [List.append_assoc]
        exact List.Perm.append_left _ (List.Perm.append_left _ List.perm_append_comm)
      rw [hp.nodup_iff, List.nodup_append]
      refine ⟨hd0, hF, fun a ha b hb e => ?_⟩
      have h3 := hFn b hb
      have h4 : a ∈ (L1 ++ x :: L2).flatMap fun y => dblk y.ds := by
        rw [show L1 ++ x :: L2 = L1 ++ [x] ++ L2 by simp, List.flatMap_append, List.flatMap_append, show List.flatMap (fun y : Ab => dblk y.ds) [x] = dblk x.ds by simp]; exact ha
      have := hlt a (Or.inr (Or.inr h4)); omega
    exact h2.sublist (List.Sublist.append_right (List.Sublist.append_left hd _) _)
  · rcases List.mem_append.1 hy with hy | hy
    · exact h.deep y (hsub y (Or.inl hy))
    · rcases List.mem_cons.1 hy with rfl | hy
      · exact hlen
      · exact h.deep y (hsub y (Or.inr hy))
  · rcases List.mem_append.1 hy with hy | hy
    · exact h.nums y (hsub y (Or.inl hy))
    · rcases List.mem_cons.1 hy with rfl | hy
      · rw [hi]; exact h.nums x hx
      · exact h.nums y (hsub y (Or.inr hy))
  · rcases hk with rfl | ⟨y, hy, hk⟩
    · exact Or.inl (Or.inl rfl)
    · rcases List.mem_append.1 hy with hy | hy
      · exact Or.inl (Or.inr ⟨y, hsub y (Or.inl hy), hk⟩)
      · rcases List.mem_cons.1 hy with rfl | hy
        · rcases hk with rfl | hk
          · exact Or.inl (Or.inr ⟨x, hx, Or.inl hb⟩)
          · rcases hq k hk with h1 | h1
            · exact Or.inl (Or.inr ⟨x, hx, Or.inr h1⟩)
            · exact Or.inr h1
        · exact Or.inl (Or.inr ⟨y, hsub y (Or.inr hy), hk⟩)
  · obtain ⟨y, hy, hk2⟩ := List.mem_flatMap.1 hk
    rcases List.mem_append.1 hy with hy | hy
    · exact Or.inl (List.mem_flatMap.2 ⟨y, hsub y (Or.inl hy), hk2⟩)
    · rcases List.mem_cons.1 hy with rfl | hy
      · rcases List.mem_append.1 (hd.subset hk2) with h1 | h1
        · exact Or.inl (List.mem_flatMap.2 ⟨x, hx, h1⟩)
        · exact Or.inr (hFn k h1)
      · exact Or.inl (List.mem_flatMap.2 ⟨y, hsub y (Or.inr hy), hk2⟩)
/-- a new port, in a new block. -/
theorem PoW.add {w w' : World} {c m : Nat} {M D : Int} {L : List Ab} (h : PoW w c m M D L) (n : Int) (b : Nat) (hn : 1 ≤ n ∧ n ≤ 65535) (hl : look L n = none) (hlen : (L.length : Int) < M) (hb : w.heap[b]? = some (.cells #[.slice none 0 0, .int .i64 0] 85 (0, 0)))
    (hbn : ∀ x ∈ L, x.b ≠ b) (hm : MapE w' m (put L ⟨n, b, .slice none 0 0, 0, []⟩)) (hbut : But m w w') : PoW w' c m M D (put L ⟨n, b, .slice none 0 0, 0, []⟩) := by
  have hp := h.map.rise.perm_put ⟨n, b, .slice none 0 0, 0, []⟩
  rw [del_none (look_none hl)] at hp
  have hnm : ∀ {g : Nat} {cs : Array Value} {t : TypeId} {f : Nat × Nat}, w.heap[g]? = some (.cells cs t f) → g ≠ m := fun {g cs t f} hg e => by
    subst e
    obtain ⟨es, clock, hm, _⟩ := h.map
    rw [hm] at hg; simp at hg
  have hmem : ∀ y, y ∈ put L ⟨n, b, .slice none 0 0, 0, []⟩ → y = ⟨n, b, .slice none 0 0, 0, []⟩ ∨ y ∈ L := fun y hy => List.mem_cons.1 (hp.mem_iff.1 hy)
  refine { box := keptBut h.box hbut (hnm h.box), map := hm, ents := fun y hy => ?_, nb := ?_, nq := ?_, nd := ?_, most := h.most, depth := h.depth, len := by rw [hp.length_eq]; simp; omega, deep := fun y hy => ?_, nums := fun y hy => ?_ }
  · rcases hmem y hy with rfl | hy
    · exact ⟨keptBut hb hbut (hnm hb), RowS.nil _ _ _, by simp, by simp, by simp⟩
    · have ey := h.ents y hy
      refine ey.keep (hbut.block _ (hnm ey.box) (heap_lt ey.box)) (fun g hg => ?_) (fun d hd g hg => ?_)
      · obtain ⟨cur, hc⟩ := ey.row.obj hg
        exact hbut.block _ (hnm hc) (heap_lt hc)
      · obtain ⟨cur, f, hc⟩ := (ey.data d hd).obj hg
        exact hbut.block _ (hnm hc) (heap_lt hc)
  · rw [(hp.map _).nodup_iff, List.map_cons, List.nodup_cons]
    refine ⟨fun hk => ?_, h.nb⟩
    obtain ⟨y, hy, e⟩ := List.mem_map.1 hk
    exact hbn y hy e
  · rw [(hp.filterMap _).nodup_iff, List.filterMap_cons]
    exact h.nq
  · rw [(hp.flatMap_right _).nodup_iff, List.flatMap_cons]
    exact h.nd
  · rcases hmem y hy with rfl | hy
    · have := h.depth; simp; omega
    · exact h.deep y hy
  · rcases hmem y hy with rfl | hy
    · exact hn
    · exact h.nums y hy
theorem flatMap_sub {α β : Type} (f : α → List β) : ∀ {a b : List α}, a.Sublist b → (a.flatMap f).Sublist (b.flatMap f)
  | _, _, .slnil => List.Sublist.refl _
  | _, _, .cons x h => by rw [List.flatMap_cons]; exact (flatMap_sub f h).trans (List.sublist_append_right _ _)
  | _, _, .cons_cons x h => by rw [List.flatMap_cons, List.flatMap_cons]; exact List.Sublist.append_left (flatMap_sub f h) _
theorem del_sub (L : List Ab) (a : Int) : (del L a).Sublist L := List.filter_sublist
/-- a port is closed. -/
theorem PoW.del {w w' : World} {c m : Nat} {M D : Int} {L : List Ab} (h : PoW w c m M D L) (a : Int) (hm : MapE w' m (del L a)) (hbut : But m w w') : PoW w' c m M D (del L a) := by
  have hnm : ∀ {g : Nat} {cs : Array Value} {t : TypeId} {f : Nat × Nat}, w.heap[g]? = some (.cells cs t f) → g ≠ m := fun {g cs t f} hg e => by
    subst e
    obtain ⟨es, clock, hm, _⟩ := h.map
    rw [hm] at hg; simp at hg
  have hs := del_sub L a
  refine { box := keptBut h.box hbut (hnm h.box), map := hm, ents := fun y hy => ?_, nb := h.nb.sublist (hs.map _), nq := h.nq.sublist (hs.filterMap _), nd := h.nd.sublist (flatMap_sub _ hs), most := h.most, depth := h.depth, len := by have := hs.length_le; have := h.len; omega, deep := fun y hy => h.deep y (hs.subset hy), nums := fun y hy => h.nums y (hs.subset hy) }
  have ey := h.ents y (hs.subset hy)
  refine ey.keep (hbut.block _ (hnm ey.box) (heap_lt ey.box)) (fun g hg => ?_) (fun d hd g hg => ?_)
  · obtain ⟨cur, hc⟩ := ey.row.obj hg
    exact hbut.block _ (hnm hc) (heap_lt hc)
  · obtain ⟨cur, f, hc⟩ := (ey.data d hd).obj hg
    exact hbut.block _ (hnm hc) (heap_lt hc)
end Go.Proofs.Ythipdchdbdmmnaa
