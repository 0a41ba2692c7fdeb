/-
  Neigh: entries as a rising list; the cache's map in memory, read as that list; a range over it.
-/
import Derived.Test.YtaaoelhmanahpaaNwBkJ
import Derived.Test.YtaaoelhmanahpaaAMac
import Derived.Maps.Keyed
import Derived.Maps.RangeRun
namespace Go.Proofs.Ytaaoelhmanahpaa
open Go.RowKit
open Go.ChangeMaps (setBlock)
set_option linter.all false

/-- an entry. -/
structure Ab where
  ip : Int
  unt : Int
  mac : Mac
  q : Int
  src : Int
  zs : List Int
deriving DecidableEq
def Ab.val (x : Ab) (v : Value) : Value := .agg #[.int .i64 x.unt, .int .u8 x.mac.b0, .int .u8 x.mac.b1, .int .u8 x.mac.b2, .int .u8 x.mac.b3, .int .u8 x.mac.b4, .int .u8 x.mac.b5, .int .i64 x.q, .int .u32 x.src, v]
def zeroE : Value := .agg #[.int .i64 0, .int .u8 0, .int .u8 0, .int .u8 0, .int .u8 0, .int .u8 0, .int .u8 0, .int .i64 0, .int .u32 0, .slice none 0 0]
def Rise (L : List Ab) : Prop := L.Pairwise fun x y => x.ip < y.ip
def look (L : List Ab) (i : Int) : Option Ab := L.find? fun x => x.ip == i
def del (L : List Ab) (i : Int) : List Ab := L.filter fun x => x.ip != i
def put (L : List Ab) (x : Ab) : List Ab := (L.filter fun y => decide (y.ip < x.ip)) ++ x :: L.filter fun y => decide (x.ip < y.ip)
theorem mem_del {L : List Ab} {i : Int} {x : Ab} : x ∈ del L i ↔ x ∈ L ∧ x.ip ≠ i := by simp [del]
theorem mem_put {L : List Ab} {x y : Ab} : y ∈ put L x ↔ y = x ∨ (y ∈ L ∧ y.ip ≠ x.ip) := by
  simp only [put, List.mem_append, List.mem_filter, List.mem_cons, decide_eq_true_eq]
  constructor
  · rintro (⟨h1, h2⟩ | h | ⟨h1, h2⟩)
    · exact Or.inr ⟨h1, by omega⟩
    · exact Or.inl h
    · exact Or.inr ⟨h1, by omega⟩
  · rintro (h | ⟨h1, h2⟩)
    · exact Or.inr (Or.inl h)
    · rcases Int.lt_or_gt_of_ne h2 with h | h
      · exact Or.inl ⟨h1, h⟩
      · exact Or.inr (Or.inr ⟨h1, h⟩)
theorem Rise.del {L : List Ab} (h : Rise L) (i : Int) : Rise (del L i) := List.Pairwise.filter _ h
theorem Rise.put {L : List Ab} (h : Rise L) (x : Ab) : Rise (put L x) := by
  unfold Rise Go.Proofs.Ytaaoelhmanahpaa.put
  rw [List.pairwise_append, List.pairwise_cons]
  refine ⟨List.Pairwise.filter _ h, ⟨fun y hy => by simpa using (List.mem_filter.1 hy).2, List.Pairwise.filter _ h⟩, fun a ha b hb => ?_⟩
  have h1 : a.ip < x.ip := by simpa using (List.mem_filter.1 ha).2
  rcases List.mem_cons.1 hb with rfl | hb
  · exact h1
  · have h2 : x.ip < b.ip := by simpa using (List.mem_filter.1 hb).2
    omega
theorem Rise.nodup {L : List Ab} (h : Rise L) : L.Nodup := h.imp fun hxy e => by rw [e] at hxy; omega
theorem Rise.inj {L : List Ab} (h : Rise L) {x y : Ab} (hx : x ∈ L) (hy : y ∈ L) (e : x.ip = y.ip) : x = y := by
  obtain ⟨i, hi, rfl⟩ := List.getElem_of_mem hx
  obtain ⟨j, hj, rfl⟩ := List.getElem_of_mem hy
  have := List.pairwise_iff_getElem.1 h
  rcases Nat.lt_trichotomy i j with k | k | k
  · have := this i j hi hj k; omega
  · subst k; rfl
  · have := this j i hj hi k; omega
theorem Rise.perm_del {L : List Ab} (h : Rise L) {y : Ab} (hy : y ∈ L) : L.Perm (y :: Go.Proofs.Ytaaoelhmanahpaa.del L y.ip) := by
  rw [List.perm_ext_iff_of_nodup h.nodup]
  · intro a
    rw [List.mem_cons, mem_del]
    constructor
    · intro ha
      by_cases e : a.ip = y.ip
      · exact Or.inl (h.inj ha hy e)
      · exact Or.inr ⟨ha, e⟩
    · rintro (rfl | ⟨h1, _⟩)
      · exact hy
      · exact h1
  · rw [List.nodup_cons]
    exact ⟨fun hm => (mem_del.1 hm).2 rfl, (h.del _).nodup⟩
theorem Rise.perm_put {L : List Ab} (h : Rise L) (x : Ab) : (Go.Proofs.Ytaaoelhmanahpaa.put L x).Perm (x :: Go.Proofs.Ytaaoelhmanahpaa.del L x.ip) := by
  rw [List.perm_ext_iff_of_nodup (h.put x).nodup]
  · intro a
    rw [List.mem_cons, mem_del, mem_put]
  · rw [List.nodup_cons]
    exact ⟨fun hm => (mem_del.1 hm).2 rfl, (h.del _).nodup⟩
theorem del_none {L : List Ab} {i : Int} (h : ∀ x ∈ L, x.ip ≠ i) : del L i = L := List.filter_eq_self.2 fun x hx => by simpa using h x hx
theorem look_some {L : List Ab} {i : Int} {x : Ab} (h : look L i = some x) : x ∈ L ∧ x.ip = i := ⟨List.mem_of_find?_eq_some h, by simpa using List.find?_some h⟩
theorem look_none {L : List Ab} {i : Int} (h : look L i = none) : ∀ x ∈ L, x.ip ≠ i := fun x hx => by simpa using List.find?_eq_none.1 h x hx
theorem look_of {L : List Ab} (h : Rise L) {x : Ab} (hx : x ∈ L) : look L x.ip = some x := by
  cases e : look L x.ip with
  | none => exact absurd rfl (look_none e x hx)
  | some y => rw [h.inj (look_some e).1 hx (look_some e).2]
theorem look_no {L : List Ab} {i : Int} (h : ∀ x ∈ L, x.ip ≠ i) : look L i = none := List.find?_eq_none.2 fun x hx => by simpa using h x hx
theorem put_length {L : List Ab} (h : Rise L) (x : Ab) : (put L x).length = (del L x.ip).length + 1 := by rw [(h.perm_put x).length_eq]; rfl

/-! ### The map -/
def ipOk (i : Int) : Prop := 0 ≤ i ∧ i ≤ 4294967295
theorem keyedU : Maps.Keyed Try.prog 39 := Maps.int_keyed Try.underlying39
theorem keyOfU {a : Int} (h : ipOk a) : keyOf Try.prog 39 (.int .u32 a) = some (.int .u32 a) := Maps.keyOf_int_mk Try.underlying39 (wf_u32 a h)
theorem zeroEnt (w : World) : (zeroValue 87).run Try.prog w = .ok zeroE w := by kernel_rfl
def kv (V : Int → Value) (x : Ab) : Value × Value := (.int .u32 x.ip, x.val (V x.ip))
def kvOf (e : MapEntry) : Value × Value := (e.key, e.val)
/-- what a map's block holds: these entries; V: each one's packet as a slice. -/
structure MapO (es : Array MapEntry) (clock : Nat) (L : List Ab) (V : Int → Value) : Prop where
  perm : (es.toList.map kvOf).Perm (L.map (kv V))
  rise : Rise L
  ips : ∀ x ∈ L, ipOk x.ip
  nd : (es.toList.map (·.born)).Nodup
  old : ∀ e ∈ es.toList, e.born < clock
def MapE (w : World) (m : Nat) (L : List Ab) (V : Int → Value) : Prop := ∃ es clock, w.heap[m]? = some (.map es clock) ∧ MapO es clock L V
def upd (V : Int → Value) (i : Int) (v : Value) : Int → Value := fun j => if j = i then v else V j
theorem upd_same (V : Int → Value) (i : Int) (v : Value) : upd V i v i = v := by simp [upd]
theorem upd_other (V : Int → Value) {i j : Int} (v : Value) (h : j ≠ i) : upd V i v j = V j := by simp [upd, h]
section
variable {w w' : World} {m : Nat} {L : List Ab} {V : Int → Value} {es : Array MapEntry} {clock : Nat}
theorem MapE.keep (h : MapE w m L V) (hk : w'.heap[m]? = w.heap[m]?) : MapE w' m L V := by
  obtain ⟨es, clock, h1, h2⟩ := h
  exact ⟨es, clock, hk.trans h1, h2⟩
theorem MapE.lt (h : MapE w m L V) : m < w.heap.size := by
  obtain ⟨es, clock, h1, h2⟩ := h
  exact heap_lt h1
theorem MapE.rise (h : MapE w m L V) : Rise L := by
  obtain ⟨es, clock, h1, h2⟩ := h
  exact h2.rise
theorem MapE.ips (h : MapE w m L V) : ∀ x ∈ L, ipOk x.ip := by
  obtain ⟨es, clock, h1, h2⟩ := h
  exact h2.ips
theorem MapO.mem (h : MapO es clock L V) {e : MapEntry} (he : e ∈ es.toList) : ∃ x ∈ L, e.key = .int .u32 x.ip ∧ e.val = x.val (V x.ip) := by
  have h1 : kvOf e ∈ L.map (kv V) := h.perm.mem_iff.1 (List.mem_map.2 ⟨e, he, rfl⟩)
  obtain ⟨x, hx, h2⟩ := List.mem_map.1 h1
  simp only [kv, kvOf, Prod.mk.injEq] at h2
  exact ⟨x, hx, h2.1.symm, h2.2.symm⟩
theorem MapO.find (h : MapO es clock L V) {a : Int} (ha : ipOk a) (w : World) :
    ((Instr.findKey 39 (.int .u32 a) es.toList).run Try.prog w = .ok none w ∧ look L a = none) ∨
    ∃ j e x, (Instr.findKey 39 (.int .u32 a) es.toList).run Try.prog w = .ok (some (j, e.val)) w ∧ es.toList[j]? = some e ∧ look L a = some x ∧ x.ip = a ∧ e.key = .int .u32 a ∧ e.val = x.val (V a) := by
  have hk : ∀ e ∈ es.toList, ∃ l, keyOf Try.prog 39 e.key = some l := fun e he => by
    obtain ⟨x, hx, h1, _⟩ := h.mem he
    rw [h1]
    exact ⟨_, keyOfU (h.ips x hx)⟩
  rcases keyedU.find w (keyOfU ha) es.toList hk with ⟨h1, h2⟩ | ⟨j, e, h1, h2, h3⟩
  · refine Or.inl ⟨h1, look_no fun x hx hxa => ?_⟩
    have h4 : kv V x ∈ es.toList.map kvOf := h.perm.mem_iff.2 (List.mem_map.2 ⟨x, hx, rfl⟩)
    obtain ⟨e, he, h5⟩ := List.mem_map.1 h4
    simp only [kv, kvOf, Prod.mk.injEq] at h5
    exact h2 e he (by rw [h5.1, hxa])
  · obtain ⟨x, hx, h4, h5⟩ := h.mem (List.mem_of_getElem? h2)
    have hxa : x.ip = a := by rw [h3] at h4; simpa using h4.symm
    subst hxa
    exact Or.inr ⟨j, e, x, h1, h2, look_of h.rise hx, rfl, h3, h5⟩
/-- what a look-up reads. -/
def entV (L : List Ab) (V : Int → Value) (a : Int) : Value := match look L a with
  | some x => x.val (V a)
  | none => zeroE
theorem MapE.look (h : MapE w m L V) {a : Int} (ha : ipOk a) : (Instr.lookup 74 (.map (some m)) (.int .u32 a) false).run Try.prog w = .ok (entV L V a) w := by
  obtain ⟨es, clock, hm, hO⟩ := h
  rcases hO.find ha w with ⟨h1, h2⟩ | ⟨j, e, x, h1, h2, h3, h4, _, h5⟩
  · simp [Instr.lookup, run_underlying Try.underlying74, MapKept.run_getObj_map hm, keyedU.check w _ (keyOfU ha), h1, zeroEnt, Result.andThen, entV, h2]; rfl
  · simp [Instr.lookup, run_underlying Try.underlying74, MapKept.run_getObj_map hm, keyedU.check w _ (keyOfU ha), h1, Result.andThen, entV, h3, h5]
theorem MapE.lookOk (h : MapE w m L V) {a : Int} (ha : ipOk a) : (Instr.lookup 74 (.map (some m)) (.int .u32 a) true).run Try.prog w = .ok (.tuple #[entV L V a, .bool (Go.Proofs.Ytaaoelhmanahpaa.look L a).isSome]) w := by
  obtain ⟨es, clock, hm, hO⟩ := h
  rcases hO.find ha w with ⟨h1, h2⟩ | ⟨j, e, x, h1, h2, h3, h4, _, h5⟩
  · simp [Instr.lookup, run_underlying Try.underlying74, MapKept.run_getObj_map hm, keyedU.check w _ (keyOfU ha), h1, zeroEnt, Result.andThen, entV, h2]; rfl
  · simp [Instr.lookup, run_underlying Try.underlying74, MapKept.run_getObj_map hm, keyedU.check w _ (keyOfU ha), h1, Result.andThen, entV, h3, h5]
theorem heap_setBlock {w : World} {m : Nat} {o p : Obj} (h : w.heap[m]? = some o) : (setBlock w m p).heap[m]? = some p := by
  have := heap_lt h
  simp [setBlock, this]
theorem heap_setBlock_ne {w : World} {m k : Nat} {p : Obj} (h : k ≠ m) : (setBlock w m p).heap[k]? = w.heap[k]? := by
  show (w.heap.setIfInBounds m p)[k]? = _
  rw [Array.getElem?_setIfInBounds_ne (Ne.symm h)]
theorem but_setBlock (w : World) (m : Nat) (o : Obj) : But m w (setBlock w m o) := ⟨rfl, rfl, rfl, by simp [setBlock], fun k hk _ => heap_setBlock_ne hk⟩
theorem perm_erase {α : Type} : ∀ {l : List α} {j : Nat} {a : α}, l[j]? = some a → l.Perm (a :: l.eraseIdx j)
  | [], j, a, h => by simp at h
  | b :: l, 0, a, h => by simp at h; subst h; exact List.Perm.refl _
  | b :: l, j + 1, a, h => by
    simp at h
    have := perm_erase h
    exact (this.cons b).trans (List.Perm.swap _ _ _)
theorem MapO.erase (h : MapO es clock L V) {j : Nat} {e : MapEntry} {x : Ab} (hj : es.toList[j]? = some e) (hx : Go.Proofs.Ytaaoelhmanahpaa.look L x.ip = some x) (hv : kvOf e = kv V x) : ((es.toList.eraseIdx j).map kvOf).Perm ((del L x.ip).map (kv V)) := by
  have h1 := (perm_erase hj).map kvOf
  have h2 := (h.rise.perm_del (look_some hx).1).map (kv V)
  rw [List.map_cons] at h1 h2
  rw [hv] at h1
  exact ((h1.symm.trans h.perm).trans h2).cons_inv
theorem kv_upd {L : List Ab} {V : Int → Value} {a : Int} {v : Value} (h : ∀ x ∈ L, x.ip ≠ a) : L.map (kv (upd V a v)) = L.map (kv V) := List.map_congr_left fun x hx => by
  unfold kv; rw [upd_other V v (h x hx)]
theorem MapE.put (h : MapE w m L V) (x : Ab) (ha : ipOk x.ip) (v : Value) :
    ∃ w', (Instr.mapUpdate 74 (.map (some m)) (.int .u32 x.ip) (x.val v)).run Try.prog w = .ok () w' ∧ MapE w' m (Go.Proofs.Ytaaoelhmanahpaa.put L x) (upd V x.ip v) ∧ But m w w' := by
  obtain ⟨es, clock, hm, hO⟩ := h
  have hgoal : ((kv (upd V x.ip v) x) :: (del L x.ip).map (kv V)).Perm ((Go.Proofs.Ytaaoelhmanahpaa.put L x).map (kv (upd V x.ip v))) := by
    have h1 := (hO.rise.perm_put x).map (kv (upd V x.ip v))
    rw [List.map_cons, kv_upd (L := del L x.ip) (fun y hy => (mem_del.1 hy).2)] at h1
    exact h1.symm
  have hips : ∀ y ∈ Go.Proofs.Ytaaoelhmanahpaa.put L x, ipOk y.ip := fun y hy => by
    rcases mem_put.1 hy with rfl | ⟨h1, _⟩
    · exact ha
    · exact hO.ips y h1
  have hx : kv (upd V x.ip v) x = (.int .u32 x.ip, x.val v) := by unfold kv; rw [upd_same]
  rcases hO.find ha w with ⟨h1, h2⟩ | ⟨j, e, y, h1, h2, h3, h4, hek, h5⟩
  · refine ⟨setBlock w m (.map (es.push ⟨.int .u32 x.ip, x.val v, clock⟩) (clock + 1)), ?_, ⟨_, _, heap_setBlock hm, ?_, hO.rise.put x, hips, ?_, ?_⟩, but_setBlock _ _ _⟩
    · simp [Instr.mapUpdate, run_underlying Try.underlying74, MapKept.run_getObj_map hm, keyedU.check w false (keyOfU ha), h1, MapKept.run_setObj_map _ hm, Result.andThen, setBlock]
    · rw [Array.toList_push, List.map_append]
      refine (List.perm_append_comm.trans ?_).trans hgoal
      rw [hx]
      refine List.Perm.cons _ ?_
      rw [del_none (look_none h2)]
      exact hO.perm
    · rw [Array.toList_push, List.map_append, List.nodup_append]
      refine ⟨hO.nd, by simp, fun a ha b hb => ?_⟩
      obtain ⟨e, he, rfl⟩ := List.mem_map.1 ha
      have := hO.old e he
      simp at hb; omega
    · intro e he
      rw [Array.toList_push] at he
      rcases List.mem_append.1 he with he | he
      · have := hO.old e he; omega
      · simp at he; subst he; simp
  · have hjs : j < es.size := by simpa using (List.getElem?_eq_some_iff.1 h2).1
    have hje : es[j]? = some e := by rw [← Array.getElem?_toList]; exact h2
    have hjg : es[j] = e := (Array.getElem?_eq_some_iff.1 hje).2
    have hmod : (es.modify j fun e => { e with key := .int .u32 x.ip, val := x.val v }).toList = es.toList.set j ⟨.int .u32 x.ip, x.val v, e.born⟩ := by
      apply List.ext_getElem?
      intro i
      rw [Array.getElem?_toList, Array.getElem?_modify, List.getElem?_set]
      by_cases hij : j = i
      · subst hij; simp [hjg, hjs]
      · simp [hij]
    have hset : (es.toList.set j ⟨.int .u32 x.ip, x.val v, e.born⟩).Perm (⟨.int .u32 x.ip, x.val v, e.born⟩ :: es.toList.eraseIdx j) := by
      have := perm_erase (l := es.toList.set j ⟨.int .u32 x.ip, x.val v, e.born⟩) (j := j) (a := ⟨.int .u32 x.ip, x.val v, e.born⟩) (by rw [List.getElem?_set]; simp [hjs])
      rwa [List.eraseIdx_set_eq] at this
    have hborn : (es.toList.set j ⟨.int .u32 x.ip, x.val v, e.born⟩).map (·.born) = es.toList.map (·.born) := by
      apply List.ext_getElem?
      intro i
      rw [List.getElem?_map, List.getElem?_map, List.getElem?_set]
      by_cases hij : j = i
      · subst hij; simp [hjs, hjg]
      · simp [hij]
    refine ⟨setBlock w m (.map (es.modify j fun e => { e with key := .int .u32 x.ip, val := x.val v }) clock), ?_, ⟨_, _, heap_setBlock hm, ?_, hO.rise.put x, hips, ?_, ?_⟩, but_setBlock _ _ _⟩
    · simp [Instr.mapUpdate, run_underlying Try.underlying74, MapKept.run_getObj_map hm, keyedU.check w false (keyOfU ha), h1, hje, hek, keyedU.stays w (keyOfU ha), MapKept.run_setObj_map _ hm, Result.andThen, setBlock]
    · rw [hmod]
      refine ((hset.map kvOf).trans ?_).trans hgoal
      rw [List.map_cons, hx]
      refine List.Perm.cons _ ?_
      have := hO.erase h2 (x := y) (by rw [h4]; exact h3) (by simp only [kvOf, kv, h4, hek, h5])
      rwa [h4] at this
    · rw [hmod, hborn]; exact hO.nd
    · intro z hz
      rw [hmod] at hz
      rcases List.mem_or_eq_of_mem_set hz with h6 | h6
      · exact hO.old z h6
      · subst h6; exact hO.old e (List.mem_of_getElem? h2)
theorem MapE.drop (h : MapE w m L V) {a : Int} (ha : ipOk a) (ty : TypeId) :
    ∃ w', (Builtin.delete_ #[74, 39] ty #[.map (some m), .int .u32 a]).run Try.prog w = .ok (.tuple #[]) w' ∧ MapE w' m (del L a) V ∧ But m w w' := by
  obtain ⟨es, clock, hm, hO⟩ := h
  rcases hO.find ha w with ⟨h1, h2⟩ | ⟨j, e, x, h1, h2, h3, h4, hek, h5⟩
  · refine ⟨setBlock w m (.map es clock), ?_, ⟨_, _, heap_setBlock hm, by rw [del_none (look_none h2)]; exact hO⟩, but_setBlock _ _ _⟩
    simp [Builtin.delete_, run_underlying Try.underlying74, MapKept.run_getObj_map hm, keyedU.check w _ (keyOfU ha), h1, MapKept.run_setObj_map _ hm, Result.andThen, setBlock]
  · subst h4
    have hjs : j < es.size := by simpa using (List.getElem?_eq_some_iff.1 h2).1
    have hsub : (es.eraseIdxIfInBounds j).toList = es.toList.eraseIdx j := by
      unfold Array.eraseIdxIfInBounds
      rw [dif_pos hjs]
      simp
    refine ⟨setBlock w m (.map (es.eraseIdxIfInBounds j) clock), ?_, ⟨_, _, heap_setBlock hm, ?_, hO.rise.del _, fun y hy => hO.ips y (mem_del.1 hy).1, ?_, ?_⟩, but_setBlock _ _ _⟩
    · simp [Builtin.delete_, run_underlying Try.underlying74, MapKept.run_getObj_map hm, keyedU.check w _ (keyOfU ha), h1, MapKept.run_setObj_map _ hm, Result.andThen, setBlock]
    · rw [hsub]; exact hO.erase h2 h3 (by simp only [kvOf, kv, hek, h5])
    · rw [hsub]
      exact hO.nd.sublist ((List.eraseIdx_sublist _ _).map _)
    · intro z hz
      rw [hsub] at hz
      exact hO.old z (List.mem_of_mem_eraseIdx hz)
theorem MapE.len (h : MapE w m L V) (ty : TypeId) : (Builtin.len_ #[74] ty #[.map (some m)]).run Try.prog w = .ok (.int .i64 L.length) w := by
  obtain ⟨es, clock, hm, hO⟩ := h
  have hl : es.size = L.length := by have := hO.perm.length_eq; simpa using this
  simp [Builtin.len_, run_underlying Try.underlying74, MapKept.run_getObj_map hm, goInt, Result.andThen, hl]
theorem MapE.wipe (h : MapE w m L V) (ty : TypeId) : ∃ w', (Builtin.clear_ #[74] ty #[.map (some m)]).run Try.prog w = .ok (.tuple #[]) w' ∧ MapE w' m [] V ∧ But m w w' := by
  obtain ⟨es, clock, hm, hO⟩ := h
  refine ⟨setBlock w m (.map #[] clock), ?_, ⟨_, _, heap_setBlock hm, by simp, List.Pairwise.nil, by simp, by simp, by simp⟩, but_setBlock _ _ _⟩
  simp [Builtin.clear_, run_underlying Try.underlying74, MapKept.run_getObj_map hm, MapKept.run_setObj_map _ hm, Result.andThen, setBlock]
end
end Go.Proofs.Ytaaoelhmanahpaa
