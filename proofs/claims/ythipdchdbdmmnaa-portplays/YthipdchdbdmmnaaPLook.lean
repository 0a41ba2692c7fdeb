/-
  Port: Look.
-/
import Derived.Test.YthipdchdbdmmnaaPTake
import Derived.Test.YthipdchdbdmmnaaIter
namespace Go.Proofs.Ythipdchdbdmmnaa
open Go.RowKit Go.Maps Go.Shelf
open Go.WideElems (Fit rd rg)
set_option linter.all false

/-! ### The numbers, sorted -/
theorem sorts_any (m : Nat) : AnyZI.SortsIn Try.prog Try.sortedA_ren Fence.wide m :=
  ⟨fun blk off cap ss W hH hblk hsz => callsIn_wide.2 (AnyM.slices_Sort_int Try.sortA blk off cap ss W hH hblk hsz),
   fun p cap W => callsIn_wide.2 (AnyM.slices_Sort_int_none Try.sortA p cap W)⟩
def valI : Value → Int | .int _ a => a | _ => 0
def readNo (_ : Value) : Option (DataW Unit × List MemPlace) := some (.nil, [])
theorem Rise.sorted {L : List Ab} (h : Rise L) {ss : List Int} (hp : ss.Perm (L.map (·.ip))) : ss.mergeSort (fun x y => decide (x ≤ y)) = L.map (·.ip) := by
  have h1 : ss.mergeSort leI = (L.map (·.ip)).mergeSort leI := mergeSort_of_perm_i hp
  have h2 : (L.map (·.ip)).mergeSort leI = L.map (·.ip) := List.mergeSort_of_pairwise (List.pairwise_map.2 (h.imp fun hxy => by simp only [decide_eq_true_eq]; omega))
  exact h1.trans h2
theorem MapE.owns {w : World} {m : Nat} {L : List Ab} (h : MapE w m L) (hl : L.length ≤ 16) : ∃ D0, w.ownsMap Try.prog 3 readNo m 16 D0 ∧ (intKeys D0).Perm (L.map (·.ip)) ∧ Maps.size D0 = L.length := by
  obtain ⟨es, clock, hm, hO⟩ := h
  have hsz : es.size = L.length := by have := hO.perm.length_eq; simpa using this
  have hrd : ∀ e ∈ es.toList, ∃ x ∈ L, e.key = .int .i64 x.ip ∧ rd Try.prog 3 readNo e = some (.int .i64 x.ip, .nil) := fun e he => by
    obtain ⟨x, hx, h1, h2⟩ := hO.mem he
    refine ⟨x, hx, h1, ?_⟩
    unfold rd
    rw [h1, keyOfI (hO.ips x hx)]
    rfl
  have hkeys : (es.toList.map (·.key)).Perm (L.map fun x => Value.int .i64 x.ip) := by
    have := hO.perm.map Prod.fst
    rw [List.map_map, List.map_map] at this
    exact this
  refine ⟨_, ⟨es, clock, hm, ⟨by rw [hsz]; unfold maxLen; omega, ⟨hO.old, hO.nd, ?_⟩, fun e he => ?_⟩, by omega, rfl⟩, ?_, ?_⟩
  · rw [hkeys.nodup_iff]
    exact List.pairwise_map.2 (hO.rise.imp fun hxy e => by simp at e; omega)
  · obtain ⟨x, _, _, h2⟩ := hrd e he
    exact ⟨_, h2⟩
  · unfold intKeys
    refine ((WideShapes.sorted_perm _).map _).trans ?_
    rw [List.map_map]
    have h3 : es.toList.map ((fun p : Lit × DataW Unit => _root_.Go.intOf p.1) ∘ rg Try.prog 3 readNo) = (es.toList.map (·.key)).map valI := by
      rw [List.map_map]
      refine List.map_congr_left fun e he => ?_
      obtain ⟨x, _, h1, h2⟩ := hrd e he
      simp [rg, h2, h1, _root_.Go.intOf, valI]
    rw [h3]
    have := hkeys.map valI
    rw [List.map_map (l := L)] at this
    exact this
  · show (List.foldr DataW.insert [] _).length = _
    rw [(WideShapes.sorted_perm _).length_eq, List.length_map, Array.length_toList, hsz]
theorem keys_any (m : Nat) (W : World) : Calls Try.prog 25 #[.map (some m)] W fun e w' => e = .returned (.func (.func 51) #[] #[.pointer (some ⟨W.heap.size, 0, none⟩)]) ∧ w' = W.alloc (.cells #[.map (some m)] 73) :=
  (callsIn_wide (n := 5)).1 (AnyZI.keys_in Try.keysA Fence.wide 5 trivial rfl (some m) W)
theorem sorted_any (m : Nat) (L : List Ab) (W : World) (h : MapE W m L) (hl : L.length ≤ 16) :
    Calls Try.prog 24 #[.func (.func 51) #[] #[.pointer (some ⟨W.heap.size, 0, none⟩)]] (W.alloc (.cells #[.map (some m)] 73)) fun e w' => ∃ a cp, e = .returned (.slice a L.length cp) ∧ Hid (∀ t y, L[t]? = some y → ∃ g, a = some ⟨g, 0, none⟩ ∧ w'.cell? ⟨g, t, none⟩ = some (.int .i64 y.ip)) ∧ Hid (Below W.heap.size W w') := by
  have hbl := h.lt
  have hrise := h.rise
  have h1 := h.keep (w' := W.alloc (.cells #[.map (some m)] 73)) (heap_old _ _ hbl)
  obtain ⟨D0, hown, hkp, hsz⟩ := h1.owns hl
  have hseq : SeqGives Fence.wide 2 Try.prog 51 #[.pointer (some ⟨W.heap.size, 0, none⟩)] encZ (fun ss => ss.Perm (intKeys D0)) (Maps.size D0) (W.alloc (.cells #[.map (some m)] 73)) :=
    AnyZI.keys_gives (ρ := Try.keysA_ren) { Try.keysA with } Fence.wide _ trivial rfl (by omega) W.heap.size m 16 D0 _ (by simp) (by simp) hown
  have cS := AnyZI.sorted_in Try.sortedA Fence.wide 5 trivial trivial trivial trivial rfl (by omega) (sorts_any _) (enters_of Try.func50 (by kernel_rfl) rfl) 51 #[.pointer (some ⟨W.heap.size, 0, none⟩)] trivial (enters_of Try.func51 (by kernel_rfl) rfl) _ (Maps.size D0) (by rw [hsz]; unfold maxLen; omega) (by rw [hsz]; omega) _ hseq
  change CallsIn _ _ Try.prog 24 _ _ _ at cS
  refine (callsIn_wide.1 cS).mono ?_
  rintro e w' ⟨v, ss, rfl, hS, hrow, hnil, hb⟩
  have hp := hS.trans hkp
  have hlen : ss.length = L.length := by rw [hp.length_eq]; simp
  rw [hrise.sorted hp, hlen] at hrow
  have hB : Below W.heap.size W w' := bstep (balloc W _) hb
  rcases hrow.2 with ⟨rfl, h0⟩ | ⟨g, cap, cur, rfl, hg0, hg, hlc, hm, hs, htk⟩
  · exact ⟨none, 0, by rw [h0], fun t y hy => by rw [List.eq_nil_of_length_eq_zero h0] at hy; simp at hy, hB⟩
  · refine ⟨_, _, rfl, fun t y hy => ⟨g, rfl, ?_⟩, hB⟩
    rw [cell_of_heap hg, ← Array.getElem?_toList]
    obtain ⟨ht, e1⟩ := List.getElem?_eq_some_iff.1 hy
    have h3 : (cur.toList.take (L.length * 1))[t]? = ((L.map (·.ip)).map encZ)[t]? := by rw [htk]
    rw [List.getElem?_take, if_pos (by omega), List.getElem?_map, List.getElem?_map, hy] at h3
    exact h3
/-! ### What is told -/
def stC (x : Pa) : List Value := [.int .i64 x.n, .int .i64 x.ds.length, .int .i64 x.dr]
def pst (l : List Pa) : List Value := l.flatMap stC
theorem infoPs : (Try.prog.info? 72).map (fun i => (i.zero, i.size, i.bytes)) = some (some (.agg #[.int .i64 0, .int .i64 0, .int .i64 0]), 3, 24) := by kernel_rfl
structure PLk (w1 wr : World) (a : Option Addr) (n cp : Nat) (l : List Pa) : Prop where
  len : l.length = n
  row : RowS wr 72 3 (.slice a n cp) n (pst l)
  new : ∀ b, (Value.slice a n cp).ownBlock = some b → w1.heap.size ≤ b
  below : Below w1.heap.size w1 wr
theorem PLk.start {w0 w1 wr : World} {a : Option Addr} {n cp : Nat} {l : List Pa} (h : PLk w1 wr a n cp l) (hb : Below w0.heap.size w0 w1) : PLk w0 wr a n cp l :=
  ⟨h.len, h.row, fun b hb' => Nat.le_trans hb.size (h.new b hb'), bstep hb h.below⟩
theorem PLk.void (w1 : World) : PLk w1 w1 none 0 0 [] := ⟨rfl, RowS.nil _ _ _, by simp [Value.ownBlock], Below.refl _ _⟩
theorem PLk.one {w1 wr w5 : World} {a : Option Addr} {n cp : Nat} {l : List Pa} (h : PLk w1 wr a n cp l) (hb : Below wr.heap.size wr w5) (y : Pa) (hl : n ≤ 64) :
    ∃ a' cp' w7, (Builtin.append_ #[25, 25] 25 #[.slice a n cp, .slice (some ⟨w5.heap.size, 0, none⟩) 1 1]).run Try.prog (w5.alloc (.cells #[.int .i64 y.n, .int .i64 y.ds.length, .int .i64 y.dr] 72)) = .ok (.slice a' (n + 1) cp') w7 ∧ Hid (PLk w1 w7 a' (n + 1) cp' (l ++ [y])) ∧ Hid (∀ (b : Nat) (C : Array Value) (t : TypeId) (f : Nat × Nat), w5.heap[b]? = some (Obj.cells C t f) → t ≠ 72 → w7.heap[b]? = some (Obj.cells C t f)) := by
  have hbp := bpush (Below.refl w5.heap.size w5) (.cells #[.int .i64 y.n, .int .i64 y.ds.length, .int .i64 y.dr] 72)
  have hbW := bstep hb hbp
  have rW := h.row.below hbW
  have hnew : (w5.alloc (.cells #[.int .i64 y.n, .int .i64 y.ds.length, .int .i64 y.dr] 72)).heap[w5.heap.size]? = some (.cells #[.int .i64 y.n, .int .i64 y.ds.length, .int .i64 y.dr] 72 (0, 0)) := heap_new _ _
  obtain ⟨v', w7, hrun, hrow, hgr, hloc⟩ := append_s 25 25 72 _ 3 24 Try.underlying25 infoPs rfl (by omega) rW ⟨w5.heap.size, 0, none⟩ 1 1 (stC y) (by simp [stC])
    (fun j u hj => by
      rw [addr_add, Nat.zero_add, cell_of_heap hnew, ← Array.getElem?_toList]
      exact hj)
    (fun u hu => by simp [stC] at hu; rcases hu with rfl | rfl | rfl <;> rfl) (by unfold maxLen; omega) (by omega)
  obtain ⟨a', cp', hv', _⟩ := hrow.form
  subst hv'
  have hsz : wr.heap.size ≤ w5.heap.size := hb.size
  have h1sz : w1.heap.size ≤ wr.heap.size := h.below.size
  have keepT : ∀ b, b < (w5.alloc (.cells #[.int .i64 y.n, .int .i64 y.ds.length, .int .i64 y.dr] 72)).heap.size → (Value.slice a n cp).ownBlock ≠ some b → w7.heap[b]? = (w5.alloc (.cells #[.int .i64 y.n, .int .i64 y.ds.length, .int .i64 y.dr] 72)).heap[b]? := fun b hlt hne => hgr.block b hlt (fun e => hne (by simpa using e.symm))
  have hb1 : Below w1.heap.size w1 (w5.alloc (.cells #[.int .i64 y.n, .int .i64 y.ds.length, .int .i64 y.dr] 72)) := bstep h.below hbW
  refine ⟨a', cp', w7, hrun, ⟨by rw [List.length_append, h.len]; rfl, ?_, fun b hb' => ?_, ?_⟩, fun b C t f hb' hne => ?_⟩
  · have e1 : pst (l ++ [y]) = pst l ++ stC y := by simp [pst]
    rw [e1]
    exact hrow
  · rcases hloc b (by cases a' <;> simpa [Value.ownBlock] using hb') with h2 | h2
    · exact h.new b (by cases a <;> simpa [Value.ownBlock] using h2)
    · simp at h2; omega
  · exact ⟨hgr.os.trans hb1.os, hgr.tape.trans hb1.tape, hgr.output.trans hb1.output, Nat.le_trans hb1.size hgr.size, fun i hl' => (keepT i (Nat.lt_of_lt_of_le hl' hb1.size) (fun e => by have := h.new i e; omega)).trans (hb1.block i hl')⟩
  · have hW := kept hb' hbp
    exact (keepT b (heap_lt hW) (rowS_cell_not rW hW (Ne.symm hne))).trans hW
end Go.Proofs.Ythipdchdbdmmnaa
