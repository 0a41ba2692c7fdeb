/-
  What the walk of DigestJoined leans on, in one bundle.
-/
import Derived.Test.YtanmidiapbghnaaDJoinC
namespace Go.Proofs.Ytanmidiapbghnaa
open Go.RowKit
set_option linter.unusedVariables false
set_option linter.unusedSimpArgs false
theorem cell_one (w : World) (v : Value) (t : TypeId) : (w.alloc (.cells #[v] t)).cell? ⟨w.heap.size, 0, none⟩ = some v := by
  rw [World.cell?_alloc_at _ _ _ _ rfl]; rfl
theorem cell_one' (w : World) (o : Obj) (v : Value) (t : TypeId) : ((w.alloc o).alloc (.cells #[v] t)).cell? ⟨w.heap.size + 1, 0, none⟩ = some v := by
  have := cell_one (w.alloc o) v t
  rw [World.size_alloc] at this
  exact this
theorem heap_two (w : World) (o o' : Obj) : (((w.alloc o).alloc o').drew).heap[w.heap.size + 1]? = some o' := by
  have := heap_alloc_new (w.alloc o) o'
  rw [World.size_alloc] at this
  exact this
theorem wpList_bs {P : Program} {ops : Array Oper} {rest : List Oper} {o : Oper} {a : Act} {w : World} {Q : Exit → Act → World → Prop} (hg : o.guard = none) (t : TypeId) (n : Nat) (parts : Array (Nat × Operand)) (ho : o.op = .buildSlice t n parts) (e : TypeId) (cells : Array Value)
    (hr : (Instr.buildSlice t n (parts.map fun (i, x) => (i, a.eval x))).run P w = .ok (.slice (some ⟨w.heap.size, 0, none⟩) n n) (w.alloc (.cells cells e))) (h : wpList P ops Q rest (a.put o.dst (.slice (some ⟨w.heap.size, 0, none⟩) n n)) (w.alloc (.cells cells e))) : wpList P ops Q (o :: rest) a w :=
  wpList_plain hg fun K hK => by
    unfold Oper.wp execOp
    simp only [ho, Sem.run_bind, Sem.run_pure, hr, Result.andThen_ok]
    exact hK _ _ h
theorem sizeSl : (Try.prog.info? 37).map (·.size) = some 1 := by kernel_rfl
theorem zeroSl : (Try.prog.info? 37).map (·.zero) = some (some (.slice none 0 0)) := by kernel_rfl
theorem bs1 (a : Option Addr) (l c : Nat) (w : World) : (Instr.buildSlice 23 1 #[(0, .slice a l c)]).run Try.prog w = .ok (.slice (some ⟨w.heap.size, 0, none⟩) 1 1) (w.alloc (.cells #[.slice a l c] 37)) := by
  cases hq : Try.prog.info? 37 with
  | none => have := sizeSl; rw [hq] at this; simp at this
  | some i =>
    have hs : i.size = 1 := by have := sizeSl; rw [hq] at this; simpa using this
    have hz : i.zero = some (.slice none 0 0) := by have := zeroSl; rw [hq] at this; simpa using this
    simp [Instr.buildSlice, run_underlying Try.underlying23, sizeOf, zeroValue, typeInfo, hq, hs, hz, Instr.fill, Value.cells, go_sem]
theorem bs4 (a1 a2 a3 a4 : Option Addr) (l1 l2 l3 l4 c1 c2 c3 c4 : Nat) (w : World) : (Instr.buildSlice 23 4 #[(0, .slice a1 l1 c1), (1, .slice a2 l2 c2), (2, .slice a3 l3 c3), (3, .slice a4 l4 c4)]).run Try.prog w = .ok (.slice (some ⟨w.heap.size, 0, none⟩) 4 4) (w.alloc (.cells #[.slice a1 l1 c1, .slice a2 l2 c2, .slice a3 l3 c3, .slice a4 l4 c4] 37)) := by
  cases hq : Try.prog.info? 37 with
  | none => have := sizeSl; rw [hq] at this; simp at this
  | some i =>
    have hs : i.size = 1 := by have := sizeSl; rw [hq] at this; simpa using this
    have hz : i.zero = some (.slice none 0 0) := by have := zeroSl; rw [hq] at this; simpa using this
    simp [Instr.buildSlice, run_underlying Try.underlying23, sizeOf, zeroValue, typeInfo, hq, hs, hz, Instr.fill, Value.cells, go_sem]
theorem wpList_slice_to {P : Program} {ops : Array Oper} {rest : List Oper} {o : Oper} {a : Act} {w : World} {Q : Exit → Act → World → Prop} (hgd : o.guard = none) (t : TypeId) (x hi : Operand) (ho : o.op = .slice t x none (some hi) none) (v : Value)
    (hr : (Instr.sliceAt t (a.eval x) none (some (a.eval hi)) none).run P w = .ok v w) (h : wpList P ops Q rest (a.put o.dst v) w) : wpList P ops Q (o :: rest) a w :=
  wpList_plain hgd fun K hK => by
    unfold Oper.wp execOp
    simp only [ho, Option.map, Sem.run_bind, Sem.run_pure, hr, Result.andThen_ok]
    exact hK _ _ h
theorem wpList_slice_mid {P : Program} {ops : Array Oper} {rest : List Oper} {o : Oper} {a : Act} {w : World} {Q : Exit → Act → World → Prop} (hgd : o.guard = none) (t : TypeId) (x lo hi : Operand) (ho : o.op = .slice t x (some lo) (some hi) none) (v : Value)
    (hr : (Instr.sliceAt t (a.eval x) (some (a.eval lo)) (some (a.eval hi)) none).run P w = .ok v w) (h : wpList P ops Q rest (a.put o.dst v) w) : wpList P ops Q (o :: rest) a w :=
  wpList_plain hgd fun K hK => by
    unfold Oper.wp execOp
    simp only [ho, Option.map, Sem.run_bind, Sem.run_pure, hr, Result.andThen_ok]
    exact hK _ _ h

/-! ### The array laid ahead of a call that answers it, or between -/
theorem heap_mid (w : World) (o o1 o2 : Obj) : ((((w.alloc o).alloc o1).alloc o2).drew).heap[w.heap.size + 1]? = some o1 := by
  have h : ((w.alloc o).alloc o1).heap[w.heap.size + 1]? = some o1 := heap_two w o o1
  exact (heap_alloc_old _ o2 ((Array.getElem?_eq_some_iff.1 h).1)).trans h
theorem heap_three (w : World) (o o1 o2 : Obj) : ((((w.alloc o).alloc o1).alloc o2).drew).heap[w.heap.size + 2]? = some o2 := by
  have := heap_alloc_new ((w.alloc o).alloc o1) o2
  rw [World.size_alloc, World.size_alloc] at this
  exact this
theorem store_kept (A : List Int) (hA : A.length = 32) (g : Nat) (z : Array Value) (hz : z.size = 32) {w w' : World} (hg : w.heap[g]? = some (.cells z 26 (0, 0))) (hb : Below w.heap.size w w') :
    (storeCells ⟨g, 0, none⟩ (u8s A) 0).run Try.prog w' = .ok () (w'.setRow g (u8s A).toArray) :=
  store_at (u8s A) (u8s_one A) g 26 z w' ((hb.block g (Array.getElem?_eq_some_iff.1 hg).1).trans hg) (by rw [hz, u8s_len, hA])
theorem meet_new {l : List (Nat × Obj)} {a W W' w3 : World} (hl : Holds W l) (hB : Below a.heap.size a W) (hW : Below W.heap.size W W') (hb : Below W'.heap.size W' w3) (o : Obj) :
    Holds (w3.alloc o) ((w3.heap.size, o) :: l) ∧ Below a.heap.size a (w3.alloc o) :=
  ⟨((hl.below hW).below hb).push o, bpush (bstep (bstep hB hW) hb) o⟩
theorem meet_kept {l : List (Nat × Obj)} {a W W' w3 : World} (hl : Holds W l) (hB : Below a.heap.size a W) (hW : Below W.heap.size W W') (hb : Below W'.heap.size W' w3) (g : Nat) (z cs : Array Value) (t : TypeId) (hg : W'.heap[g]? = some (.cells z t (0, 0))) (hgW : W.heap.size ≤ g) :
    Holds (w3.setRow g cs) ((g, .cells cs t) :: l) ∧ Below a.heap.size a (w3.setRow g cs) := by
  have h3 : w3.heap[g]? = some (.cells z t (0, 0)) := (hb.block g (Array.getElem?_eq_some_iff.1 hg).1).trans hg
  have hn : ∀ p, p ∈ l → p.1 ≠ g := fun p hp e => by have := hl.lt hp; omega
  refine ⟨Holds.cons (((hl.below hW).below hb).but (But.setRow g w3 cs) hn) ?_, bbut (bstep (bstep hB hW) hb) (But.setRow g w3 cs) (Nat.le_trans hB.size hgW)⟩
  exact setRow_heap w3 g z cs t _ h3

theorem hid {p : Prop} (h : p) : Hid p := h
theorem lt_off {w : World} {l : List (Nat × Obj)} (h : Holds w l) : ∀ p, p ∈ l → p.1 ≠ w.heap.size := fun p hp => Nat.ne_of_lt (h.lt hp)
theorem kept_at {w w' : World} {g : Nat} {o : Obj} (h : w.heap[g]? = some o) (hb : Below w.heap.size w w') : w'.heap[g]? = some o := (hb.block g (Array.getElem?_eq_some_iff.1 h).1).trans h
theorem keep_new {w w' : World} {g : Nat} {o : Obj} (h : w.heap[g]? = some o) (hb : Below w.heap.size w w') (o' : Obj) : (w'.alloc o').heap[g]? = some o :=
  (heap_alloc_old w' o' ((Array.getElem?_eq_some_iff.1 (kept_at h hb)).1)).trans (kept_at h hb)
theorem new_off {w w' : World} {g : Nat} {o : Obj} (h : w.heap[g]? = some o) (hb : Below w.heap.size w w') : w'.heap.size ≠ g := fun e => by
  have := (Array.getElem?_eq_some_iff.1 (kept_at h hb)).1
  omega
theorem off_cons {l : List (Nat × Obj)} {g g' : Nat} (h : ∀ p, p ∈ l → p.1 ≠ g) (o : Obj) (hg : g' ≠ g) : ∀ p, p ∈ (g', o) :: l → p.1 ≠ g := fun p hp => by
  rcases List.mem_cons.1 hp with rfl | hp
  · exact hg
  · exact h p hp

def isSha (A : List Int) : Prop := A.length = 32 ∧ ∀ z, z ∈ A → 0 ≤ z ∧ z ≤ 255
theorem eq_same (A : List Int) (h : isSha A) (w : World) : (Op.equalIn 10000 26 (.agg (u8s A).toArray) (.agg (u8s A).toArray)).run Try.prog w = .ok true w := by
  rw [dig_eq A A h.1 h.1 h.2 h.2, decide_eq_true rfl]
theorem unhex_back (d : List Int) (h : isSha d) (w : World) : Calls Try.prog 24 #[.string (strOfNums (hexL d))] w fun e w' => e = .returned (.tuple #[.agg (u8s d).toArray, .int .i64 0]) ∧ Below w.heap.size w w' := by
  have hg := good_hex d h.1 h.2
  refine (unhex_any (strOfNums (hexL d)) w (by rw [hg.1]; unfold maxLen; omega)).mono fun e w' ⟨ha, hb⟩ => ⟨?_, hb⟩
  rcases ha with ⟨_, rfl⟩ | ⟨hn, _⟩
  · rw [unhex_hex d h.1 h.2]
  · exact absurd hg hn
theorem unhex_some (s : ByteArray) (hs : s.size ≤ maxLen) : ∃ (S : List Int) (f : Int), isSha S ∧ (f = 0 ∧ strOfNums (hexL S) = s ∨ f = 20) ∧ ∀ w, Calls Try.prog 24 #[.string s] w fun e w' => e = .returned (.tuple #[.agg (u8s S).toArray, .int .i64 f]) ∧ Below w.heap.size w w' := by
  by_cases hg : goodS s
  · refine ⟨unK (sgn s) 64, 0, ⟨unK_len _ _, unK_bd _ hg.2 (sgn_le s)⟩, Or.inl ⟨rfl, hex_unhex s hg⟩, fun w => (unhex_any s w hs).mono fun e w' ⟨h, hb⟩ => ⟨?_, hb⟩⟩
    rcases h with ⟨_, rfl⟩ | ⟨hn, _⟩
    · rfl
    · exact absurd hg hn
  · refine ⟨z32, 20, ⟨rfl, fun z hz => by rw [List.eq_of_mem_replicate hz]; omega⟩, Or.inr rfl, fun w => (unhex_any s w hs).mono fun e w' ⟨h, hb⟩ => ⟨?_, hb⟩⟩
    rcases h with ⟨hn, _⟩ | ⟨_, rfl⟩
    · exact absurd hn hg
    · rfl

/-- b = (a0, L, c0), b[:I] = (a1, l1, c1), b[I:K] = (a2, l2, c2), b[K:] = (a3, l3, c3); the states of a Hash; the digests of all, of the head, of the first two parts. -/
structure JC (OK : World → Prop) (off : Nat → Prop) (a0 a1 a2 a3 : Option Addr) (L l1 l2 l3 c0 c1 c2 c3 I K : Nat) (H0 H1 H2 H3 : Array Value) (A C M : List Int) : Prop where
  okb : ∀ w w', OK w → Below w.heap.size w w' → OK w'
  okn : ∀ w w' g, OK w → off g → But g w w' → OK w'
  offn : ∀ w g, OK w → w.heap.size ≤ g → off g
  shA : isSha A
  shC : isSha C
  shM : isSha M
  to : ∀ w', (Instr.sliceAt 37 (.slice a0 L c0) none (some (.int .i64 (I : Int))) none).run Try.prog w' = .ok (.slice a1 l1 c1) w'
  mid : ∀ w', (Instr.sliceAt 37 (.slice a0 L c0) (some (.int .i64 (I : Int))) (some (.int .i64 (K : Int))) none).run Try.prog w' = .ok (.slice a2 l2 c2) w'
  fr : ∀ w', (Instr.sliceAt 37 (.slice a0 L c0) (some (.int .i64 (K : Int))) none none).run Try.prog w' = .ok (.slice a3 l3 c3) w'
  bey : ∀ (w' : World) (g : Nat), w'.cell? ⟨g, 0, none⟩ = some (.slice a0 L c0) → Calls Try.prog 9 #[.slice (some ⟨g, 0, none⟩) 1 1] w' fun e w'' => e = .returned (.bool false) ∧ w'' = w'
  s1 : ∀ (w' : World) (g : Nat), OK w' → w'.cell? ⟨g, 0, none⟩ = some (.slice a0 L c0) → Calls Try.prog 11 #[.slice (some ⟨g, 0, none⟩) 1 1] w' fun e w'' => e = .returned (.agg (u8s A).toArray) ∧ Below w'.heap.size w' w''
  s1i : ∀ (w' : World) (g : Nat), OK w' → w'.cell? ⟨g, 0, none⟩ = some (.slice a1 l1 c1) → Calls Try.prog 11 #[.slice (some ⟨g, 0, none⟩) 1 1] w' fun e w'' => e = .returned (.agg (u8s C).toArray) ∧ Below w'.heap.size w' w''
  s4 : ∀ (w' : World) (g : Nat), OK w' → w'.heap[g]? = some (.cells #[.slice a1 l1 c1, .slice none 0 0, .slice a2 l2 c2, .slice a3 l3 c3] 37 (0, 0)) → Calls Try.prog 11 #[.slice (some ⟨g, 0, none⟩) 4 4] w' fun e w'' => e = .returned (.agg (u8s A).toArray) ∧ Below w'.heap.size w' w''
  nw : ∀ w', Calls Try.prog 15 #[] w' fun e w'' => e = .returned (.pointer (some ⟨w'.heap.size, 0, none⟩)) ∧ w'' = w'.alloc (.cells H0 56)
  w1 : ∀ (w' : World) (g : Nat), OK w' → off g → w'.heap[g]? = some (.cells H0 56 (0, 0)) → Calls Try.prog 17 #[.pointer (some ⟨g, 0, none⟩), .slice a1 l1 c1] w' fun e w'' => e = .returned (.tuple #[]) ∧ w''.heap[g]? = some (.cells H1 56 (0, 0)) ∧ But g w' w''
  w2 : ∀ (w' : World) (g : Nat), OK w' → off g → w'.heap[g]? = some (.cells H1 56 (0, 0)) → Calls Try.prog 17 #[.pointer (some ⟨g, 0, none⟩), .slice a2 l2 c2] w' fun e w'' => e = .returned (.tuple #[]) ∧ w''.heap[g]? = some (.cells H2 56 (0, 0)) ∧ But g w' w''
  wn : ∀ (w' : World) (g : Nat), w'.heap[g]? = some (.cells H2 56 (0, 0)) → Calls Try.prog 17 #[.pointer (some ⟨g, 0, none⟩), .slice none 0 0] w' fun e w'' => e = .returned (.tuple #[]) ∧ w''.heap[g]? = some (.cells H2 56 (0, 0)) ∧ But g w' w''
  w3 : ∀ (w' : World) (g : Nat), OK w' → off g → w'.heap[g]? = some (.cells H2 56 (0, 0)) → Calls Try.prog 17 #[.pointer (some ⟨g, 0, none⟩), .slice a3 l3 c3] w' fun e w'' => e = .returned (.tuple #[]) ∧ w''.heap[g]? = some (.cells H3 56 (0, 0)) ∧ But g w' w''
  h1 : ∀ (w' : World) (g : Nat), w'.heap[g]? = some (.cells H1 56 (0, 0)) → Calls Try.prog 19 #[.pointer (some ⟨g, 0, none⟩)] w' fun e w'' => e = .returned (.agg (u8s C).toArray) ∧ Below w'.heap.size w' w''
  h2 : ∀ (w' : World) (g : Nat), w'.heap[g]? = some (.cells H2 56 (0, 0)) → Calls Try.prog 19 #[.pointer (some ⟨g, 0, none⟩)] w' fun e w'' => e = .returned (.agg (u8s M).toArray) ∧ Below w'.heap.size w' w''
  h3 : ∀ (w' : World) (g : Nat), w'.heap[g]? = some (.cells H3 56 (0, 0)) → Calls Try.prog 19 #[.pointer (some ⟨g, 0, none⟩)] w' fun e w'' => e = .returned (.agg (u8s A).toArray) ∧ Below w'.heap.size w' w''
  ln : ∀ (w' : World) (g : Nat), w'.heap[g]? = some (.cells H3 56 (0, 0)) → Calls Try.prog 21 #[.pointer (some ⟨g, 0, none⟩)] w' fun e w'' => e = .returned (.int .i64 (L : Int)) ∧ w'' = w'

theorem bound_take {zs : List Int} {n : Nat} (h : ∀ z, z ∈ zs → 0 ≤ z ∧ z ≤ 255) : ∀ z, z ∈ zs.take n → 0 ≤ z ∧ z ≤ 255 := fun z hz => h z (List.mem_of_mem_take hz)
theorem Part.to_off {p : Part} {g : Nat} (h : p.off g) (m : Nat) : (p.to m).off g := by
  rcases h with he | h
  · left; simp [Part.to, he]
  · right; exact h
theorem sha_is (zs : List Int) (h : ∀ z, z ∈ zs → 0 ≤ z ∧ z ≤ 255) (hl : zs.length ≤ 140737488351232) : isSha (sha zs) := ⟨sha_len zs, sha_bd _ h (by omega)⟩
theorem joined_jc (pt : Part) (I K : Nat) (w : World) (hIK : I ≤ K) (hKL : K ≤ pt.zs.length) (hL : pt.zs.length < 2147483647) (hpo : pt.ok w) :
    JC (fun w => pt.ok w) (fun g => pt.off g) pt.a (pt.to I).a (pt.mid I K).a (pt.from K).a pt.zs.length (pt.to I).zs.length (pt.mid I K).zs.length (pt.from K).zs.length pt.c (pt.to I).c (pt.mid I K).c (pt.from K).c I K
      hsI.cells.toArray (absorb hsI (pt.zs.take I)).cells.toArray (absorb hsI (pt.zs.take K)).cells.toArray (absorb hsI pt.zs).cells.toArray (sha pt.zs) (sha (pt.zs.take I)) (sha (pt.zs.take K)) := by
  have hlI : (pt.zs.take I).length ≤ 140737488351232 := by simp; omega
  have hlK : (pt.zs.take K).length ≤ 140737488351232 := by simp; omega
  have hz := hpo.1
  have eIK : pt.zs.take I ++ (pt.mid I K).zs = pt.zs.take K := by
    show pt.zs.take I ++ (pt.zs.take K).drop I = _
    have e : (pt.zs.take K).take I = pt.zs.take I := by rw [List.take_take, Nat.min_eq_left hIK]
    rw [← e, List.take_append_drop]
  have eK : pt.zs.take K ++ (pt.from K).zs = pt.zs := List.take_append_drop _ _
  constructor
  · exact fun w w' h hb => Part.ok_below h hb
  · exact fun w w' g h hf hb => Part.ok_but h hf hb
  · exact fun w g h hg => Part.off_of_ok h hg
  · exact sha_is _ hz (by omega)
  · exact sha_is _ (bound_take hz) hlI
  · exact sha_is _ (bound_take hz) hlK
  · exact fun w' => part_to pt I (by omega) hpo.2.1 w' _ rfl
  · exact fun w' => part_mid pt I K hIK hKL hpo.2.1 w' _ _ rfl rfl
  · exact fun w' => part_slice pt K hKL w' _ rfl
  · exact fun w' g hg => by
      have := beyond1 g pt w' hg (by omega)
      rw [decide_eq_false (by omega)] at this
      exact this
  · exact fun w' g ho hg => sum1 g pt w' hg ho (by omega)
  · exact fun w' g ho hg => sum1 g (pt.to I) w' hg (Part.to_ok ho I (by omega)) hlI
  · exact fun w' g ho hg => sum4 g I K pt w' hIK hKL hg ho (by omega)
  · exact fun w' => new_any w'
  · exact fun w' g ho hf hg => write_p g w' [] (pt.to I) (by simp) (by simpa [Part.to] using hlI) hg (Part.to_ok ho I (by omega)) (Part.to_off hf I)
  · exact fun w' g ho hf hg => by
      have := write_p g w' (pt.zs.take I) (pt.mid I K) (bound_take hz) (by rw [← List.length_append, eIK]; exact hlK) hg (Part.mid_ok ho I K hKL hIK) (Part.from_off (Part.to_off hf K) I w' (Part.to_ok ho K hKL) (by simp [Part.to]; omega))
      rw [eIK] at this
      exact this
  · exact fun w' g hg => by
      have := write_p g w' (pt.zs.take K) Part.nil (bound_take hz) (by simpa [Part.nil] using hlK) hg ⟨by simp [Part.nil], by simp [Part.nil], Or.inl rfl⟩ (Or.inl rfl)
      have e : pt.zs.take K ++ Part.nil.zs = pt.zs.take K := List.append_nil _
      rw [e] at this
      exact this
  · exact fun w' g ho hf hg => by
      have := write_p g w' (pt.zs.take K) (pt.from K) (bound_take hz) (by rw [← List.length_append, eK]; omega) hg (Part.from_ok ho K hKL) (Part.from_off hf K w' ho hKL)
      rw [eK] at this
      exact this
  · exact fun w' g hg => hsum_p g w' _ (bound_take hz) hlI hg
  · exact fun w' g hg => hsum_p g w' _ (bound_take hz) hlK hg
  · exact fun w' g hg => hsum_p g w' _ hz (by omega) hg
  · exact fun w' g hg => by
      have := len_any g (absorb hsI pt.zs) w' (absorb_ok _ _ hsI_ok hz).2.1 hg
      rw [absorb_n] at this
      have e : hsI.n + pt.zs.length = pt.zs.length := Nat.zero_add _
      rw [e] at this
      exact this
end Go.Proofs.Ytanmidiapbghnaa
