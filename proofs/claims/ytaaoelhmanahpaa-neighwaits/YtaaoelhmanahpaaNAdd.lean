/-
  Neigh: one thing more is sent; learn as one.
-/
import Derived.Test.YtaaoelhmanahpaaNLrn2
namespace Go.Proofs.Ytaaoelhmanahpaa
open Go.RowKit
set_option linter.all false

theorem infoSend : (Try.prog.info? 59).map (fun i => (i.zero, i.size, i.bytes)) = some (some (.agg #[.int .u8 0, .int .u8 0, .int .u8 0, .int .u8 0, .int .u8 0, .int .u8 0, .int .i64 0, .slice none 0 0]), 8, 40) := by kernel_rfl
theorem rowS_not {w : World} {e t : TypeId} {sz n : Nat} {v : Value} {xs : List Value} {k : Nat} {C : Array Value} {f : Nat × Nat} (h : RowS w e sz v n xs) (hk : w.heap[k]? = some (.cells C t f)) (hne : e ≠ t) : ∀ b, v.ownBlock = some b → b ≠ k := by
  rintro b hb rfl
  obtain ⟨cur, hc⟩ := h.obj hb
  rw [hc] at hk
  simp only [Option.some.injEq, Obj.cells.injEq] at hk
  exact hne hk.2.1
theorem rowS_not_map {w : World} {e : TypeId} {sz n : Nat} {v : Value} {xs : List Value} {k : Nat} {es : Array MapEntry} {q : Nat} (h : RowS w e sz v n xs) (hk : w.heap[k]? = some (.map es q)) : ∀ b, v.ownBlock = some b → b ≠ k := by
  rintro b hb rfl
  obtain ⟨cur, hc⟩ := h.obj hb
  rw [hc] at hk
  simp at hk
theorem rowS_row {w : World} {e t : TypeId} {sz n : Nat} {v u : Value} {xs ys : List Value} (h : RowS w e sz v n xs) (hu : Row w t u ys) (hne : e ≠ t) : ∀ b, u.ownBlock = some b → v.ownBlock ≠ some b := fun b hb hv => by
  obtain ⟨cur, hc⟩ := h.obj hv
  exact row_not hu hc (Ne.symm hne) b hb rfl
theorem Answ.add {w w1 w6 : World} {c m : Nat} {S S' : St} {V : Int → Value} {a : Option Addr} {cp : Nat} {sds : List Sd} (h : Answ w w1 c m S S' V a cp sds) (hb : Below w1.heap.size w1 w6) (x : Sd) {k n q : Nat} (hk : w1.heap.size ≤ k) (hd : Row w6 5 (.slice (some ⟨k, 0, none⟩) n q) (u8s x.zs)) (hl : sds.length ≤ 64) :
    ∃ a' cp' w7, (Builtin.append_ #[51, 51] 51 #[.slice a sds.length cp, .slice (some ⟨w6.heap.size, 0, none⟩) 1 1]).run Try.prog (w6.alloc (.cells (x.cells (.slice (some ⟨k, 0, none⟩) n q)) 59)) = .ok (.slice a' (sds ++ [x]).length cp') w7 ∧ Answ w w7 c m S S' V a' cp' (sds ++ [x]) ∧ ∀ (b : Nat) (C : Array Value) (t : TypeId) (f : Nat × Nat), w6.heap[b]? = some (Obj.cells C t f) → t ≠ 59 → w7.heap[b]? = some (Obj.cells C t f) := by
  obtain ⟨l, V', A⟩ := h
  have hlen : l.length = sds.length := by rw [← A.map]; simp
  have hbp := bpush (Below.refl w6.heap.size w6) (.cells (x.cells (.slice (some ⟨k, 0, none⟩) n q)) 59)
  have hbW : Below w1.heap.size w1 (w6.alloc (.cells (x.cells (.slice (some ⟨k, 0, none⟩) n q)) 59)) := bstep hb hbp
  have oW := A.outs.below hbW
  have cW := A.ca.below hbW
  have dW := hd.below hbp
  have hnew : (w6.alloc (.cells (x.cells (.slice (some ⟨k, 0, none⟩) n q)) 59)).heap[w6.heap.size]? = some (.cells (x.cells (.slice (some ⟨k, 0, none⟩) n q)) 59 (0, 0)) := heap_new _ _
  obtain ⟨v', w7, hrun, hrow, hgr, hloc⟩ := append_s 51 51 59 _ 8 40 Try.underlying51 infoSend rfl (by omega) oW.row ⟨w6.heap.size, 0, none⟩ 1 1 (x.cells (.slice (some ⟨k, 0, none⟩) n q)).toList (by simp [Sd.cells])
    (fun j u hj => by
      rw [show (⟨w6.heap.size, 0, none⟩ : Addr).add j = ⟨w6.heap.size, j, none⟩ from by unfold Addr.add; split <;> simp_all, cell_of_heap hnew, ← Array.getElem?_toList]
      exact hj)
    (fun u hu => by simp [Sd.cells] at hu; rcases hu with rfl | rfl | rfl | rfl | rfl | rfl | rfl | rfl <;> rfl) (by rw [hlen]; unfold maxLen; omega) (by rw [hlen]; omega)
  obtain ⟨a', cp', hv', _⟩ := hrow.form
  subst hv'
  rw [hlen] at hrow
  have hvb : ∀ b, (Value.slice a sds.length cp).ownBlock = some b → w.heap.size ≤ b ∧ b < w1.heap.size := fun b hb' => ⟨A.new b hb', A.outs.row.lt hb'⟩
  have keepT : ∀ b, b < (w6.alloc (.cells (x.cells (.slice (some ⟨k, 0, none⟩) n q)) 59)).heap.size → (Value.slice a sds.length cp).ownBlock ≠ some b → w7.heap[b]? = (w6.alloc (.cells (x.cells (.slice (some ⟨k, 0, none⟩) n q)) 59)).heap[b]? := fun b hlt hne => hgr.block b hlt (fun e => hne (by simpa using e.symm))
  have c7 : CaW w7 c m S' V' := by
    refine cW.keep (keepT c cW.ltc (fun e => rowS_not oW.row cW.box (by decide) c e rfl)) (keepT m cW.ltm (fun e => ?_)) (fun y hy b hb' => keepT b ((cW.rows y hy).lt hb') (rowS_row oW.row (cW.rows y hy) (by decide) b hb'))
    obtain ⟨es, clock, hm, _⟩ := cW.map
    exact rowS_not_map oW.row hm m e rfl
  have hsz : w1.heap.size ≤ w6.heap.size := hb.size
  have h1sz : w.heap.size ≤ w1.heap.size := A.two.size
  refine ⟨a', cp', w7, by rw [hrun, hlen]; simp, ⟨l ++ [(x, .slice (some ⟨k, 0, none⟩) n q)], V', by rw [List.map_append, A.map]; rfl, ⟨?_, fun p hp => ?_, fun p hp => ?_, ?_⟩, fun b hb' => ?_, fun p hp b hb' => ?_, fun p hp y hy b hb' => ?_, A.vsrc, c7, ?_⟩, fun b C t f hb' hne => ?_⟩
  · have e1 : sdCells (l ++ [(x, .slice (some ⟨k, 0, none⟩) n q)]) = sdCells l ++ (x.cells (.slice (some ⟨k, 0, none⟩) n q)).toList := by simp [sdCells]
    have e2 : (l ++ [(x, Value.slice (some ⟨k, 0, none⟩) n q)]).length = sds.length + 1 := by rw [List.length_append, hlen]; rfl
    have e3 : (sds ++ [x]).length = sds.length + 1 := by simp
    rw [e1, e2, e3]
    exact hrow
  · rcases List.mem_append.1 hp with hp | hp
    · exact (oW.dat p hp).keep fun b hb' => keepT b ((oW.dat p hp).lt hb') (rowS_row oW.row (oW.dat p hp) (by decide) b hb')
    · simp at hp; subst hp
      exact dW.keep fun b hb' => keepT b (dW.lt hb') (rowS_row oW.row dW (by decide) b hb')
  · rcases List.mem_append.1 hp with hp | hp
    · exact oW.form p hp
    · simp at hp; subst hp; exact ⟨_, _, _, rfl⟩
  · rw [List.pairwise_append]
    refine ⟨oW.apart, List.pairwise_singleton _ _, fun p hp q' hq' b hb' e => ?_⟩
    simp at hq'; subst hq'
    simp [Value.ownBlock] at e
    have := (A.outs.dat p hp).lt hb'
    omega
  · rcases hloc b (by cases a' <;> simpa [Value.ownBlock] using hb') with h2 | h2
    · exact A.new b (by cases a <;> simpa [Value.ownBlock] using h2)
    · simp at h2; omega
  · rcases List.mem_append.1 hp with hp | hp
    · exact A.src p hp b hb'
    · simp at hp; subst hp
      simp [Value.ownBlock] at hb'
      left; omega
  · rcases List.mem_append.1 hp with hp | hp
    · exact A.off p hp y hy b hb'
    · simp at hp; subst hp
      simp [Value.ownBlock] at hb'
      intro e
      have := (A.ca.rows y hy).lt e
      omega
  · have t1 := A.two.trans (Two.of_below (c := c) (m := m) hbW)
    exact ⟨hgr.os.trans t1.os, hgr.tape.trans t1.tape, hgr.output.trans t1.output, Nat.le_trans t1.size hgr.size, fun i h1 h2 hl' => (keepT i (Nat.lt_of_lt_of_le hl' t1.size) (fun e => by have := (hvb i e).1; omega)).trans (t1.block i h1 h2 hl')⟩
  · have hW := kept hb' hbp
    exact (keepT b (heap_lt hW) (fun e => rowS_not oW.row hW (Ne.symm hne) b e rfl)).trans hW
def learnF (S : St) (ip : Int) (mc : Mac) (wt : Bool) : St × List Sd := match look S.L ip with
  | some y => ({ S with L := put S.L (knE S ip mc) }, if 0 < y.q then [Sd.mk mc 2048 y.zs] else [])
  | none => if wt then (match roomL S.most S.L with
    | none => (S, [])
    | some L' => ({ S with L := put L' (knE S ip mc) }, [])) else (S, [])
theorem learn_any (c m : Nat) (S : St) (V : Int → Value) (ip : Int) (mc : Mac) (wt : Bool) (w : World) (x : CaW w c m S V) (hip : ipOk ip) (hmc : mc.ok) :
    Calls Try.prog 47 #[.pointer (some ⟨c, 0, none⟩), .int .u32 ip, mc.val, .bool wt] w fun e w' => ∃ a cp, e = .returned (.slice a (learnF S ip mc wt).2.length cp) ∧ Hid (Answ w w' c m S (learnF S ip mc wt).1 V a cp (learnF S ip mc wt).2) := by
  unfold learnF
  cases hl : look S.L ip with
  | some y => exact learnA c m S V ip mc wt y w x hip hmc hl
  | none =>
    cases wt with
    | false => exact (learnB c m S V ip mc w x hip hmc hl).mono fun e w' ⟨h1, h2⟩ => ⟨none, 0, h1, h2⟩
    | true =>
      cases hr : roomL S.most S.L with
      | none => exact (learnC c m S V ip mc w x hip hmc hl hr).mono fun e w' ⟨h1, h2⟩ => ⟨none, 0, h1, h2⟩
      | some L' => exact (learnD c m S V ip mc w x hip hmc hl L' hr).mono fun e w' ⟨h1, h2⟩ => ⟨none, 0, h1, h2⟩
theorem learnF_len (S : St) (ip : Int) (mc : Mac) (wt : Bool) : (learnF S ip mc wt).2.length ≤ 1 := by
  unfold learnF
  split
  · split <;> simp
  · split
    · split <;> simp
    · simp
theorem learnF_own (S : St) (ip : Int) (mc : Mac) (wt : Bool) : (learnF S ip mc wt).1.own = S.own := by
  unfold learnF
  split
  · rfl
  · split
    · split <;> rfl
    · rfl
end Go.Proofs.Ytaaoelhmanahpaa
