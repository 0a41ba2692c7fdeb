/-
  Neigh: Tick's memory and lists. Written by mktikm.py (AnsI.add2 out of NAdd's Answ.add).
-/
import Derived.Test.YtaaoelhmanahpaaNAdd
import Derived.Test.YtaaoelhmanahpaaNwAkJ
namespace Go.Proofs.Ytaaoelhmanahpaa
open Go.RowKit
set_option linter.all false

def tick1 (S : St) (y : Ab) : Option Ab := if S.now < y.unt then some y else if 0 < y.q ∧ y.q < 3 then some (queE S y.ip y) else none
def tickS (S : St) (y : Ab) : List Sd := if S.now < y.unt then [] else if 0 < y.q ∧ y.q < 3 then [queS S y.ip y] else []
/-- a cache, k of its entries ticked. -/
def tickK (S : St) (k : Nat) : St := { S with L := (S.L.take k).filterMap (tick1 S) ++ S.L.drop k }
def tickO (S : St) (k : Nat) : List Sd := (S.L.take k).flatMap (tickS S)
def tickF (S0 : St) (now : Int) : St × List Sd :=
  let S : St := { S0 with now := hearN S0.now now }
  ({ S with L := S.L.filterMap (tick1 S) }, S.L.flatMap (tickS S))
section
variable {S : St} {k : Nat} {y : Ab}
theorem tickK_zero (S : St) : tickK S 0 = S := by simp [tickK]
theorem tickO_zero (S : St) : tickO S 0 = [] := by simp [tickO]
theorem tickK_all {N : Nat} (h : N = S.L.length) : tickK S N = { S with L := S.L.filterMap (tick1 S) } := by
  subst h; simp [tickK]
theorem tickO_all {N : Nat} (h : N = S.L.length) : tickO S N = S.L.flatMap (tickS S) := by
  subst h; simp [tickO]
theorem take_at (hy : S.L[k]? = some y) : S.L.take (k + 1) = S.L.take k ++ [y] := by rw [List.take_add_one, hy]; rfl
theorem drop_at (hy : S.L[k]? = some y) : S.L.drop k = y :: S.L.drop (k + 1) := by
  obtain ⟨h, rfl⟩ := List.getElem?_eq_some_iff.1 hy
  exact List.drop_eq_getElem_cons h
theorem tickK_L (hy : S.L[k]? = some y) : (tickK S k).L = (S.L.take k).filterMap (tick1 S) ++ y :: S.L.drop (k + 1) := by
  show _ ++ S.L.drop k = _
  rw [drop_at hy]
theorem tickK_mem (hy : S.L[k]? = some y) : y ∈ (tickK S k).L := by rw [tickK_L hy]; simp
theorem tickK_L1 (hy : S.L[k]? = some y) : (tickK S (k + 1)).L = (S.L.take k).filterMap (tick1 S) ++ ((tick1 S y).toList ++ S.L.drop (k + 1)) := by
  show List.filterMap _ (S.L.take (k + 1)) ++ _ = _
  rw [take_at hy, List.filterMap_append, List.append_assoc]
  cases h : tick1 S y <;> simp [h]
theorem tickO_1 (hy : S.L[k]? = some y) : tickO S (k + 1) = tickO S k ++ tickS S y := by
  unfold tickO
  rw [take_at hy]; simp
theorem rise_mid {A B : List Ab} (h : Rise (A ++ y :: B)) : (∀ z ∈ A, z.ip < y.ip) ∧ ∀ z ∈ B, y.ip < z.ip := by
  have h1 := List.pairwise_append.1 h
  exact ⟨fun z hz => h1.2.2 z hz y (List.mem_cons_self ..), (List.pairwise_cons.1 h1.2.1).1⟩
theorem put_mid {A B : List Ab} (h : Rise (A ++ y :: B)) {x : Ab} (e : x.ip = y.ip) : put (A ++ y :: B) x = A ++ x :: B := by
  obtain ⟨h1, h2⟩ := rise_mid h
  unfold put
  rw [List.filter_append, List.filter_append, List.filter_cons, List.filter_cons, e]
  have f1 : A.filter (fun z => decide (z.ip < y.ip)) = A := List.filter_eq_self.2 (fun z hz => by simpa using h1 z hz)
  have f2 : B.filter (fun z => decide (z.ip < y.ip)) = [] := List.filter_eq_nil_iff.2 (fun z hz => by have := h2 z hz; simp; omega)
  have f3 : A.filter (fun z => decide (y.ip < z.ip)) = [] := List.filter_eq_nil_iff.2 (fun z hz => by have := h1 z hz; simp; omega)
  have f4 : B.filter (fun z => decide (y.ip < z.ip)) = B := List.filter_eq_self.2 (fun z hz => by simpa using h2 z hz)
  rw [f1, f2, f3, f4]
  simp
theorem del_mid {A B : List Ab} (h : Rise (A ++ y :: B)) : del (A ++ y :: B) y.ip = A ++ B := by
  obtain ⟨h1, h2⟩ := rise_mid h
  unfold del
  rw [List.filter_append, List.filter_cons]
  have f1 : A.filter (fun z => z.ip != y.ip) = A := List.filter_eq_self.2 (fun z hz => by have := h1 z hz; simp; omega)
  have f2 : B.filter (fun z => z.ip != y.ip) = B := List.filter_eq_self.2 (fun z hz => by have := h2 z hz; simp; omega)
  rw [f1, f2]
  simp
theorem st_ext {S T : St} (h1 : S.own = T.own) (h2 : S.most = T.most) (h3 : S.now = T.now) (h4 : S.L = T.L) : S = T := by
  cases S; cases T; simp_all
theorem tickK_keep (hy : S.L[k]? = some y) (hu : S.now < y.unt) : tickK S (k + 1) = tickK S k ∧ tickO S (k + 1) = tickO S k := by
  refine ⟨st_ext rfl rfl rfl ?_, ?_⟩
  · rw [tickK_L1 hy, tickK_L hy]; simp [tick1, hu]
  · rw [tickO_1 hy]; simp [tickS, hu]
theorem tickK_que (hr : Rise (tickK S k).L) (hy : S.L[k]? = some y) (hu : ¬ S.now < y.unt) (hq : 0 < y.q ∧ y.q < 3) : { tickK S k with L := put (tickK S k).L (queE (tickK S k) y.ip y) } = tickK S (k + 1) ∧ tickO S (k + 1) = tickO S k ++ [queS S y.ip y] := by
  refine ⟨st_ext rfl rfl rfl ?_, ?_⟩
  · show put (tickK S k).L (queE (tickK S k) y.ip y) = _
    rw [tickK_L hy] at hr ⊢
    rw [put_mid hr (by rfl), tickK_L1 hy]; simp [tick1, hu, hq]; rfl
  · rw [tickO_1 hy]; simp [tickS, hu, hq]
theorem tickK_del (hr : Rise (tickK S k).L) (hy : S.L[k]? = some y) (hu : ¬ S.now < y.unt) (hq : ¬ (0 < y.q ∧ y.q < 3)) : { tickK S k with L := del (tickK S k).L y.ip } = tickK S (k + 1) ∧ tickO S (k + 1) = tickO S k := by
  refine ⟨st_ext rfl rfl rfl ?_, ?_⟩
  · show del (tickK S k).L y.ip = _
    rw [tickK_L hy] at hr ⊢
    rw [del_mid hr, tickK_L1 hy]; simp [tick1, hu, hq]
  · rw [tickO_1 hy]; simp [tickS, hu, hq]
theorem tickO_le (S : St) : ∀ l : List Ab, (l.flatMap (tickS S)).length ≤ l.length
  | [] => by simp
  | x :: l => by
    have h1 := tickO_le S l
    have h2 : (tickS S x).length ≤ 1 := by unfold tickS; split <;> (try split) <;> simp
    simp only [List.flatMap_cons, List.length_append, List.length_cons]
    omega
theorem tickO_len (S : St) (k : Nat) : (tickO S k).length ≤ S.L.length := by
  have h1 := tickO_le S (S.L.take k)
  have h2 : (S.L.take k).length ≤ S.L.length := List.length_take_le' ..
  unfold tickO
  omega
end
theorem upd_self (V : Int → Value) {i : Int} {v : Value} (h : V i = v) : upd V i v = V := by
  funext j
  by_cases e : j = i
  · subst e; rw [upd_same, h]
  · exact upd_other V v e
theorem AnsI.turn {w wr w3 : World} {c m : Nat} {S Sk Sk' : St} {V V' : Int → Value} {v : Value} {sds : List Sd} {l : List (Sd × Value)} (A : AnsI w wr c m S Sk V v sds l V') (ht : Two c m wr w3) (hca : CaW w3 c m Sk' V') (hs : ∀ z ∈ Sk'.L, ∃ z' ∈ Sk.L, z'.ip = z.ip) : AnsI w w3 c m S Sk' V v sds l V' := by
  obtain ⟨es, clock, hm, _⟩ := A.ca.map
  refine ⟨A.map, A.outs.keep (fun b hv => ht.block b (rowS_not A.outs.row A.ca.box (by decide) b hv) (rowS_not_map A.outs.row hm b hv) (A.outs.row.lt hv)) (fun p hp b hv => ht.block b (row_not (A.outs.dat p hp) A.ca.box (by decide) b hv) (row_not_map (A.outs.dat p hp) hm b hv) ((A.outs.dat p hp).lt hv)), A.new, A.src, fun p hp z hz b hb => ?_, fun z hz b hb => ?_, hca, A.two.trans ht⟩
  · obtain ⟨z', hz', e⟩ := hs z hz
    rw [← e]; exact A.off p hp z' hz' b hb
  · obtain ⟨z', hz', e⟩ := hs z hz
    rw [← e] at hb; exact A.vsrc z' hz' b hb
theorem AnsI.add2 {w w1 w6 : World} {c m : Nat} {S S' : St} {V V' : Int → Value} {a : Option Addr} {cp : Nat} {sds : List Sd} {l : List (Sd × Value)} (A : AnsI w w1 c m S S' V (.slice a sds.length cp) sds l V') (hb : Below w1.heap.size w1 w6) (x : Sd) {k n q : Nat} (hk : w.heap.size ≤ k) (hkl : ∀ p ∈ l, p.2.ownBlock ≠ some k) (hkv : ∀ y ∈ S'.L, (V' y.ip).ownBlock ≠ some k) (hd : Row w6 5 (.slice (some ⟨k, 0, none⟩) n q) (u8s x.zs)) (hl : sds.length ≤ 64) :
    ∃ a' cp' w7, (Builtin.append_ #[51, 51] 51 #[.slice a sds.length cp, .slice (some ⟨w6.heap.size, 0, none⟩) 1 1]).run Try.prog (w6.alloc (.cells (x.cells (.slice (some ⟨k, 0, none⟩) n q)) 59)) = .ok (.slice a' (sds ++ [x]).length cp') w7 ∧ Answ w w7 c m S S' V a' cp' (sds ++ [x]) ∧ ∀ (b : Nat) (C : Array Value) (t : TypeId) (f : Nat × Nat), w6.heap[b]? = some (Obj.cells C t f) → t ≠ 59 → w7.heap[b]? = some (Obj.cells C t f) := by
  have hlen : l.length = sds.length := by rw [← A.map]; simp
  have hbp := bpush (Below.refl w6.heap.size w6) (.cells (x.cells (.slice (some ⟨k, 0, none⟩) n q)) 59)
  have hbW : Below w1.heap.size w1 (w6.alloc (.cells (x.cells (.slice (some ⟨k, 0, none⟩) n q)) 59)) := bstep hb hbp
  have oW := A.outs.below hbW
  have cW := A.ca.below hbW
  have dW := hd.below hbp
  have hnew : (w6.alloc (.cells (x.cells (.slice (some ⟨k, 0, none⟩) n q)) 59)).heap[w6.heap.size]? = some (.cells (x.cells (.slice (some ⟨k, 0, none⟩) n q)) 59 (0, 0)) := heap_new _ _
  obtain ⟨v', w7, hrun, hrow, hgr, hloc⟩ := append_s 51 51 59 _ 8 40 Try.underlying51 infoSend rfl (by omega) oW.row ⟨w6.heap.size, 0, none⟩ 1 1 (x.cells (.slice (some ⟨k, 0, none⟩) n q)).toList (by simp [Sd.cells])
    (fun j u hj => by
      rw [show (⟨w6.heap.size, 0, none⟩ : Addr).add j = ⟨w6.heap.size, j, none⟩ from by unfold Addr.add; split <;> simp_all, cell_of_heap hnew, ← Array.getElem?_toList]
      exact hj)
    (fun u hu => by simp [Sd.cells] at hu; rcases hu with rfl | rfl | rfl | rfl | rfl | rfl | rfl | rfl <;> rfl) (by rw [hlen]; unfold maxLen; omega) (by rw [hlen]; omega)
  obtain ⟨a', cp', hv', _⟩ := hrow.form
  subst hv'
  rw [hlen] at hrow
  have hvb : ∀ b, (Value.slice a sds.length cp).ownBlock = some b → w.heap.size ≤ b ∧ b < w1.heap.size := fun b hb' => ⟨A.new b hb', A.outs.row.lt hb'⟩
  have keepT : ∀ b, b < (w6.alloc (.cells (x.cells (.slice (some ⟨k, 0, none⟩) n q)) 59)).heap.size → (Value.slice a sds.length cp).ownBlock ≠ some b → w7.heap[b]? = (w6.alloc (.cells (x.cells (.slice (some ⟨k, 0, none⟩) n q)) 59)).heap[b]? := fun b hlt hne => hgr.block b hlt (fun e => hne (by simpa using e.symm))
  have c7 : CaW w7 c m S' V' := by
    refine cW.keep (keepT c cW.ltc (fun e => rowS_not oW.row cW.box (by decide) c e rfl)) (keepT m cW.ltm (fun e => ?_)) (fun y hy b hb' => keepT b ((cW.rows y hy).lt hb') (rowS_row oW.row (cW.rows y hy) (by decide) b hb'))
    obtain ⟨es, clock, hm, _⟩ := cW.map
    exact rowS_not_map oW.row hm m e rfl
  have hsz : w1.heap.size ≤ w6.heap.size := hb.size
  have h1sz : w.heap.size ≤ w1.heap.size := A.two.size
  refine ⟨a', cp', w7, by rw [hrun, hlen]; simp, ⟨l ++ [(x, .slice (some ⟨k, 0, none⟩) n q)], V', by rw [List.map_append, A.map]; rfl, ⟨?_, fun p hp => ?_, fun p hp => ?_, ?_⟩, fun b hb' => ?_, fun p hp b hb' => ?_, fun p hp y hy b hb' => ?_, A.vsrc, c7, ?_⟩, fun b C t f hb' hne => ?_⟩
  · have e1 : sdCells (l ++ [(x, .slice (some ⟨k, 0, none⟩) n q)]) = sdCells l ++ (x.cells (.slice (some ⟨k, 0, none⟩) n q)).toList := by simp [sdCells]
    have e2 : (l ++ [(x, Value.slice (some ⟨k, 0, none⟩) n q)]).length = sds.length + 1 := by rw [List.length_append, hlen]; rfl
    have e3 : (sds ++ [x]).length = sds.length + 1 := by simp
    rw [e1, e2, e3]
    exact hrow
  · rcases List.mem_append.1 hp with hp | hp
    · exact (oW.dat p hp).keep fun b hb' => keepT b ((oW.dat p hp).lt hb') (rowS_row oW.row (oW.dat p hp) (by decide) b hb')
    · simp at hp; subst hp
      exact dW.keep fun b hb' => keepT b (dW.lt hb') (rowS_row oW.row dW (by decide) b hb')
  · rcases List.mem_append.1 hp with hp | hp
    · exact oW.form p hp
    · simp at hp; subst hp; exact ⟨_, _, _, rfl⟩
  · rw [List.pairwise_append]
    refine ⟨oW.apart, List.pairwise_singleton _ _, fun p hp q' hq' b hb' e => ?_⟩
    simp at hq'; subst hq'
    simp [Value.ownBlock] at e
    exact hkl p hp (by rw [hb', e])
  · rcases hloc b (by cases a' <;> simpa [Value.ownBlock] using hb') with h2 | h2
    · exact A.new b (by cases a <;> simpa [Value.ownBlock] using h2)
    · simp at h2; omega
  · rcases List.mem_append.1 hp with hp | hp
    · exact A.src p hp b hb'
    · simp at hp; subst hp
      simp [Value.ownBlock] at hb'
      left; omega
  · rcases List.mem_append.1 hp with hp | hp
    · exact A.off p hp y hy b hb'
    · simp at hp; subst hp
      simp [Value.ownBlock] at hb'
      subst hb'
      exact hkv y hy
  · have t1 := A.two.trans (Two.of_below (c := c) (m := m) hbW)
    exact ⟨hgr.os.trans t1.os, hgr.tape.trans t1.tape, hgr.output.trans t1.output, Nat.le_trans t1.size hgr.size, fun i h1 h2 hl' => (keepT i (Nat.lt_of_lt_of_le hl' t1.size) (fun e => by have := (hvb i e).1; omega)).trans (t1.block i h1 h2 hl')⟩
  · have hW := kept hb' hbp
    exact (keepT b (heap_lt hW) (fun e => rowS_not oW.row hW (Ne.symm hne) b e rfl)).trans hW

/-- a question more. -/
theorem tickQ {w1 wr : World} {c m k : Nat} {S : St} {V V' : Int → Value} {a : Option Addr} {cp : Nat} {l : List (Sd × Value)} {y : Ab} (A : AnsI w1 wr c m S (tickK S k) V (.slice a (tickO S k).length cp) (tickO S k) l V') (hy : S.L[k]? = some y) (hu : ¬ S.now < y.unt) (hq : 0 < y.q ∧ y.q < 3) {pa : Option Addr} {pn pc : Nat} (hv : V' y.ip = .slice pa pn pc) (hl : S.L.length ≤ 64) (w3 w4 : World) (g : Nat) (hb : Below wr.heap.size wr w3) (ht : Two c m w3 w4)
    (hca : CaW w4 c m { tickK S k with L := put (tickK S k).L (queE (tickK S k) y.ip y) } (upd V' y.ip (.slice pa pn pc))) (hg : w3.heap.size ≤ g ∧ w4.heap[g]? = some (.cells (u8s (encL (askP S.own y.src y.ip))).toArray 5 (0, 0))) :
    ∃ a' n' cp' w7, (Builtin.append_ #[51, 51] 51 #[.slice a (tickO S k).length cp, .slice (some ⟨w4.heap.size, 0, none⟩) 1 1]).run Try.prog (w4.alloc (.cells #[.int .u8 255, .int .u8 255, .int .u8 255, .int .u8 255, .int .u8 255, .int .u8 255, .int .i64 2054, .slice (some ⟨g, 0, none⟩) 28 28] 59)) = .ok (.slice a' n' cp') w7 ∧ n' = (tickO S (k + 1)).length ∧ Hid (Answ w1 w7 c m S (tickK S (k + 1)) V a' cp' (tickO S (k + 1))) := by
  obtain ⟨e1, e2⟩ := tickK_que A.ca.ok.rise hy hu hq
  rw [upd_self V' hv, e1] at hca
  have A4 : AnsI w1 w4 c m S (tickK S (k + 1)) V (.slice a (tickO S k).length cp) (tickO S k) l V' := by
    refine A.turn ((Two.of_below hb).trans ht) hca fun z hz => ?_
    rw [← e1] at hz
    rcases mem_put.1 hz with rfl | hz
    · exact ⟨y, tickK_mem hy, rfl⟩
    · exact ⟨z, hz.1, rfl⟩
  have hr := Row.of_heap hg.2 (by rw [u8s_len, encL_len]; unfold maxLen; omega)
  rw [u8s_len, encL_len] at hr
  have hs1 := A.two.size
  have hs2 := hb.size
  obtain ⟨a', cp', w7, h1, h2, _⟩ := A4.add2 (w6 := w4) (Below.refl _ _) (queS S y.ip y) (k := g) (n := 28) (q := 28) (by omega)
    (fun p hp e => by have := (A.outs.dat p hp).lt e; omega)
    (fun z hz e => by
      rw [← e1] at hz
      have hz' : ∃ z' ∈ (tickK S k).L, z'.ip = z.ip := by
        rcases mem_put.1 hz with rfl | hz
        · exact ⟨y, tickK_mem hy, rfl⟩
        · exact ⟨z, hz.1, rfl⟩
      obtain ⟨z', hz', e'⟩ := hz'
      rw [← e'] at e
      have := (A.ca.rows z' hz').lt e
      omega) hr (by have := tickO_len S k; omega)
  refine ⟨a', _, cp', w7, h1, by rw [e2], ?_⟩
  rw [e2]
  exact h2
/-- one that goes. -/
theorem tickD {w1 wr w3 w4 : World} {c m k : Nat} {S : St} {V V' : Int → Value} {a : Option Addr} {cp : Nat} {l : List (Sd × Value)} {y : Ab} (A : AnsI w1 wr c m S (tickK S k) V (.slice a (tickO S k).length cp) (tickO S k) l V') (hy : S.L[k]? = some y) (hu : ¬ S.now < y.unt) (hq : ¬ (0 < y.q ∧ y.q < 3)) (hb : Below wr.heap.size wr w3) (hm : But m w3 w4) (hca : CaW w4 c m { tickK S k with L := del (tickK S k).L y.ip } V') :
    (tickO S k).length = (tickO S (k + 1)).length ∧ Hid (Answ w1 w4 c m S (tickK S (k + 1)) V a cp (tickO S (k + 1))) := by
  obtain ⟨e1, e2⟩ := tickK_del A.ca.ok.rise hy hu hq
  rw [e1] at hca
  rw [e2]
  refine ⟨rfl, l, V', A.turn ((Two.of_below hb).trans (Two.of_m hm)) hca fun z hz => ?_⟩
  rw [← e1] at hz
  exact ⟨z, (mem_del.1 hz).1, rfl⟩
/-- one that stays. -/
theorem tickN {w1 wr w3 : World} {c m k : Nat} {S : St} {V V' : Int → Value} {a : Option Addr} {cp : Nat} {l : List (Sd × Value)} {y : Ab} (A : AnsI w1 wr c m S (tickK S k) V (.slice a (tickO S k).length cp) (tickO S k) l V') (hy : S.L[k]? = some y) (hu : S.now < y.unt) (hb : Below wr.heap.size wr w3) :
    (tickO S k).length = (tickO S (k + 1)).length ∧ Hid (Answ w1 w3 c m S (tickK S (k + 1)) V a cp (tickO S (k + 1))) := by
  obtain ⟨e1, e2⟩ := tickK_keep hy hu
  rw [e2, e1]
  exact ⟨rfl, l, V', A.turn (Two.of_below hb) (A.ca.below hb) fun z hz => ⟨z, hz, rfl⟩⟩
/-- what a question wants. -/
theorem tickW {w1 wr w3 : World} {c m k : Nat} {S : St} {V V' : Int → Value} {v : Value} {sds : List Sd} {l : List (Sd × Value)} {y : Ab} (A : AnsI w1 wr c m S (tickK S k) V v sds l V') (hy : S.L[k]? = some y) (hq : 0 < y.q ∧ y.q < 3) {pa : Option Addr} {pn pc : Nat} (hv : V' y.ip = .slice pa pn pc) (hb : Below wr.heap.size wr w3) :
    CaW w3 c m (tickK S k) V' ∧ (queE (tickK S k) y.ip y).ok ∧ Row w3 5 (.slice pa pn pc) (u8s y.zs) ∧ (∀ z ∈ (tickK S k).L, z.ip ≠ y.ip → ∀ b, (V' z.ip).ownBlock = some b → (Value.slice pa pn pc).ownBlock ≠ some b) ∧ ((put (tickK S k).L (queE (tickK S k) y.ip y)).length : Int) ≤ (tickK S k).most := by
  have hm := tickK_mem hy
  have hc := A.ca.below hb
  have hok := A.ca.ok.ents y hm
  refine ⟨hc, queE_ok A.ca.ok hok.ip hok.mac (by omega) hok.src hok.zs (hok.asd (by omega)), by rw [← hv]; exact hc.rows y hm, fun z hz hne b hb' => by rw [← hv]; exact A.ca.apart z hz y hm hne b hb', ?_⟩
  rw [put_len_same (x := queE (tickK S k) y.ip y) A.ca.ok.rise hm rfl]
  exact A.ca.ok.len
end Go.Proofs.Ytaaoelhmanahpaa
