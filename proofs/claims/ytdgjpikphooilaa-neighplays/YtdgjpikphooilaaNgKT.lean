import Derived.Test.YtdgjpikphooilaaNAdd
import Derived.Test.YtdgjpikphooilaaNAsk3
import Derived.Test.YtdgjpikphooilaaNLook
/-
  Neigh: Tick's memory and lists. Written by mktikm.py (AnsI.add2 out of NAdd's Answ.add).
-/
namespace Go.Proofs.Ytdgjpikphooilaa
open Go.RowKit
set_option linter.all false

def tick1 (S : St) (y : Ab) : Option Ab := if S.now < y.unt then some y else if 0 < y.q ∧ y.q < 3 then some (queE S y.ip y) else none
def tickS (S : St) (y : Ab) : List Sd := if S.now < y.unt then [] else if 0 < y.q ∧ y.q < 3 then [queS S y.ip y] else []
/-- a cache, k of its entries ticked. -/
def tickK (S : St) (k : Nat) : St := { S with L := (S.L.take k).filterMap (tick1 S) ++ S.L.drop k }
def tickO (S : St) (k : Nat) : List Sd := (S.L.take k).flatMap (tickS S)
def tickF (S0 : St) (now : Int) : St × List Sd :=
  let S : St := { S0 with now := hearN S0.now now }
  ({ S with L := S.L.filterMap (tick1 S) }, S.L.flatMap (tickS S))
section
variable {S : St} {k : Nat} {y : Ab}
theorem tickK_zero (S : St) : tickK S 0 = S := by simp [tickK]
theorem tickO_zero (S : St) : tickO S 0 = [] := by simp [tickO]
theorem tickK_all {N : Nat} (h : N = S.L.length) : tickK S N = { S with L := S.L.filterMap (tick1 S) } := by
  subst h; simp [tickK]
theorem tickO_all {N : Nat} (h : N = S.L.length) : tickO S N = S.L.flatMap (tickS S) := by
  subst h; simp [tickO]
theorem take_at (hy : S.L[k]? = some y) : S.L.take (k + 1) = S.L.take k ++ [y] := by rw [List.take_add_one, hy]; rfl
theorem drop_at (hy : S.L[k]? = some y) : S.L.drop k = y :: S.L.drop (k + 1) := by
  obtain ⟨h, rfl⟩ := List.getElem?_eq_some_iff.1 hy
  exact List.drop_eq_getElem_cons h
theorem tickK_L (hy : S.L[k]? = some y) : (tickK S k).L = (S.L.take k).filterMap (tick1 S) ++ y :: S.L.drop (k + 1) := by
  show _ ++ S.L.drop k = _
  rw [drop_at hy]
theorem tickK_mem (hy : S.L[k]? = some y) : y ∈ (tickK S k).L := by rw [tickK_L hy]; simp
theorem tickK_L1 (hy : S.L[k]? = some y) : (tickK S (k + 1)).L = (S.L.take k).filterMap (tick1 S) ++ ((tick1 S y).toList ++ S.L.drop (k + 1)) := by
  show List.filterMap _ (S.L.take (k + 1)) ++ _ = _
  rw [take_at hy, List.filterMap_append, List.append_assoc]
  cases h : tick1 S y <;> simp [h]
theorem tickO_1 (hy : S.L[k]? = some y) : tickO S (k + 1) = tickO S k ++ tickS S y := by
  unfold tickO
  rw [take_at hy]; simp
theorem rise_mid {A B : List Ab} (h : Rise (A ++ y :: B)) : (∀ z ∈ A, z.ip < y.ip) ∧ ∀ z ∈ B, y.ip < z.ip := by
  have h1 := List.pairwise_append.1 h
  exact ⟨fun z hz => h1.2.2 z hz y (List.mem_cons_self ..), (List.pairwise_cons.1 h1.2.1).1⟩
theorem put_mid {A B : List Ab} (h : Rise (A ++ y :: B)) {x : Ab} (e : x.ip = y.ip) : put (A ++ y :: B) x = A ++ x :: B := by
  obtain ⟨h1, h2⟩ := rise_mid h
  unfold put
  rw [List.filter_append, List.filter_append, List.filter_cons, List.filter_cons, e]
  have f1 : A.filter (fun z => decide (z.ip < y.ip)) = A := List.filter_eq_self.2 (fun z hz => by simpa using h1 z hz)
  have f2 : B.filter (fun z => decide (z.ip < y.ip)) = [] := List.filter_eq_nil_iff.2 (fun z hz => by have := h2 z hz; simp; omega)
  have f3 : A.filter (fun z => decide (y.ip < z.ip)) = [] := List.filter_eq_nil_iff.2 (fun z hz => by have := h1 z hz; simp; omega)
  have f4 : B.filter (fun z => decide (y.ip < z.ip)) = B := List.filter_eq_self.2 (fun z hz => by simpa using h2 z hz)
  rw [f1, f2, f3, f4]
  simp
theorem del_mid {A B : List Ab} (h : Rise (A ++ y :: B)) : del (A ++ y :: B) y.ip = A ++ B := by
  obtain ⟨h1, h2⟩ := rise_mid h
  unfold del
  rw [List.filter_append, List.filter_cons]
  have f1 : A.filter (fun z => z.ip != y.ip) = A := List.filter_eq_self.2 (fun z hz => by have := h1 z hz; simp; omega)
  have f2 : B.filter (fun z => z.ip != y.ip) = B := List.filter_eq_self.2 (fun z hz => by have := h2 z hz; simp; omega)
  rw [f1, f2]
  simp
theorem st_ext {S T : St} (h1 : S.own = T.own) (h2 : S.most = T.most) (h3 : S.now = T.now) (h4 : S.L = T.L) : S = T := by
  cases S; cases T; simp_all
theorem tickK_keep (hy : S.L[k]? = some y) (hu : S.now < y.unt) : tickK S (k + 1) = tickK S k ∧ tickO S (k + 1) = tickO S k := by
  refine ⟨st_ext rfl rfl rfl ?_, ?_⟩
  · rw [tickK_L1 hy, tickK_L hy]; simp [tick1, hu]
  · rw [tickO_1 hy]; simp [tickS, hu]
theorem tickK_que (hr : Rise (tickK S k).L) (hy : S.L[k]? = some y) (hu : ¬ S.now < y.unt) (hq : 0 < y.q ∧ y.q < 3) : { tickK S k with L := put (tickK S k).L (queE (tickK S k) y.ip y) } = tickK S (k + 1) ∧ tickO S (k + 1) = tickO S k ++ [queS S y.ip y] := by
  refine ⟨st_ext rfl rfl rfl ?_, ?_⟩
  · show put (tickK S k).L (queE (tickK S k) y.ip y) = _
    rw [tickK_L hy] at hr ⊢
    rw [put_mid hr (by rfl), tickK_L1 hy]; simp [tick1, hu, hq]; rfl
  · rw [tickO_1 hy]; simp [tickS, hu, hq]
theorem tickK_del (hr : Rise (tickK S k).L) (hy : S.L[k]? = some y) (hu : ¬ S.now < y.unt) (hq : ¬ (0 < y.q ∧ y.q < 3)) : { tickK S k with L := del (tickK S k).L y.ip } = tickK S (k + 1) ∧ tickO S (k + 1) = tickO S k := by
  refine ⟨st_ext rfl rfl rfl ?_, ?_⟩
  · show del (tickK S k).L y.ip = _
    rw [tickK_L hy] at hr ⊢
    rw [del_mid hr, tickK_L1 hy]; simp [tick1, hu, hq]
  · rw [tickO_1 hy]; simp [tickS, hu, hq]
theorem tickO_le (S : St) : ∀ l : List Ab, (l.flatMap (tickS S)).length ≤ l.length
  | [] => by simp
  | x :: l => by
    have h1 := tickO_le S l
    have h2 : (tickS S x).length ≤ 1 := by unfold tickS; split <;> (try split) <;> simp
    simp only [List.flatMap_cons, List.length_append, List.length_cons]
    omega
theorem tickO_len (S : St) (k : Nat) : (tickO S k).length ≤ S.L.length := by
  have h1 := tickO_le S (S.L.take k)
  have h2 : (S.L.take k).length ≤ S.L.length := List.length_take_le' ..
  unfold tickO
  omega
end
theorem upd_self (V : Int → Value) {i : Int} {v : Value} (h : V i = v) : upd V i v = V := by
  funext j
  by_cases e : j = i
  · subst e; rw [upd_same, h]
  · exact upd_other V v e
theorem AnsI.turn {w wr w3 : World} {c m : Nat} {S Sk Sk' : St} {V V' : Int → Value} {v : Value} {sds : List Sd} {l : List (Sd × Value)} (A : AnsI w wr c m S Sk V v sds l V') (ht : Two c m wr w3) (hca : CaW w3 c m Sk' V') (hs : ∀ z ∈ Sk'.L, ∃ z' ∈ Sk.L, z'.ip = z.ip) : AnsI w w3 c m S Sk' V v sds l V' := by
  obtain ⟨es, clock, hm, _⟩ := A.ca.map
  refine ⟨A.map, A.outs.keep (fun b hv => ht.block b (rowS_not A.outs.row A.ca.box (by decide) b hv) (rowS_not_map A.outs.row hm b hv) (A.outs.row.lt hv)) (fun p hp b hv => ht.block b (row_not (A.outs.dat p hp) A.ca.box (by decide) b hv) (row_not_map (A.outs.dat p hp) hm b hv) ((A.outs.dat p hp).lt hv)), A.new, A.src, fun p hp z hz b hb => ?_, fun z hz b hb => ?_, hca, A.two.trans ht⟩
  · obtain ⟨z', hz', e⟩ := hs z hz
    rw [← e]; exact A.off p hp z' hz' b hb
  · obtain ⟨z', hz', e⟩ := hs z hz
    rw [← e] at hb; exact A.vsrc z' hz' b hb
theorem AnsI.add2 {w w1 w6 : World} {c m : Nat} {S S' : St} {V V' : Int → Value} {a : Option Addr} {cp : Nat} {sds : List Sd} {l : List (Sd × Value)} (A : AnsI w w1 c m S S' V (.slice a sds.length cp) sds l V') (hb : Below w1.heap.size w1 w6) (x : Sd) {k n q : Nat} (hk : w.heap.size ≤ k) (hkl : ∀ p ∈ l, p.2.ownBlock ≠ some k) (hkv : ∀ y ∈ S'.L, (V' y.ip).ownBlock ≠ some k) (hd : Row w6 5 (.slice (some ⟨k, 0, none⟩) n q) (u8s x.zs)) (hl : sds.length ≤ 64) :
    ∃ a' cp' w7, (Builtin.append_ #[51, 51] 51 #[.slice a sds.length cp, .slice (some ⟨w6.heap.size, 0, none⟩) 1 1]).run Try.prog (w6.alloc (.cells (x.cells (.slice (some ⟨k, 0, none⟩) n q)) 59)) = .ok (.slice a' (sds ++ [x]).length cp') w7 ∧ Answ w w7 c m S S' V a' cp' (sds ++ [x]) ∧ ∀ (b : Nat) (C : Array Value) (t : TypeId) (f : Nat × Nat), w6.heap[b]? = some (Obj.cells C t f) → t ≠ 59 → w7.heap[b]? = some (Obj.cells C t f) := by
  have hlen : l.length = sds.length := by rw [← A.map]; simp
  have hbp := bpush (Below.refl w6.heap.size w6) (.cells (x.cells (.slice (some ⟨k, 0, none⟩) n q)) 59)
  have hbW : Below w1.heap.size w1 (w6.alloc (.cells (x.cells (.slice (some ⟨k, 0, none⟩) n q)) 59)) := bstep hb hbp
  have oW := A.outs.below hbW
  have cW := A.ca.below hbW
  have dW := hd.below hbp
  have hnew : (w6.alloc (.cells (x.cells (.slice (some ⟨k, 0, none⟩) n q)) 59)).heap[w6.heap.size]? = some (.cells (x.cells (.slice (some ⟨k, 0, none⟩) n q)) 59 (0, 0)) := heap_new _ _
  obtain ⟨v', w7, hrun, hrow, hgr, hloc⟩ := append_s 51 51 59 _ 8 40 Try.underlying51 infoSend rfl (by omega) oW.row ⟨w6.heap.size, 0, none⟩ 1 1 (x.cells (.slice (some ⟨k, 0, none⟩) n q)).toList (by simp [Sd.cells])
    (fun j u hj => by
      rw [show (⟨w6.heap.size, 0, none⟩ : Addr).add j = ⟨w6.heap.size, j, none⟩ from by unfold Addr.add; split <;> simp_all, cell_of_heap hnew, ← Array.getElem?_toList]
      exact hj)
    (fun u hu => by simp [Sd.cells] at hu; rcases hu with rfl | rfl | rfl | rfl | rfl | rfl | rfl | rfl <;> rfl) (by rw [hlen]; unfold maxLen; omega) (by rw [hlen]; omega)
  obtain ⟨a', cp', hv', _⟩ := hrow.form
  subst hv'
  rw [hlen] at hrow
  have hvb : ∀ b, (Value.slice a sds.length cp).ownBlock = some b → w.heap.size ≤ b ∧ b < w1.heap.size := fun b hb' => ⟨A.new b hb', A.outs.row.lt hb'⟩
  have keepT : ∀ b, b < (w6.alloc (.cells (x.cells (.slice (some ⟨k, 0, none⟩) n q)) 59)).heap.size → (Value.slice a sds.length cp).ownBlock ≠ some b → w7.heap[b]? = (w6.alloc (.cells (x.cells (.slice (some ⟨k, 0, none⟩) n q)) 59)).heap[b]? := fun b hlt hne => hgr.block b hlt (fun e => hne (by simpa using e.symm))
  have c7 : CaW w7 c m S' V' := by
    refine cW.keep (keepT c cW.ltc (fun e => rowS_not oW.row cW.box (by decide) c e rfl)) (keepT m cW.ltm (fun e => ?_)) (fun y hy b hb' => keepT b ((cW.rows y hy).lt hb') (rowS_row oW.row (cW.rows y hy) (by decide) b hb'))
    obtain ⟨es, clock, hm, _⟩ := cW.map
    exact rowS_not_map oW.row hm m e rfl
  have hsz : w1.heap.size ≤ w6.heap.size := hb.size
  have h1sz : w.heap.size ≤ w1.heap.size := A.two.size
  refine ⟨a', cp', w7, by rw [hrun, hlen]; simp, ⟨l ++ [(x, .slice (some ⟨k, 0, none⟩) n q)], V', by rw [List.map_append, A.map]; rfl, ⟨?_, fun p hp => ?_, fun p hp => ?_, ?_⟩, fun b hb' => ?_, fun p hp b hb' => ?_, fun p hp y hy b hb' => ?_, A.vsrc, c7, ?_⟩, fun b C t f hb' hne => ?_⟩
  · have e1 : sdCells (l ++ [(x, .slice (some ⟨k, 0, none⟩) n q)]) = sdCells l ++ (x.cells (.slice (some ⟨k, 0, none⟩) n q)).toList := by simp [sdCells]
    have e2 : (l ++ [(x, Value.slice (some ⟨k, 0, none⟩) n q)]).length = sds.length + 1 := by rw [List.length_append, hlen]; rfl
    have e3 : (sds ++ [x]).length = sds.length + 1 := by simp
    rw [e1, e2, e3]
    exact hrow
  · rcases List.mem_append.1 hp with hp | hp
    · exact (oW.dat p hp).keep fun b hb' => keepT b ((oW.dat p hp).lt hb') (rowS_row oW.row (oW.dat p hp) (by decide) b hb')
    · simp at hp; subst hp
      exact dW.keep fun b hb' => keepT b (dW.lt hb') (rowS_row oW.row dW (by decide) b hb')
  · rcases List.mem_append.1 hp with hp | hp
    · exact oW.form p hp
    · simp at hp; subst hp; exact ⟨_, _, _, rfl⟩
  · rw [List.pairwise_append]
    refine ⟨oW.apart, List.pairwise_singleton _ _, fun p hp q' hq' b hb' e => ?_⟩
    simp at hq'; subst hq'
    simp [Value.ownBlock] at e
    exact hkl p hp (by rw [hb', e])
  · rcases hloc b (by cases a' <;> simpa [Value.ownBlock] using hb') with h2 | h2
    · exact A.new b (by cases a <;> simpa [Value.ownBlock] using h2)
    · simp at h2; omega
  · rcases List.mem_append.1 hp with hp | hp
    · exact A.src p hp b hb'
    · simp at hp; subst hp
      simp [Value.ownBlock] at hb'
      left; omega
  · rcases List.mem_append.1 hp with hp | hp
    · exact A.off p hp y hy b hb'
    · simp at hp; subst hp
      simp [Value.ownBlock] at hb'
      subst hb'
      exact hkv y hy
  · have t1 := A.two.trans (Two.of_below (c := c) (m := m) hbW)
    exact ⟨hgr.os.trans t1.os, hgr.tape.trans t1.tape, hgr.output.trans t1.output, Nat.le_trans t1.size hgr.size, fun i h1 h2 hl' => (keepT i (Nat.lt_of_lt_of_le hl' t1.size) (fun e => by have := (hvb i e).1; omega)).trans (t1.block i h1 h2 hl')⟩
  · have hW := kept hb' hbp
    exact (keepT b (heap_lt hW) (fun e => rowS_not oW.row hW (Ne.symm hne) b e rfl)).trans hW

/-- a question more. -/
theorem tickQ {w1 wr : World} {c m k : Nat} {S : St} {V V' : Int → Value} {a : Option Addr} {cp : Nat} {l : List (Sd × Value)} {y : Ab} (A : AnsI w1 wr c m S (tickK S k) V (.slice a (tickO S k).length cp) (tickO S k) l V') (hy : S.L[k]? = some y) (hu : ¬ S.now < y.unt) (hq : 0 < y.q ∧ y.q < 3) {pa : Option Addr} {pn pc : Nat} (hv : V' y.ip = .slice pa pn pc) (hl : S.L.length ≤ 64) (w3 w4 : World) (g : Nat) (hb : Below wr.heap.size wr w3) (ht : Two c m w3 w4)
    (hca : CaW w4 c m { tickK S k with L := put (tickK S k).L (queE (tickK S k) y.ip y) } (upd V' y.ip (.slice pa pn pc))) (hg : w3.heap.size ≤ g ∧ w4.heap[g]? = some (.cells (u8s (encL (askP S.own y.src y.ip))).toArray 5 (0, 0))) :
    ∃ a' n' cp' w7, (Builtin.append_ #[51, 51] 51 #[.slice a (tickO S k).length cp, .slice (some ⟨w4.heap.size, 0, none⟩) 1 1]).run Try.prog (w4.alloc (.cells #[.int .u8 255, .int .u8 255, .int .u8 255, .int .u8 255, .int .u8 255, .int .u8 255, .int .i64 2054, .slice (some ⟨g, 0, none⟩) 28 28] 59)) = .ok (.slice a' n' cp') w7 ∧ n' = (tickO S (k + 1)).length ∧ Hid (Answ w1 w7 c m S (tickK S (k + 1)) V a' cp' (tickO S (k + 1))) := by
  obtain ⟨e1, e2⟩ := tickK_que A.ca.ok.rise hy hu hq
  rw [upd_self V' hv, e1] at hca
  have A4 : AnsI w1 w4 c m S (tickK S (k + 1)) V (.slice a (tickO S k).length cp) (tickO S k) l V' := by
    refine A.turn ((Two.of_below hb).trans ht) hca fun z hz => ?_
    rw [← e1] at hz
    rcases mem_put.1 hz with rfl | hz
    · exact ⟨y, tickK_mem hy, rfl⟩
    · exact ⟨z, hz.1, rfl⟩
  have hr := Row.of_heap hg.2 (by rw [u8s_len, encL_len]; unfold maxLen; omega)
  rw [u8s_len, encL_len] at hr
  have hs1 := A.two.size
  have hs2 := hb.size
  obtain ⟨a', cp', w7, h1, h2, _⟩ := A4.add2 (w6 := w4) (Below.refl _ _) (queS S y.ip y) (k := g) (n := 28) (q := 28) (by omega)
    (fun p hp e => by have := (A.outs.dat p hp).lt e; omega)
    (fun z hz e => by
      rw [← e1] at hz
      have hz' : ∃ z' ∈ (tickK S k).L, z'.ip = z.ip := by
        rcases mem_put.1 hz with rfl | hz
        · exact ⟨y, tickK_mem hy, rfl⟩
        · exact ⟨z, hz.1, rfl⟩
      obtain ⟨z', hz', e'⟩ := hz'
      rw [← e'] at e
      have := (A.ca.rows z' hz').lt e
      omega) hr (by have := tickO_len S k; omega)
  refine ⟨a', _, cp', w7, h1, by rw [e2], ?_⟩
  rw [e2]
  exact h2
/-- one that goes. -/
theorem tickD {w1 wr w3 w4 : World} {c m k : Nat} {S : St} {V V' : Int → Value} {a : Option Addr} {cp : Nat} {l : List (Sd × Value)} {y : Ab} (A : AnsI w1 wr c m S (tickK S k) V (.slice a (tickO S k).length cp) (tickO S k) l V') (hy : S.L[k]? = some y) (hu : ¬ S.now < y.unt) (hq : ¬ (0 < y.q ∧ y.q < 3)) (hb : Below wr.heap.size wr w3) (hm : But m w3 w4) (hca : CaW w4 c m { tickK S k with L := del (tickK S k).L y.ip } V') :
    (tickO S k).length = (tickO S (k + 1)).length ∧ Hid (Answ w1 w4 c m S (tickK S (k + 1)) V a cp (tickO S (k + 1))) := by
  obtain ⟨e1, e2⟩ := tickK_del A.ca.ok.rise hy hu hq
  rw [e1] at hca
  rw [e2]
  refine ⟨rfl, l, V', A.turn ((Two.of_below hb).trans (Two.of_m hm)) hca fun z hz => ?_⟩
  rw [← e1] at hz
  exact ⟨z, (mem_del.1 hz).1, rfl⟩
/-- one that stays. -/
theorem tickN {w1 wr w3 : World} {c m k : Nat} {S : St} {V V' : Int → Value} {a : Option Addr} {cp : Nat} {l : List (Sd × Value)} {y : Ab} (A : AnsI w1 wr c m S (tickK S k) V (.slice a (tickO S k).length cp) (tickO S k) l V') (hy : S.L[k]? = some y) (hu : S.now < y.unt) (hb : Below wr.heap.size wr w3) :
    (tickO S k).length = (tickO S (k + 1)).length ∧ Hid (Answ w1 w3 c m S (tickK S (k + 1)) V a cp (tickO S (k + 1))) := by
  obtain ⟨e1, e2⟩ := tickK_keep hy hu
  rw [e2, e1]
  exact ⟨rfl, l, V', A.turn (Two.of_below hb) (A.ca.below hb) fun z hz => ⟨z, hz, rfl⟩⟩
/-- what a question wants. -/
theorem tickW {w1 wr w3 : World} {c m k : Nat} {S : St} {V V' : Int → Value} {v : Value} {sds : List Sd} {l : List (Sd × Value)} {y : Ab} (A : AnsI w1 wr c m S (tickK S k) V v sds l V') (hy : S.L[k]? = some y) (hq : 0 < y.q ∧ y.q < 3) {pa : Option Addr} {pn pc : Nat} (hv : V' y.ip = .slice pa pn pc) (hb : Below wr.heap.size wr w3) :
    CaW w3 c m (tickK S k) V' ∧ (queE (tickK S k) y.ip y).ok ∧ Row w3 5 (.slice pa pn pc) (u8s y.zs) ∧ (∀ z ∈ (tickK S k).L, z.ip ≠ y.ip → ∀ b, (V' z.ip).ownBlock = some b → (Value.slice pa pn pc).ownBlock ≠ some b) ∧ ((put (tickK S k).L (queE (tickK S k) y.ip y)).length : Int) ≤ (tickK S k).most := by
  have hm := tickK_mem hy
  have hc := A.ca.below hb
  have hok := A.ca.ok.ents y hm
  refine ⟨hc, queE_ok A.ca.ok hok.ip hok.mac (by omega) hok.src hok.zs (hok.asd (by omega)), by rw [← hv]; exact hc.rows y hm, fun z hz hne b hb' => by rw [← hv]; exact A.ca.apart z hz y hm hne b hb', ?_⟩
  rw [put_len_same (x := queE (tickK S k) y.ip y) A.ca.ok.rise hm rfl]
  exact A.ca.ok.len
end Go.Proofs.Ytdgjpikphooilaa

/-
  Neigh: Tick. Written by mktick.py.
-/
namespace Go.Proofs.Ytdgjpikphooilaa
open Go.RowKit
set_option linter.all false

theorem cell_lt' {w : World} {g k : Nat} {v : Value} (h : w.cell? ⟨g, k, none⟩ = some v) : g < w.heap.size := by
  exact World.block_lt_of_cell? _ _ h
/-- asked, the entry in a box. -/
theorem asked_in (y : Ab) (pa : Option Addr) (pn pc b : Nat) (C : Array Value) (w0 w : World) (hb : Below w0.heap.size w0 w) (hx : w.heap[b]? = some (.cells C 87 (0, 0))) : Calls Try.prog 37 #[y.val (.slice pa pn pc)] w fun e w' => e = .returned (.bool (decide (0 < y.q))) ∧ (∀ j, w'.cell? ⟨b, j, none⟩ = C[j]?) ∧ Hid (Below w0.heap.size w0 w') :=
  (asked_any y _ w).mono fun e w' ⟨h1, h2⟩ => ⟨h1, fun j => cell_of_heap (kept hx h2) j, bstep hb h2⟩
set_option maxRecDepth 40000 in
set_option maxHeartbeats 8000000 in
theorem tick_any (c m : Nat) (S : St) (V : Int → Value) (now : Int) (w : World) (x : CaW w c m S V) :
    Calls Try.prog 18 #[.pointer (some ⟨c, 0, none⟩), .int .i64 now] w fun e w' => ∃ a cp, e = .returned (.slice a (tickF S now).2.length cp) ∧ Hid (Answ w w' c m S (tickF S now).1 V a cp (tickF S now).2) := by
  have HHE := hid (hear_any c m S V now w x)
  obtain ⟨S1, hS1⟩ : ∃ z, z = ({ S with now := hearN S.now now } : St) := ⟨_, rfl⟩
  rw [← hS1] at HHE
  have hLS : S1.L = S.L := by rw [hS1]
  have hTF : tickF S now = ({ S1 with L := S1.L.filterMap (tick1 S1) }, S1.L.flatMap (tickS S1)) := by rw [hS1]; rfl
  rw [hTF]
  have hcl := x.ltc
  have hml := x.ltm
  have hl64 : S1.L.length ≤ 64 := by rw [hLS]; have := x.ok.len; have := x.ok.most; omega
  clear x hS1 hTF
  obtain ⟨N, hN⟩ : ∃ n, n = S1.L.length := ⟨_, rfl⟩
  rw [← hN] at hl64
  rw [← tickK_all hN, ← tickO_all hN]
  have HAD := hid (fun (w1 : World) (y : CaW w1 c m S1 V) => addresses_x c m S1 V N hN w1 y)
  have HN := hid hN
  have HLS := hid hLS
  clear hN hLS
  go_enter Try.func18, Try.ntmps18
  go_wp2_with (first
    | (go_at_call 36; with_reducible refine HHE.out.mono ?_; rintro e w0 ⟨rfl, HC0, HB0⟩)
    | (go_at_call 49; with_reducible refine (HAD.out _ HC0.out).mono ?_; rintro e w1 ⟨g, cap, rfl, hgw, HCE, HB1⟩)
    | fail)
  have hs0 := HB0.out.size
  have HT1 : Hid (Two c m w w1) := (Two.of_c HB0.out).trans (Two.of_below HB1.out)
  have HC1 := hid (HC0.out.below HB1.out)
  have hgne : g ≠ c ∧ g ≠ m := by omega
  have h0 : (tickO S1 0).length = 0 := by rw [tickO_zero]; rfl
  have HA0 : Hid (Answ w1 w1 c m S1 (tickK S1 0) V none 0 (tickO S1 0)) := by
    rw [tickK_zero, tickO_zero]
    exact Answ.void (fun z hz b hb => Or.inr ⟨z, hz, hb⟩) HC1.out (Two.refl _ _ _)
  clear HAD HHE HC0 HB1 hs0
  go_loopw [5, 15] (fun v5 vi wr => ∃ (a : Option Addr) (n k cp : Nat), v5 = .slice a n cp ∧ vi = .int .i64 k ∧ k ≤ N ∧ Hid (n = (tickO S1 k).length) ∧ Hid (Answ w1 wr c m S1 (tickK S1 k) V a cp (tickO S1 k))) (fun _ vi _ => N - (intOf3 vi).toNat)
  case atStart => exact ⟨none, 0, 0, 0, rfl, rfl, Nat.zero_le _, h0.symm, HA0⟩
  case round =>
    clear HA0 h0
    obtain ⟨a, n, k, cp, rfl, rfl, hk, HNL, HA⟩ := hrel
    have hnl := HNL.out
    by_cases hkN : k < N
    · obtain ⟨y, hy⟩ : ∃ y, S1.L[k]? = some y := ⟨_, List.getElem?_eq_getElem (by rw [← HN.out]; exact hkN)⟩
      have HY := hid hy
      obtain ⟨l, V', A⟩ := HA.out
      have HAI := hid A
      have hyL := tickK_mem hy
      have hck : wr.cell? ⟨g, k, none⟩ = some (.int .u32 y.ip) := by
        have h1 := HCE.out k y hy
        rw [← h1]
        exact World.cell?_of_block (w := w1) (A.two.block g hgne.1 hgne.2 (cell_lt' h1))
      have hc8 := A.ca.cells.2.2.2.1
      have hlk := A.ca.map.look (A.ca.ok.ents y hyL).ip
      obtain ⟨pa, pc, hv, _⟩ := (A.ca.rows y hyL).form
      rw [entV_at A.ca.ok.rise hyL, hv] at hlk
      generalize (u8s y.zs).length = pn at hlk hv
      have HV := hid hv
      have HIP := hid (A.ca.ok.ents y hyL).ip
      have HCB := hid (fun (wx : World) (hb : Below wr.heap.size wr wx) => (A.ca.below hb).cells)
      have HAS := hid (fun b C wx hb hx => asked_in y pa pn pc b C wr wx hb hx)
      clear hy hyL hv HA A HCE
      have hc7b := (HCB.out (wr.alloc (.cells #[.int .i64 y.unt, .int .u8 y.mac.b0, .int .u8 y.mac.b1, .int .u8 y.mac.b2, .int .u8 y.mac.b3, .int .u8 y.mac.b4, .int .u8 y.mac.b5, .int .i64 y.q, .int .u32 y.src, .slice pa pn pc] 87)) (bpush (Below.refl _ _) _)).2.2.1
      have HBQ : Hid (Below wr.heap.size wr (wr.alloc (.cells #[.int .i64 y.unt, .int .u8 y.mac.b0, .int .u8 y.mac.b1, .int .u8 y.mac.b2, .int .u8 y.mac.b3, .int .u8 y.mac.b4, .int .u8 y.mac.b5, .int .i64 y.q, .int .u32 y.src, .slice pa pn pc] 87))) := bpush (Below.refl _ _) _
      have HXQ : Hid ((wr.alloc (.cells #[.int .i64 y.unt, .int .u8 y.mac.b0, .int .u8 y.mac.b1, .int .u8 y.mac.b2, .int .u8 y.mac.b3, .int .u8 y.mac.b4, .int .u8 y.mac.b5, .int .i64 y.q, .int .u32 y.src, .slice pa pn pc] 87)).heap[wr.heap.size]? = some (.cells #[.int .i64 y.unt, .int .u8 y.mac.b0, .int .u8 y.mac.b1, .int .u8 y.mac.b2, .int .u8 y.mac.b3, .int .u8 y.mac.b4, .int .u8 y.mac.b5, .int .i64 y.q, .int .u32 y.src, .slice pa pn pc] 87 (0, 0))) := heap_new _ _
      have hbx0 := (fun j => cell_of_heap HXQ.out j) 0
      have hn7 : (tickK S1 k).now = S1.now := rfl
      rw [hn7] at hc7b
      clear hn7
      subst hnl
      by_cases hu : S1.now < y.unt
      · have HFN := hid (fun w3 hb => tickN (w3 := w3) HAI.out HY.out hu hb)
        have hud : decide (y.unt > S1.now) = true := by simpa using hu
        clear HAI HAS HCB
        obtain ⟨i, t, mc, q, sr, zs⟩ := y
        obtain ⟨b0, b1, b2, b3, b4, b5⟩ := mc
        simp only [Ab.val] at *
        go_wp2_with fail
        go_quiet (fail)
        go_wp2_with fail
        go_roundw
        case rel =>
          obtain ⟨e1, e2⟩ := HFN.out _ (HBQ.out.trans ((bdrewN _ nq).mono HBQ.out.size))
          exact ⟨a, _, k + 1, cp, rfl, by first | rfl | (congr 1; omega), by omega, e1, e2⟩
        case measure => simp only [intOf3]; omega
      · by_cases hq : 0 < y.q ∧ y.q < 3
        · have HFQ := hid (fun w3 w4 g2 h1 h2 h3 h4 => tickQ HAI.out HY.out hu hq HV.out (by rw [← HN.out]; omega) w3 w4 g2 h1 h2 h3 h4)
          have HQU := hid (fun (w3 : World) (hb : Below wr.heap.size wr w3) => question_x c m (tickK S1 k) V' y.ip y pa pn pc w3 (tickW HAI.out HY.out hq HV.out hb).1 (tickW HAI.out HY.out hq HV.out hb).2.1 (tickW HAI.out HY.out hq HV.out hb).2.2.1 (tickW HAI.out HY.out hq HV.out hb).2.2.2.1 (tickW HAI.out HY.out hq HV.out hb).2.2.2.2)
          have hud : decide (y.unt > S1.now) = false := by simpa using hu
          have hqd : decide (0 < y.q) = true := by simpa using hq.1
          have hq3 : decide (y.q < 3) = true := by simpa using hq.2
          rw [hqd] at HAS
          clear HAI HY HV
          obtain ⟨i, t, mc, q, sr, zs⟩ := y
          obtain ⟨b0, b1, b2, b3, b4, b5⟩ := mc
          simp only [Ab.val] at *
          go_wp2_with fail
          go_quiet (fail)
          have HBQ2 := hid (HBQ.out.trans ((bdrewN _ nq).mono HBQ.out.size))
          have HXQ2 : Hid (((wr.alloc (.cells #[.int .i64 t, .int .u8 b0, .int .u8 b1, .int .u8 b2, .int .u8 b3, .int .u8 b4, .int .u8 b5, .int .i64 q, .int .u32 sr, .slice pa pn pc] 87)).drewN nq).heap[wr.heap.size]? = some (.cells #[.int .i64 t, .int .u8 b0, .int .u8 b1, .int .u8 b2, .int .u8 b3, .int .u8 b4, .int .u8 b5, .int .i64 q, .int .u32 sr, .slice pa pn pc] 87 (0, 0))) := HXQ.out
          clear HBQ HXQ hbx0 hc7b
          generalize (wr.alloc (.cells #[.int .i64 t, .int .u8 b0, .int .u8 b1, .int .u8 b2, .int .u8 b3, .int .u8 b4, .int .u8 b5, .int .i64 q, .int .u32 sr, .slice pa pn pc] 87)).drewN nq = wq at HBQ2 HXQ2 ⊢
          have hbx1 : ∀ j, wq.cell? ⟨wr.heap.size, j, none⟩ = (#[.int .i64 t, .int .u8 b0, .int .u8 b1, .int .u8 b2, .int .u8 b3, .int .u8 b4, .int .u8 b5, .int .i64 q, .int .u32 sr, .slice pa pn pc] : Array Value)[j]? := fun j => cell_of_heap HXQ2.out j
          go_wp2_with (first
            | (go_at_call 37; with_reducible refine (HAS.out _ _ _ HBQ2.out HXQ2.out).mono ?_; rintro e w3 ⟨rfl, hbx3, HB3⟩)
            | (go_at_call 40; with_reducible refine (HQU.out _ HB3.out).mono ?_; rintro e w4 ⟨g2, rfl, HG4, HC4, HT4⟩; obtain ⟨a', n', cp', w7, hrun, HL7, HA7⟩ := HFQ.out _ _ _ HB3.out HT4.out HC4.out HG4.out)
            | (at_builtin; refine wpList_append_run _ rfl _ _ _ _ rfl _ _ rfl rfl hrun ?_)
            | fail)
          go_roundw
          case rel => exact ⟨a', _, k + 1, cp', rfl, by first | rfl | (congr 1; omega), by omega, by first | exact HL7 | exact hid rfl, HA7⟩
          case measure => simp only [intOf3]; omega
        · have HFD := hid (fun w3 w4 h1 h2 h3 => tickD (w3 := w3) (w4 := w4) HAI.out HY.out hu hq h1 h2 h3)
          have HDR := hid (fun (w3 : World) (hb : Below wr.heap.size wr w3) => (HAI.out.ca.below hb).drop HIP.out)
          have hud : decide (y.unt > S1.now) = false := by simpa using hu
          clear HAI HY HV
          by_cases hq0 : 0 < y.q
          · have hqd : decide (0 < y.q) = true := by simpa using hq0
            have hq3 : decide (y.q < 3) = false := by simp; omega

            rw [hqd] at HAS
            obtain ⟨i, t, mc, q, sr, zs⟩ := y
            obtain ⟨b0, b1, b2, b3, b4, b5⟩ := mc
            simp only [Ab.val] at *
            go_wp2_with fail
            go_quiet (fail)
            have HBQ2 := hid (HBQ.out.trans ((bdrewN _ nq).mono HBQ.out.size))
            have HXQ2 : Hid (((wr.alloc (.cells #[.int .i64 t, .int .u8 b0, .int .u8 b1, .int .u8 b2, .int .u8 b3, .int .u8 b4, .int .u8 b5, .int .i64 q, .int .u32 sr, .slice pa pn pc] 87)).drewN nq).heap[wr.heap.size]? = some (.cells #[.int .i64 t, .int .u8 b0, .int .u8 b1, .int .u8 b2, .int .u8 b3, .int .u8 b4, .int .u8 b5, .int .i64 q, .int .u32 sr, .slice pa pn pc] 87 (0, 0))) := HXQ.out
            clear HBQ HXQ hbx0 hc7b
            generalize (wr.alloc (.cells #[.int .i64 t, .int .u8 b0, .int .u8 b1, .int .u8 b2, .int .u8 b3, .int .u8 b4, .int .u8 b5, .int .i64 q, .int .u32 sr, .slice pa pn pc] 87)).drewN nq = wq at HBQ2 HXQ2 ⊢
            have hbx1 : ∀ j, wq.cell? ⟨wr.heap.size, j, none⟩ = (#[.int .i64 t, .int .u8 b0, .int .u8 b1, .int .u8 b2, .int .u8 b3, .int .u8 b4, .int .u8 b5, .int .i64 q, .int .u32 sr, .slice pa pn pc] : Array Value)[j]? := fun j => cell_of_heap HXQ2.out j
            go_wp2_with (first
              | (go_at_call 37; with_reducible refine (HAS.out _ _ _ HBQ2.out HXQ2.out).mono ?_; rintro e w3 ⟨rfl, hbx3, HB3⟩; have hc8b := (HCB.out _ HB3.out).2.2.2.1; obtain ⟨w4, hdl, hC4, hm4⟩ := HDR.out _ HB3.out)
              | fail)
            have HE := hid (HFD.out w3 w4 HB3.out hm4 hC4)
            go_roundw
            case rel => exact ⟨a, _, k + 1, cp, rfl, by first | rfl | (congr 1; omega), by omega, HE.out.1, HE.out.2⟩
            case measure => simp only [intOf3]; omega
          · have hqd : decide (0 < y.q) = false := by simpa using hq0
            rw [hqd] at HAS
            obtain ⟨i, t, mc, q, sr, zs⟩ := y
            obtain ⟨b0, b1, b2, b3, b4, b5⟩ := mc
            simp only [Ab.val] at *
            go_wp2_with fail
            go_quiet (fail)
            have HBQ2 := hid (HBQ.out.trans ((bdrewN _ nq).mono HBQ.out.size))
            have HXQ2 : Hid (((wr.alloc (.cells #[.int .i64 t, .int .u8 b0, .int .u8 b1, .int .u8 b2, .int .u8 b3, .int .u8 b4, .int .u8 b5, .int .i64 q, .int .u32 sr, .slice pa pn pc] 87)).drewN nq).heap[wr.heap.size]? = some (.cells #[.int .i64 t, .int .u8 b0, .int .u8 b1, .int .u8 b2, .int .u8 b3, .int .u8 b4, .int .u8 b5, .int .i64 q, .int .u32 sr, .slice pa pn pc] 87 (0, 0))) := HXQ.out
            clear HBQ HXQ hbx0 hc7b
            generalize (wr.alloc (.cells #[.int .i64 t, .int .u8 b0, .int .u8 b1, .int .u8 b2, .int .u8 b3, .int .u8 b4, .int .u8 b5, .int .i64 q, .int .u32 sr, .slice pa pn pc] 87)).drewN nq = wq at HBQ2 HXQ2 ⊢
            have hbx1 : ∀ j, wq.cell? ⟨wr.heap.size, j, none⟩ = (#[.int .i64 t, .int .u8 b0, .int .u8 b1, .int .u8 b2, .int .u8 b3, .int .u8 b4, .int .u8 b5, .int .i64 q, .int .u32 sr, .slice pa pn pc] : Array Value)[j]? := fun j => cell_of_heap HXQ2.out j
            go_wp2_with (first
              | (go_at_call 37; with_reducible refine (HAS.out _ _ _ HBQ2.out HXQ2.out).mono ?_; rintro e w3 ⟨rfl, hbx3, HB3⟩; have hc8b := (HCB.out _ HB3.out).2.2.2.1; obtain ⟨w4, hdl, hC4, hm4⟩ := HDR.out _ HB3.out)
              | fail)
            have HE := hid (HFD.out w3 w4 HB3.out hm4 hC4)
            go_roundw
            case rel => exact ⟨a, _, k + 1, cp, rfl, by first | rfl | (congr 1; omega), by omega, HE.out.1, HE.out.2⟩
            case measure => simp only [intOf3]; omega
    · have hkk : k = N := by omega
      subst hkk
      subst hnl
      go_wp2
      go_ret
      exact ⟨a, cp, rfl, HA.out.start HT1.out HLS.out⟩
end Go.Proofs.Ytdgjpikphooilaa
