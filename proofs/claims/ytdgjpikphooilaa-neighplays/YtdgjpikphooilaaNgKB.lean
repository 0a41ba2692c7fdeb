import Derived.Test.YtdgjpikphooilaaNgKA
import Derived.Test.YtdgjpikphooilaaNgKT
/-
  The document's cache: question. Written by mkrq.py.
-/
namespace Go.Proofs.Ytdgjpikphooilaa
open Go.RowKit
set_option linter.all false

theorem refEveryone_x (w : World) : Calls Try.prog 71 #[] w fun e w' => e = .returned everyM.val ∧ Below w.heap.size w w' := by
  go_enter Try.func71, Try.ntmps71
  go_wp2
  exact bodyPost_ret (v := .agg #[.int .u8 255, .int .u8 255, .int .u8 255, .int .u8 255, .int .u8 255, .int .u8 255]) (by simp [results, Try.results71, go_sem]) rfl ⟨rfl, bpush (Below.refl _ _) _⟩
/-- a question under way: the cache, the entry's box, the answer's. -/
def RqI (w : World) (d : Nat) (C E : Array Value) (W : World) : Prop := W.heap[d]? = some (.cells C 79 (0, 0)) ∧ W.heap[w.heap.size]? = some (.cells E 103 (0, 0)) ∧ W.heap[w.heap.size + 1]? = some (.cells #[.int .u8 0, .int .u8 0, .int .u8 0, .int .u8 0, .int .u8 0, .int .u8 0, .int .i64 0, .slice none 0 0] 59 (0, 0)) ∧ Below w.heap.size w W
theorem RqI.first {w : World} {d : Nat} {C E : Array Value} (h : w.heap[d]? = some (.cells C 79 (0, 0))) : RqI w d C E ((w.alloc (.cells E 103)).alloc (.cells #[.int .u8 0, .int .u8 0, .int .u8 0, .int .u8 0, .int .u8 0, .int .u8 0, .int .i64 0, .slice none 0 0] 59)) := by
  have hh := ((Holds.nil w).push (.cells E 103)).push (.cells #[.int .u8 0, .int .u8 0, .int .u8 0, .int .u8 0, .int .u8 0, .int .u8 0, .int .i64 0, .slice none 0 0] 59)
  simp only [World.size_alloc] at hh
  have hb := bpush (bpush (Below.refl w.heap.size w) (.cells E 103)) (.cells #[.int .u8 0, .int .u8 0, .int .u8 0, .int .u8 0, .int .u8 0, .int .u8 0, .int .i64 0, .slice none 0 0] 59)
  exact ⟨kept h hb, hh.at 1 _ _ rfl, hh.at 0 _ _ rfl, hb⟩
theorem RqI.next {w W W' : World} {d : Nat} {C E : Array Value} (h : RqI w d C E W) (hb : Below W.heap.size W W') : RqI w d C E W' := ⟨kept h.1 hb, kept h.2.1 hb, kept h.2.2.1 hb, bstep h.2.2.2 hb⟩
theorem RqI.cells {w W : World} {d : Nat} {C E : Array Value} (h : RqI w d C E W) : (∀ q, W.cell? ⟨d, q, none⟩ = C[q]?) ∧ (∀ q, W.cell? ⟨w.heap.size, q, none⟩ = E[q]?) := ⟨fun q => cell_of_heap h.1 q, fun q => cell_of_heap h.2.1 q⟩
theorem askP_ok {m : Mac} {s t : Int} (hm : m.ok) (hs : ipOk s) (ht : ipOk t) : (askP m s t).ok ∧ opB (askP m s t).op = true := by
  refine ⟨⟨by simp [askP], hm, hs, by simp [askP, zeroMac, Mac.ok], ht⟩, rfl⟩
set_option maxRecDepth 40000 in
set_option maxHeartbeats 4000000 in
theorem rquestion_any (d : Nat) (S : St) (a : Option Addr) (cp : Nat) (V : Int → Value) (e : Ab) (sv : Int) (wv : Bool) (v : Value) (w : World) (x : RcW w d S a cp V) (hi : ipOk e.ip) (hs : ipOk e.src) :
    Calls Try.prog 57 #[.pointer (some ⟨d, 0, none⟩), .agg #[.int .u32 e.ip, .int .u8 e.mac.b0, .int .u8 e.mac.b1, .int .u8 e.mac.b2, .int .u8 e.mac.b3, .int .u8 e.mac.b4, .int .u8 e.mac.b5, .int .i64 sv, .int .i64 e.unt, .int .i64 e.q, .bool wv, .int .u32 e.src, v]] w fun r w' => ∃ a1 n1 c1, r = .returned ((queS S e.ip e).val (.slice a1 n1 c1)) ∧ Ans w w' (queS S e.ip e).zs a1 n1 c1 := by
  have H0 := hid (RqI.first (E := #[.int .u32 e.ip, .int .u8 e.mac.b0, .int .u8 e.mac.b1, .int .u8 e.mac.b2, .int .u8 e.mac.b3, .int .u8 e.mac.b4, .int .u8 e.mac.b5, .int .i64 sv, .int .i64 e.unt, .int .i64 e.q, .bool wv, .int .u32 e.src, v]) x.box)
  have HA : Hid (∀ w, _) := fun w => refAsk_any S.own e.src e.ip w
  have HE : Hid (∀ w, _) := fun w => refEncode_ok (askP S.own e.src e.ip) w (askP_ok x.ok.own hs hi).1 (askP_ok x.ok.own hs hi).2
  have HV : Hid (∀ W, RqI w d #[.int .u8 S.own.b0, .int .u8 S.own.b1, .int .u8 S.own.b2, .int .u8 S.own.b3, .int .u8 S.own.b4, .int .u8 S.own.b5, .int .i64 S.most, .slice a S.L.length cp, .int .i64 S.now] #[.int .u32 e.ip, .int .u8 e.mac.b0, .int .u8 e.mac.b1, .int .u8 e.mac.b2, .int .u8 e.mac.b3, .int .u8 e.mac.b4, .int .u8 e.mac.b5, .int .i64 sv, .int .i64 e.unt, .int .i64 e.q, .bool wv, .int .u32 e.src, v] W → _) := fun W h => RqI.cells h
  have hdl := x.lt
  unfold rcCells at H0
  unfold queS Sd.val Sd.cells
  generalize encL (askP S.own e.src e.ip) = L at *
  generalize hAP : (askP S.own e.src e.ip).val = AP at *
  clear x hi hs
  simp only [Mac.val] at HA
  have hc := HV.out _ H0.out
  go_enter Try.func57, Try.ntmps57
  go_wp2
  generalize (w.alloc (.cells #[.int .u32 e.ip, .int .u8 e.mac.b0, .int .u8 e.mac.b1, .int .u8 e.mac.b2, .int .u8 e.mac.b3, .int .u8 e.mac.b4, .int .u8 e.mac.b5, .int .i64 sv, .int .i64 e.unt, .int .i64 e.q, .bool wv, .int .u32 e.src, v] 103)).alloc (.cells #[.int .u8 0, .int .u8 0, .int .u8 0, .int .u8 0, .int .u8 0, .int .u8 0, .int .i64 0, .slice none 0 0] 59) = W0 at *
  clear hc
  have HS : Hid (∀ W, RqI w d #[.int .u8 S.own.b0, .int .u8 S.own.b1, .int .u8 S.own.b2, .int .u8 S.own.b3, .int .u8 S.own.b4, .int .u8 S.own.b5, .int .i64 S.most, .slice a S.L.length cp, .int .i64 S.now] #[.int .u32 e.ip, .int .u8 e.mac.b0, .int .u8 e.mac.b1, .int .u8 e.mac.b2, .int .u8 e.mac.b3, .int .u8 e.mac.b4, .int .u8 e.mac.b5, .int .i64 sv, .int .i64 e.unt, .int .i64 e.q, .bool wv, .int .u32 e.src, v] W → (∀ q, W.cell? ⟨d, q, none⟩ = (#[.int .u8 S.own.b0, .int .u8 S.own.b1, .int .u8 S.own.b2, .int .u8 S.own.b3, .int .u8 S.own.b4, .int .u8 S.own.b5, .int .i64 S.most, .slice a S.L.length cp, .int .i64 S.now] : Array Value)[q]?) ∧ (∀ q, W.cell? ⟨w.heap.size, q, none⟩ = (#[.int .u32 e.ip, .int .u8 e.mac.b0, .int .u8 e.mac.b1, .int .u8 e.mac.b2, .int .u8 e.mac.b3, .int .u8 e.mac.b4, .int .u8 e.mac.b5, .int .i64 sv, .int .i64 e.unt, .int .i64 e.q, .bool wv, .int .u32 e.src, v] : Array Value)[q]?) ∧ RqI w d #[.int .u8 S.own.b0, .int .u8 S.own.b1, .int .u8 S.own.b2, .int .u8 S.own.b3, .int .u8 S.own.b4, .int .u8 S.own.b5, .int .i64 S.most, .slice a S.L.length cp, .int .i64 S.now] #[.int .u32 e.ip, .int .u8 e.mac.b0, .int .u8 e.mac.b1, .int .u8 e.mac.b2, .int .u8 e.mac.b3, .int .u8 e.mac.b4, .int .u8 e.mac.b5, .int .i64 sv, .int .i64 e.unt, .int .i64 e.q, .bool wv, .int .u32 e.src, v] W) := fun W h => ⟨(HV.out W h).1, (HV.out W h).2, h⟩
  go_region_held3 (fun W => (∀ q, W.cell? ⟨d, q, none⟩ = (#[.int .u8 S.own.b0, .int .u8 S.own.b1, .int .u8 S.own.b2, .int .u8 S.own.b3, .int .u8 S.own.b4, .int .u8 S.own.b5, .int .i64 S.most, .slice a S.L.length cp, .int .i64 S.now] : Array Value)[q]?) ∧ (∀ q, W.cell? ⟨w.heap.size, q, none⟩ = (#[.int .u32 e.ip, .int .u8 e.mac.b0, .int .u8 e.mac.b1, .int .u8 e.mac.b2, .int .u8 e.mac.b3, .int .u8 e.mac.b4, .int .u8 e.mac.b5, .int .i64 sv, .int .i64 e.unt, .int .i64 e.q, .bool wv, .int .u32 e.src, v] : Array Value)[q]?) ∧ RqI w d #[.int .u8 S.own.b0, .int .u8 S.own.b1, .int .u8 S.own.b2, .int .u8 S.own.b3, .int .u8 S.own.b4, .int .u8 S.own.b5, .int .i64 S.most, .slice a S.L.length cp, .int .i64 S.now] #[.int .u32 e.ip, .int .u8 e.mac.b0, .int .u8 e.mac.b1, .int .u8 e.mac.b2, .int .u8 e.mac.b3, .int .u8 e.mac.b4, .int .u8 e.mac.b5, .int .i64 sv, .int .i64 e.unt, .int .i64 e.q, .bool wv, .int .u32 e.src, v] W) (first | assumption | exact HS.out _ (H0.out.next (Below.refl _ _).drew)) (first
    | (go_at_call 23; refine (HA.out _).mono ?_; rintro r w1 ⟨rfl, hb⟩; have H1 := hid (H0.out.next (bundrew hb)); have hS1 := HS.out _ H1.out)
    | (go_at_call 61; refine (HE.out _).mono ?_; rintro r w2 ⟨a1, n1, c1, rfl, hrow, hfr, hb2⟩; have H2 := hid (H1.out.next hb2); have hS2 := HS.out _ H2.out)
    | fail)
  have HR2 := hid hrow
  have HF2 : Hid (∀ b, (Value.slice a1 n1 c1).ownBlock = some b → w.heap.size + 2 ≤ b) := fun b hb' => by
    have h1 := hfr b hb'
    have h2 := heap_lt H1.out.2.2.1
    omega
  clear hrow hfr hb2 hb hS1 hS2 H1 H0 HA HE HS HV
  go_wp2_with fail
  refine (refEveryone_x _).mono ?_
  rintro r w3 ⟨rfl, hb3⟩
  have H3 := hid (H2.out.next hb3)
  have HR3 := hid (HR2.out.below hb3)
  clear hb3 H2 HR2
  simp only [Mac.val, everyM] at *
  go_wp2_with (first
    | (refine wpList_store_row rfl 59 _ _ rfl (w.heap.size + 1) #[.int .u8 255, .int .u8 255, .int .u8 255, .int .u8 255, .int .u8 255, .int .u8 255, .int .i64 2054, .slice a1 n1 c1] rfl rfl 59 _ H3.out.2.2.1 (by kernel_rfl) rfl (by first | kernel_rfl | simp [Value.oneCell']) ?_)
    | fail)
  refine bodyPost_ret (v := .agg #[.int .u8 255, .int .u8 255, .int .u8 255, .int .u8 255, .int .u8 255, .int .u8 255, .int .i64 2054, .slice a1 n1 c1]) ?_ (by rfl) ⟨a1, n1, c1, rfl, HR3.out.but (But.setRow _ _ _) (fun b hb => by have := HF2.out b hb; omega), fun b hb => by have := HF2.out b hb; omega, bbut H3.out.2.2.2 (But.setRow _ _ _) (by omega)⟩
  exact results_row1 Try.results57 _ _ (w.heap.size + 1) 59 _ (0, 0) _ rfl (setRow_heap w3 _ _ _ _ _ H3.out.2.2.1) Try.underlying59 rfl (by kernel_rfl)
end Go.Proofs.Ytdgjpikphooilaa

/-
  The document's cache: an entry takes another one's place; the packet handed in anew.
-/
namespace Go.Proofs.Ytdgjpikphooilaa
open Go.RowKit
set_option linter.all false

theorem rise_split {L : List Ab} {k : Nat} {y : Ab} (hr : Rise L) (hy : L[k]? = some y) : ∃ A B, L = A ++ y :: B ∧ A.length = k ∧ (∀ z ∈ A, z.ip < y.ip) ∧ ∀ z ∈ B, y.ip < z.ip := by
  obtain ⟨hk, rfl⟩ := List.getElem?_eq_some_iff.1 hy
  refine ⟨L.take k, L.drop (k + 1), ?_, by simp; omega, fun z hz => ?_, fun z hz => ?_⟩
  · rw [← List.drop_eq_getElem_cons hk, List.take_append_drop]
  · obtain ⟨i, hi, rfl⟩ := List.getElem_of_mem hz
    rw [List.length_take] at hi
    rw [List.getElem_take]
    exact List.pairwise_iff_getElem.1 hr i k (by omega) hk (by omega)
  · obtain ⟨i, hi, rfl⟩ := List.getElem_of_mem hz
    rw [List.length_drop] at hi
    rw [List.getElem_drop]
    exact List.pairwise_iff_getElem.1 hr k (k + 1 + i) hk (by omega) (by omega)
theorem put_split {A B : List Ab} {y y' : Ab} (hA : ∀ z ∈ A, z.ip < y.ip) (hB : ∀ z ∈ B, y.ip < z.ip) (he : y'.ip = y.ip) : put (A ++ y :: B) y' = A ++ y' :: B := by
  unfold put
  have f1 : A.filter (fun z => decide (z.ip < y'.ip)) = A := List.filter_eq_self.2 (fun z hz => by have := hA z hz; simp; omega)
  have f2 : A.filter (fun z => decide (y'.ip < z.ip)) = [] := List.filter_eq_nil_iff.2 (fun z hz => by have := hA z hz; simp; omega)
  have f3 : B.filter (fun z => decide (z.ip < y'.ip)) = [] := List.filter_eq_nil_iff.2 (fun z hz => by have := hB z hz; simp; omega)
  have f4 : B.filter (fun z => decide (y'.ip < z.ip)) = B := List.filter_eq_self.2 (fun z hz => by have := hB z hz; simp; omega)
  have g1 : ¬ y.ip < y'.ip := by omega
  have g2 : ¬ y'.ip < y.ip := by omega
  simp [List.filter_append, List.filter_cons, f1, f2, f3, f4, g1, g2]
theorem rfs_app (A B : List Ab) (V : Int → Value) : rfs (A ++ B) V = rfs A V ++ rfs B V := by simp [rfs]
theorem rfs_cons (y : Ab) (B : List Ab) (V : Int → Value) : rfs (y :: B) V = (rfC y (V y.ip)).toList ++ rfs B V := by simp [rfs]
theorem rfs_upd {A : List Ab} {i : Int} (V : Int → Value) (v : Value) (h : ∀ z ∈ A, z.ip ≠ i) : rfs A (upd V i v) = rfs A V := by
  induction A with
  | nil => rfl
  | cons z A ih =>
    rw [rfs_cons, rfs_cons, ih (fun t ht => h t (List.mem_cons_of_mem _ ht)), upd_other V v (h z (List.mem_cons_self ..))]
/-- the row with another entry in y's place. -/
theorem rfs_put {L : List Ab} {k : Nat} {y y' : Ab} (V : Int → Value) (v : Value) (hr : Rise L) (hy : L[k]? = some y) (he : y'.ip = y.ip) : ∃ X Y, rfs L V = X ++ (rfC y (V y.ip)).toList ++ Y ∧ rfs (put L y') (upd V y.ip v) = X ++ (rfC y' v).toList ++ Y ∧ X.length = k * 13 ∧ (put L y').length = L.length := by
  obtain ⟨A, B, rfl, hA, h1, h2⟩ := rise_split hr hy
  refine ⟨rfs A V, rfs B V, ?_, ?_, by rw [rfs_len, hA], ?_⟩
  · rw [rfs_app, rfs_cons, List.append_assoc]
  · rw [put_split h1 h2 he, rfs_app, rfs_cons, rfs_upd V v (fun z hz => by have := h1 z hz; omega), rfs_upd V v (fun z hz => by have := h2 z hz; omega), he, upd_same, List.append_assoc]
  · rw [put_split h1 h2 he]; simp
theorem RowS.set {w : World} {e : TypeId} {sz g n cap : Nat} {xs : List Value} (h : RowS w e sz (.slice (some ⟨g, 0, none⟩) n cap) n xs) {j : Nat} (hj : j < xs.length) (x : Value) :
    RowS (w.setCell ⟨g, j, none⟩ x) e sz (.slice (some ⟨g, 0, none⟩) n cap) n (xs.set j x) ∧ w.frozen? ⟨g, j, none⟩ = false := by
  obtain ⟨h1, h2⟩ := h
  rcases h2 with ⟨hv, _⟩ | ⟨g', cap', cur, hv, hB, hg, hl, hm, hs, ht⟩
  · simp at hv
  · simp only [Value.slice.injEq, Option.some.injEq, Addr.mk.injEq, and_true] at hv
    obtain ⟨rfl, _, rfl⟩ := hv
    refine ⟨⟨by rw [List.length_set]; exact h1, Or.inr ⟨g, cap, cur.setIfInBounds j x, rfl, hB, heap_setCell hg, hl, hm, by simpa using hs, ?_⟩⟩, frozen_of_heap hg j⟩
    rw [Array.toList_setIfInBounds, List.take_set, ht]
/-- an entry takes y's place: its cells were laid there. -/
theorem RcW.putAt {w w' : World} {d : Nat} {S : St} {a : Option Addr} {cp : Nat} {V : Int → Value} (x : RcW w d S a cp V) {k g : Nat} {y y' : Ab} (hy : S.L[k]? = some y) (he : y'.ip = y.ip) (hok : y'.ok) {v : Value} (ha : a = some ⟨g, 0, none⟩) (hb : But g w w') (hv : Row w 5 v (u8s y'.zs))
    (hrow : ∀ X Y, rfs S.L V = X ++ (rfC y (V y.ip)).toList ++ Y → X.length = k * 13 → RowS w' 103 13 (.slice a S.L.length cp) S.L.length (X ++ (rfC y' v).toList ++ Y)) :
    RcW w' d { S with L := put S.L y' } a cp (upd V y.ip v) := by
  obtain ⟨X, Y, e1, e2, e3, e4⟩ := rfs_put V v x.ok.rise hy he
  have hgd : d ≠ g := fun e => x.rowd g (by rw [ha]; rfl) e.symm
  have hgrow : ∃ cur, w.heap[g]? = some (.cells cur 103 (0, 0)) := x.row.obj (by rw [ha]; rfl)
  obtain ⟨cur, hcur⟩ := hgrow
  refine ⟨?_, ?_, fun z hz => ?_, ⟨x.ok.own, x.ok.most, x.ok.now, x.ok.rise.put y', by show ((put S.L y').length : Int) ≤ S.most; rw [e4]; exact x.ok.len, fun z hz => ?_⟩⟩
  · show w'.heap[d]? = some (.cells (rcCells S (.slice a (put S.L y').length cp)) 79 (0, 0))
    rw [e4, hb.block d hgd x.lt]; exact x.box
  · show RowS w' 103 13 (.slice a (put S.L y').length cp) (put S.L y').length _
    rw [e4, e2]; exact hrow X Y e1 e3
  · rcases mem_put.1 hz with rfl | ⟨h1, h2⟩
    · rw [he, upd_same]; exact hv.but hb (row_not hv hcur (by decide))
    · rw [upd_other V _ (by rw [← he]; exact h2)]
      exact (x.pks z h1).but hb (row_not (x.pks z h1) hcur (by decide))
  · rcases mem_put.1 hz with rfl | ⟨h1, h2⟩
    · exact hok
    · exact x.ok.ents z h1
/-- 'c.L[at].Packet = v; c.L[at].Src = src'. -/
theorem RcW.pack {w : World} {d : Nat} {S : St} {a : Option Addr} {cp : Nat} {V : Int → Value} (x : RcW w d S a cp V) {k g : Nat} {y : Ab} (hy : S.L[k]? = some y) (ha : a = some ⟨g, 0, none⟩) {v : Value} {src : Int} {zs : List Int} (hok : (Ab.mk y.ip y.unt y.mac y.q src zs).ok) (hv : Row w 5 v (u8s zs)) :
    RcW ((w.setCell ⟨g, k * 13 + 12, none⟩ v).setCell ⟨g, k * 13 + 11, none⟩ (.int .u32 src)) d { S with L := put S.L { y with src := src, zs := zs } } a cp (upd V y.ip v) ∧ w.frozen? ⟨g, k * 13 + 12, none⟩ = false ∧ (w.setCell ⟨g, k * 13 + 12, none⟩ v).frozen? ⟨g, k * 13 + 11, none⟩ = false ∧ (∃ u, (w.setCell ⟨g, k * 13 + 12, none⟩ v).cell? ⟨g, k * 13 + 11, none⟩ = some u) ∧ But g w ((w.setCell ⟨g, k * 13 + 12, none⟩ v).setCell ⟨g, k * 13 + 11, none⟩ (.int .u32 src)) := by
  subst ha
  have hk : k < S.L.length := (List.getElem?_eq_some_iff.1 hy).1
  have hlen : (rfs S.L V).length = S.L.length * 13 := rfs_len V S.L
  obtain ⟨r1, f1⟩ := x.row.set (j := k * 13 + 12) (by rw [hlen]; omega) v
  obtain ⟨r2, f2⟩ := r1.set (j := k * 13 + 11) (by rw [List.length_set, hlen]; omega) (.int .u32 src)
  have hb : But g w ((w.setCell ⟨g, k * 13 + 12, none⟩ v).setCell ⟨g, k * 13 + 11, none⟩ (.int .u32 src)) := (But.setCell g w _ _).trans (But.setCell g _ _ _)
  refine ⟨x.putAt (y' := { y with src := src, zs := zs }) hy rfl hok rfl hb hv (fun X Y e1 e2 => ?_), f1, f2, ?_, hb⟩
  · rw [e1] at r2
    have e : ((X ++ (rfC y (V y.ip)).toList ++ Y).set (k * 13 + 12) v).set (k * 13 + 11) (.int .u32 src) = X ++ (rfC { y with src := src, zs := zs } v).toList ++ Y := by
      rw [List.append_assoc, List.set_append_right _ _ (by omega), List.set_append_right _ _ (by omega), e2, show k * 13 + 12 - k * 13 = 12 by omega, show k * 13 + 11 - k * 13 = 11 by omega]
      simp [rfC]
    rw [e] at r2
    exact r2
  · have hj : k * 13 + 11 < ((rfs S.L V).set (k * 13 + 12) v).length := by rw [List.length_set, hlen]; omega
    exact ⟨_, RowS.cell r1 (List.getElem?_eq_getElem hj)⟩
end Go.Proofs.Ytdgjpikphooilaa

/-
  The document's cache: Ask of one that is asked for, or known.
-/
namespace Go.Proofs.Ytdgjpikphooilaa
open Go.RowKit
set_option linter.all false

/-- what a call of the document's cache must leave alone. -/
def RKeep (w wx : World) (d : Nat) (v : Value) : Prop := ∀ k, k ≠ d → v.ownBlock ≠ some k → k < w.heap.size → wx.heap[k]? = w.heap[k]?
/-- what is to be sent, in memory, whatever it shares. -/
structure ROut (w : World) (v : Value) (l : List (Sd × Value)) : Prop where
  row : RowS w 59 8 v l.length (sdCells l)
  dat : ∀ p ∈ l, Row w 5 p.2 (u8s p.1.zs)
  form : ∀ p ∈ l, ∃ a n cp, p.2 = .slice a n cp
theorem Outs.r {w : World} {v : Value} {l : List (Sd × Value)} (h : Outs w v l) : ROut w v l := ⟨h.row, h.dat, h.form⟩
/-- an answer of the document's cache. -/
def RAns (w w' : World) (d : Nat) (S S' : St) (a : Option Addr) (cp : Nat) (V : Int → Value) (a2 : Option Addr) (cp2 : Nat) (sds : List Sd) : Prop :=
  ∃ a' cp' V' l, RTurn w w' d S S' a a' cp cp' V V' ∧ l.map (·.1) = sds ∧ ROut w' (.slice a2 sds.length cp2) l
theorem RAns.void {w w' : World} {d : Nat} {S S' : St} {a a' : Option Addr} {cp cp' : Nat} {V V' : Int → Value} (h : RTurn w w' d S S' a a' cp cp' V V') : RAns w w' d S S' a cp V none 0 [] := ⟨a', cp', V', [], h, rfl, (Outs.nil _).r⟩
/-- tell, as callers see it. -/
theorem rtell_x (d : Nat) (S : St) (a : Option Addr) (cp : Nat) (V : Int → Value) (n : Int) (w : World) (x : RcW w d S a cp V) :
    Calls Try.prog 50 #[.pointer (some ⟨d, 0, none⟩), .int .i64 n] w fun e w' => e = .returned (.tuple #[]) ∧ Hid (RTurn w w' d S { S with now := hearN S.now n } a a cp cp V V) :=
  (rtell_any d S a cp V n w x).mono fun e w' ⟨h1, h2, h3⟩ => ⟨h1, RTurn.of_but h2.out h3.out (fun b hb => Or.inr hb) (fun y hy b hb => Or.inr ⟨y, hy, hb⟩)⟩
theorem rat_some (d : Nat) (S : St) (a : Option Addr) (cp : Nat) (V : Int → Value) (ip : Int) (y : Ab) (w : World) (x : RcW w d S a cp V) (hl : look S.L ip = some y) :
    Calls Try.prog 51 #[.pointer (some ⟨d, 0, none⟩), .int .u32 ip] w fun e w' => ∃ k : Nat, e = .returned (.int .i64 k) ∧ Hid (S.L[k]? = some y) ∧ Hid (Below w.heap.size w w') :=
  (rat_any d S a cp V ip w x).mono fun e w' ⟨r, h1, h2, h3⟩ => by
    rcases h2 with ⟨_, h⟩ | ⟨k, z, h4, h5, _, h6⟩
    · rw [hl] at h; cases h
    · rw [hl] at h6
      simp at h6
      subst h6
      exact ⟨k, by rw [h1, h4], h5, h3⟩
theorem rat_none (d : Nat) (S : St) (a : Option Addr) (cp : Nat) (V : Int → Value) (ip : Int) (w : World) (x : RcW w d S a cp V) (hl : look S.L ip = none) :
    Calls Try.prog 51 #[.pointer (some ⟨d, 0, none⟩), .int .u32 ip] w fun e w' => e = .returned (.int .i64 (-1)) ∧ Hid (Below w.heap.size w w') :=
  (rat_any d S a cp V ip w x).mono fun e w' ⟨r, h1, h2, h3⟩ => by
    rcases h2 with ⟨h4, h⟩ | ⟨k, z, h4, h5, _, h6⟩
    · exact ⟨by rw [h1, h4], h3⟩
    · rw [hl] at h6; cases h6
theorem RTurn.keep {w w' : World} {d : Nat} {S S' : St} {a a' : Option Addr} {cp cp' : Nat} {V V' : Int → Value} (h : RTurn w w' d S S' a a' cp cp' V V') : RKeep w w' d (.slice a S.L.length cp) := h.block
theorem pack_ok {y : Ab} {src : Int} {zs : List Int} (h : y.ok) (hq : 0 < y.q) (hs : ipOk src) (hz : ∀ z, z ∈ zs → 0 ≤ z ∧ z ≤ 255) : (Ab.mk y.ip y.unt y.mac y.q src zs).ok :=
  ⟨h.ip, h.unt, h.mac, h.q, hs, hz, fun e => by simp only at e; omega, h.asd⟩
set_option maxRecDepth 40000 in
set_option maxHeartbeats 4000000 in
theorem raskA (d : Nat) (S : St) (a : Option Addr) (cp : Nat) (V : Int → Value) (src ip : Int) (pt : Part) (now : Int) (y : Ab) (w : World) (x : RcW w d S a cp V) (hsrc : ipOk src) (hl : look S.L ip = some y) (hq : 0 < y.q) (hpk : ∀ wx, RKeep w wx d (.slice a S.L.length cp) → pt.ok wx) (hpl : pt.zs.length ≤ 140737488351232) :
    Calls Try.prog 27 #[.pointer (some ⟨d, 0, none⟩), .int .u32 src, .int .u32 ip, pt.val, .int .i64 now] w fun e w' => e = .returned (.slice none 0 0) ∧ Hid (RAns w w' d S { S with now := hearN S.now now, L := put S.L { y with src := src, zs := pt.zs } } a cp V none 0 []) := by
  have HT := hid (rtell_x d S a cp V now w x)
  have HAT : Hid (∀ W, RcW W d { S with now := hearN S.now now } a cp V → _) := fun W h => rat_some d { S with now := hearN S.now now } a cp V ip y W h hl
  have HC : Hid (∀ W, RKeep w W d (.slice a S.L.length cp) → _) := fun W h => rcopied_any pt W (hpk W h) hpl
  have hyL := (look_some hl).1
  have HYI : Hid (y.ip = ip) := (look_some hl).2
  have HOK := hid (pack_ok (src := src) (zs := pt.zs) (x.ok.ents y hyL) hq hsrc (hpk w (fun _ _ _ _ => rfl)).1)
  have hst : (stV y.q == 1) = true := by unfold stV; rw [if_pos hq]; rfl
  have hl64 : S.L.length ≤ 64 := by have := x.ok.len; have := x.ok.most; omega
  have HV : Hid (pt.val = .slice pt.a pt.zs.length pt.c) := rfl
  rw [HV.out] at HC ⊢
  clear x hpk hyL hq hl
  go_enter Try.func27, Try.ntmps27
  go_wp2_with fail
  refine HT.out.mono ?_
  rintro e w1 ⟨rfl, H1⟩
  go_wp2_with fail
  refine (HAT.out _ H1.out.rc).mono ?_
  rintro e w2 ⟨k, rfl, HY, HB2⟩
  have H2 := hid (H1.out.below HB2.out)
  clear H1 HB2 HT HAT
  have HY' : Hid (S.L[k]? = some y) := HY.out
  clear HY
  have hkl : k < S.L.length := (List.getElem?_eq_some_iff.1 HY'.out).1
  obtain ⟨g, hga, hc⟩ := H2.out.rc.ent (show ({ S with now := hearN S.now now } : St).L[k]? = some y from HY'.out)
  subst hga
  have c7 : w2.cell? ⟨d, 7, none⟩ = some (.slice (some ⟨g, 0, none⟩) S.L.length cp) := H2.out.rc.cells 7
  have e7 : w2.cell? ⟨g, k * 13 + 7, none⟩ = some (.int .i64 (stV y.q)) := hc 7 (by omega)
  have hgd : g ≠ d := H2.out.rc.rowd g rfl
  have HPK : Hid (∀ (W : World) (v : Value), Below w2.heap.size w2 W → Row W 5 v (u8s pt.zs) → _) := fun W v hb hr => (H2.out.rc.below hb).pack (v := v) (show ({ S with now := hearN S.now now } : St).L[k]? = some y from HY'.out) rfl HOK.out hr
  have HE12 : Hid (∀ W, Below w2.heap.size w2 W → ∃ u, W.cell? ⟨g, k * 13 + 12, none⟩ = some u) := fun W hb => by
    obtain ⟨g', hg', hc'⟩ := (H2.out.rc.below hb).ent (show ({ S with now := hearN S.now now } : St).L[k]? = some y from HY'.out)
    simp only [Option.some.injEq, Addr.mk.injEq, and_true] at hg'
    subst hg'
    exact ⟨_, hc' 12 (by omega)⟩
  have HC7 : Hid (∀ W, Below w2.heap.size w2 W → W.cell? ⟨d, 7, none⟩ = some (.slice (some ⟨g, 0, none⟩) S.L.length cp)) := fun W hb => (H2.out.rc.below hb).cells 7
  have HC4 : Hid (∀ (W : World) (j : Nat) (v : Value), W.cell? ⟨d, 7, none⟩ = some (.slice (some ⟨g, 0, none⟩) S.L.length cp) → (W.setCell ⟨g, j, none⟩ v).cell? ⟨d, 7, none⟩ = some (.slice (some ⟨g, 0, none⟩) S.L.length cp)) := fun W j v h => by
    rw [(But.setCell g W j v).cell (p := ⟨d, 7, none⟩) (Ne.symm hgd) (World.block_lt_of_cell? W _ h)]; exact h
  have hk0 : (0 : Int) ≤ (k : Int) := by omega
  have hkl' : (k : Int) < (S.L.length : Int) := by omega
  clear hc
  generalize stV y.q = sv at *
  go_wp2_with fail
  go_region_held3 (fun X => X.cell? ⟨d, 7, none⟩ = some (.slice (some ⟨g, 0, none⟩) S.L.length cp)) (first | assumption | exact c7) (first
    | (go_at_call 52; refine (HC.out _ (by exact H2.out.keep)).mono ?_; rintro e w3 ⟨a3, n3, c3, rfl, an⟩; have HB3 := hid (bundrew an.2.2); obtain ⟨HP, f12, f11, ⟨u11, c11⟩, hbt⟩ := HPK.out w3 (.slice a3 n3 c3) HB3.out an.1; obtain ⟨u12, c12⟩ := HE12.out w3 HB3.out; have c73 := HC7.out w3 HB3.out; have c74 := HC4.out w3 (k * 13 + 12) (.slice a3 n3 c3) c73)
    | fail)
  have HP3 := hid HP
  have HBT3 := hid hbt
  have HAN := hid an
  clear HP hbt an HC HPK HE12 HC4
  go_wp2_with fail
  go_ret
  refine ⟨rfl, RAns.void (V' := upd V y.ip (.slice a3 n3 c3)) (a' := some ⟨g, 0, none⟩) (cp' := cp) ?_⟩
  refine H2.out.trans ⟨HP3.out, HBT3.out.os.trans HB3.out.os, HBT3.out.tape.trans HB3.out.tape, HBT3.out.output.trans HB3.out.output, Nat.le_trans HB3.out.size HBT3.out.size, fun i h1 h2 hl => (HBT3.out.block i (fun e => h2 (by rw [e]; rfl)) (Nat.lt_of_lt_of_le hl HB3.out.size)).trans (HB3.out.block i hl), fun b hb => Or.inr hb, fun z hz b hb => ?_⟩
  rcases mem_put.1 hz with rfl | ⟨h1, h2⟩
  · rw [upd_same] at hb
    exact Or.inl (HAN.out.2.1 b hb)
  · rw [upd_other V _ h2] at hb
    exact Or.inr ⟨z, h1, hb⟩

set_option maxRecDepth 40000 in
set_option maxHeartbeats 4000000 in
theorem raskB (d : Nat) (S : St) (a : Option Addr) (cp : Nat) (V : Int → Value) (src ip : Int) (pt : Part) (now : Int) (y : Ab) (w : World) (x : RcW w d S a cp V) (hl : look S.L ip = some y) (hq : ¬ 0 < y.q) (hu : hearN S.now now < y.unt) (hpk : ∀ wx, RKeep w wx d (.slice a S.L.length cp) → pt.ok wx) (hpl : pt.zs.length ≤ 140737488351232) :
    Calls Try.prog 27 #[.pointer (some ⟨d, 0, none⟩), .int .u32 src, .int .u32 ip, pt.val, .int .i64 now] w fun e w' => ∃ g, e = .returned (.slice (some ⟨g, 0, none⟩) 1 1) ∧ Hid (RAns w w' d S { S with now := hearN S.now now } a cp V (some ⟨g, 0, none⟩) 1 [⟨y.mac, 2048, pt.zs⟩]) := by
  have HT := hid (rtell_x d S a cp V now w x)
  have HAT : Hid (∀ W, RcW W d { S with now := hearN S.now now } a cp V → _) := fun W h => rat_some d { S with now := hearN S.now now } a cp V ip y W h hl
  have HC : Hid (∀ W, RKeep w W d (.slice a S.L.length cp) → _) := fun W h => rcopied_any pt W (hpk W h) hpl
  have hst : (stV y.q == 1) = false := by unfold stV; rw [if_neg hq]; rfl
  have hl64 : S.L.length ≤ 64 := by have := x.ok.len; have := x.ok.most; omega
  have HV : Hid (pt.val = .slice pt.a pt.zs.length pt.c) := rfl
  rw [HV.out] at HC ⊢
  clear x hpk hq hl
  go_enter Try.func27, Try.ntmps27
  go_wp2_with fail
  refine HT.out.mono ?_
  rintro e w1 ⟨rfl, H1⟩
  go_wp2_with fail
  refine (HAT.out _ H1.out.rc).mono ?_
  rintro e w2 ⟨k, rfl, HY, HB2⟩
  have H2 := hid (H1.out.below HB2.out)
  clear H1 HB2 HT HAT
  have HY' : Hid (S.L[k]? = some y) := HY.out
  clear HY
  have hkl : k < S.L.length := (List.getElem?_eq_some_iff.1 HY'.out).1
  obtain ⟨g, hga, hc⟩ := H2.out.rc.ent (show ({ S with now := hearN S.now now } : St).L[k]? = some y from HY'.out)
  subst hga
  have c7 : w2.cell? ⟨d, 7, none⟩ = some (.slice (some ⟨g, 0, none⟩) S.L.length cp) := H2.out.rc.cells 7
  have c8 : w2.cell? ⟨d, 8, none⟩ = some (.int .i64 (hearN S.now now)) := H2.out.rc.cells 8
  have e7 : w2.cell? ⟨g, k * 13 + 7, none⟩ = some (.int .i64 (stV y.q)) := hc 7 (by omega)
  have e8 : w2.cell? ⟨g, k * 13 + 8, none⟩ = some (.int .i64 y.unt) := hc 8 (by omega)
  have hk0 : (0 : Int) ≤ (k : Int) := by omega
  have hkl' : (k : Int) < (S.L.length : Int) := by omega
  clear hc
  generalize stV y.q = sv at *
  generalize hTT : hearN S.now now = t at *
  have HTT := hid hTT
  clear hTT
  go_wp2_with fail
  go_quiet (fail)
  have H3 := hid (H2.out.below (bdrewN w2 nq))
  generalize w2.drewN nq = w3 at H3 ⊢
  clear c7 c8 e7 e8 H2
  have HM : Hid (∀ W, Below w3.heap.size w3 W → W.cell? ⟨d, 7, none⟩ = some (.slice (some ⟨g, 0, none⟩) S.L.length cp) ∧ W.cell? ⟨g, k * 13 + 1, none⟩ = some (.int .u8 y.mac.b0) ∧ W.cell? ⟨g, k * 13 + 2, none⟩ = some (.int .u8 y.mac.b1) ∧ W.cell? ⟨g, k * 13 + 3, none⟩ = some (.int .u8 y.mac.b2) ∧ W.cell? ⟨g, k * 13 + 4, none⟩ = some (.int .u8 y.mac.b3) ∧ W.cell? ⟨g, k * 13 + 5, none⟩ = some (.int .u8 y.mac.b4) ∧ W.cell? ⟨g, k * 13 + 6, none⟩ = some (.int .u8 y.mac.b5)) := fun W hb => by
    obtain ⟨g', hg', hc'⟩ := (H3.out.rc.below hb).ent (show ({ S with now := t } : St).L[k]? = some y from HY'.out)
    simp only [Option.some.injEq, Addr.mk.injEq, and_true] at hg'
    subst hg'
    exact ⟨(H3.out.rc.below hb).cells 7, hc' 1 (by omega), hc' 2 (by omega), hc' 3 (by omega), hc' 4 (by omega), hc' 5 (by omega), hc' 6 (by omega)⟩
  go_wp2_with fail
  go_region_held3 (fun W => W.cell? ⟨d, 7, none⟩ = some (.slice (some ⟨g, 0, none⟩) S.L.length cp) ∧ W.cell? ⟨g, k * 13 + 1, none⟩ = some (.int .u8 y.mac.b0) ∧ W.cell? ⟨g, k * 13 + 2, none⟩ = some (.int .u8 y.mac.b1) ∧ W.cell? ⟨g, k * 13 + 3, none⟩ = some (.int .u8 y.mac.b2) ∧ W.cell? ⟨g, k * 13 + 4, none⟩ = some (.int .u8 y.mac.b3) ∧ W.cell? ⟨g, k * 13 + 5, none⟩ = some (.int .u8 y.mac.b4) ∧ W.cell? ⟨g, k * 13 + 6, none⟩ = some (.int .u8 y.mac.b5)) (first | assumption | exact HM.out _ (Below.refl _ _).drew | exact HM.out _ (bpush HB4.out _) | exact HM.out _ (bpush HB4.out _).drew) (first
    | (go_at_call 52; refine (HC.out _ (by exact H3.out.keep)).mono ?_; rintro e w4 ⟨a4, n4, c4, rfl, an⟩; have HB4 := hid (bundrew an.2.2); have hm4 := HM.out w4 HB4.out)
    | fail)
  have HAN := hid an
  clear an hm4 HC HM
  go_wp2_with fail
  go_ret
  have htt := HTT.out
  subst htt
  have hp := bpush (Below.refl w4.heap.size w4) (.cells #[.int .u8 y.mac.b0, .int .u8 y.mac.b1, .int .u8 y.mac.b2, .int .u8 y.mac.b3, .int .u8 y.mac.b4, .int .u8 y.mac.b5, .int .i64 2048, .slice a4 n4 c4] 59)
  exact ⟨_, rfl, some ⟨g, 0, none⟩, cp, V, [(⟨y.mac, 2048, pt.zs⟩, .slice a4 n4 c4)], (H3.out.below HB4.out).below hp, rfl, (Outs.one (x := ⟨y.mac, 2048, pt.zs⟩) (a := a4) (n := n4) (cp := c4) (heap_new w4 _) (HAN.out.1.below hp)).r⟩
end Go.Proofs.Ytdgjpikphooilaa

/-
  The document's cache: Ask of one that is not known. Written by mkrask.py.
-/
namespace Go.Proofs.Ytdgjpikphooilaa
open Go.RowKit
set_option linter.all false

/-- what Ask does once there is room: the entry's box. -/
theorem new_ok {S : St} {src ip t : Int} {zs : List Int} {L' : List Ab} (h : S.ok) (hr : roomL S.most (del S.L ip) = some L') (hi : ipOk ip) (hs : ipOk src) (hz : ∀ z, z ∈ zs → 0 ≤ z ∧ z ≤ 255) (ht : 0 ≤ t ∧ t ≤ 1125899906842624) :
    St.ok { S with now := t, L := L' } ∧ St.ok { S with now := t, L := put L' ⟨ip, aft t 10, zeroMac, 1, src, zs⟩ } ∧ ∀ z ∈ L', z.ip ≠ ip := by
  have hd := List.length_filter_le (fun y : Ab => y.ip != ip) S.L
  have hl : ((del S.L ip).length : Int) ≤ S.most := by have := h.len; unfold del; omega
  obtain ⟨h1, h2, h3⟩ := roomL_some hr hl (h.rise.del ip)
  have h4 := put_len_le (S := { S with L := del S.L ip }) (L' := L') hr hl (h.rise.del ip) ⟨ip, aft t 10, zeroMac, 1, src, zs⟩
  refine ⟨⟨h.own, h.most, ht, h2, by show (L'.length : Int) ≤ S.most; omega, fun z hz => h.ents z (mem_del.1 (h3 z hz)).1⟩, ⟨h.own, h.most, ht, h2.put _, h4, fun z hz => ?_⟩, fun z hz => (mem_del.1 (h3 z hz)).2⟩
  rcases mem_put.1 hz with rfl | ⟨h5, _⟩
  · exact ⟨hi, aft_ok ht (by omega), by simp [zeroMac, Mac.ok], by simp, hs, by assumption, fun h => by simp at h, fun _ => rfl⟩
  · exact h.ents z (mem_del.1 (h3 z h5)).1
/-- put and question, at the cells that Ask lays. -/
theorem rput_x (d : Nat) (S : St) (a : Option Addr) (cp : Nat) (V : Int → Value) (src ip t : Int) (zs : List Int) (ea : Option Addr) (en ec : Nat) (hne : ∀ z ∈ S.L, z.ip ≠ ip) (w : World) (x : RcW w d S a cp V) (hok : St.ok { S with L := put S.L ⟨ip, aft t 10, zeroMac, 1, src, zs⟩ }) (hrw : Row w 5 (.slice ea en ec) (u8s zs)) :
    Calls Try.prog 56 #[.pointer (some ⟨d, 0, none⟩), .agg #[.int .u32 ip, .int .u8 0, .int .u8 0, .int .u8 0, .int .u8 0, .int .u8 0, .int .u8 0, .int .i64 1, .int .i64 (aft t 10), .int .i64 1, .bool true, .int .u32 src, .slice ea en ec]] w fun r w' => r = .returned (.tuple #[]) ∧ ∃ a' cp', Hid (RcW w' d { S with L := put S.L ⟨ip, aft t 10, zeroMac, 1, src, zs⟩ } a' cp' (upd V ip (.slice ea en ec))) ∧ Hid (∀ b, (Value.slice a' (put S.L ⟨ip, aft t 10, zeroMac, 1, src, zs⟩).length cp').ownBlock = some b → w.heap.size ≤ b) ∧ Hid (But d w w') :=
  rput_any d S a cp V ⟨ip, aft t 10, zeroMac, 1, src, zs⟩ ea en ec hne w x hok hrw
theorem rquestion_x (d : Nat) (S : St) (a : Option Addr) (cp : Nat) (V : Int → Value) (src ip t : Int) (zs : List Int) (ea : Option Addr) (en ec : Nat) (w : World) (x : RcW w d S a cp V) (hi : ipOk ip) (hs : ipOk src) :
    Calls Try.prog 57 #[.pointer (some ⟨d, 0, none⟩), .agg #[.int .u32 ip, .int .u8 0, .int .u8 0, .int .u8 0, .int .u8 0, .int .u8 0, .int .u8 0, .int .i64 1, .int .i64 (aft t 10), .int .i64 1, .bool true, .int .u32 src, .slice ea en ec]] w fun r w' => ∃ a1 n1 c1, r = .returned (.agg (Sd.cells ⟨everyM, 2054, encL (askP S.own src ip)⟩ (.slice a1 n1 c1))) ∧ Ans w w' (encL (askP S.own src ip)) a1 n1 c1 :=
  rquestion_any d S a cp V ⟨ip, aft t 10, zeroMac, 1, src, zs⟩ 1 true (.slice ea en ec) w x hi hs
set_option maxRecDepth 40000 in
set_option maxHeartbeats 8000000 in
theorem raskD (d : Nat) (S : St) (a : Option Addr) (cp : Nat) (V : Int → Value) (src ip : Int) (pt : Part) (now : Int) (w : World) (x : RcW w d S a cp V) (hip : ipOk ip) (hsrc : ipOk src) (hl : look S.L ip = none) (hpk : ∀ wx, RKeep w wx d (.slice a S.L.length cp) → pt.ok wx) (hpl : pt.zs.length ≤ 140737488351232) :
    Calls Try.prog 27 #[.pointer (some ⟨d, 0, none⟩), .int .u32 src, .int .u32 ip, pt.val, .int .i64 now] w fun e w' => ∃ a2 cp2, e = .returned (.slice a2 (askNew { S with now := hearN S.now now, L := del S.L ip } src ip pt.zs).2.length cp2) ∧ Hid (RAns w w' d S (askNew { S with now := hearN S.now now, L := del S.L ip } src ip pt.zs).1 a cp V a2 cp2 (askNew { S with now := hearN S.now now, L := del S.L ip } src ip pt.zs).2) := by
  have HT := hid (rtell_x d S a cp V now w x)
  have HAT : Hid (∀ W, RcW W d { S with now := hearN S.now now } a cp V → _) := fun W h => rat_none d { S with now := hearN S.now now } a cp V ip W h hl
  have HDL : Hid (del S.L ip = S.L) := List.filter_eq_self.2 (fun z hz => by simpa using look_none hl z hz)
  have HC : Hid (∀ W, RKeep w W d (.slice a S.L.length cp) → _) := fun W h => rcopied_any pt W (hpk W h) hpl
  have HOK := hid x.ok
  have hnow := hearN_ok (n := now) x.ok.now
  have HZB := hid (hpk w (fun _ _ _ _ => rfl)).1
  have hl64 : S.L.length ≤ 64 := by have := x.ok.len; have := x.ok.most; omega
  have HV : Hid (pt.val = .slice pt.a pt.zs.length pt.c) := rfl
  rw [HV.out] at HC ⊢
  have HIP := hid hip
  have HSRC := hid hsrc
  generalize hTT : hearN S.now now = t at *
  have HTT := hid hTT
  clear x hpk hip hsrc hTT
  go_enter Try.func27, Try.ntmps27
  go_wp2_with fail
  refine HT.out.mono ?_
  rintro e w1 ⟨rfl, H1⟩
  go_wp2_with fail
  refine (HAT.out _ H1.out.rc).mono ?_
  rintro e w2 ⟨rfl, HB2⟩
  have H2 := hid (H1.out.below HB2.out)
  clear H1 HB2 HT HAT hl
  go_wp2_with fail
  go_quiet (fail)
  have H4 := hid (H2.out.below (bdrewN w2 nq))
  generalize w2.drewN nq = w4 at H4 ⊢
  clear H2
  have H4' : Hid (RTurn w w4 d S { S with now := t, L := del S.L ip } a a cp cp V V) := by rw [HDL.out]; exact H4.out
  clear H4
  have H4 := H4'
  clear H4'
  go_wp2_with fail
  cases hr : roomL S.most (del S.L ip) with
  | none =>
    have HR := hid hr
    clear hr
    refine (rroom_any d _ _ _ V _ H4.out.rc).mono ?_
    rintro e w5 (⟨_, rfl, H5⟩ | ⟨L', a5, cp5, hr', rfl, _⟩)
    · have HE := hid (H4.out.trans H5.out)
      clear H4 H5 HC
      go_wp2_with fail
      go_ret
      have htt := HTT.out
      subst htt
      unfold askNew
      simp only [HR.out]
      exact ⟨none, 0, rfl, RAns.void HE.out⟩
    · exfalso
      have h1 := HR.out
      simp only at hr'
      rw [h1] at hr'
      cases hr'
  | some L' =>
    have HR := hid hr
    have HNO := hid (new_ok (t := t) (zs := pt.zs) HOK.out hr HIP.out HSRC.out HZB.out hnow)
    clear hr
    refine (rroom_any d _ _ _ V _ H4.out.rc).mono ?_
    rintro e w5 (⟨hr', _, _⟩ | ⟨L2, a5, cp5, hr', rfl, H5⟩)
    · exfalso
      have h1 := HR.out
      simp only at hr'
      rw [h1] at hr'
      cases hr'
    obtain rfl : L' = L2 := by
      have h1 := HR.out
      simp only at hr'
      rw [h1] at hr'
      simpa using hr'
    have H6 := hid (H4.out.trans H5.out)
    clear H4 H5 hr'
    have HBE := hid (rbehind_any d _ a5 cp5 V 10 (by omega) w5 H6.out.rc)
    go_wp2_with fail
    refine HBE.out.mono ?_
    rintro e wz ⟨rfl, hwz⟩
    subst wz
    clear HBE
    go_wp2_with fail
    refine (HC.out _ H6.out.keep).mono ?_
    rintro e w6 ⟨ea, en, ec, rfl, an⟩
    have bp := bpush an.2.2 (.cells #[.int .u32 ip, .int .u8 0, .int .u8 0, .int .u8 0, .int .u8 0, .int .u8 0, .int .u8 0, .int .i64 1, .int .i64 (aft t 10), .int .i64 1, .bool true, .int .u32 src, .slice ea en ec] 103)
    have HBX := hid (heap_new w6 (.cells #[.int .u32 ip, .int .u8 0, .int .u8 0, .int .u8 0, .int .u8 0, .int .u8 0, .int .u8 0, .int .i64 1, .int .i64 (aft t 10), .int .i64 1, .bool true, .int .u32 src, .slice ea en ec] 103))
    have HBP := hid bp
    have HRW := hid (an.1.below (bpush (Below.refl _ _) (.cells #[.int .u32 ip, .int .u8 0, .int .u8 0, .int .u8 0, .int .u8 0, .int .u8 0, .int .u8 0, .int .i64 1, .int .i64 (aft t 10), .int .i64 1, .bool true, .int .u32 src, .slice ea en ec] 103)))
    have HFR := hid an.2.1
    clear an bp HC
    have HPU := hid (rput_x d _ a5 cp5 V src ip t pt.zs ea en ec HNO.out.2.2 _ (H6.out.rc.below HBP.out) HNO.out.2.1 HRW.out)
    go_wp2_with fail
    generalize w6.alloc (.cells #[.int .u32 ip, .int .u8 0, .int .u8 0, .int .u8 0, .int .u8 0, .int .u8 0, .int .u8 0, .int .i64 1, .int .i64 (aft t 10), .int .i64 1, .bool true, .int .u32 src, .slice ea en ec] 103) = W6 at *
    generalize w6.heap.size = ge at *
    refine HPU.out.mono ?_
    rintro e w7 ⟨rfl, a7, cp7, H7, N7, B7⟩
    have hged : ge ≠ d := fun e => by
      have h1 := HBX.out
      rw [e, (H6.out.rc.below HBP.out).box] at h1
      simp at h1
    have HB7 := hid (keptBut HBX.out B7.out hged)
    have hcx : ∀ q, w7.cell? ⟨ge, q, none⟩ = (#[.int .u32 ip, .int .u8 0, .int .u8 0, .int .u8 0, .int .u8 0, .int .u8 0, .int .u8 0, .int .i64 1, .int .i64 (aft t 10), .int .i64 1, .bool true, .int .u32 src, .slice ea en ec] : Array Value)[q]? := fun q => cell_of_heap HB7.out q
    have HQ := hid (rquestion_x d _ a7 cp7 _ src ip t pt.zs ea en ec w7 H7.out HIP.out HSRC.out)
    clear HPU
    go_wp2_with fail
    refine HQ.out.mono ?_
    rintro e w8 ⟨a8, n8, c8, rfl, an⟩
    have HAN := hid an
    clear an HQ hcx
    simp only [Sd.cells, everyM]
    go_wp2_with fail
    go_ret
    have htt := HTT.out
    subst htt
    have hp := bpush (Below.refl w8.heap.size w8) (.cells #[.int .u8 255, .int .u8 255, .int .u8 255, .int .u8 255, .int .u8 255, .int .u8 255, .int .i64 2054, .slice a8 n8 c8] 59)
    have HE : RTurn w w8 d S { S with now := hearN S.now now, L := put L' ⟨ip, aft (hearN S.now now) 10, zeroMac, 1, src, pt.zs⟩ } a a7 cp cp7 V (upd V ip (.slice ea en ec)) := by
      refine H6.out.trans (RTurn.below ⟨H7.out, B7.out.os.trans HBP.out.os, B7.out.tape.trans HBP.out.tape, B7.out.output.trans HBP.out.output, Nat.le_trans HBP.out.size B7.out.size, fun i h1 h2 hl => (B7.out.block i h1 (Nat.lt_of_lt_of_le hl HBP.out.size)).trans (HBP.out.block i hl), fun b hb => Or.inl (Nat.le_trans HBP.out.size (N7.out b hb)), fun z hz b hb => ?_⟩ HAN.out.2.2)
      rcases mem_put.1 hz with rfl | ⟨h1, h2⟩
      · rw [upd_same] at hb
        exact Or.inl (HFR.out b hb)
      · rw [upd_other V _ h2] at hb
        exact Or.inr ⟨z, h1, hb⟩
    unfold askNew
    simp only [HR.out]
    exact ⟨_, 1, rfl, a7, cp7, _, [(⟨everyM, 2054, encL (askP S.own src ip)⟩, .slice a8 n8 c8)], HE.below hp, rfl, (Outs.one (x := ⟨everyM, 2054, encL (askP S.own src ip)⟩) (a := a8) (n := n8) (cp := c8) (heap_new w8 _) (HAN.out.1.below hp)).r⟩

set_option maxRecDepth 40000 in
set_option maxHeartbeats 8000000 in
theorem raskC (d : Nat) (S : St) (a : Option Addr) (cp : Nat) (V : Int → Value) (src ip : Int) (pt : Part) (now : Int) (y : Ab) (w : World) (x : RcW w d S a cp V) (hip : ipOk ip) (hsrc : ipOk src) (hl : look S.L ip = some y) (hq : ¬ 0 < y.q) (hu : ¬ hearN S.now now < y.unt) (hpk : ∀ wx, RKeep w wx d (.slice a S.L.length cp) → pt.ok wx) (hpl : pt.zs.length ≤ 140737488351232) :
    Calls Try.prog 27 #[.pointer (some ⟨d, 0, none⟩), .int .u32 src, .int .u32 ip, pt.val, .int .i64 now] w fun e w' => ∃ a2 cp2, e = .returned (.slice a2 (askNew { S with now := hearN S.now now, L := del S.L ip } src ip pt.zs).2.length cp2) ∧ Hid (RAns w w' d S (askNew { S with now := hearN S.now now, L := del S.L ip } src ip pt.zs).1 a cp V a2 cp2 (askNew { S with now := hearN S.now now, L := del S.L ip } src ip pt.zs).2) := by
  have HT := hid (rtell_x d S a cp V now w x)
  have HAT : Hid (∀ W, RcW W d { S with now := hearN S.now now } a cp V → _) := fun W h => rat_some d { S with now := hearN S.now now } a cp V ip y W h hl
  have hst : (stV y.q == 1) = false := by unfold stV; rw [if_neg hq]; rfl
  have HYI : Hid (y.ip = ip) := (look_some hl).2
  have HC : Hid (∀ W, RKeep w W d (.slice a S.L.length cp) → _) := fun W h => rcopied_any pt W (hpk W h) hpl
  have HOK := hid x.ok
  have hnow := hearN_ok (n := now) x.ok.now
  have HZB := hid (hpk w (fun _ _ _ _ => rfl)).1
  have hl64 : S.L.length ≤ 64 := by have := x.ok.len; have := x.ok.most; omega
  have HV : Hid (pt.val = .slice pt.a pt.zs.length pt.c) := rfl
  rw [HV.out] at HC ⊢
  have HIP := hid hip
  have HSRC := hid hsrc
  generalize hTT : hearN S.now now = t at *
  have HTT := hid hTT
  clear x hpk hip hsrc hTT
  go_enter Try.func27, Try.ntmps27
  go_wp2_with fail
  refine HT.out.mono ?_
  rintro e w1 ⟨rfl, H1⟩
  go_wp2_with fail
  refine (HAT.out _ H1.out.rc).mono ?_
  rintro e w2 ⟨k, rfl, HY, HB2⟩
  have H2 := hid (H1.out.below HB2.out)
  clear H1 HB2 HT HAT hl hq
  have HY' : Hid (S.L[k]? = some y) := HY.out
  clear HY
  have hkl : k < S.L.length := (List.getElem?_eq_some_iff.1 HY'.out).1
  obtain ⟨g, hga, hc⟩ := H2.out.rc.ent (show ({ S with now := t } : St).L[k]? = some y from HY'.out)
  subst hga
  have c7 : w2.cell? ⟨d, 7, none⟩ = some (.slice (some ⟨g, 0, none⟩) S.L.length cp) := H2.out.rc.cells 7
  have c8 : w2.cell? ⟨d, 8, none⟩ = some (.int .i64 t) := H2.out.rc.cells 8
  have e7 : w2.cell? ⟨g, k * 13 + 7, none⟩ = some (.int .i64 (stV y.q)) := hc 7 (by omega)
  have e8 : w2.cell? ⟨g, k * 13 + 8, none⟩ = some (.int .i64 y.unt) := hc 8 (by omega)
  have hk0 : (0 : Int) ≤ (k : Int) := by omega
  have hkl' : (k : Int) < (S.L.length : Int) := by omega
  clear hc
  generalize stV y.q = sv at *
  go_wp2_with fail
  go_quiet (fail)
  have H3 := hid (H2.out.below (bdrewN w2 nq))
  generalize w2.drewN nq = w3 at H3 ⊢
  clear c7 c8 e7 e8 H2
  have HDR := hid (rdrop_any d _ _ cp V k y (show ({ S with now := t } : St).L[k]? = some y from HY'.out) w3 H3.out.rc)
  go_wp2_with fail
  refine HDR.out.mono ?_
  rintro e w4 ⟨rfl, a4, cp4, H4a, N4, B4⟩
  have H4 : Hid (RTurn w w4 d S { S with now := t, L := del S.L ip } (some ⟨g, 0, none⟩) a4 cp cp4 V V) := by
    have hi := HYI.out
    subst hi
    exact H3.out.trans (RTurn.of_but H4a.out B4.out (fun b hb => Or.inl (N4.out b hb)) (fun z hz b hb => Or.inr ⟨z, (mem_del.1 hz).1, hb⟩))
  clear H3 H4a N4 B4 HDR hu
  go_wp2_with fail
  cases hr : roomL S.most (del S.L ip) with
  | none =>
    have HR := hid hr
    clear hr
    refine (rroom_any d _ _ _ V _ H4.out.rc).mono ?_
    rintro e w5 (⟨_, rfl, H5⟩ | ⟨L', a5, cp5, hr', rfl, _⟩)
    · have HE := hid (H4.out.trans H5.out)
      clear H4 H5 HC
      go_wp2_with fail
      go_ret
      have htt := HTT.out
      subst htt
      unfold askNew
      simp only [HR.out]
      exact ⟨none, 0, rfl, RAns.void HE.out⟩
    · exfalso
      have h1 := HR.out
      simp only at hr'
      rw [h1] at hr'
      cases hr'
  | some L' =>
    have HR := hid hr
    have HNO := hid (new_ok (t := t) (zs := pt.zs) HOK.out hr HIP.out HSRC.out HZB.out hnow)
    clear hr
    refine (rroom_any d _ _ _ V _ H4.out.rc).mono ?_
    rintro e w5 (⟨hr', _, _⟩ | ⟨L2, a5, cp5, hr', rfl, H5⟩)
    · exfalso
      have h1 := HR.out
      simp only at hr'
      rw [h1] at hr'
      cases hr'
    obtain rfl : L' = L2 := by
      have h1 := HR.out
      simp only at hr'
      rw [h1] at hr'
      simpa using hr'
    have H6 := hid (H4.out.trans H5.out)
    clear H4 H5 hr'
    have HBE := hid (rbehind_any d _ a5 cp5 V 10 (by omega) w5 H6.out.rc)
    go_wp2_with fail
    refine HBE.out.mono ?_
    rintro e wz ⟨rfl, hwz⟩
    subst wz
    clear HBE
    go_wp2_with fail
    refine (HC.out _ H6.out.keep).mono ?_
    rintro e w6 ⟨ea, en, ec, rfl, an⟩
    have bp := bpush an.2.2 (.cells #[.int .u32 ip, .int .u8 0, .int .u8 0, .int .u8 0, .int .u8 0, .int .u8 0, .int .u8 0, .int .i64 1, .int .i64 (aft t 10), .int .i64 1, .bool true, .int .u32 src, .slice ea en ec] 103)
    have HBX := hid (heap_new w6 (.cells #[.int .u32 ip, .int .u8 0, .int .u8 0, .int .u8 0, .int .u8 0, .int .u8 0, .int .u8 0, .int .i64 1, .int .i64 (aft t 10), .int .i64 1, .bool true, .int .u32 src, .slice ea en ec] 103))
    have HBP := hid bp
    have HRW := hid (an.1.below (bpush (Below.refl _ _) (.cells #[.int .u32 ip, .int .u8 0, .int .u8 0, .int .u8 0, .int .u8 0, .int .u8 0, .int .u8 0, .int .i64 1, .int .i64 (aft t 10), .int .i64 1, .bool true, .int .u32 src, .slice ea en ec] 103)))
    have HFR := hid an.2.1
    clear an bp HC
    have HPU := hid (rput_x d _ a5 cp5 V src ip t pt.zs ea en ec HNO.out.2.2 _ (H6.out.rc.below HBP.out) HNO.out.2.1 HRW.out)
    go_wp2_with fail
    generalize w6.alloc (.cells #[.int .u32 ip, .int .u8 0, .int .u8 0, .int .u8 0, .int .u8 0, .int .u8 0, .int .u8 0, .int .i64 1, .int .i64 (aft t 10), .int .i64 1, .bool true, .int .u32 src, .slice ea en ec] 103) = W6 at *
    generalize w6.heap.size = ge at *
    refine HPU.out.mono ?_
    rintro e w7 ⟨rfl, a7, cp7, H7, N7, B7⟩
    have hged : ge ≠ d := fun e => by
      have h1 := HBX.out
      rw [e, (H6.out.rc.below HBP.out).box] at h1
      simp at h1
    have HB7 := hid (keptBut HBX.out B7.out hged)
    have hcx : ∀ q, w7.cell? ⟨ge, q, none⟩ = (#[.int .u32 ip, .int .u8 0, .int .u8 0, .int .u8 0, .int .u8 0, .int .u8 0, .int .u8 0, .int .i64 1, .int .i64 (aft t 10), .int .i64 1, .bool true, .int .u32 src, .slice ea en ec] : Array Value)[q]? := fun q => cell_of_heap HB7.out q
    have HQ := hid (rquestion_x d _ a7 cp7 _ src ip t pt.zs ea en ec w7 H7.out HIP.out HSRC.out)
    clear HPU
    go_wp2_with fail
    refine HQ.out.mono ?_
    rintro e w8 ⟨a8, n8, c8, rfl, an⟩
    have HAN := hid an
    clear an HQ hcx
    simp only [Sd.cells, everyM]
    go_wp2_with fail
    go_ret
    have htt := HTT.out
    subst htt
    have hp := bpush (Below.refl w8.heap.size w8) (.cells #[.int .u8 255, .int .u8 255, .int .u8 255, .int .u8 255, .int .u8 255, .int .u8 255, .int .i64 2054, .slice a8 n8 c8] 59)
    have HE : RTurn w w8 d S { S with now := hearN S.now now, L := put L' ⟨ip, aft (hearN S.now now) 10, zeroMac, 1, src, pt.zs⟩ } (some ⟨g, 0, none⟩) a7 cp cp7 V (upd V ip (.slice ea en ec)) := by
      refine H6.out.trans (RTurn.below ⟨H7.out, B7.out.os.trans HBP.out.os, B7.out.tape.trans HBP.out.tape, B7.out.output.trans HBP.out.output, Nat.le_trans HBP.out.size B7.out.size, fun i h1 h2 hl => (B7.out.block i h1 (Nat.lt_of_lt_of_le hl HBP.out.size)).trans (HBP.out.block i hl), fun b hb => Or.inl (Nat.le_trans HBP.out.size (N7.out b hb)), fun z hz b hb => ?_⟩ HAN.out.2.2)
      rcases mem_put.1 hz with rfl | ⟨h1, h2⟩
      · rw [upd_same] at hb
        exact Or.inl (HFR.out b hb)
      · rw [upd_other V _ h2] at hb
        exact Or.inr ⟨z, h1, hb⟩
    unfold askNew
    simp only [HR.out]
    exact ⟨_, 1, rfl, a7, cp7, _, [(⟨everyM, 2054, encL (askP S.own src ip)⟩, .slice a8 n8 c8)], HE.below hp, rfl, (Outs.one (x := ⟨everyM, 2054, encL (askP S.own src ip)⟩) (a := a8) (n := n8) (cp := c8) (heap_new w8 _) (HAN.out.1.below hp)).r⟩

theorem rask_any (d : Nat) (S : St) (a : Option Addr) (cp : Nat) (V : Int → Value) (src ip : Int) (pt : Part) (now : Int) (w : World) (x : RcW w d S a cp V) (hip : ipOk ip) (hsrc : ipOk src) (hpk : ∀ wx, RKeep w wx d (.slice a S.L.length cp) → pt.ok wx) (hpl : pt.zs.length ≤ 140737488351232) :
    Calls Try.prog 27 #[.pointer (some ⟨d, 0, none⟩), .int .u32 src, .int .u32 ip, pt.val, .int .i64 now] w fun e w' => ∃ a2 cp2, e = .returned (.slice a2 (askF S src ip pt.zs now).2.length cp2) ∧ Hid (RAns w w' d S (askF S src ip pt.zs now).1 a cp V a2 cp2 (askF S src ip pt.zs now).2) := by
  simp only [askF]
  cases hl : look S.L ip with
  | none => exact raskD d S a cp V src ip pt now w x hip hsrc hl hpk hpl
  | some y =>
    by_cases hq : 0 < y.q
    · simp only [if_pos hq]
      exact (raskA d S a cp V src ip pt now y w x hsrc hl hq hpk hpl).mono fun e w' ⟨h1, h2⟩ => ⟨none, 0, h1, h2⟩
    · by_cases hu : hearN S.now now < y.unt
      · simp only [if_neg hq, if_pos hu]
        exact (raskB d S a cp V src ip pt now y w x hl hq hu hpk hpl).mono fun e w' ⟨g, h1, h2⟩ => ⟨some ⟨g, 0, none⟩, 1, h1, h2⟩
      · simp only [if_neg hq, if_neg hu]
        exact raskC d S a cp V src ip pt now y w x hip hsrc hl hq hu hpk hpl
end Go.Proofs.Ytdgjpikphooilaa

/-
  The document's cache: what Tick sends, in memory.
-/
namespace Go.Proofs.Ytdgjpikphooilaa
open Go.RowKit
set_option linter.all false

/-- what is to be sent, being laid. -/
structure ROI (w wr : World) (a : Option Addr) (n cp : Nat) (l : List (Sd × Value)) : Prop where
  len : l.length = n
  out : ROut wr (.slice a n cp) l
  new : ∀ b, (Value.slice a n cp).ownBlock = some b → w.heap.size ≤ b
  below : Below w.heap.size w wr
theorem ROI.void (w : World) : ROI w w none 0 0 [] := ⟨rfl, (Outs.nil _).r, by simp [Value.ownBlock], Below.refl _ _⟩
theorem ROI.bel {w wr wx : World} {a : Option Addr} {n cp : Nat} {l : List (Sd × Value)} (h : ROI w wr a n cp l) (hb : Below wr.heap.size wr wx) : ROI w wx a n cp l :=
  ⟨h.len, ⟨h.out.row.below hb, fun p hp => (h.out.dat p hp).below hb, h.out.form⟩, h.new, bstep h.below hb⟩
theorem row_obj {w : World} {e : TypeId} {v : Value} {vs : List Value} (h : Row w e v vs) {b : Nat} (hb : v.ownBlock = some b) : ∃ C f, w.heap[b]? = some (.cells C e f) := by
  rcases h with ⟨rfl, _⟩ | ⟨g, cap, cur, lo, hi, rfl, hg, _⟩
  · simp [Value.ownBlock] at hb
  · simp [Value.ownBlock] at hb; subst hb; exact ⟨_, _, hg⟩
/-- the other row was added to. -/
theorem ROI.kept {w wr w5 w7 : World} {a : Option Addr} {n cp : Nat} {l : List (Sd × Value)} (h : ROI w wr a n cp l) (hb : Below wr.heap.size wr w5) (hw : Below w.heap.size w w7) (hk : ∀ (b : Nat) (C : Array Value) (t : TypeId) (f : Nat × Nat), w5.heap[b]? = some (Obj.cells C t f) → t ≠ 103 → w7.heap[b]? = some (Obj.cells C t f)) : ROI w w7 a n cp l := by
  have h5 := h.bel hb
  refine ⟨h.len, ⟨h5.out.row.keep fun b hv => ?_, fun p hp => (h5.out.dat p hp).keep fun b hv => ?_, h.out.form⟩, h.new, hw⟩
  · obtain ⟨cur, hc⟩ := h5.out.row.obj hv
    rw [hk b _ _ _ hc (by decide), hc]
  · obtain ⟨C, f, hc⟩ := row_obj (h5.out.dat p hp) hv
    rw [hk b _ _ _ hc (by decide), hc]
theorem RoI.kept {w wr w5 w7 : World} {a : Option Addr} {n cp : Nat} {O : List Ab} {V : Int → Value} (h : RoI w wr a n cp O V) (hb : Below wr.heap.size wr w5) (hw : Below w.heap.size w w7) (hk : ∀ (b : Nat) (C : Array Value) (t : TypeId) (f : Nat × Nat), w5.heap[b]? = some (Obj.cells C t f) → t ≠ 59 → w7.heap[b]? = some (Obj.cells C t f)) : RoI w w7 a n cp O V := by
  have h5 := h.bel hb
  refine ⟨h.len, h5.row.keep fun b hv => ?_, h.new, hw⟩
  obtain ⟨cur, hc⟩ := h5.row.obj hv
  rw [hk b _ _ _ hc (by decide), hc]
theorem ROI.one {w wr w5 : World} {a : Option Addr} {n cp : Nat} {l : List (Sd × Value)} (h : ROI w wr a n cp l) (hb : Below wr.heap.size wr w5) (x : Sd) {pa : Option Addr} {pn pc : Nat} (hd : Row w5 5 (.slice pa pn pc) (u8s x.zs)) (hl : n ≤ 64) :
    ∃ a' cp' w7, (Builtin.append_ #[51, 51] 51 #[.slice a n cp, .slice (some ⟨w5.heap.size, 0, none⟩) 1 1]).run Try.prog (w5.alloc (.cells #[.int .u8 x.dst.b0, .int .u8 x.dst.b1, .int .u8 x.dst.b2, .int .u8 x.dst.b3, .int .u8 x.dst.b4, .int .u8 x.dst.b5, .int .i64 x.kind, .slice pa pn pc] 59)) = .ok (.slice a' (n + 1) cp') w7 ∧ Hid (ROI w w7 a' (n + 1) cp' (l ++ [(x, .slice pa pn pc)])) ∧ Hid (∀ (b : Nat) (C : Array Value) (t : TypeId) (f : Nat × Nat), w5.heap[b]? = some (Obj.cells C t f) → t ≠ 59 → w7.heap[b]? = some (Obj.cells C t f)) := by
  have he : x.cells (.slice pa pn pc) = #[.int .u8 x.dst.b0, .int .u8 x.dst.b1, .int .u8 x.dst.b2, .int .u8 x.dst.b3, .int .u8 x.dst.b4, .int .u8 x.dst.b5, .int .i64 x.kind, .slice pa pn pc] := rfl
  rw [← he]
  have hbp := bpush (Below.refl w5.heap.size w5) (.cells (x.cells (.slice pa pn pc)) 59)
  have hW := (h.bel hb).bel hbp
  have hnew : (w5.alloc (.cells (x.cells (.slice pa pn pc)) 59)).heap[w5.heap.size]? = some (.cells (x.cells (.slice pa pn pc)) 59 (0, 0)) := heap_new _ _
  have hrw := hW.out.row
  rw [h.len] at hrw
  obtain ⟨v', w7, hrun, hrow, hgr, hloc⟩ := append_s 51 51 59 _ 8 40 Try.underlying51 infoSend rfl (by omega) hrw ⟨w5.heap.size, 0, none⟩ 1 1 (x.cells (.slice pa pn pc)).toList (by simp [Sd.cells])
    (fun j u hj => by
      rw [show (⟨w5.heap.size, 0, none⟩ : Addr).add j = ⟨w5.heap.size, j, none⟩ from by unfold Addr.add; split <;> simp_all, cell_of_heap hnew, ← Array.getElem?_toList]
      exact hj)
    (fun u hu => by simp [Sd.cells] at hu; rcases hu with rfl | rfl | rfl | rfl | rfl | rfl | rfl | rfl <;> rfl) (by unfold maxLen; omega) (by omega)
  obtain ⟨a', cp', hv', _⟩ := hrow.form
  subst hv'
  have h1sz : w.heap.size ≤ w5.heap.size := Nat.le_trans h.below.size hb.size
  have keepT : ∀ b, b < (w5.alloc (.cells (x.cells (.slice pa pn pc)) 59)).heap.size → (Value.slice a n cp).ownBlock ≠ some b → w7.heap[b]? = (w5.alloc (.cells (x.cells (.slice pa pn pc)) 59)).heap[b]? := fun b hlt hne => hgr.block b hlt (fun e => hne (by simpa using e.symm))
  have hdW := hd.below hbp
  have hk7 : ∀ (b : Nat) (C : Array Value) (t : TypeId) (f : Nat × Nat), (w5.alloc (.cells (x.cells (.slice pa pn pc)) 59)).heap[b]? = some (Obj.cells C t f) → t ≠ 59 → w7.heap[b]? = some (Obj.cells C t f) := fun b C t f hb' hne => (keepT b (heap_lt hb') (fun e => rowS_not hrw hb' (Ne.symm hne) b e rfl)).trans hb'
  refine ⟨a', cp', w7, hrun, ⟨by rw [List.length_append, h.len]; rfl, ⟨?_, fun p hp => ?_, fun p hp => ?_⟩, fun b hb' => ?_, ?_⟩, fun b C t f hb' hne => hk7 b C t f (Go.Proofs.Ytdgjpikphooilaa.kept hb' hbp) hne⟩
  · have e1 : sdCells (l ++ [(x, .slice pa pn pc)]) = sdCells l ++ (x.cells (.slice pa pn pc)).toList := by simp [sdCells]
    have e2 : (l ++ [(x, Value.slice pa pn pc)]).length = n + 1 := by rw [List.length_append, h.len]; rfl
    rw [e1, e2]
    exact hrow
  · rcases List.mem_append.1 hp with hp | hp
    · refine (hW.out.dat p hp).keep fun b hv => ?_
      obtain ⟨C, f, hc⟩ := row_obj (hW.out.dat p hp) hv
      rw [hk7 b _ _ _ hc (by decide), hc]
    · simp at hp; subst hp
      refine hdW.keep fun b hv => ?_
      obtain ⟨C, f, hc⟩ := row_obj hdW hv
      rw [hk7 b _ _ _ hc (by decide), hc]
  · rcases List.mem_append.1 hp with hp | hp
    · exact h.out.form p hp
    · simp at hp; subst hp; exact ⟨_, _, _, rfl⟩
  · rcases hloc b (by cases a' <;> simpa [Value.ownBlock] using hb') with h2 | h2
    · exact h.new b (by cases a <;> simpa [Value.ownBlock] using h2)
    · simp at h2; omega
  · have hb1 := hW.below
    exact ⟨hgr.os.trans hb1.os, hgr.tape.trans hb1.tape, hgr.output.trans hb1.output, Nat.le_trans hb1.size hgr.size, fun i hl' => (keepT i (Nat.lt_of_lt_of_le hl' hb1.size) (fun e => by have := h.new i e; omega)).trans (hb1.block i hl')⟩
theorem RoI.one4 {w wr w5 : World} {a : Option Addr} {n cp : Nat} {O : List Ab} {V : Int → Value} (h : RoI w wr a n cp O V) (hb : Below wr.heap.size wr w5) (y : Ab) {pa : Option Addr} {pn pc : Nat} (hv : V y.ip = .slice pa pn pc) (hl : n ≤ 64) :
    ∃ a' cp' w7, (Builtin.append_ #[77, 77] 77 #[.slice a n cp, .slice (some ⟨w5.heap.size, 0, none⟩) 1 1]).run Try.prog (w5.alloc (.cells #[.int .u32 y.ip, .int .u8 y.mac.b0, .int .u8 y.mac.b1, .int .u8 y.mac.b2, .int .u8 y.mac.b3, .int .u8 y.mac.b4, .int .u8 y.mac.b5, .int .i64 (stV y.q), .int .i64 y.unt, .int .i64 y.q, .bool (wtV y.q), .int .u32 y.src, .slice pa pn pc] 103)) = .ok (.slice a' (n + 1) cp') w7 ∧ Hid (RoI w w7 a' (n + 1) cp' (O ++ [y]) V) ∧ Hid (∀ b, b < w5.heap.size → (Value.slice a n cp).ownBlock ≠ some b → w7.heap[b]? = w5.heap[b]?) := by
  have he : rfC y (V y.ip) = #[.int .u32 y.ip, .int .u8 y.mac.b0, .int .u8 y.mac.b1, .int .u8 y.mac.b2, .int .u8 y.mac.b3, .int .u8 y.mac.b4, .int .u8 y.mac.b5, .int .i64 (stV y.q), .int .i64 y.unt, .int .i64 y.q, .bool (wtV y.q), .int .u32 y.src, .slice pa pn pc] := by rw [hv]; rfl
  rw [← he]
  have hbp := bpush (Below.refl w5.heap.size w5) (.cells (rfC y (V y.ip)) 103)
  have hbW := bstep hb hbp
  have rW := h.row.below hbW
  have hnew : (w5.alloc (.cells (rfC y (V y.ip)) 103)).heap[w5.heap.size]? = some (.cells (rfC y (V y.ip)) 103 (0, 0)) := heap_new _ _
  obtain ⟨v', w7, hrun, hrow, hgr, hloc⟩ := append_s 77 77 103 _ 13 80 Try.underlying77 infoEn rfl (by omega) rW ⟨w5.heap.size, 0, none⟩ 1 1 (rfC y (V y.ip)).toList (by simp [rfC])
    (fun j u hj => by
      rw [show (⟨w5.heap.size, 0, none⟩ : Addr).add j = ⟨w5.heap.size, j, none⟩ from by unfold Addr.add; split <;> simp_all, cell_of_heap hnew, ← Array.getElem?_toList]
      exact hj)
    (fun u hu => by rw [hv] at hu; simp [rfC] at hu; rcases hu with rfl | rfl | rfl | rfl | rfl | rfl | rfl | rfl | rfl | rfl | rfl | rfl | rfl <;> rfl) (by unfold maxLen; omega) (by omega)
  obtain ⟨a', cp', hv', _⟩ := hrow.form
  subst hv'
  have hsz : wr.heap.size ≤ w5.heap.size := hb.size
  have h1sz : w.heap.size ≤ wr.heap.size := h.below.size
  have keepT : ∀ b, b < (w5.alloc (.cells (rfC y (V y.ip)) 103)).heap.size → (Value.slice a n cp).ownBlock ≠ some b → w7.heap[b]? = (w5.alloc (.cells (rfC y (V y.ip)) 103)).heap[b]? := fun b hlt hne => hgr.block b hlt (fun e => hne (by simpa using e.symm))
  have hb1 : Below w.heap.size w (w5.alloc (.cells (rfC y (V y.ip)) 103)) := bstep h.below hbW
  refine ⟨a', cp', w7, hrun, ⟨by rw [List.length_append, h.len]; rfl, by rw [rfs_snoc]; exact hrow, fun b hb' => ?_, ?_⟩, fun b hb' hne => ?_⟩
  · rcases hloc b (by cases a' <;> simpa [Value.ownBlock] using hb') with h2 | h2
    · exact h.new b (by cases a <;> simpa [Value.ownBlock] using h2)
    · simp at h2; omega
  · exact ⟨hgr.os.trans hb1.os, hgr.tape.trans hb1.tape, hgr.output.trans hb1.output, Nat.le_trans hb1.size hgr.size, fun i hl' => (keepT i (Nat.lt_of_lt_of_le hl' hb1.size) (fun e => by have := h.new i e; omega)).trans (hb1.block i hl')⟩
  · exact (keepT b (Nat.lt_of_lt_of_le hb' hbp.size) hne).trans (hbp.block b hb')
theorem tick_take {S : St} {k : Nat} {y : Ab} (hy : S.L[k]? = some y) : (S.L.take (k + 1)).filterMap (tick1 S) = (S.L.take k).filterMap (tick1 S) ++ (tick1 S y).toList := by
  rw [take1 hy, List.filterMap_append]
  cases h : tick1 S y <;> simp [h]
theorem tick_len (S : St) (k : Nat) : ((S.L.take k).filterMap (tick1 S)).length ≤ k := by
  have h1 := List.length_filterMap_le (tick1 S) (S.L.take k)
  have h2 := List.length_take_le k S.L
  omega
end Go.Proofs.Ytdgjpikphooilaa

/-
  The document's cache: Tick. Written by mkrtik.py.
-/
namespace Go.Proofs.Ytdgjpikphooilaa
open Go.RowKit
set_option linter.all false

theorem tick1_ip {S : St} {y z : Ab} (h : tick1 S y = some z) : z.ip = y.ip := by
  unfold tick1 at h
  split at h
  · simp at h; rw [h]
  · split at h
    · simp at h; rw [← h]; rfl
    · cases h
theorem tick1_ok {S : St} (hS : S.ok) {y z : Ab} (hy : y.ok) (h : tick1 S y = some z) : z.ok := by
  unfold tick1 at h
  split at h
  · simp at h; rw [← h]; exact hy
  · split at h
    · rename_i hq
      simp at h; rw [← h]
      exact queE_ok hS hy.ip hy.mac (by omega) hy.src hy.zs (hy.asd (by omega))
    · cases h
theorem tick1_zs {S : St} {y z : Ab} (h : tick1 S y = some z) : z.zs = y.zs := by
  unfold tick1 at h
  split at h
  · simp at h; rw [h]
  · split at h
    · simp at h; rw [← h]; rfl
    · cases h
theorem St.ok_tick {S : St} (h : S.ok) : St.ok { S with L := S.L.filterMap (tick1 S) } := by
  refine ⟨h.own, h.most, h.now, ?_, ?_, fun z hz => ?_⟩
  · have hr : S.L.Pairwise (fun x y => x.ip < y.ip) := h.rise
    refine List.Pairwise.filterMap (R := fun x y : Ab => x.ip < y.ip) (S := fun x y : Ab => x.ip < y.ip) (tick1 S) ?_ hr
    intro x y hxy x' hx y' hy
    have h1 := tick1_ip (S := S) hx
    have h2 := tick1_ip (S := S) hy
    show x'.ip < y'.ip
    omega
  · have h1 := List.length_filterMap_le (tick1 S) S.L
    have h2 := h.len
    show ((S.L.filterMap (tick1 S)).length : Int) ≤ S.most
    omega
  · obtain ⟨y, hy, e⟩ := List.mem_filterMap.1 hz
    exact tick1_ok h (h.ents y hy) e
theorem stV_q {q : Int} (h : 0 < q) : (stV q == 2) = false := by unfold stV; rw [if_pos h]; rfl
theorem stV_n {q : Int} (h : ¬ 0 < q) : (stV q == 2) = true := by unfold stV; rw [if_neg h]; rfl
/-- rows under way, with the box. -/
structure TkI (w1 W : World) (d ge : Nat) (E : Array Value) (S1 : St) (a : Option Addr) (cp : Nat) (V : Int → Value) (al : Option Addr) (nl cl : Nat) (O : List Ab) (ao : Option Addr) (no co : Nat) (l : List (Sd × Value)) : Prop where
  rc : RcW W d S1 a cp V
  box : W.heap[ge]? = some (.cells E 103 (0, 0))
  left : RoI w1 W al nl cl O V
  out : ROI w1 W ao no co l
  new : w1.heap.size ≤ ge
  gl : ∀ b, (Value.slice al nl cl).ownBlock = some b → b ≠ ge
  ga : ∀ b, (Value.slice a S1.L.length cp).ownBlock = some b → b ≠ ge
section
variable {w1 W W' : World} {d ge : Nat} {E : Array Value} {S1 : St} {a : Option Addr} {cp : Nat} {V : Int → Value} {al : Option Addr} {nl cl : Nat} {O : List Ab} {ao : Option Addr} {no co : Nat} {l : List (Sd × Value)}
theorem TkI.made (x : RcW W d S1 a cp V) (h1 : RoI w1 W al nl cl O V) (h2 : ROI w1 W ao no co l) (E : Array Value) : TkI w1 (W.alloc (.cells E 103)) d W.heap.size E S1 a cp V al nl cl O ao no co l :=
  have hb := bpush (Below.refl W.heap.size W) (.cells E 103)
  ⟨x.below hb, heap_new _ _, h1.bel hb, h2.bel hb, h1.below.size, fun b hb' e => by have := h1.row.lt hb'; omega, fun b hb' e => by have := x.row.lt hb'; omega⟩
theorem TkI.next (h : TkI w1 W d ge E S1 a cp V al nl cl O ao no co l) (hb : Below W.heap.size W W') : TkI w1 W' d ge E S1 a cp V al nl cl O ao no co l :=
  ⟨h.rc.below hb, kept h.box hb, h.left.bel hb, h.out.bel hb, h.new, h.gl, h.ga⟩
theorem TkI.cells (h : TkI w1 W d ge E S1 a cp V al nl cl O ao no co l) : (∀ q, W.cell? ⟨ge, q, none⟩ = E[q]?) ∧ W.cell? ⟨d, 8, none⟩ = some (.int .i64 S1.now) := ⟨fun q => cell_of_heap h.box q, h.rc.cells 8⟩
theorem TkI.set (h : TkI w1 W d ge E S1 a cp V al nl cl O ao no co l) (j : Nat) (v : Value) (E' : Array Value) (hE : E.setIfInBounds j v = E') : TkI w1 (W.setCell ⟨ge, j, none⟩ v) d ge E' S1 a cp V al nl cl O ao no co l := by
  have hb := But.setCell ge W j v
  have hbw := bbut h.left.below hb h.new
  have hgd : d ≠ ge := fun e => by have h1 := h.rc.box; rw [e, h.box] at h1; simp at h1
  refine ⟨h.rc.keep (hb.block d hgd h.rc.lt) (fun b hb' => hb.block b (h.ga b hb') (h.rc.row.lt hb')) (fun y hy b hb' => hb.block b (row_not (h.rc.pks y hy) h.box (by decide) b hb') ((h.rc.pks y hy).lt hb')), by rw [heap_setCell h.box, hE], ⟨h.left.len, h.left.row.keep fun b hb' => hb.block b (h.gl b hb') (h.left.row.lt hb'), h.left.new, hbw⟩, ⟨h.out.len, ⟨h.out.out.row.keep fun b hb' => hb.block b (rowS_not h.out.out.row h.box (by decide) b hb') (h.out.out.row.lt hb'), fun p hp => (h.out.out.dat p hp).keep fun b hb' => hb.block b (row_not (h.out.out.dat p hp) h.box (by decide) b hb') ((h.out.out.dat p hp).lt hb'), h.out.out.form⟩, h.out.new, hbw⟩, h.new, h.gl, h.ga⟩
end
theorem rquestion_t (d : Nat) (S : St) (a : Option Addr) (cp : Nat) (V : Int → Value) (y : Ab) (sv : Int) (wv : Bool) (v : Value) (w : World) (x : RcW w d S a cp V) (hi : ipOk y.ip) (hs : ipOk y.src) :
    Calls Try.prog 57 #[.pointer (some ⟨d, 0, none⟩), .agg #[.int .u32 y.ip, .int .u8 y.mac.b0, .int .u8 y.mac.b1, .int .u8 y.mac.b2, .int .u8 y.mac.b3, .int .u8 y.mac.b4, .int .u8 y.mac.b5, .int .i64 sv, .int .i64 (aft S.now 10), .int .i64 (y.q + 1), .bool wv, .int .u32 y.src, v]] w fun r w' => ∃ a1 n1 c1, r = .returned (.agg (Sd.cells (queS S y.ip y) (.slice a1 n1 c1))) ∧ Ans w w' (queS S y.ip y).zs a1 n1 c1 :=
  rquestion_any d S a cp V (queE S y.ip y) sv wv v w x hi hs
set_option maxRecDepth 40000 in
set_option maxHeartbeats 8000000 in
theorem rtick_any (d : Nat) (S : St) (a : Option Addr) (cp : Nat) (V : Int → Value) (now : Int) (w : World) (x : RcW w d S a cp V) :
    Calls Try.prog 30 #[.pointer (some ⟨d, 0, none⟩), .int .i64 now] w fun e w' => ∃ a2 cp2, e = .returned (.slice a2 (tickF S now).2.length cp2) ∧ Hid (RAns w w' d S (tickF S now).1 a cp V a2 cp2 (tickF S now).2) := by
  have HT := hid (rtell_x d S a cp V now w x)
  have hl64 : S.L.length ≤ 64 := by have := x.ok.len; have := x.ok.most; omega
  have HTF : Hid (tickF S now = ({ { S with now := hearN S.now now } with L := S.L.filterMap (tick1 { S with now := hearN S.now now }) }, S.L.flatMap (tickS { S with now := hearN S.now now }))) := rfl
  have HLL : Hid (({ S with now := hearN S.now now } : St).L = S.L) := rfl
  rw [HTF.out]
  generalize ({ S with now := hearN S.now now } : St) = S1 at *
  rw [← HLL.out]
  rw [← HLL.out] at hl64
  clear x HTF
  go_enter Try.func30, Try.ntmps30
  go_wp2_with fail
  refine HT.out.mono ?_
  rintro e w1 ⟨rfl, H1⟩
  clear HT
  have HX := hid H1.out.rc
  go_wp2_with fail
  go_loopw [5, 6, 7] (fun vo vl vi wr => ∃ (ao : Option Addr) (no co : Nat) (al : Option Addr) (nl cl k : Nat) (l : List (Sd × Value)), vo = .slice ao no co ∧ vl = .slice al nl cl ∧ vi = .int .i64 k ∧ k ≤ S1.L.length ∧ no ≤ k ∧ nl ≤ k ∧ l.map (·.1) = tickO S1 k ∧ Hid (RoI w1 wr al nl cl ((S1.L.take k).filterMap (tick1 S1)) V) ∧ Hid (ROI w1 wr ao no co l)) (fun _ _ vi _ => S1.L.length - (intOf3 vi).toNat)
  case atStart => exact ⟨none, 0, 0, none, 0, 0, 0, [], rfl, rfl, rfl, Nat.zero_le _, Nat.le_refl _, Nat.le_refl _, by simp [tickO], hid (by simpa using RoI.void w1 V), ROI.void _⟩
  case round =>
    obtain ⟨ao, no, co, al, nl, cl, k, l, rfl, rfl, rfl, hk, hno, hnl, hml, HO, HU⟩ := hrel
    have HML := hid hml
    clear hml
    have HXR := hid (HX.out.below HO.out.below)
    have c7 : wr.cell? ⟨d, 7, none⟩ = some (.slice a S1.L.length cp) := HXR.out.cells 7
    by_cases hkl : k < S1.L.length
    · obtain ⟨y, hy⟩ : ∃ y, S1.L[k]? = some y := ⟨_, List.getElem?_eq_getElem hkl⟩
      obtain ⟨g, rfl, hc⟩ := HXR.out.ent hy
      obtain ⟨pa, pc, hv, _⟩ := (HXR.out.pks y (List.mem_of_getElem? hy)).form
      generalize (u8s y.zs).length = pn at hv
      have e0 : wr.cell? ⟨g, k * 13, none⟩ = some (.int .u32 y.ip) := hc 0 (by omega)
      have e1 : wr.cell? ⟨g, k * 13 + 1, none⟩ = some (.int .u8 y.mac.b0) := hc 1 (by omega)
      have e2 : wr.cell? ⟨g, k * 13 + 2, none⟩ = some (.int .u8 y.mac.b1) := hc 2 (by omega)
      have e3 : wr.cell? ⟨g, k * 13 + 3, none⟩ = some (.int .u8 y.mac.b2) := hc 3 (by omega)
      have e4 : wr.cell? ⟨g, k * 13 + 4, none⟩ = some (.int .u8 y.mac.b3) := hc 4 (by omega)
      have e5 : wr.cell? ⟨g, k * 13 + 5, none⟩ = some (.int .u8 y.mac.b4) := hc 5 (by omega)
      have e6 : wr.cell? ⟨g, k * 13 + 6, none⟩ = some (.int .u8 y.mac.b5) := hc 6 (by omega)
      have e7 : wr.cell? ⟨g, k * 13 + 7, none⟩ = some (.int .i64 (stV y.q)) := hc 7 (by omega)
      have e8 : wr.cell? ⟨g, k * 13 + 8, none⟩ = some (.int .i64 y.unt) := hc 8 (by omega)
      have e9 : wr.cell? ⟨g, k * 13 + 9, none⟩ = some (.int .i64 y.q) := hc 9 (by omega)
      have e10 : wr.cell? ⟨g, k * 13 + 10, none⟩ = some (.bool (wtV y.q)) := hc 10 (by omega)
      have e11 : wr.cell? ⟨g, k * 13 + 11, none⟩ = some (.int .u32 y.src) := hc 11 (by omega)
      have e12 : wr.cell? ⟨g, k * 13 + 12, none⟩ = some (.slice pa pn pc) := by rw [hc 12 (by omega), hv]; rfl
      clear hc
      have HYV := hid hv
      have HY := hid hy
      have HYO := hid (HX.out.ok.ents y (List.mem_of_getElem? hy))
      have HTT := hid (tick_take hy)
      have HTO := hid (tickO_1 hy)
      have hq := HYO.out.q
      clear hv hy
      have hsv1 : 0 < y.q → (stV y.q == 2) = false := stV_q
      have hsv2 : ¬ 0 < y.q → (stV y.q == 2) = true := stV_n
      have HSV : Hid (stV (y.q + 1) = stV y.q ∧ wtV (y.q + 1) = wtV y.q ∨ ¬ 0 < y.q) := by
        by_cases h : 0 < y.q
        · left; unfold stV wtV; rw [if_pos h, if_pos (by omega)]; simp; omega
        · right; exact h
      have HES : Hid (stV y.q = stV y.q ∧ wtV y.q = wtV y.q) := ⟨rfl, rfl⟩
      generalize hSV : stV y.q = sv at *
      generalize hWV : wtV y.q = wv at *
      have HSE := hid hSV
      have HWE := hid hWV
      clear hSV hWV
      have HK := hid (TkI.made HXR.out HO.out HU.out #[.int .u32 y.ip, .int .u8 y.mac.b0, .int .u8 y.mac.b1, .int .u8 y.mac.b2, .int .u8 y.mac.b3, .int .u8 y.mac.b4, .int .u8 y.mac.b5, .int .i64 sv, .int .i64 y.unt, .int .i64 y.q, .bool wv, .int .u32 y.src, .slice pa pn pc])
      clear HO HU HXR
      have hcx := HK.out.cells
      obtain ⟨hcx, hc8⟩ := hcx
      go_wp2_with fail
      have HBW : Hid (Below wr.heap.size wr (wr.alloc (.cells #[.int .u32 y.ip, .int .u8 y.mac.b0, .int .u8 y.mac.b1, .int .u8 y.mac.b2, .int .u8 y.mac.b3, .int .u8 y.mac.b4, .int .u8 y.mac.b5, .int .i64 sv, .int .i64 y.unt, .int .i64 y.q, .bool wv, .int .u32 y.src, .slice pa pn pc] 103))) := bpush (Below.refl _ _) _
      generalize wr.alloc (.cells #[.int .u32 y.ip, .int .u8 y.mac.b0, .int .u8 y.mac.b1, .int .u8 y.mac.b2, .int .u8 y.mac.b3, .int .u8 y.mac.b4, .int .u8 y.mac.b5, .int .i64 sv, .int .i64 y.unt, .int .i64 y.q, .bool wv, .int .u32 y.src, .slice pa pn pc] 103) = W at *
      generalize wr.heap.size = ge at *
      clear c7 e0 e1 e2 e3 e4 e5 e6 e7 e8 e9 e10 e11 e12 HBW
      by_cases hu : S1.now < y.unt
      · go_quiet (fail)
        have HK3 := hid (HK.out.next (bdrewN W nq))
        generalize W.drewN nq = w3 at *
        clear HK hcx hc8
        obtain ⟨hcx, hc8⟩ := HK3.out.cells
        obtain ⟨a', cp', w7, hrun, HR7, HB7⟩ := HK3.out.left.one (Below.refl _ _) y HYV.out (by omega)
        rw [HSE.out, HWE.out] at hrun
        have HE : Hid (RoI w1 w7 a' (nl + 1) cp' ((S1.L.take (k + 1)).filterMap (tick1 S1)) V) := by
          rw [HTT.out, show tick1 S1 y = some y from by unfold tick1; rw [if_pos hu]]; exact HR7.out
        have HE2 : Hid (l.map (·.1) = tickO S1 (k + 1)) := by
          rw [HTO.out, show tickS S1 y = [] from by unfold tickS; rw [if_pos hu], List.append_nil]; exact HML.out
        have HU2 := hid (HK3.out.out.kept (Below.refl _ _) HR7.out.below HB7.out)
        clear HR7 HB7 HTT HTO HML hu
        go_wp2_with (first
          | (at_builtin; refine wpList_append_run _ rfl _ _ _ _ rfl _ _ rfl rfl hrun ?_)
          | fail)
        go_roundw
        case rel => exact ⟨ao, no, co, a', nl + 1, cp', k + 1, l, rfl, rfl, by first | rfl | (congr 1; omega), by omega, by omega, by omega, HE2.out, HE, HU2⟩
        case measure => simp only [intOf3]; omega
      · by_cases hqq : 0 < y.q ∧ y.q < 3
        · have hs2 := hsv1 hqq.1
          obtain ⟨hq1, hq2⟩ := hqq
          clear hsv1 hsv2
          go_quiet (fail)
          have HK3 := hid (HK.out.next (bdrewN W nq))
          generalize W.drewN nq = w3 at *
          clear HK hcx hc8
          obtain ⟨hcx, hc8⟩ := HK3.out.cells
          have fz : ∀ j, w3.frozen? ⟨ge, j, none⟩ = false := fun j => frozen_of_heap HK3.out.box j
          have HK4 := hid (HK3.out.set 9 (.int .i64 (y.q + 1)) #[.int .u32 y.ip, .int .u8 y.mac.b0, .int .u8 y.mac.b1, .int .u8 y.mac.b2, .int .u8 y.mac.b3, .int .u8 y.mac.b4, .int .u8 y.mac.b5, .int .i64 sv, .int .i64 y.unt, .int .i64 (y.q + 1), .bool wv, .int .u32 y.src, .slice pa pn pc] rfl)
          have HBH := hid (rbehind_any d S1 (some ⟨g, 0, none⟩) cp V 10 (by omega) _ HK4.out.rc)
          go_wp2_with fail
          generalize w3.setCell ⟨ge, 9, none⟩ (.int .i64 (y.q + 1)) = w4 at *
          refine HBH.out.mono ?_
          rintro e wz ⟨rfl, hwz⟩
          subst wz
          clear HK3 hcx hc8 fz HBH
          obtain ⟨hcx, hc8⟩ := HK4.out.cells
          have fz : ∀ j, w4.frozen? ⟨ge, j, none⟩ = false := fun j => frozen_of_heap HK4.out.box j
          have HK5 := hid (HK4.out.set 8 (.int .i64 (aft S1.now 10)) #[.int .u32 y.ip, .int .u8 y.mac.b0, .int .u8 y.mac.b1, .int .u8 y.mac.b2, .int .u8 y.mac.b3, .int .u8 y.mac.b4, .int .u8 y.mac.b5, .int .i64 sv, .int .i64 (aft S1.now 10), .int .i64 (y.q + 1), .bool wv, .int .u32 y.src, .slice pa pn pc] rfl)
          go_upto_region 13 with fail
          generalize w4.setCell ⟨ge, 8, none⟩ (.int .i64 (aft S1.now 10)) = w5 at *
          clear hcx hc8 fz HK4
          have hcx5 := HK5.out.cells.1
          have HQV : Hid (V (queE S1 y.ip y).ip = .slice pa pn pc) := HYV.out
          obtain ⟨a', cp', w7, hrun, HR7, HB7⟩ := HK5.out.left.one4 (Below.refl _ _) (queE S1 y.ip y) HQV.out (by omega)
          have HQS : Hid (stV (y.q + 1) = sv ∧ wtV (y.q + 1) = wv) := by
            rw [← HSE.out, ← HWE.out]; unfold stV wtV; rw [if_pos hq1, if_pos (show 0 < y.q + 1 by omega), decide_eq_true hq1, decide_eq_true (show 0 < y.q + 1 by omega)]; exact ⟨rfl, rfl⟩
          simp only [queE] at hrun
          rw [HQS.out.1, HQS.out.2] at hrun
          have HBX := hid ((HB7.out ge (heap_lt HK5.out.box) (fun e => HK5.out.gl ge e rfl)).trans HK5.out.box)
          have hcx7 : ∀ q, w7.cell? ⟨ge, q, none⟩ = (#[.int .u32 y.ip, .int .u8 y.mac.b0, .int .u8 y.mac.b1, .int .u8 y.mac.b2, .int .u8 y.mac.b3, .int .u8 y.mac.b4, .int .u8 y.mac.b5, .int .i64 sv, .int .i64 (aft S1.now 10), .int .i64 (y.q + 1), .bool wv, .int .u32 y.src, .slice pa pn pc] : Array Value)[q]? := fun q => cell_of_heap HBX.out q
          have HX7 := hid (HX.out.below HR7.out.below)
          have HU7 : Hid (ROI w1 w7 ao no co l) := HK5.out.out.kept (Below.refl _ _) HR7.out.below (fun b C t f h1 h2 => (HB7.out b (heap_lt h1) (fun e => rowS_not HK5.out.left.row h1 (Ne.symm h2) b e rfl)).trans h1)
          have HQ := hid (rquestion_t d S1 _ cp V y sv wv (.slice pa pn pc) w7 HX7.out HYO.out.ip HYO.out.src)
          clear HB7 HBX HQV HQS HX7
          go_wp2_with (first
            | (at_builtin; refine wpList_append_run _ rfl _ _ _ _ rfl _ _ rfl rfl hrun ?_)
            | fail)
          refine HQ.out.mono ?_
          rintro e w8 ⟨a8, n8, c8, rfl, an⟩
          have HAN := hid an
          clear an HQ hcx7 hcx5 HK5 hrun
          obtain ⟨a9, cp9, w9, hrun9, HR9, HB9⟩ := HU7.out.one HAN.out.2.2 (queS S1 y.ip y) HAN.out.1 (by omega)
          simp only [queS, everyM] at hrun9
          simp only [Sd.cells, queS, everyM]
          have HL9 := hid (HR7.out.kept HAN.out.2.2 HR9.out.below HB9.out)
          have HE : Hid (RoI w1 w9 a' (nl + 1) cp' ((S1.L.take (k + 1)).filterMap (tick1 S1)) V) := by
            rw [HTT.out, show tick1 S1 y = some (queE S1 y.ip y) from by unfold tick1; rw [if_neg (show ¬ S1.now < y.unt by omega), if_pos ⟨hq1, hq2⟩]]; exact HL9.out
          have HE2 : Hid ((l ++ [(queS S1 y.ip y, Value.slice a8 n8 c8)]).map (·.1) = tickO S1 (k + 1)) := by
            rw [HTO.out, show tickS S1 y = [queS S1 y.ip y] from by unfold tickS; rw [if_neg (show ¬ S1.now < y.unt by omega), if_pos ⟨hq1, hq2⟩], List.map_append, HML.out]; rfl
          clear HR7 HB9 HTT HTO HML hu HL9 HU7
          go_wp2_with (first
            | (at_builtin; refine wpList_append_run _ rfl _ _ _ _ rfl _ _ rfl rfl hrun9 ?_)
            | fail)
          go_roundw
          case rel => exact ⟨a9, no + 1, cp9, a', nl + 1, cp', k + 1, _, rfl, rfl, by first | rfl | (congr 1; omega), by omega, by omega, by omega, HE2.out, HE, HR9⟩
          case measure => simp only [intOf3]; omega
        · have HTk : Hid (tick1 S1 y = none) := hid (by unfold tick1; rw [if_neg hu, if_neg hqq])
          have HTs : Hid (tickS S1 y = []) := hid (by unfold tickS; rw [if_neg hu, if_neg hqq])
          by_cases hq0 : 0 < y.q
          · have hs2 := hsv1 hq0
            have hq3 : 3 ≤ y.q := by omega
            clear hsv1 hsv2
            go_quiet (fail)
            have HK3 := hid (HK.out.next (bdrewN W nq))
            generalize W.drewN nq = w3 at *
            clear HK hcx hc8
            obtain ⟨hcx, hc8⟩ := HK3.out.cells
            have HE : Hid (RoI w1 w3 al nl cl ((S1.L.take (k + 1)).filterMap (tick1 S1)) V) := hid (by
              rw [HTT.out, HTk.out]; simpa using HK3.out.left)
            have HE2 : Hid (l.map (·.1) = tickO S1 (k + 1)) := by
              rw [HTO.out, HTs.out, List.append_nil]; exact HML.out
            have HU2 := hid HK3.out.out
            clear HTT HTO HML hu hqq HTk HTs
            go_wp2_with fail
            go_roundw
            case rel => exact ⟨ao, no, co, al, nl, cl, k + 1, l, rfl, rfl, by first | rfl | (congr 1; omega), by omega, by omega, by omega, HE2.out, HE, HU2⟩
            case measure => simp only [intOf3]; omega
          · have hs2 := hsv2 (by omega)
            clear hsv1 hsv2
            go_quiet (fail)
            have HK3 := hid (HK.out.next (bdrewN W nq))
            generalize W.drewN nq = w3 at *
            clear HK hcx hc8
            obtain ⟨hcx, hc8⟩ := HK3.out.cells
            have HE : Hid (RoI w1 w3 al nl cl ((S1.L.take (k + 1)).filterMap (tick1 S1)) V) := hid (by
              rw [HTT.out, HTk.out]; simpa using HK3.out.left)
            have HE2 : Hid (l.map (·.1) = tickO S1 (k + 1)) := by
              rw [HTO.out, HTs.out, List.append_nil]; exact HML.out
            have HU2 := hid HK3.out.out
            clear HTT HTO HML hu hqq HTk HTs
            go_wp2_with fail
            go_roundw
            case rel => exact ⟨ao, no, co, al, nl, cl, k + 1, l, rfl, rfl, by first | rfl | (congr 1; omega), by omega, by omega, by omega, HE2.out, HE, HU2⟩
            case measure => simp only [intOf3]; omega
    · have hkk : S1.L.length = k := by omega
      have HO2 : Hid (RoI w1 wr al nl cl (S1.L.filterMap (tick1 S1)) V) := by
        have := HO.out
        rw [List.take_of_length_le (by omega)] at this
        exact this
      have HM2 : Hid (l.map (·.1) = S1.L.flatMap (tickS S1)) := hid (by
        rw [HML.out, tickO_all hkk.symm])
      have HF := hid (HX.out.set HO2.out (fun z hz => by
        obtain ⟨y, hy, e⟩ := List.mem_filterMap.1 hz
        rw [tick1_ip e, tick1_zs e]
        exact HXR.out.pks y hy) (St.ok_tick HX.out.ok))
      have f7 : wr.frozen? ⟨d, 7, none⟩ = false := frozen_of_heap HXR.out.box 7
      have HNO : Hid (no = (S1.L.flatMap (tickS S1)).length) := hid (by
        rw [← HM2.out, List.length_map, HU.out.len])
      clear hkk HO HML
      go_wp2_with fail
      go_ret
      have hno' := HNO.out
      subst hno'
      have hbd := But.setCell d wr 7 (Value.slice al nl cl)
      refine ⟨ao, co, rfl, al, cl, V, l, H1.out.trans (RTurn.of_but HF.out ((But.of_below HO2.out.below).trans hbd) (fun b hb => Or.inl ?_) (fun z hz b hb => Or.inr ?_)), HM2.out, ?_⟩
      · have h1 := HO2.out.new
        rw [← HO2.out.len] at h1
        exact h1 b hb
      · obtain ⟨y, hy, e⟩ := List.mem_filterMap.1 hz
        rw [tick1_ip e] at hb
        exact ⟨y, hy, hb⟩
      · exact ⟨HU.out.out.row.keep fun b hb' => hbd.block b (rowS_not HU.out.out.row HXR.out.box (by decide) b hb') (HU.out.out.row.lt hb'), fun p hp => (HU.out.out.dat p hp).keep fun b hb' => hbd.block b (row_not (HU.out.out.dat p hp) HXR.out.box (by decide) b hb') ((HU.out.out.dat p hp).lt hb'), HU.out.out.form⟩
end Go.Proofs.Ytdgjpikphooilaa
