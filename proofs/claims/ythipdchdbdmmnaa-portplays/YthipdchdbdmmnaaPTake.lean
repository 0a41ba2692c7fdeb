/-
  Port: Take.
-/
import Derived.Test.YthipdchdbdmmnaaPPut
namespace Go.Proofs.Ythipdchdbdmmnaa
open Go.RowKit
set_option linter.all false

/-- what Take answers, and the table behind it. -/
def takeD (S : List Pa) (n : Int) : Option Dg := (alook S n).bind fun x => x.ds.head?
def takeF (S : List Pa) (n : Int) : List Pa := match alook S n with
  | none => S
  | some x => match x.ds with
    | [] => S
    | _ :: r => aput S { x with ds := r }
/-- a datagram is taken: its bytes are the taker's. -/
structure TkI (w w' : World) (c m : Nat) (M D : Int) (L : List Ab) (S : List Pa) (d : Dg) (v : Value) : Prop where
  tab : ∃ L', PoW w' c m M D L' ∧ abs L' = S ∧ PAct w w' m L L' ∧ ∀ k, v.ownBlock = some k → k ∈ L.flatMap (fun x => dblk x.ds) ∧ k ∉ L'.flatMap (fun x => dblk x.ds)
  row : Row w' 5 v (u8s d.zs)
  ok : d.ok
theorem dcells_cell {ds : List (Dg × Value)} (h : ∀ d ∈ ds, ∃ a l c, d.2 = .slice a l c) : ∀ u ∈ dcells ds, u.oneCell' = true := fun u hu => by
  obtain ⟨d, hd, hu⟩ := List.mem_flatMap.1 hu
  obtain ⟨a, l, c, e⟩ := h d hd
  simp only [Dg.cells, e, List.mem_cons, List.mem_nil_iff, or_false] at hu
  rcases hu with rfl | rfl | rfl | rfl | rfl <;> rfl
set_option maxRecDepth 20000 in
set_option maxHeartbeats 2000000 in
theorem ptake_closed (c m : Nat) (M D : Int) (L : List Ab) (n : Int) (w : World) (x : PoW w c m M D L) (hn : ipOk n) (hl : look L n = none) :
    Calls Try.prog 21 #[.pointer (some ⟨c, 0, none⟩), .int .i64 n] w fun e w' => e = .returned (.tuple #[dz, .bool false]) ∧ Hid (Pz w w' c m M D L (abs L)) := by
  have hB1 := balloc w (.cells #[.int .u32 0, .int .u32 0, .int .i64 0, .int .i64 0, .slice none 0 0] 53)
  have x1 := x.below hB1
  have hlk := x1.lk hn
  rw [entV_none hl, hl, Option.isSome_none] at hlk
  have c2 := x1.cells.2.2
  have H0 := hid (heap_new w (.cells #[.int .u32 0, .int .u32 0, .int .i64 0, .int .i64 0, .slice none 0 0] 53))
  have HZ := hid (Pz.same x (bbut hB1 (But.setRow w.heap.size _ #[.int .u32 0, .int .u32 0, .int .i64 0, .int .i64 0, .slice none 0 0]) (Nat.le_refl _)))
  simp only [dz]
  clear x x1 hB1 hl
  go_enter Try.func21, Try.ntmps21
  go_wp2_with (first
    | (refine wpList_store_row rfl 53 _ _ rfl w.heap.size #[.int .u32 0, .int .u32 0, .int .i64 0, .int .i64 0, .slice none 0 0] rfl rfl 53 _ H0.out (by kernel_rfl) rfl (by first | kernel_rfl | simp [Value.oneCell']) ?_))
  refine bodyPost_ret (v := .tuple #[.agg #[.int .u32 0, .int .u32 0, .int .i64 0, .int .i64 0, .slice none 0 0], .bool false]) ?_ (by rfl) ⟨rfl, HZ⟩
  exact results_row2 Try.results21 _ _ w.heap.size 53 _ (0, 0) _ _ rfl rfl (setRow_heap _ _ _ _ _ _ H0.out) Try.underlying53 rfl (by kernel_rfl)
set_option maxRecDepth 20000 in
set_option maxHeartbeats 2000000 in
theorem ptake_void (c m : Nat) (M D : Int) (L : List Ab) (n : Int) (y : Ab) (w : World) (x : PoW w c m M D L) (hn : ipOk n) (hl : look L n = some y) (hd : y.ds = []) :
    Calls Try.prog 21 #[.pointer (some ⟨c, 0, none⟩), .int .i64 n] w fun e w' => e = .returned (.tuple #[dz, .bool false]) ∧ Hid (Pz w w' c m M D L (abs L)) := by
  have hB1 := balloc w (.cells #[.int .u32 0, .int .u32 0, .int .i64 0, .int .i64 0, .slice none 0 0] 53)
  have x1 := x.below hB1
  have hlk := x1.lk hn
  rw [entV_some hl, hl, Option.isSome_some] at hlk
  have c2 := x1.cells.2.2
  have ey := x1.ents y (look_some hl).1
  obtain ⟨qa, qc, hq, _⟩ := ey.row.form
  have s0 := ey.cells.1
  rw [hq, hd, List.length_nil] at s0
  have HT := hid (qtake_none y.b qa qc _ s0)
  have H0 := hid (heap_new w (.cells #[.int .u32 0, .int .u32 0, .int .i64 0, .int .i64 0, .slice none 0 0] 53))
  have HZ := hid (fun w2 hb => Pz.same x (w' := World.setRow w2 w.heap.size #[.int .u32 0, .int .u32 0, .int .i64 0, .int .i64 0, .slice none 0 0]) (bbut (bstep hB1 hb) (But.setRow w.heap.size _ _) (Nat.le_refl _)))
  simp only [dz] at HT ⊢
  clear x x1 hB1 hl ey hq s0 hd
  generalize y.b = yb at *
  go_enter Try.func21, Try.ntmps21
  go_wp2_with (first
    | (go_at_call 48; refine HT.out.mono ?_; go_loud (rintro e w2 ⟨rfl, hb⟩; have H2 := hid (kept H0.out hb); have HZ2 := hid (HZ.out w2 hb); clear hb))
    | (refine wpList_store_row rfl 53 _ _ rfl w.heap.size #[.int .u32 0, .int .u32 0, .int .i64 0, .int .i64 0, .slice none 0 0] rfl rfl 53 _ H2.out (by kernel_rfl) rfl (by first | kernel_rfl | simp [Value.oneCell']) ?_))
  refine bodyPost_ret (v := .tuple #[.agg #[.int .u32 0, .int .u32 0, .int .i64 0, .int .i64 0, .slice none 0 0], .bool false]) ?_ (by rfl) ⟨rfl, HZ2⟩
  exact results_row2 Try.results21 _ _ w.heap.size 53 _ (0, 0) _ _ rfl rfl (setRow_heap _ _ _ _ _ _ H2.out) Try.underlying53 rfl (by kernel_rfl)
set_option maxRecDepth 20000 in
set_option maxHeartbeats 2000000 in
theorem ptake_one (c m : Nat) (M D : Int) (L : List Ab) (n : Int) (y : Ab) (d : Dg) (v : Value) (r : List (Dg × Value)) (w : World) (x : PoW w c m M D L) (hn : ipOk n) (hl : look L n = some y) (hd : y.ds = (d, v) :: r) :
    Calls Try.prog 21 #[.pointer (some ⟨c, 0, none⟩), .int .i64 n] w fun e w' => e = .returned (.tuple #[.agg (d.cells v).toArray, .bool true]) ∧ Hid (TkI w w' c m M D L (aput (abs L) { y.abs with ds := r.map Prod.fst }) d v) := by
  have hB1 := balloc w (.cells #[.int .u32 0, .int .u32 0, .int .i64 0, .int .i64 0, .slice none 0 0] 53)
  have x1 := x.below hB1
  have hlk := x1.lk hn
  rw [entV_some hl, hl, Option.isSome_some] at hlk
  have c2 := x1.cells.2.2
  obtain ⟨hy, hyn⟩ := look_some hl
  obtain ⟨L1, L2, rfl⟩ := List.append_of_mem hy
  have ey := x1.ents y hy
  have hforms : ∀ p ∈ y.ds, ∃ a l c, p.2 = Value.slice a l c := fun p hp => by
    obtain ⟨a, c, e, _⟩ := (ey.data p hp).form
    exact ⟨a, _, c, e⟩
  have hrow := ey.row
  rw [hd, dcells_cons, List.length_cons] at hrow
  have hdeep := x.deep y hy
  have hD := x.depth
  have hlen : y.ds.length = r.length + 1 := by rw [hd]; rfl
  have HT := hid (qtake_some y.b y.q y.dr r.length (dcells r) d v _ ey.box hrow (by omega) (hforms (d, v) (by rw [hd]; simp)) (dcells_cell fun p hp => hforms p (by rw [hd]; exact List.mem_cons_of_mem _ hp)))
  have H0 := hid (heap_new w (.cells #[.int .u32 0, .int .u32 0, .int .i64 0, .int .i64 0, .slice none 0 0] 53))
  obtain ⟨va, vl, vc, rfl⟩ := hforms (d, v) (by rw [hd]; simp)
  have hbl := heap_lt (x.ents y hy).box
  have hql : ∀ k, y.q.ownBlock = some k → k < w.heap.size := fun k hk => (x.ents y hy).row.lt hk
  obtain ⟨si, di, sp, dp, zs⟩ := d
  have HA : Hid (∀ w2 q', QI (w.alloc (.cells #[.int .u32 0, .int .u32 0, .int .i64 0, .int .i64 0, .slice none 0 0] 53)) w2 y.b y.q q' y.dr r.length (dcells r) → w2.heap[w.heap.size]? = some (.cells #[.int .u32 0, .int .u32 0, .int .i64 0, .int .i64 0, .slice none 0 0] 53 (0, 0)) ∧
      TkI w (w2.setRow w.heap.size #[.int .u32 si, .int .u32 di, .int .i64 sp, .int .i64 dp, .slice va vl vc]) c m M D (L1 ++ y :: L2) (aput (abs (L1 ++ y :: L2)) { y.abs with ds := r.map Prod.fst }) ⟨si, di, sp, dp, zs⟩ (.slice va vl vc)) := fun w2 q' Q => by
    have h2 : w2.heap[w.heap.size]? = _ := (Q.only.block w.heap.size (fun e => by
      rcases e with e | e
      · omega
      · have := hql _ e; omega) (heap_lt H0.out)).trans H0.out
    refine ⟨h2, ?_⟩
    have hset : But w.heap.size w2 (w2.setRow w.heap.size #[.int .u32 si, .int .u32 di, .int .i64 sp, .int .i64 dp, .slice va vl vc]) := But.setRow _ _ _
    have hdat : ∀ p ∈ y.ds, Row (w2.setRow w.heap.size #[.int .u32 si, .int .u32 di, .int .i64 sp, .int .i64 dp, .slice va vl vc]) 5 p.2 (u8s p.1.zs) := fun p hp => by
      have h3 := data_keep ey.box ey.row Q.only (ey.data p hp)
      refine h3.but hset fun k hk e => ?_
      obtain ⟨cur, f, hc⟩ := h3.obj hk
      rw [e, h2] at hc
      simp only [Option.some.injEq, Obj.cells.injEq] at hc
      exact absurd hc.2.1 (by decide)
    have ho0 : Only (fun k => k = y.b ∨ y.q.ownBlock = some k) w w2 := (Only.of_below hB1).trans Q.only
    have s2 := ho0.size
    have ho : Only (fun k => k = y.b ∨ y.q.ownBlock = some k) w (w2.setRow w.heap.size #[.int .u32 si, .int .u32 di, .int .i64 sp, .int .i64 dp, .slice va vl vc]) :=
      ⟨ho0.os, ho0.tape, ho0.output, by simpa [World.setRow] using s2, fun k hk hl => (setRow_other _ _ _ _ (by omega)).trans (ho0.block k hk hl)⟩
    have hqn : ∀ k, q'.ownBlock = some k → k ≠ w.heap.size := fun k hk => by
      rcases Q.loc k hk with h | h
      · have := hql k h; omega
      · have e1 : (w.alloc (.cells #[.int .u32 0, .int .u32 0, .int .i64 0, .int .i64 0, .slice none 0 0] 53)).heap.size = w.heap.size + 1 := by simp
        omega
    have he : EntW (w2.setRow w.heap.size #[.int .u32 si, .int .u32 di, .int .i64 sp, .int .i64 dp, .slice va vl vc]) { y with q := q', ds := r } :=
      ⟨keptBut Q.box hset (Nat.ne_of_lt hbl), Q.row.keep fun k hk => hset.block k (hqn k hk) (Q.row.lt hk), fun p hp => hdat p (by rw [hd]; exact List.mem_cons_of_mem _ hp), fun p hp => ey.oks p (by rw [hd]; exact List.mem_cons_of_mem _ hp), ey.dr⟩
    have hsub : (dblk r).Sublist (dblk y.ds) := by rw [hd]; exact (List.sublist_cons_self _ _).filterMap _
    obtain ⟨z1, z2⟩ := x.turn (x' := { y with q := q', ds := r }) ho he rfl rfl (fun k hk => (Q.loc k hk).imp_right fun h => Nat.le_trans hB1.size h) [] (by simp) (by simp) (by rw [List.append_nil]; exact hsub) (by show (r.length : Int) ≤ D; omega)
    refine ⟨⟨_, z1, abs_mid x.map.rise rfl, z2, fun k hk => ?_⟩, hdat (⟨si, di, sp, dp, zs⟩, .slice va vl vc) (by rw [hd]; simp), ey.oks (⟨si, di, sp, dp, zs⟩, .slice va vl vc) (by rw [hd]; simp)⟩
    have hkd : k ∈ dblk y.ds := mem_dblk.2 ⟨_, by rw [hd]; exact List.mem_cons_self, hk⟩
    refine ⟨List.mem_flatMap.2 ⟨y, hy, hkd⟩, fun hk2 => ?_⟩
    have hnd := x.nd
    rw [show L1 ++ y :: L2 = L1 ++ [y] ++ L2 by simp, List.flatMap_append, List.flatMap_append, show List.flatMap (fun z : Ab => dblk z.ds) [y] = dblk y.ds by simp] at hnd
    rw [show L1 ++ ({ y with q := q', ds := r } : Ab) :: L2 = L1 ++ [{ y with q := q', ds := r }] ++ L2 by simp, List.flatMap_append, List.flatMap_append, show List.flatMap (fun z : Ab => dblk z.ds) [({ y with q := q', ds := r } : Ab)] = dblk r by simp] at hk2
    have hm := nodup_mid hnd hkd
    rcases List.mem_append.1 hk2 with h | h
    · rcases List.mem_append.1 h with h | h
      · exact hm.1 h
      · have hn2 : (dblk y.ds).Nodup := (List.nodup_append.1 (List.nodup_append.1 hnd).1).2.1
        rw [hd] at hn2
        unfold dblk at hn2 h
        rw [List.filterMap_cons, hk] at hn2
        exact (List.nodup_cons.1 hn2).1 h
    · exact hm.2 h
  simp only [Dg.cells] at HT ⊢
  clear x x1 hB1 hl ey hrow hforms hy hd hdeep hD hlen hql hbl
  generalize y.b = yb at *
  go_enter Try.func21, Try.ntmps21
  go_wp2_with (first
    | (go_at_call 48; refine HT.out.mono ?_; go_loud (rintro e w2 ⟨rfl, q', HQ⟩; have H2 := hid (HA.out w2 q' HQ.out).1; have HZ2 := hid (HA.out w2 q' HQ.out).2; clear HQ HA))
    | (refine wpList_store_row rfl 53 _ _ rfl w.heap.size #[.int .u32 si, .int .u32 di, .int .i64 sp, .int .i64 dp, .slice va vl vc] rfl rfl 53 _ H2.out (by kernel_rfl) rfl (by first | kernel_rfl | simp [Value.oneCell']) ?_))
  refine bodyPost_ret (v := .tuple #[.agg #[.int .u32 si, .int .u32 di, .int .i64 sp, .int .i64 dp, .slice va vl vc], .bool true]) ?_ (by rfl) ⟨rfl, HZ2⟩
  exact results_row2 Try.results21 _ _ w.heap.size 53 _ (0, 0) _ _ rfl rfl (setRow_heap _ _ _ _ _ _ H2.out) Try.underlying53 rfl (by kernel_rfl)
end Go.Proofs.Ythipdchdbdmmnaa
