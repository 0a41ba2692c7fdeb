/-
  Port: Put.
-/
import Derived.Test.YthipdchdbdmmnaaPTk
import Derived.Deep.RegionHeld3
namespace Go.Proofs.Ythipdchdbdmmnaa
open Go.RowKit
set_option linter.all false

theorem filter_all {α : Type} {p : α → Bool} {l : List α} (h : ∀ x ∈ l, p x = true) : l.filter p = l := List.filter_eq_self.2 h
theorem filter_no {α : Type} {p : α → Bool} {l : List α} (h : ∀ x ∈ l, p x = false) : l.filter p = [] := List.filter_eq_nil_iff.2 fun x hx => by simp [h x hx]
theorem put_mid {L1 L2 : List Ab} {x x' : Ab} (h : Rise (L1 ++ x :: L2)) (e : x'.ip = x.ip) : put (L1 ++ x :: L2) x' = L1 ++ x' :: L2 := by
  have h1 := List.pairwise_append.1 h
  have h2 := List.pairwise_cons.1 h1.2.1
  have a1 : ∀ y ∈ L1, y.ip < x.ip := fun y hy => h1.2.2 y hy x (by simp)
  have a2 : ∀ y ∈ L2, x.ip < y.ip := fun y hy => h2.1 y hy
  unfold put
  rw [e, List.filter_append, List.filter_append, List.filter_cons, List.filter_cons, if_neg (by simp), if_neg (by simp),
    filter_all (p := fun y : Ab => decide (y.ip < x.ip)) (l := L1) (fun y hy => by simpa using a1 y hy), filter_no (p := fun y : Ab => decide (y.ip < x.ip)) (l := L2) (fun y hy => by have := a2 y hy; simp; omega),
    filter_all (p := fun y : Ab => decide (x.ip < y.ip)) (l := L2) (fun y hy => by simpa using a2 y hy), filter_no (p := fun y : Ab => decide (x.ip < y.ip)) (l := L1) (fun y hy => by have := a1 y hy; simp; omega)]
  simp
theorem abs_mid {L1 L2 : List Ab} {x x' : Ab} (h : Rise (L1 ++ x :: L2)) (e : x'.ip = x.ip) : abs (L1 ++ x' :: L2) = aput (abs (L1 ++ x :: L2)) x'.abs := by
  rw [← abs_put, put_mid h e]
/-- what Put answers, and the table behind it. -/
def putE (D : Int) (S : List Pa) (d : Dg) : Int := match alook S d.dp with
  | none => 131
  | some x => if (x.ds.length : Int) = D then 3 else 0
def putF (D : Int) (S : List Pa) (d : Dg) : List Pa := match alook S d.dp with
  | none => S
  | some x => if (x.ds.length : Int) = D then aput S { x with dr := x.dr + 1 } else aput S { x with ds := x.ds ++ [d] }
section
variable {w : World} {c m : Nat} {M D : Int} {L : List Ab}
theorem EntW.cells {y : Ab} (h : EntW w y) : w.cell? ⟨y.b, 0, none⟩ = some y.q ∧ w.cell? ⟨y.b, 1, none⟩ = some (.int .i64 y.dr) ∧ w.frozen? ⟨y.b, 1, none⟩ = false := by
  have hb := h.box
  exact ⟨by rw [cell_of_heap hb]; rfl, by rw [cell_of_heap hb]; rfl, frozen_of_heap hb _⟩
theorem entV_none {n : Int} (h : look L n = none) : entV L n = .pointer none := by unfold entV; rw [h]; rfl
theorem entV_some {n : Int} {y : Ab} (h : look L n = some y) : entV L n = .pointer (some ⟨y.b, 0, none⟩) := by unfold entV; rw [h]; rfl
end
set_option maxRecDepth 20000 in
set_option maxHeartbeats 2000000 in
theorem pput_none (c m : Nat) (M D : Int) (L : List Ab) (d : Dg) (v : Value) (w : World) (x : PoW w c m M D L) (hdp : ipOk d.dp) (hl : look L d.dp = none) (hv : ∃ a l c, v = .slice a l c) :
    Calls Try.prog 19 #[.pointer (some ⟨c, 0, none⟩), .agg (d.cells v).toArray] w fun e w' => e = .returned (.int .i64 131) ∧ Hid (Pz w w' c m M D L (abs L)) := by
  obtain ⟨va, vl, vc, rfl⟩ := hv
  obtain ⟨si, di, sp, dp, zs⟩ := d
  simp only [Dg.cells] at *
  have hB : Below w.heap.size w (w.alloc (.cells #[.int .u32 si, .int .u32 di, .int .i64 sp, .int .i64 dp, .slice va vl vc] 53)).drew := (bpush (Below.refl _ _) _).drew
  have x1 := x.below hB
  have hlk := x1.lk hdp
  rw [entV_none hl, hl, Option.isSome_none] at hlk
  have c2 := x1.cells.2.2
  have HZ := hid (Pz.same x hB)
  clear x x1 hB hl
  go_enter Try.func19, Try.ntmps19
  go_wp2
  go_region
  go_wp2
  go_ret
  exact ⟨rfl, HZ⟩
set_option maxRecDepth 20000 in
set_option maxHeartbeats 2000000 in
theorem pput_full (c m : Nat) (M D : Int) (L : List Ab) (d : Dg) (v : Value) (y : Ab) (w : World) (x : PoW w c m M D L) (hdp : ipOk d.dp) (hl : look L d.dp = some y) (hv : ∃ a l c, v = .slice a l c) (hf : (y.ds.length : Int) = D) (hdr : y.dr < 4611686018427387904) :
    Calls Try.prog 19 #[.pointer (some ⟨c, 0, none⟩), .agg (d.cells v).toArray] w fun e w' => e = .returned (.int .i64 3) ∧ Hid (Pz w w' c m M D L (aput (abs L) { y.abs with dr := y.dr + 1 })) := by
  obtain ⟨va, vl, vc, rfl⟩ := hv
  obtain ⟨si, di, sp, dp, zs⟩ := d
  simp only [Dg.cells] at *
  have hB : Below w.heap.size w (w.alloc (.cells #[.int .u32 si, .int .u32 di, .int .i64 sp, .int .i64 dp, .slice va vl vc] 53)).drew := (bpush (Below.refl _ _) _).drew
  have x1 := x.below hB
  have hlk := x1.lk hdp
  rw [entV_some hl, hl, Option.isSome_some] at hlk
  have c2 := x1.cells.2.2
  obtain ⟨hy, hyn⟩ := look_some hl
  obtain ⟨L1, L2, rfl⟩ := List.append_of_mem hy
  have ey := x.ents y hy
  obtain ⟨qa, qc, hq, _⟩ := ey.row.form
  have dr0 := ey.dr
  have HC : Hid (∀ k, ((w.alloc (.cells #[.int .u32 si, .int .u32 di, .int .i64 sp, .int .i64 dp, .slice va vl vc] 53)).drewN k).cell? ⟨y.b, 0, none⟩ = some (.slice qa y.ds.length qc)) := fun k => by
    have hBk : Below w.heap.size w ((w.alloc (.cells #[.int .u32 si, .int .u32 di, .int .i64 sp, .int .i64 dp, .slice va vl vc] 53)).drewN k) := bstep (bpush (Below.refl _ _) _) (below_drewN _ k)
    rw [(ey.below hBk).cells.1, hq]
  have HQ : Hid (∀ k, Calls Try.prog 26 #[.pointer (some ⟨y.b, 0, none⟩)] ((w.alloc (.cells #[.int .u32 si, .int .u32 di, .int .i64 sp, .int .i64 dp, .slice va vl vc] 53)).drewN k) fun e w' => e = .returned (.int .i64 D) ∧ w' = ((w.alloc (.cells #[.int .u32 si, .int .u32 di, .int .i64 sp, .int .i64 dp, .slice va vl vc] 53)).drewN k)) := fun k => by
    rw [← hf]; exact qsize_any _ _ _ _ _ (HC.out k)
  have HZ : Hid (∀ k, ((w.alloc (.cells #[.int .u32 si, .int .u32 di, .int .i64 sp, .int .i64 dp, .slice va vl vc] 53)).drewN k).cell? ⟨c, 1, none⟩ = some (.int .i64 D) ∧ ((w.alloc (.cells #[.int .u32 si, .int .u32 di, .int .i64 sp, .int .i64 dp, .slice va vl vc] 53)).drewN k).cell? ⟨y.b, 1, none⟩ = some (.int .i64 y.dr) ∧ ((w.alloc (.cells #[.int .u32 si, .int .u32 di, .int .i64 sp, .int .i64 dp, .slice va vl vc] 53)).drewN k).frozen? ⟨y.b, 1, none⟩ = false ∧
      Hid (Pz w (((w.alloc (.cells #[.int .u32 si, .int .u32 di, .int .i64 sp, .int .i64 dp, .slice va vl vc] 53)).drewN k).setCell ⟨y.b, 1, none⟩ (.int .i64 (y.dr + 1))) c m M D (L1 ++ y :: L2) (aput (abs (L1 ++ y :: L2)) { y.abs with dr := y.dr + 1 }))) := fun k => by
    have hBk : Below w.heap.size w ((w.alloc (.cells #[.int .u32 si, .int .u32 di, .int .i64 sp, .int .i64 dp, .slice va vl vc] 53)).drewN k) := bstep (bpush (Below.refl _ _) _) (below_drewN _ k)
    have xk := x.below hBk
    have ek := ey.below hBk
    have hset : But y.b ((w.alloc (.cells #[.int .u32 si, .int .u32 di, .int .i64 sp, .int .i64 dp, .slice va vl vc] 53)).drewN k) (((w.alloc (.cells #[.int .u32 si, .int .u32 di, .int .i64 sp, .int .i64 dp, .slice va vl vc] 53)).drewN k).setCell ⟨y.b, 1, none⟩ (.int .i64 (y.dr + 1))) := But.setCell _ _ _ _
    refine ⟨xk.cells.2.1, ek.cells.2.1, ek.cells.2.2, ?_⟩
    have he : EntW (((w.alloc (.cells #[.int .u32 si, .int .u32 di, .int .i64 sp, .int .i64 dp, .slice va vl vc] 53)).drewN k).setCell ⟨y.b, 1, none⟩ (.int .i64 (y.dr + 1))) { y with dr := y.dr + 1 } := by
      refine ⟨?_, ek.row.keep fun g hg => hset.block g (fun e => ?_) (ek.row.lt hg), fun d hd => (ek.data d hd).keep fun g hg => hset.block g (fun e => ?_) ((ek.data d hd).lt hg), ek.oks, by show 0 ≤ y.dr + 1; omega⟩
      · have := heap_setCell (j := 1) (v := .int .i64 (y.dr + 1)) ek.box
        simpa using this
      · subst e; exact rowS_cell_not ek.row ek.box (by decide) hg
      · subst e
        obtain ⟨cur, f, hc⟩ := (ek.data d hd).obj hg
        rw [ek.box] at hc; simp only [Option.some.injEq, Obj.cells.injEq] at hc; exact absurd hc.2.1 (by decide)
    obtain ⟨z1, z2⟩ := xk.turn (x' := { y with dr := y.dr + 1 }) (Only.of_but hset (Or.inl rfl)) he rfl rfl (fun k hk => Or.inl hk) [] (by simp) (by simp) (by simp) (by show (y.ds.length : Int) ≤ D; omega)
    exact ⟨_, z1, abs_mid x.map.rise rfl, (PAct.refl hBk).trans z2⟩
  have e1 : IntKind.i64.wrap (y.dr + 1) = y.dr + 1 := by simp only [IntKind.wrap_i64]; omega
  have s0 : (w.alloc (.cells #[.int .u32 si, .int .u32 di, .int .i64 sp, .int .i64 dp, .slice va vl vc] 53)).drew.cell? ⟨y.b, 0, none⟩ = some (.slice qa y.ds.length qc) := HC.out 1
  have s1 : (w.alloc (.cells #[.int .u32 si, .int .u32 di, .int .i64 sp, .int .i64 dp, .slice va vl vc] 53)).drew.cell? ⟨c, 1, none⟩ = some (.int .i64 D) := (HZ.out 1).1
  have s0' : (w.alloc (.cells #[.int .u32 si, .int .u32 di, .int .i64 sp, .int .i64 dp, .slice va vl vc] 53)).drew.drew.cell? ⟨y.b, 0, none⟩ = some (.slice qa y.ds.length qc) := HC.out 2
  have s1' : (w.alloc (.cells #[.int .u32 si, .int .u32 di, .int .i64 sp, .int .i64 dp, .slice va vl vc] 53)).drew.drew.cell? ⟨c, 1, none⟩ = some (.int .i64 D) := (HZ.out 2).1
  have s2 : (w.alloc (.cells #[.int .u32 si, .int .u32 di, .int .i64 sp, .int .i64 dp, .slice va vl vc] 53)).drew.drew.cell? ⟨y.b, 1, none⟩ = some (.int .i64 y.dr) := (HZ.out 2).2.1
  have s3 : (w.alloc (.cells #[.int .u32 si, .int .u32 di, .int .i64 sp, .int .i64 dp, .slice va vl vc] 53)).drew.drew.frozen? ⟨y.b, 1, none⟩ = false := (HZ.out 2).2.2.1
  have HP : Hid (Pz w ((w.alloc (.cells #[.int .u32 si, .int .u32 di, .int .i64 sp, .int .i64 dp, .slice va vl vc] 53)).drew.drew.setCell ⟨y.b, 1, none⟩ (.int .i64 (y.dr + 1))) c m M D (L1 ++ y :: L2) (aput (abs (L1 ++ y :: L2)) { y.abs with dr := y.dr + 1 })) := (HZ.out 2).2.2.2
  clear x x1 hB hl ey hq hy HC HZ HQ
  generalize y.b = yb at *
  generalize y.dr = ydr at *
  generalize y.ds.length = N at *
  subst hf
  go_enter Try.func19, Try.ntmps19
  go_wp2
  go_region
  go_wp2
  go_region_held3 (fun s => s.cell? ⟨yb, 0, none⟩ = some (.slice qa N qc) ∧ s.cell? ⟨c, 1, none⟩ = some (.int .i64 N)) (first | (refine ⟨?_, ?_⟩ <;> assumption) | go_keep) (first
    | (go_at_call 26; refine (qsize_any yb qa N qc _ (by first | assumption | exact (by assumption : _ ∧ _).1)).mono ?_; rintro e w1 ⟨rfl, rfl⟩))
  go_wp2
  go_ret
  exact ⟨rfl, HP⟩
theorem data_keep {w w' : World} {b : Nat} {q v : Value} {dr : Int} {n : Nat} {xs vs : List Value} (hbox : w.heap[b]? = some (.cells #[q, .int .i64 dr] 85 (0, 0))) (hrow : RowS w 53 5 q n xs) (ho : Only (fun k => k = b ∨ q.ownBlock = some k) w w') (h : Row w 5 v vs) : Row w' 5 v vs := by
  refine h.keep fun g hg => ?_
  obtain ⟨cur, f, hc⟩ := h.obj hg
  refine ho.block g (fun e => ?_) (heap_lt hc)
  rcases e with rfl | e
  · rw [hbox] at hc; simp only [Option.some.injEq, Obj.cells.injEq] at hc; exact absurd hc.2.1 (by decide)
  · exact rowS_cell_not hrow hc (by decide) e
set_option maxRecDepth 20000 in
set_option maxHeartbeats 4000000 in
theorem pput_room (c m : Nat) (M D : Int) (L : List Ab) (d : Dg) (va : Option Addr) (vc : Nat) (y : Ab) (w : World) (x : PoW w c m M D L) (hok : d.ok) (hl : look L d.dp = some y) (hp : Part.ok w ⟨va, vc, d.zs⟩) (hz : d.zs.length ≤ 140737488355328) (hf : (y.ds.length : Int) ≠ D) :
    Calls Try.prog 19 #[.pointer (some ⟨c, 0, none⟩), .agg (d.cells (.slice va d.zs.length vc)).toArray] w fun e w' => e = .returned (.int .i64 0) ∧ Hid (Pz w w' c m M D L (aput (abs L) { y.abs with ds := y.abs.ds ++ [d] })) := by
  have hdp := hok.dp
  have HOK := hid hok
  clear hok
  obtain ⟨si, di, sp, dp, zs⟩ := d
  simp only [Dg.cells] at *
  obtain ⟨vl, hvl⟩ : ∃ vl, vl = zs.length := ⟨_, rfl⟩
  rw [← hvl]
  have hB : Below w.heap.size w (w.alloc (.cells #[.int .u32 si, .int .u32 di, .int .i64 sp, .int .i64 dp, .slice va vl vc] 53)).drew := (bpush (Below.refl _ _) _).drew
  have x1 := x.below hB
  have hlk := x1.lk hdp
  rw [entV_some hl, hl, Option.isSome_some] at hlk
  have c2 := x1.cells.2.2
  obtain ⟨hy, hyn⟩ := look_some hl
  obtain ⟨L1, L2, rfl⟩ := List.append_of_mem hy
  have ey := x.ents y hy
  obtain ⟨qa, qc, hq, _⟩ := ey.row.form
  have hdeep := x.deep y hy
  have hD := x.depth
  have hbl := heap_lt ey.box
  have hBk : ∀ k, Below w.heap.size w ((w.alloc (.cells #[.int .u32 si, .int .u32 di, .int .i64 sp, .int .i64 dp, .slice va vl vc] 53)).drewN k) := fun k => bstep (bpush (Below.refl _ _) _) (below_drewN _ k)
  have s0 : (w.alloc (.cells #[.int .u32 si, .int .u32 di, .int .i64 sp, .int .i64 dp, .slice va vl vc] 53)).drew.cell? ⟨y.b, 0, none⟩ = some (.slice qa y.ds.length qc) := by rw [← hq]; exact (ey.below (hBk 1)).cells.1
  have s1 : (w.alloc (.cells #[.int .u32 si, .int .u32 di, .int .i64 sp, .int .i64 dp, .slice va vl vc] 53)).drew.cell? ⟨c, 1, none⟩ = some (.int .i64 D) := (x.below (hBk 1)).cells.2.1
  have s0' : (w.alloc (.cells #[.int .u32 si, .int .u32 di, .int .i64 sp, .int .i64 dp, .slice va vl vc] 53)).drew.drew.cell? ⟨y.b, 0, none⟩ = some (.slice qa y.ds.length qc) := by rw [← hq]; exact (ey.below (hBk 2)).cells.1
  have s1' : (w.alloc (.cells #[.int .u32 si, .int .u32 di, .int .i64 sp, .int .i64 dp, .slice va vl vc] 53)).drew.drew.cell? ⟨c, 1, none⟩ = some (.int .i64 D) := (x.below (hBk 2)).cells.2.1
  have HCl := hid (bclone_any ⟨va, vc, zs⟩ (w.alloc (.cells #[.int .u32 si, .int .u32 di, .int .i64 sp, .int .i64 dp, .slice va vl vc] 53)).drew.drew (Part.ok_below hp (hBk 2)) hz)
  simp only [Part.val, ← hvl] at HCl
  have hbx : (w.alloc (.cells #[.int .u32 si, .int .u32 di, .int .i64 sp, .int .i64 dp, .slice va vl vc] 53)).drew.drew.heap[w.heap.size]? = some (.cells #[.int .u32 si, .int .u32 di, .int .i64 sp, .int .i64 dp, .slice va vl vc] 53 (0, 0)) := heap_new w _
  have hx4 : (w.alloc (.cells #[.int .u32 si, .int .u32 di, .int .i64 sp, .int .i64 dp, .slice va vl vc] 53)).drew.drew.cell? ⟨w.heap.size, 4, none⟩ = some (.slice va vl vc) := cell_of_heap hbx 4
  have HA : Hid (∀ w5 a cc, Ans (w.alloc (.cells #[.int .u32 si, .int .u32 di, .int .i64 sp, .int .i64 dp, .slice va vl vc] 53)).drew.drew w5 zs a vl cc → w5.cell? ⟨w.heap.size, 4, none⟩ = some (.slice va vl vc) ∧ w5.frozen? ⟨w.heap.size, 4, none⟩ = false ∧
      (∀ j, (w5.setCell ⟨w.heap.size, 4, none⟩ (.slice a vl cc)).cell? ⟨w.heap.size, j, none⟩ = (#[.int .u32 si, .int .u32 di, .int .i64 sp, .int .i64 dp, .slice a vl cc] : Array Value)[j]?) ∧
      (∀ j, (w5.setCell ⟨w.heap.size, 4, none⟩ (.slice a vl cc)).drew.cell? ⟨w.heap.size, j, none⟩ = (#[.int .u32 si, .int .u32 di, .int .i64 sp, .int .i64 dp, .slice a vl cc] : Array Value)[j]?) ∧
      Hid (Calls Try.prog 47 #[.pointer (some ⟨y.b, 0, none⟩), .agg #[.int .u32 si, .int .u32 di, .int .i64 sp, .int .i64 dp, .slice a vl cc]] (w5.setCell ⟨w.heap.size, 4, none⟩ (.slice a vl cc)).drew fun e w' => e = .returned (.tuple #[]) ∧ (∀ j, w'.cell? ⟨w.heap.size, j, none⟩ = (#[.int .u32 si, .int .u32 di, .int .i64 sp, .int .i64 dp, .slice a vl cc] : Array Value)[j]?) ∧
        Hid (Pz w w' c m M D (L1 ++ y :: L2) (aput (abs (L1 ++ y :: L2)) { y.abs with ds := y.abs.ds ++ [Dg.mk si di sp dp zs] })))) := fun w5 a cc han => by
    obtain ⟨hr5, hf5, hb5⟩ := han
    have hB5 : Below w.heap.size w w5 := (hBk 2).trans (hb5.mono (by have := (hBk 2).size; exact this))
    have hbx5 := kept hbx hb5
    have hset : But w.heap.size w5 (w5.setCell ⟨w.heap.size, 4, none⟩ (.slice a vl cc)) := But.setCell _ _ _ _
    have hB6 : Below w.heap.size w (w5.setCell ⟨w.heap.size, 4, none⟩ (.slice a vl cc)) := bbut hB5 hset (Nat.le_refl _)
    have hbx6 : (w5.setCell ⟨w.heap.size, 4, none⟩ (.slice a vl cc)).heap[w.heap.size]? = some (.cells #[.int .u32 si, .int .u32 di, .int .i64 sp, .int .i64 dp, .slice a vl cc] 53 (0, 0)) := by
      have := heap_setCell (j := 4) (v := .slice a vl cc) hbx5
      simpa using this
    refine ⟨cell_of_heap hbx5 4, frozen_of_heap hbx5 4, fun j => cell_of_heap hbx6 j, fun j => cell_of_heap hbx6 j, ?_⟩
    have e6 := ey.below hB6.drew
    refine (qadd_any y.b y.q y.dr y.ds.length (dcells y.ds) (Dg.mk si di sp dp zs) (.slice a vl cc) _ e6.box e6.row (by omega) ⟨_, _, _, rfl⟩).mono ?_
    rintro e w' ⟨h1, q', hQ⟩
    have Q := hQ.out
    have hsz : (w.alloc (.cells #[.int .u32 si, .int .u32 di, .int .i64 sp, .int .i64 dp, .slice va vl vc] 53)).drew.drew.heap.size = w.heap.size + 1 := by show (w.alloc (.cells #[.int .u32 si, .int .u32 di, .int .i64 sp, .int .i64 dp, .slice va vl vc] 53)).heap.size = _; simp
    have hrv : Row (w5.setCell ⟨w.heap.size, 4, none⟩ (.slice a vl cc)).drew 5 (.slice a vl cc) (u8s zs) := (hr5.but hset (fun k hk e => by have := hf5 k hk; omega)).below (Below.refl _ _).drew
    have ho : Only (fun k => k = y.b ∨ y.q.ownBlock = some k) w w' := (Only.of_below hB6.drew).trans Q.only
    have he : EntW w' { y with q := q', ds := y.ds ++ [(Dg.mk si di sp dp zs, .slice a vl cc)] } := by
      refine ⟨Q.box, ?_, fun d hd => ?_, fun d hd => ?_, ey.dr⟩
      · have := Q.row
        show RowS w' _ 5 q' (y.ds ++ [(Dg.mk si di sp dp zs, Value.slice a vl cc)]).length (dcells (y.ds ++ [(Dg.mk si di sp dp zs, Value.slice a vl cc)]))
        rw [List.length_append, dcells_app, dcells_one]
        exact this
      · rcases List.mem_append.1 hd with hd | hd
        · exact data_keep e6.box e6.row Q.only (e6.data d hd)
        · simp only [List.mem_singleton] at hd
          subst hd
          exact data_keep e6.box e6.row Q.only hrv
      · rcases List.mem_append.1 hd with hd | hd
        · exact ey.oks d hd
        · simp only [List.mem_singleton] at hd
          subst hd
          exact HOK.out
    have hfr : ∀ k ∈ dblk [(Dg.mk si di sp dp zs, Value.slice a vl cc)], w.heap.size ≤ k := fun k hk => by
      obtain ⟨d, hd, hk⟩ := mem_dblk.1 hk
      simp only [List.mem_singleton] at hd
      subst hd
      have := hf5 k hk; have := (hBk 2).size
      have : w.heap.size ≤ (w.alloc (.cells #[.int .u32 si, .int .u32 di, .int .i64 sp, .int .i64 dp, .slice va vl vc] 53)).drew.drew.heap.size := (hBk 2).size
      omega
    have hnd : (dblk [(Dg.mk si di sp dp zs, Value.slice a vl cc)]).Nodup := by
      unfold dblk
      cases h : (Value.slice a vl cc).ownBlock <;> simp [h]
    obtain ⟨z1, z2⟩ := x.turn (x' := { y with q := q', ds := y.ds ++ [(Dg.mk si di sp dp zs, .slice a vl cc)] }) ho he rfl rfl (fun k hk => (Q.loc k hk).imp_right fun h => by have := hB6.drew.size; omega) _ hnd hfr (by rw [dblk_app]; exact List.Sublist.refl _) (by simp; omega)
    refine ⟨h1, fun j => ?_, _, z1, ?_, z2⟩
    · have hk : w'.heap[w.heap.size]? = _ := (Q.only.block w.heap.size (fun e => by
        rcases e with e | e
        · omega
        · have := ey.row.lt e; omega) (heap_lt hbx6)).trans hbx6
      exact cell_of_heap hk j
    · have := abs_mid (x' := { y with q := q', ds := y.ds ++ [(Dg.mk si di sp dp zs, .slice a vl cc)] }) x.map.rise rfl
      rw [this]
      simp [Ab.abs]
  clear x x1 hB hl ey hy hBk hbx hp
  clear hvl hyn hz
  generalize y.b = yb at *
  generalize y.ds.length = N at *
  have hf' : ¬ ((N : Int) = D) := hf
  go_enter Try.func19, Try.ntmps19
  go_wp2
  go_region
  go_wp2
  go_region_held3 (fun s => s.cell? ⟨yb, 0, none⟩ = some (.slice qa N qc) ∧ s.cell? ⟨c, 1, none⟩ = some (.int .i64 D)) (first | (refine ⟨?_, ?_⟩ <;> assumption) | go_keep) (first
    | (go_at_call 26; refine (qsize_any yb qa N qc _ (by first | assumption | exact (by assumption : _ ∧ _).1)).mono ?_; rintro e w1 ⟨rfl, rfl⟩))
  go_wp2_with (first
    | (go_at_call 46; refine HCl.out.mono ?_; go_loud (rintro e w5 ⟨a5, c5, rfl, HAN⟩; obtain ⟨f1, f2, f3, f4, F5⟩ := HA.out w5 a5 c5 HAN.out; clear HA HCl HAN)))
  go_region_held3 (fun s => ∀ j, s.cell? ⟨w.heap.size, j, none⟩ = (#[.int .u32 si, .int .u32 di, .int .i64 sp, .int .i64 dp, .slice a5 vl c5] : Array Value)[j]?) (first | assumption | go_keep) (first
    | (go_at_call 47; refine F5.out.mono ?_; go_loud (rintro e w7 ⟨rfl, f7, HP⟩)))
  go_wp2
  go_ret
  exact ⟨rfl, HP⟩
theorem pput_any (c m : Nat) (M D : Int) (L : List Ab) (d : Dg) (va : Option Addr) (vc : Nat) (w : World) (x : PoW w c m M D L) (hok : d.ok) (hp : Part.ok w ⟨va, vc, d.zs⟩) (hz : d.zs.length ≤ 140737488355328) (hdr : ∀ y ∈ abs L, y.dr < 4611686018427387904) :
    Calls Try.prog 19 #[.pointer (some ⟨c, 0, none⟩), .agg (d.cells (.slice va d.zs.length vc)).toArray] w fun e w' => e = .returned (.int .i64 (putE D (abs L) d)) ∧ Hid (Pz w w' c m M D L (putF D (abs L) d)) := by
  unfold putE putF
  cases hl : look L d.dp with
  | none =>
    rw [abs_none hl]
    exact pput_none c m M D L d _ w x hok.dp hl ⟨_, _, _, rfl⟩
  | some y =>
    rw [abs_some hl]
    have e1 : y.abs.ds.length = y.ds.length := by simp [Ab.abs]
    simp only [e1]
    by_cases hf : (y.ds.length : Int) = D
    · rw [if_pos hf, if_pos hf]
      exact pput_full c m M D L d _ y w x hok.dp hl ⟨_, _, _, rfl⟩ hf (hdr y.abs (List.mem_map.2 ⟨y, (look_some hl).1, rfl⟩))
    · rw [if_neg hf, if_neg hf]
      exact pput_room c m M D L d va vc y w x hok hl hp hz hf
end Go.Proofs.Ythipdchdbdmmnaa
