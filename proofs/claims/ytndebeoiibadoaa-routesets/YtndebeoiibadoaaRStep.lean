/-
  Route: a table beside the document's; one call of a script at both.
-/
import Derived.Test.YtndebeoiibadoaaRRef4
import Derived.Test.YtndebeoiibadoaaROpen
import Derived.Deep.RegionHeld3
namespace Go.Proofs.Ytndebeoiibadoaa
open Go.RowKit
set_option linter.all false

/-- a table (p) and the document's (q), both made since w0; ex: what else lies in memory and must stay. -/
structure PX (w0 w : World) (g h : Nat) (p q : Pl) (ex : List (Nat × Obj)) : Prop where
  tab : TabW w g p
  ref : RTabW w h (!noneB q) q
  okp : p.ok
  okq : q.ok
  holds : Holds w ex
  far : ∀ x, x ∈ ex → x.1 ≠ g ∧ x.1 ≠ h
  below : Below w0.heap.size w0 w
  gg : w0.heap.size ≤ g
  gh : w0.heap.size ≤ h
theorem bdrewN (w : World) (n : Nat) : Below w.heap.size w (w.drewN n) := ⟨rfl, rfl, rfl, Nat.le_refl _, fun _ _ => rfl⟩
section
variable {w0 w w' : World} {g h : Nat} {p q p' q' : Pl} {ex : List (Nat × Obj)}
theorem PX.on (x : PX w0 w g h p q ex) (hb : Below w.heap.size w w') : PX w0 w' g h p q ex :=
  ⟨x.tab.below hb, x.ref.below hb, x.okp, x.okq, x.holds.below hb, x.far, bstep x.below hb, x.gg, x.gh⟩
theorem PX.tabbed (x : PX w0 w g h p q ex) (ht : TabW w' g p') (ho : p'.ok) (hb : But g w w') : PX w0 w' g h p' q ex :=
  ⟨ht, x.ref.but hb (tabs_apart x.tab x.ref).symm, ho, x.okq, x.holds.but hb (fun y hy => (x.far y hy).1), x.far, bbut x.below hb x.gg, x.gg, x.gh⟩
theorem PX.reffed (x : PX w0 w g h p q ex) (ht : RTabW w' h (!noneB q') q') (ho : q'.ok) (hb : But h w w') : PX w0 w' g h p q' ex :=
  ⟨x.tab.but hb (tabs_apart x.tab x.ref), ht, x.okp, ho, x.holds.but hb (fun y hy => (x.far y hy).2), x.far, bbut x.below hb x.gh, x.gg, x.gh⟩
theorem PX.push (x : PX w0 w g h p q ex) (o : Obj) : PX w0 (w.alloc o) g h p q ((w.heap.size, o) :: ex) := by
  have y := x.on (bpush (Below.refl _ _) o)
  refine ⟨y.tab, y.ref, y.okp, y.okq, x.holds.push o, ?_, y.below, y.gg, y.gh⟩
  intro z hz
  rcases List.mem_cons.1 hz with rfl | hz
  · have h1 := x.tab.lt
    have h2 := x.ref.lt
    exact ⟨by simp only; omega, by simp only; omega⟩
  · exact x.far z hz
theorem PX.drop {a : Nat × Obj} (x : PX w0 w g h p q (a :: ex)) : PX w0 w g h p q ex :=
  ⟨x.tab, x.ref, x.okp, x.okq, fun y hy => x.holds y (List.mem_cons_of_mem _ hy), fun y hy => x.far y (List.mem_cons_of_mem _ hy), x.below, x.gg, x.gh⟩
theorem PX.box {b : Nat} {A : Array Value} {t : TypeId} {f : Nat × Nat} (x : PX w0 w g h p q ((b, .cells A t f) :: ex)) (o : Nat) : w.cell? ⟨b, o, none⟩ = A[o]? :=
  cell_of_heap (x.holds _ (List.mem_cons_self ..)) o
end
/-- what Set leaves. -/
def setP (p : Pl) (i m r : Int) : Pl := if faultV ⟨i, m, r⟩ = 0 then ⟨i, m, r⟩ else p
theorem setP_ok {p : Pl} {i m r : Int} (hp : p.ok) (hq : (Pl.mk i m r).ok) : (setP p i m r).ok := by
  unfold setP; split <;> assumption
theorem setP_has (p : Pl) (i m r : Int) : (if faultV ⟨i, m, r⟩ = 0 then true else !noneB p) = !noneB (setP p i m r) := by
  unfold setP
  split
  · next e => rw [(good_of e).some]; rfl
  · rfl
section
variable {w0 : World} {g h : Nat} {p q : Pl} {ex : List (Nat × Obj)}
theorem PX.set0 {w : World} (x : PX w0 w g h p q ex) (i m r : Int) (ho : (Pl.mk i m r).ok) :
    Calls Try.prog 11 #[.pointer (some ⟨g, 0, none⟩), .int .u32 i, .int .u32 m, .int .u32 r] w fun e w' => e = .returned (.int .i64 (faultV ⟨i, m, r⟩)) ∧ Hid (PX w0 w' g h (setP p i m r) q ex) :=
  (set_any g p i m r w x.tab ho).mono fun e w' ⟨he, ht, hb⟩ => ⟨he, x.tabbed ht (setP_ok x.okp ho) hb⟩
theorem PX.set1 {w : World} (x : PX w0 w g h p q ex) (i m r : Int) (ho : (Pl.mk i m r).ok) :
    Calls Try.prog 16 #[.pointer (some ⟨h, 0, none⟩), .int .u32 i, .int .u32 m, .int .u32 r] w fun e w' => e = .returned (.int .i64 (faultV ⟨i, m, r⟩)) ∧ Hid (PX w0 w' g h p (setP q i m r) ex) :=
  (refSet_any h _ q i m r w x.ref ho).mono fun e w' ⟨he, ht, hb⟩ => ⟨he, x.reffed (by rw [setP_has] at ht; exact ht) (setP_ok x.okq ho) hb⟩
theorem PX.clear0 {w : World} (x : PX w0 w g h p q ex) :
    Calls Try.prog 15 #[.pointer (some ⟨g, 0, none⟩)] w fun e w' => e = .returned (.tuple #[]) ∧ Hid (PX w0 w' g h Pl.zero q ex) :=
  (clear_any g p w x.tab).mono fun e w' ⟨he, ht, hb⟩ => ⟨he, x.tabbed ht Pl.zero_ok hb⟩
theorem PX.clear1 {w : World} (x : PX w0 w g h p q ex) :
    Calls Try.prog 17 #[.pointer (some ⟨h, 0, none⟩)] w fun e w' => e = .returned (.tuple #[]) ∧ Hid (PX w0 w' g h p Pl.zero ex) :=
  (refClear_any h _ q w x.ref).mono fun e w' ⟨he, ht, hb⟩ => ⟨he, x.reffed (by rw [none_zero]; exact ht) Pl.zero_ok hb⟩
theorem PX.takes0 {w : World} (x : PX w0 w g h p q ex) (d : Int) :
    Calls Try.prog 13 #[.pointer (some ⟨g, 0, none⟩), .int .u32 d] w fun e w' => e = .returned (.bool (takesB p d)) ∧ Hid (PX w0 w' g h p q ex) :=
  (takes_any g p d w x.okp x.tab).mono fun e w' ⟨he, hb⟩ => ⟨he, x.on hb⟩
theorem PX.takes1 {w : World} (x : PX w0 w g h p q ex) (d : Int) :
    Calls Try.prog 18 #[.pointer (some ⟨h, 0, none⟩), .int .u32 d] w fun e w' => e = .returned (.bool (takesB q d)) ∧ Hid (PX w0 w' g h p q ex) :=
  (refTakes_any h q d w x.okq x.ref).mono fun e w' ⟨he, hb⟩ => ⟨he, x.on hb⟩
theorem PX.hop0 {w : World} (x : PX w0 w g h p q ex) (d : Int) (hd : U32 d) :
    Calls Try.prog 12 #[.pointer (some ⟨g, 0, none⟩), .int .u32 d] w fun e w' => e = .returned (.tuple #[.int .i64 (hopV p d).1, .int .u32 (hopV p d).2]) ∧ Hid (PX w0 w' g h p q ex) :=
  (hop_any g p d w x.okp hd x.tab).mono fun e w' ⟨he, hb⟩ => ⟨he, x.on hb⟩
theorem PX.hop1 {w : World} (x : PX w0 w g h p q ex) (d : Int) (hd : U32 d) :
    Calls Try.prog 19 #[.pointer (some ⟨h, 0, none⟩), .int .u32 d] w fun e w' => e = .returned (.tuple #[.int .i64 (hopV q d).1, .int .u32 (hopV q d).2]) ∧ Hid (PX w0 w' g h p q ex) :=
  (refHop_any h q d w x.okq hd x.ref).mono fun e w' ⟨he, hb⟩ => ⟨he, x.on hb⟩
end
/-- what a call of a script leaves. -/
def StepQ (w0 : World) (g h : Nat) (ex : List (Nat × Obj)) (e : Ending) (w' : World) : Prop := e = .returned (.bool true) ∧ ∃ p : Pl, Hid (PX w0 w' g h p p ex)
section
variable {w0 w : World} {g h : Nat} {p : Pl} {ex : List (Nat × Obj)}
set_option maxRecDepth 20000 in
set_option maxHeartbeats 2000000 in
theorem step_set (x : PX w0 w g h p p ex) (a m r : Int) (ho : (Pl.mk a m r).ok) :
    Calls Try.prog 10 #[.pointer (some ⟨g, 0, none⟩), .pointer (some ⟨h, 0, none⟩), .agg #[.int .i64 1, .int .u32 a, .int .u32 m, .int .u32 r]] w (StepQ w0 g h ex) := by
  have x1 := (x.push (.cells #[.int .i64 1, .int .u32 a, .int .u32 m, .int .u32 r] 31)).on (bdrewN _ 1)
  have HS0 := hid x1.box
  have HA := hid (x1.set0 a m r ho)
  have HB := hid (fun w1 (y : PX w0 w1 g h (setP p a m r) p ((w.heap.size, .cells #[.int .i64 1, .int .u32 a, .int .u32 m, .int .u32 r] 31) :: ex)) => And.intro y.box (y.set1 a m r ho))
  have HE : Hid (∀ w2, PX w0 w2 g h (setP p a m r) (setP p a m r) ((w.heap.size, .cells #[.int .i64 1, .int .u32 a, .int .u32 m, .int .u32 r] 31) :: ex) → StepQ w0 g h ex (.returned (.bool true)) w2) := fun w2 y => ⟨rfl, _, y.drop⟩
  have HB2 := hid (fun w1 (y : PX w0 w1 g h (setP p a m r) (setP p a m r) ((w.heap.size, .cells #[.int .i64 1, .int .u32 a, .int .u32 m, .int .u32 r] 31) :: ex)) => y.box)
  clear x x1 ho
  generalize faultV ⟨a, m, r⟩ = F at *
  generalize setP p a m r = p' at *
  go_enter Try.func10, Try.ntmps10
  go_wp2
  go_region_held3 (fun s => ∀ o, s.cell? ⟨w.heap.size, o, none⟩ = (#[.int .i64 1, .int .u32 a, .int .u32 m, .int .u32 r] : Array Value)[o]?) (first | exact HS0.out | exact HS1.out | exact HS2.out | go_keep) (first
    | (go_at_call 11; refine HA.out.mono ?_; rintro e w1 ⟨rfl, HQ⟩; have HB1 := hid (HB.out w1 HQ.out).2; have HS1 := hid (HB.out w1 HQ.out).1; clear HQ)
    | (go_at_call 16; refine HB1.out.mono ?_; rintro e w2 ⟨rfl, HQ⟩; have HF := hid (HE.out w2 HQ.out); have HS2 := hid (HB2.out w2 HQ.out); clear HQ))
  go_wp2
  go_ret
  exact HF.out
end
end Go.Proofs.Ytndebeoiibadoaa
