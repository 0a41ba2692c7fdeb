/-
  Port: a call of a script at both: Take. Written by mkpmf.py.
-/
import Derived.Test.YthipdchdbdmmnaaPMaJ
import Derived.Test.YthipdchdbdmmnaaBStep
namespace Go.Proofs.Ythipdchdbdmmnaa
open Go.RowKit
set_option linter.all false

theorem step_alloc_to {ops : Array Oper} {o : Oper} {a : Act} {w : World} {K : Act → World → Prop} {Q : Exit → Act → World → Prop} {E : Prop} (hgd : o.guard = none) (t : TypeId) (ho : o.op = .alloc t) (cells : Array Value)
    (hz : (Try.prog.info? t).map (·.zero) = some (some (.agg cells))) (h : K (a.put o.dst (.pointer (some ⟨w.heap.size, 0, none⟩))) (w.alloc (.cells cells t))) :
    if Region.wanted o (yielded ops a.tmps) = true then Oper.wp Try.prog o a w K Q else E := by
  have hw : Region.wanted o (yielded ops a.tmps) = true := by simp [Region.wanted, hgd]
  rw [if_pos hw]
  cases hq : Try.prog.info? t with
  | none => simp [hq] at hz
  | some i =>
    have hzz : i.zero = some (.agg cells) := by simpa [hq] using hz
    have hr : (Instr.alloc t true (.tuple #[])).run Try.prog w = .ok (.pointer (some ⟨w.heap.size, 0, none⟩)) (w.alloc (.cells cells t)) := by
      simp [Instr.alloc, zeroValue, typeInfo, hq, hzz, Value.cells, go_sem]
    unfold Oper.wp execOp
    simp only [ho, Sem.run_bind, Sem.run_pure, hr, Result.andThen_ok]
    exact h
/-- what Take answers. -/
def takeT (S : List Pa) (n : Int) : Dg := (takeD S n).getD ⟨0, 0, 0, 0, []⟩
theorem take_void {S : List Pa} {n : Int} (h : takeD S n = none) : takeF S n = S := by
  unfold takeD at h
  unfold takeF
  cases hl : alook S n with
  | none => rfl
  | some x =>
    rw [hl] at h
    simp only [Option.bind_some] at h
    cases hd : x.ds with
    | nil => simp [hd]
    | cons a r => rw [hd] at h; simp at h
theorem row_part {w : World} {zs : List Int} {va : Option Addr} {n vc : Nat} (h : Row w 5 (.slice va n vc) (u8s zs)) (hz : ∀ z, z ∈ zs → 0 ≤ z ∧ z ≤ 255) (hn : n = zs.length) : Part.ok w ⟨va, vc, zs⟩ := by
  obtain ⟨pt, h1, h2, h3⟩ := h.part hz
  obtain ⟨a, c, qs⟩ := pt
  simp only at h2
  subst h2
  simp only [Part.val, Value.slice.injEq] at h1
  obtain ⟨rfl, -, rfl⟩ := h1
  exact h3
section
variable {w0 w : World} {l : List Ows} {c x : Nat} {M D : Int} {S : List Pa}
theorem MA.take0 (h : MA w0 w l) (i j : Nat) (hij : i ≠ j) (hi : l[i]? = some (OwP c M D S)) (hj : l[j]? = some nobody) (n : Int) (hn : ipOk n) :
    Calls Try.prog 21 #[.pointer (some ⟨c, 0, none⟩), .int .i64 n] w fun e w' => ∃ va vc, e = .returned (.tuple #[.agg ((takeT S n).cells (.slice va (takeT S n).zs.length vc)).toArray, .bool (takeD S n).isSome]) ∧ Hid (MA w0 w' ((l.set i (OwP c M D (takeF S n))).set j (OwU (.slice va (takeT S n).zs.length vc) (takeT S n).zs)) ∧ (takeT S n).ok) := by
  cases hd : takeD S n with
  | none =>
    refine (h.take0_none i hi n hn hd).mono fun e w' ⟨a1, a2⟩ => ⟨none, 0, by rw [a1]; unfold takeT; rw [hd]; rfl, ?_, ?_⟩
    · have h2 := a2.out
      obtain ⟨K, -, -, -, h4⟩ := h2.at j (by rw [List.getElem?_set_ne hij]; exact hj)
      rw [take_void hd]
      unfold takeT
      rw [hd]
      exact h4 w' _ (fun _ => False) ⟨Row.nil _ _, fun k hk => by simp [Value.ownBlock] at hk⟩ ⟨Only.refl _ _, fun k hk => hk.elim⟩ fun k hk => hk.elim
    · unfold takeT
      rw [hd]
      exact ⟨by decide, by decide, by unfold ipOk; decide, by unfold ipOk; decide, by simp⟩
  | some d =>
    refine (h.take0_some i j hij hi hj n hn d hd).mono ?_
    rintro e w' ⟨va, vc, a1, a2, a3⟩
    have e1 : takeT S n = d := by unfold takeT; rw [hd]; rfl
    rw [e1]
    exact ⟨va, vc, a1, a2.out, a3.out⟩
theorem MA.take1 (h : MA w0 w l) (i : Nat) (hi : l[i]? = some (OwX x M D S)) (n : Int) :
    Calls Try.prog 37 #[.pointer (some ⟨x, 0, none⟩), .int .i64 n] w fun e w' => ∃ va vc, e = .returned (.tuple #[.agg ((takeT S n).cells (.slice va (takeT S n).zs.length vc)).toArray, .bool (takeD S n).isSome]) ∧ Hid (MA w0 w' (l.set i (OwX x M D (takeF S n))) ∧ Row w' 5 (.slice va (takeT S n).zs.length vc) (u8s (takeT S n).zs)) := by
  cases hd : takeD S n with
  | none =>
    refine (h.take1_none i hi n hd).mono fun e w' ⟨a1, a2⟩ => ⟨none, 0, by rw [a1]; unfold takeT; rw [hd]; rfl, ?_, ?_⟩
    · rw [take_void hd]; exact a2.out
    · unfold takeT
      rw [hd]
      exact Row.nil _ _
  | some d =>
    refine (h.take1_some i hi n d hd).mono ?_
    rintro e w' ⟨va, vc, a1, a2, a3⟩
    have e1 : takeT S n = d := by unfold takeT; rw [hd]; rfl
    rw [e1]
    exact ⟨va, vc, a1, a2.out, a3.out⟩
theorem MA.kbox {kb gk n : Nat} (h : MA w0 w l) (j : Nat) (hj : l[j]? = some (OwK kb gk n)) : w.cell? ⟨kb, 0, none⟩ = some (.pointer (some ⟨gk, 0, none⟩)) := by
  obtain ⟨K, ⟨ls, ws, lv, wv, h1, _⟩, _⟩ := h.at j hj
  exact cell_of_heap h1.box 0
end
section
variable {P' X' b' : Ows} {w0 w : World} {c x d y kb gk b : Nat} {M D : Int} {N : Nat}
set_option maxRecDepth 20000 in
set_option maxHeartbeats 4000000 in
theorem step_take (h : PlX P' X' b' w0 w c x d y kb gk b M D N) (o : OpP) (hk : o.k = 5) (hn : ipOk o.n) (hN : N ≤ 4294967296) :
    Calls Try.prog 14 #[.pointer (some ⟨b, 0, none⟩), .pointer (some ⟨kb, 0, none⟩), opA o] w (StepQ P' X' b' w0 c x d y kb gk b M D N) := by
  obtain ⟨S, zs, n, nb, h, hS, hn1, hn2, hz⟩ := h.ex
  obtain ⟨k, m, si, di, s, dd, pt⟩ := o
  simp only at hk hn
  subst hk
  unfold opA
  simp only
  generalize pt.val = pv
  have hl : (takeT S m).zs.length ≤ 2147483647 := by
    unfold takeT
    cases hd : takeD S m with
    | none => simp
    | some t => exact hS.taken hd
  have h2 : MA w0 (w.alloc (.cells #[.int .i64 5, .int .i64 m, .int .u32 si, .int .u32 di, .int .i64 s, .int .i64 dd, pv] 55)) (ST P' X' (OwC b (bxV c x d y)) b' (OwP c M D S) (OwX x M D S) (OwD 92 d zs) (OwD 94 y zs) (OwK kb gk n) (OwB gk nb) nobody nobody (OwC w.heap.size (.cells #[.int .i64 5, .int .i64 m, .int .u32 si, .int .u32 di, .int .i64 s, .int .i64 dd, pv] 55 (0, 0))) nobody nobody) := h.push 12 rfl _
  have bx : ∀ (W : World) (P X D Y K B H G e f : Ows), MA w0 W (ST P' X' (OwC b (bxV c x d y)) b' P X D Y K B H G (OwC w.heap.size (.cells #[.int .i64 5, .int .i64 m, .int .u32 si, .int .u32 di, .int .i64 s, .int .i64 dd, pv] 55 (0, 0))) e f) → ((∀ q, W.cell? ⟨w.heap.size, q, none⟩ = (#[.int .i64 5, .int .i64 m, .int .u32 si, .int .u32 di, .int .i64 s, .int .i64 dd, pv] : Array Value)[q]?) ∧ (∀ q, W.cell? ⟨b, q, none⟩ = (#[.pointer (some ⟨c, 0, none⟩), .pointer (some ⟨x, 0, none⟩), .pointer (some ⟨d, 0, none⟩), .pointer (some ⟨y, 0, none⟩)] : Array Value)[q]?)) := fun W P X D Y K B H G e f h => ⟨h.box 12 rfl, h.box 10 rfl⟩
  have HS0 := hid (bx _ _ _ _ _ _ _ _ _ _ _ h2)
  have HA := hid ((h2.pass (bdrewN _ 1)).take0 0 8 (by omega) rfl rfl m hn)
  have h3 := (h2.pass (bdrewN _ 1)).push 13 rfl (.cells #[.int .u32 0, .int .u32 0, .int .i64 0, .int .i64 0, .slice none 0 0] 53)
  have hsz : ((w.alloc (.cells #[.int .i64 5, .int .i64 m, .int .u32 si, .int .u32 di, .int .i64 s, .int .i64 dd, pv] 55)).drewN 1).heap.size = w.heap.size + 1 := by
    show (w.alloc (.cells #[.int .i64 5, .int .i64 m, .int .u32 si, .int .u32 di, .int .i64 s, .int .i64 dd, pv] 55)).heap.size = _
    simp
  rw [hsz] at h3
  have HSB := hid (bx _ _ _ _ _ _ _ _ _ _ _ h3)
  have HA2 := hid (h3.take0 0 8 (by omega) rfl rfl m hn)
  have HB := hid (fun (W : World) (H e f : Ows) (y' : MA w0 W (ST P' X' (OwC b (bxV c x d y)) b' (OwP c M D (takeF S m)) (OwX x M D S) (OwD 92 d zs) (OwD 94 y zs) (OwK kb gk n) (OwB gk nb) H nobody (OwC w.heap.size (.cells #[.int .i64 5, .int .i64 m, .int .u32 si, .int .u32 di, .int .i64 s, .int .i64 dd, pv] 55 (0, 0))) e f)) => (y'.pass (bdrewN _ 1)).take1 1 rfl m)
  have HB2 := hid (fun (W : World) (H e : Ows) (g : Nat) (y' : MA w0 ((W.drewN 1).alloc (.cells #[.int .u32 0, .int .u32 0, .int .i64 0, .int .i64 0, .slice none 0 0] 53)) (ST P' X' (OwC b (bxV c x d y)) b' (OwP c M D (takeF S m)) (OwX x M D S) (OwD 92 d zs) (OwD 94 y zs) (OwK kb gk n) (OwB gk nb) H nobody (OwC w.heap.size (.cells #[.int .i64 5, .int .i64 m, .int .u32 si, .int .u32 di, .int .i64 s, .int .i64 dd, pv] 55 (0, 0))) e (OwC g (.cells #[.int .u32 0, .int .u32 0, .int .i64 0, .int .i64 0, .slice none 0 0] 53 (0, 0))))) => y'.take1 1 rfl m)
  have hSt := hS.take m
  generalize takeF S m = S2 at *
  generalize (takeD S m).isSome = F at *
  generalize takeT S m = tt at *
  obtain ⟨t1, t2, t3, t4, tz⟩ := tt
  simp only [Dg.cells] at HA HA2 HB HB2 hl
  have H1A := hid (fun (va : Option Addr) (vc : Nat) (w1 : World) (y1 : MA w0 w1 (ST P' X' (OwC b (bxV c x d y)) b' (OwP c M D S2) (OwX x M D S) (OwD 92 d zs) (OwD 94 y zs) (OwK kb gk n) (OwB gk nb) (OwU (.slice va tz.length vc) tz) nobody (OwC w.heap.size (.cells #[.int .i64 5, .int .i64 m, .int .u32 si, .int .u32 di, .int .i64 s, .int .i64 dd, pv] 55 (0, 0))) nobody nobody)) => And.intro (bx _ _ _ _ _ _ _ _ _ _ _ y1) (And.intro (bx _ _ _ _ _ _ _ _ _ _ _ (y1.push 13 rfl (.cells #[.int .u32 0, .int .u32 0, .int .i64 0, .int .i64 0, .slice none 0 0] 53))) (show Hid (MA w0 (w1.alloc (.cells #[.int .u32 0, .int .u32 0, .int .i64 0, .int .i64 0, .slice none 0 0] 53)) (ST P' X' (OwC b (bxV c x d y)) b' (OwP c M D S2) (OwX x M D S) (OwD 92 d zs) (OwD 94 y zs) (OwK kb gk n) (OwB gk nb) (OwU (.slice va tz.length vc) tz) nobody (OwC w.heap.size (.cells #[.int .i64 5, .int .i64 m, .int .u32 si, .int .u32 di, .int .i64 s, .int .i64 dd, pv] 55 (0, 0))) (OwC w1.heap.size (.cells #[.int .u32 0, .int .u32 0, .int .i64 0, .int .i64 0, .slice none 0 0] 53 (0, 0))) nobody)) from y1.push 13 rfl (.cells #[.int .u32 0, .int .u32 0, .int .i64 0, .int .i64 0, .slice none 0 0] 53))))
  have H1B := hid (fun (g : Nat) (va : Option Addr) (vc : Nat) (w1 : World) (y1 : MA w0 w1 (ST P' X' (OwC b (bxV c x d y)) b' (OwP c M D S2) (OwX x M D S) (OwD 92 d zs) (OwD 94 y zs) (OwK kb gk n) (OwB gk nb) (OwU (.slice va tz.length vc) tz) nobody (OwC w.heap.size (.cells #[.int .i64 5, .int .i64 m, .int .u32 si, .int .u32 di, .int .i64 s, .int .i64 dd, pv] 55 (0, 0))) (OwC g (.cells #[.int .u32 0, .int .u32 0, .int .i64 0, .int .i64 0, .slice none 0 0] 53 (0, 0))) nobody)) => And.intro (bx _ _ _ _ _ _ _ _ _ _ _ y1) (And.intro (y1.heap 13 rfl) (fun (W2 : World) (g2 : W2.heap[g]? = some (.cells #[.int .u32 t1, .int .u32 t2, .int .i64 t3, .int .i64 t4, (.slice va tz.length vc)] 53 (0, 0))) (hb : But g w1 W2) =>
    And.intro (bx _ _ _ _ _ _ _ _ _ _ _ (y1.rebox 13 rfl hb g2)) (show Hid (MA w0 W2 (ST P' X' (OwC b (bxV c x d y)) b' (OwP c M D S2) (OwX x M D S) (OwD 92 d zs) (OwD 94 y zs) (OwK kb gk n) (OwB gk nb) (OwU (.slice va tz.length vc) tz) nobody (OwC w.heap.size (.cells #[.int .i64 5, .int .i64 m, .int .u32 si, .int .u32 di, .int .i64 s, .int .i64 dd, pv] 55 (0, 0))) (OwC g (.cells #[.int .u32 t1, .int .u32 t2, .int .i64 t3, .int .i64 t4, (.slice va tz.length vc)] 53 (0, 0))) nobody)) from y1.rebox 13 rfl hb g2))))
  have H2 := hid (fun (va : Option Addr) (vc ga : Nat) (W : World) (y : MA w0 W (ST P' X' (OwC b (bxV c x d y)) b' (OwP c M D S2) (OwX x M D S) (OwD 92 d zs) (OwD 94 y zs) (OwK kb gk n) (OwB gk nb) (OwU (.slice va tz.length vc) tz) nobody (OwC w.heap.size (.cells #[.int .i64 5, .int .i64 m, .int .u32 si, .int .u32 di, .int .i64 s, .int .i64 dd, pv] 55 (0, 0))) (OwC ga (.cells #[.int .u32 t1, .int .u32 t2, .int .i64 t3, .int .i64 t4, (.slice va tz.length vc)] 53 (0, 0))) nobody)) => And.intro (bx _ _ _ _ _ _ _ _ _ _ _ y) (And.intro (HB.out W _ _ _ y) (And.intro (bx _ _ _ _ _ _ _ _ _ _ _ ((y.pass (bdrewN _ 1)).push 14 rfl (.cells #[.int .u32 0, .int .u32 0, .int .i64 0, .int .i64 0, .slice none 0 0] 53))) (HB2.out W _ _ _ ((y.pass (bdrewN _ 1)).push 14 rfl (.cells #[.int .u32 0, .int .u32 0, .int .i64 0, .int .i64 0, .slice none 0 0] 53))))))
  have H3A := hid (fun (va ua : Option Addr) (vc uc ga : Nat) (w3 : World) (y3 : MA w0 w3 (ST P' X' (OwC b (bxV c x d y)) b' (OwP c M D S2) (OwX x M D S2) (OwD 92 d zs) (OwD 94 y zs) (OwK kb gk n) (OwB gk nb) (OwU (.slice va tz.length vc) tz) nobody (OwC w.heap.size (.cells #[.int .i64 5, .int .i64 m, .int .u32 si, .int .u32 di, .int .i64 s, .int .i64 dd, pv] 55 (0, 0))) (OwC ga (.cells #[.int .u32 t1, .int .u32 t2, .int .i64 t3, .int .i64 t4, (.slice va tz.length vc)] 53 (0, 0))) nobody)) (r : Row w3 5 (.slice ua tz.length uc) (u8s tz)) => And.intro (bx _ _ _ _ _ _ _ _ _ _ _ y3) (And.intro (bx _ _ _ _ _ _ _ _ _ _ _ (y3.push 14 rfl (.cells #[.int .u32 0, .int .u32 0, .int .i64 0, .int .i64 0, .slice none 0 0] 53))) (show Hid (MA w0 (w3.alloc (.cells #[.int .u32 0, .int .u32 0, .int .i64 0, .int .i64 0, .slice none 0 0] 53)) (ST P' X' (OwC b (bxV c x d y)) b' (OwP c M D S2) (OwX x M D S2) (OwD 92 d zs) (OwD 94 y zs) (OwK kb gk n) (OwB gk nb) (OwU (.slice va tz.length vc) tz) nobody (OwC w.heap.size (.cells #[.int .i64 5, .int .i64 m, .int .u32 si, .int .u32 di, .int .i64 s, .int .i64 dd, pv] 55 (0, 0))) (OwC ga (.cells #[.int .u32 t1, .int .u32 t2, .int .i64 t3, .int .i64 t4, (.slice va tz.length vc)] 53 (0, 0))) (OwC w3.heap.size (.cells #[.int .u32 0, .int .u32 0, .int .i64 0, .int .i64 0, .slice none 0 0] 53 (0, 0)))) ∧ Row (w3.alloc (.cells #[.int .u32 0, .int .u32 0, .int .i64 0, .int .i64 0, .slice none 0 0] 53)) 5 (.slice ua tz.length uc) (u8s tz) ) from ⟨y3.push 14 rfl (.cells #[.int .u32 0, .int .u32 0, .int .i64 0, .int .i64 0, .slice none 0 0] 53), r.keep fun k hk => (balloc w3 _).block k (r.lt hk)⟩)))
  have H3B := hid (fun (g : Nat) (va ua : Option Addr) (vc uc ga : Nat) (w3 : World) (y3 : MA w0 w3 (ST P' X' (OwC b (bxV c x d y)) b' (OwP c M D S2) (OwX x M D S2) (OwD 92 d zs) (OwD 94 y zs) (OwK kb gk n) (OwB gk nb) (OwU (.slice va tz.length vc) tz) nobody (OwC w.heap.size (.cells #[.int .i64 5, .int .i64 m, .int .u32 si, .int .u32 di, .int .i64 s, .int .i64 dd, pv] 55 (0, 0))) (OwC ga (.cells #[.int .u32 t1, .int .u32 t2, .int .i64 t3, .int .i64 t4, (.slice va tz.length vc)] 53 (0, 0))) (OwC g (.cells #[.int .u32 0, .int .u32 0, .int .i64 0, .int .i64 0, .slice none 0 0] 53 (0, 0))))) (r : Row w3 5 (.slice ua tz.length uc) (u8s tz)) => And.intro (bx _ _ _ _ _ _ _ _ _ _ _ y3) (And.intro (y3.heap 14 rfl) (fun (W4 : World) (g2 : W4.heap[g]? = some (.cells #[.int .u32 t1, .int .u32 t2, .int .i64 t3, .int .i64 t4, (.slice ua tz.length uc)] 53 (0, 0))) (hb : But g w3 W4) =>
    And.intro (bx _ _ _ _ _ _ _ _ _ _ _ (y3.rebox 14 rfl hb g2)) (show Hid (MA w0 W4 (ST P' X' (OwC b (bxV c x d y)) b' (OwP c M D S2) (OwX x M D S2) (OwD 92 d zs) (OwD 94 y zs) (OwK kb gk n) (OwB gk nb) (OwU (.slice va tz.length vc) tz) nobody (OwC w.heap.size (.cells #[.int .i64 5, .int .i64 m, .int .u32 si, .int .u32 di, .int .i64 s, .int .i64 dd, pv] 55 (0, 0))) (OwC ga (.cells #[.int .u32 t1, .int .u32 t2, .int .i64 t3, .int .i64 t4, (.slice va tz.length vc)] 53 (0, 0))) (OwC g (.cells #[.int .u32 t1, .int .u32 t2, .int .i64 t3, .int .i64 t4, (.slice ua tz.length uc)] 53 (0, 0)))) ∧ Row W4 5 (.slice ua tz.length uc) (u8s tz)) from ⟨y3.rebox 14 rfl hb g2, r.keep fun k hk => hb.block k (fun e => by
      obtain ⟨cur, fr, ho⟩ := r.obj hk
      rw [e, y3.heap 14 rfl] at ho
      simp only [Option.some.injEq, Obj.cells.injEq] at ho
      exact absurd ho.2.1 (by decide)) (r.lt hk)⟩))))
  have H4 := hid (fun (va ua : Option Addr) (vc uc ga gb : Nat) (W4 : World) (ok : Dg.ok ⟨t1, t2, t3, t4, tz⟩) (y4 : MA w0 W4 (ST P' X' (OwC b (bxV c x d y)) b' (OwP c M D S2) (OwX x M D S2) (OwD 92 d zs) (OwD 94 y zs) (OwK kb gk n) (OwB gk nb) (OwU (.slice va tz.length vc) tz) nobody (OwC w.heap.size (.cells #[.int .i64 5, .int .i64 m, .int .u32 si, .int .u32 di, .int .i64 s, .int .i64 dd, pv] 55 (0, 0))) (OwC ga (.cells #[.int .u32 t1, .int .u32 t2, .int .i64 t3, .int .i64 t4, (.slice va tz.length vc)] 53 (0, 0))) (OwC gb (.cells #[.int .u32 t1, .int .u32 t2, .int .i64 t3, .int .i64 t4, (.slice ua tz.length uc)] 53 (0, 0))))) (r : Row W4 5 (.slice ua tz.length uc) (u8s tz)) => And.intro (y4.heap 13 rfl) (And.intro (y4.heap 14 rfl) (rsame_yes t1 t2 t3 t4 tz va ua vc uc W4 (row_part (y4.hold 8 rfl) ok.zs rfl) (row_part r ok.zs rfl))))
  have H5 := hid (fun (va ua : Option Addr) (vc uc ga gb : Nat) (W4 w5 : World) (ok : Dg.ok ⟨t1, t2, t3, t4, tz⟩) (y4 : MA w0 W4 (ST P' X' (OwC b (bxV c x d y)) b' (OwP c M D S2) (OwX x M D S2) (OwD 92 d zs) (OwD 94 y zs) (OwK kb gk n) (OwB gk nb) (OwU (.slice va tz.length vc) tz) nobody (OwC w.heap.size (.cells #[.int .i64 5, .int .i64 m, .int .u32 si, .int .u32 di, .int .i64 s, .int .i64 dd, pv] 55 (0, 0))) (OwC ga (.cells #[.int .u32 t1, .int .u32 t2, .int .i64 t3, .int .i64 t4, (.slice va tz.length vc)] 53 (0, 0))) (OwC gb (.cells #[.int .u32 t1, .int .u32 t2, .int .i64 t3, .int .i64 t4, (.slice ua tz.length uc)] 53 (0, 0))))) (hb : Below W4.heap.size W4 w5) => by
    have y5 := (y4.pass hb).pass (bdrewN _ 1)
    have y6 : ∀ w6, MA w0 w6 (ST P' X' (OwC b (bxV c x d y)) b' (OwP c M D S2) (OwX x M D S2) (OwD 92 d zs) (OwD 94 y zs) (OwK kb gk n) (OwB gk (nb + 1)) nobody nobody (OwC w.heap.size (.cells #[.int .i64 5, .int .i64 m, .int .u32 si, .int .u32 di, .int .i64 s, .int .i64 dd, pv] 55 (0, 0))) (OwC ga (.cells #[.int .u32 t1, .int .u32 t2, .int .i64 t3, .int .i64 t4, (.slice va tz.length vc)] 53 (0, 0))) (OwC gb (.cells #[.int .u32 t1, .int .u32 t2, .int .i64 t3, .int .i64 t4, (.slice ua tz.length uc)] 53 (0, 0)))) → Hid (w6.cell? ⟨kb, 0, none⟩ = some (.pointer (some ⟨gk, 0, none⟩)) ∧ ∀ q, w6.cell? ⟨ga, q, none⟩ = (#[.int .u32 t1, .int .u32 t2, .int .i64 t3, .int .i64 t4, (.slice va tz.length vc)] : Array Value)[q]?) ∧ Hid (StepQ P' X' b' w0 c x d y kb gk b M D N (.returned (.bool true)) w6) := fun w6 y6 => ⟨⟨y6.kbox 6 rfl, y6.box 13 rfl⟩, rfl, ⟨S2, zs, n, nb + 1, ((y6.drop 14 rfl).drop 13 rfl).drop 12 rfl, hSt.next, by omega, by omega, hz⟩⟩
    exact And.intro (hid (And.intro (y5.kbox 6 rfl) (y5.box 13 rfl))) (And.intro (y5.taken 7 8 (by omega) rfl rfl ok.zs (by omega) (by omega)) y6))
  clear h h2 h3 hsz bx hS hn1 hn2 hz hn hSt
  have hlen : (tz.length : Int) ≤ 2147483647 := by omega
  go_enter Try.func14, Try.ntmps14
  go_upto_region 18 with (fail)
  go_cut [15, 16, 141, 142, 143, 144, 145, 146, 147, 148, 149, 150] (fun v15 v16 _ _ _ _ _ _ _ _ _ _ wx => ∃ (W2 : World) (ga : Nat) (va : Option Addr) (vc : Nat), W2 = wx ∧ v15 = .pointer (some ⟨ga, 0, none⟩) ∧ v16 = .bool F ∧ Hid (MA w0 W2 (ST P' X' (OwC b (bxV c x d y)) b' (OwP c M D S2) (OwX x M D S) (OwD 92 d zs) (OwD 94 y zs) (OwK kb gk n) (OwB gk nb) (OwU (.slice va tz.length vc) tz) nobody (OwC w.heap.size (.cells #[.int .i64 5, .int .i64 m, .int .u32 si, .int .u32 di, .int .i64 s, .int .i64 dd, pv] 55 (0, 0))) (OwC ga (.cells #[.int .u32 t1, .int .u32 t2, .int .i64 t3, .int .i64 t4, (.slice va tz.length vc)] 53 (0, 0))) nobody) ∧ Dg.ok ⟨t1, t2, t3, t4, tz⟩))
  case first =>
    refine wp_region_noPanic ?_
    refine wp_region_held_drew (S := fun s' => ((∀ q, s'.cell? ⟨w.heap.size, q, none⟩ = (#[.int .i64 5, .int .i64 m, .int .u32 si, .int .u32 di, .int .i64 s, .int .i64 dd, pv] : Array Value)[q]?) ∧ (∀ q, s'.cell? ⟨b, q, none⟩ = (#[.pointer (some ⟨c, 0, none⟩), .pointer (some ⟨x, 0, none⟩), .pointer (some ⟨d, 0, none⟩), .pointer (some ⟨y, 0, none⟩)] : Array Value)[q]?))) (by kernel_rfl) (HS0.out) (fun hHeld => ?_)
    refine wpAnyH_take (i := 0) (oi := { dst := some 142, op := .move (.tmp 0), type := _, pos := _, after := _, guard := none }) (v := .pointer (some ⟨b, 0, none⟩)) rfl (by kernel_rfl) (by kernel_rfl) (by kernel_rfl) (fun _ _ _ h => h) (Or.inl ⟨by rfl, fun wq hSw => by (try dsimp only at hSw); go_simp⟩) (by assumption) ?_
    try simp only [Act.put, List.setIfInBounds_toArray, List.set_cons_zero, List.set_cons_succ]
    refine wpAnyH_take (i := 1) (oi := { dst := some 143, op := .nilCheck (.tmp 142), type := _, pos := _, after := _, guard := none }) (v := .pointer (some ⟨b, 0, none⟩)) rfl (by kernel_rfl) (by kernel_rfl) (by kernel_rfl) (fun _ _ _ h => h) (Or.inl ⟨by rfl, fun wq hSw => by (try dsimp only at hSw); go_simp⟩) (by assumption) ?_
    try simp only [Act.put, List.setIfInBounds_toArray, List.set_cons_zero, List.set_cons_succ]
    refine wpAnyH_take (i := 2) (oi := { dst := some 144, op := .fieldAddr 39 (.tmp 143) 0, type := _, pos := _, after := _, guard := none }) (v := .pointer (some ⟨b, 0, none⟩)) rfl (by kernel_rfl) (by kernel_rfl) (by kernel_rfl) (fun _ _ _ h => h) (Or.inl ⟨by rfl, fun wq hSw => by (try dsimp only at hSw); go_simp⟩) (by assumption) ?_
    try simp only [Act.put, List.setIfInBounds_toArray, List.set_cons_zero, List.set_cons_succ]
    refine wpAnyH_take (i := 3) (oi := { dst := some 145, op := .load 23 (.tmp 144), type := _, pos := _, after := _, guard := none }) (v := .pointer (some ⟨c, 0, none⟩)) rfl (by kernel_rfl) (by kernel_rfl) (by kernel_rfl) (fun _ _ _ h => h) (Or.inl ⟨by rfl, fun wq hSw => by (try dsimp only at hSw); (obtain ⟨hs1, hs2⟩ := hSw; go_simp)⟩) (by assumption) ?_
    try simp only [Act.put, List.setIfInBounds_toArray, List.set_cons_zero, List.set_cons_succ]
    refine wpAnyH_take (i := 4) (oi := { dst := some 146, op := .fieldAddr 55 (.tmp 5) 1, type := _, pos := _, after := _, guard := none }) (v := .pointer (some ⟨w.heap.size, 1, none⟩)) rfl (by kernel_rfl) (by kernel_rfl) (by kernel_rfl) (fun _ _ _ h => h) (Or.inl ⟨by rfl, fun wq hSw => by (try dsimp only at hSw); go_simp⟩) (by assumption) ?_
    try simp only [Act.put, List.setIfInBounds_toArray, List.set_cons_zero, List.set_cons_succ]
    refine wpAnyH_take (i := 5) (oi := { dst := some 147, op := .load 3 (.tmp 146), type := _, pos := _, after := _, guard := none }) (v := .int .i64 m) rfl (by kernel_rfl) (by kernel_rfl) (by kernel_rfl) (fun _ _ _ h => h) (Or.inl ⟨by rfl, fun wq hSw => by (try dsimp only at hSw); (obtain ⟨hs1, hs2⟩ := hSw; go_simp)⟩) (by assumption) ?_
    try simp only [Act.put, List.setIfInBounds_toArray, List.set_cons_zero, List.set_cons_succ]
    refine wpAnyH_ready (rs := [6, 10]) (by kernel_rfl) (by simp) ?_
    refine AllReadyH.cons (o := { dst := some 148, op := .call { callee := .value (.func 21), args := #[.tmp 145, .tmp 147], argTypes := #[23, 3] }, type := _, pos := _, after := _, guard := none }) rfl (fun K hK => ?_) (AllReadyH.cons (o := { dst := some 15, op := .alloc 53, type := _, pos := _, after := _, guard := none }) rfl (fun K hK => ?_) AllReadyH.nil)
    · go_simp
      refine HA.out.mono ?_
      rintro e w1 ⟨va, vc, rfl, HQ⟩
      have HOK := hid HQ.out.2
      have HX1 := hid (H1A.out va vc w1 HQ.out.1).1
      have HX2 := hid (H1A.out va vc w1 HQ.out.1).2.1
      have HX3 := hid (H1B.out _ va vc _ (H1A.out va vc w1 HQ.out.1).2.2.out).2
      refine hK.out _ _ (HX1.out) (fun hHeld => ?_)
      clear hK
      try simp only [Act.put, List.setIfInBounds_toArray, List.set_cons_zero, List.set_cons_succ]
      refine wpAnyH_take (i := 7) (oi := { dst := some 141, op := .move (.tmp 148), type := _, pos := _, after := _, guard := none }) (v := .tuple #[.agg #[.int .u32 t1, .int .u32 t2, .int .i64 t3, .int .i64 t4, (.slice va tz.length vc)], .bool F]) rfl (by kernel_rfl) (by kernel_rfl) (by kernel_rfl) (fun _ _ _ h => h) (Or.inl ⟨by rfl, fun wq hSw => by (try dsimp only at hSw); go_simp⟩) (by assumption) ?_
      try simp only [Act.put, List.setIfInBounds_toArray, List.set_cons_zero, List.set_cons_succ]
      refine wpAnyH_take (i := 8) (oi := { dst := some 149, op := .extract (.tmp 141) 0, type := _, pos := _, after := _, guard := none }) (v := .agg #[.int .u32 t1, .int .u32 t2, .int .i64 t3, .int .i64 t4, (.slice va tz.length vc)]) rfl (by kernel_rfl) (by kernel_rfl) (by kernel_rfl) (fun _ _ _ h => h) (Or.inl ⟨by rfl, fun wq hSw => by (try dsimp only at hSw); go_simp⟩) (by assumption) ?_
      try simp only [Act.put, List.setIfInBounds_toArray, List.set_cons_zero, List.set_cons_succ]
      refine wpAnyH_take (i := 9) (oi := { dst := some 150, op := .extract (.tmp 141) 1, type := _, pos := _, after := _, guard := none }) (v := .bool F) rfl (by kernel_rfl) (by kernel_rfl) (by kernel_rfl) (fun _ _ _ h => h) (Or.inl ⟨by rfl, fun wq hSw => by (try dsimp only at hSw); go_simp⟩) (by assumption) ?_
      try simp only [Act.put, List.setIfInBounds_toArray, List.set_cons_zero, List.set_cons_succ]
      refine wpAnyH_ready (rs := [10]) (by kernel_rfl) (by simp) ?_
      refine AllReadyH.cons (o := { dst := some 15, op := .alloc 53, type := _, pos := _, after := _, guard := none }) rfl (fun K hK => ?_) AllReadyH.nil
      refine step_alloc_to rfl 53 rfl #[.int .u32 0, .int .u32 0, .int .i64 0, .int .i64 0, .slice none 0 0] (by kernel_rfl) ?_
      refine hK.out _ _ (HX2.out) (fun hHeld => ?_)
      clear hK
      try simp only [Act.put, List.setIfInBounds_toArray, List.set_cons_zero, List.set_cons_succ]
      refine wpAnyH_ready (rs := [11]) (by kernel_rfl) (by simp) ?_
      refine AllReadyH.cons (o := { dst := none, op := .store 53 (.tmp 15) (.tmp 149), type := _, pos := _, after := _, guard := none }) rfl (fun K hK => ?_) AllReadyH.nil
      refine step_store_row rfl 53 _ _ rfl (w1.heap.size) #[.int .u32 t1, .int .u32 t2, .int .i64 t3, .int .i64 t4, (.slice va tz.length vc)] rfl rfl 53 _ (heap_new w1 _) (by kernel_rfl) rfl (by first | kernel_rfl | simp [Value.oneCell']) ?_
      intro W2 g2 b2
      have HX4 := hid (HX3.out.2 W2 g2.out b2.out).1
      have HM2 := (HX3.out.2 W2 g2.out b2.out).2
      refine hK.out _ _ (HX4.out) (fun hHeld => ?_)
      clear hK
      try simp only [Act.put, List.setIfInBounds_toArray, List.set_cons_zero, List.set_cons_succ]
      refine wpAnyH_take (i := 12) (oi := { dst := some 16, op := .assign (.tmp 150), type := _, pos := _, after := _, guard := none }) (v := .bool F) rfl (by kernel_rfl) (by kernel_rfl) (by kernel_rfl) (fun _ _ _ h => h) (Or.inl ⟨by rfl, fun wq hSw => by (try dsimp only at hSw); go_simp⟩) (by assumption) ?_
      try simp only [Act.put, List.setIfInBounds_toArray, List.set_cons_zero, List.set_cons_succ]
      refine wpAnyH_done (by kernel_rfl) ?_ _
      refine NoPanic.normal ?_
      clear hHeld
      go_wp2_with fail
      go_meet
      case rel => exact ⟨W2, _, va, vc, rfl, rfl, rfl, HM2.out, HOK.out⟩
    · refine step_alloc_to rfl 53 rfl #[.int .u32 0, .int .u32 0, .int .i64 0, .int .i64 0, .slice none 0 0] (by kernel_rfl) ?_
      refine hK.out _ _ (HSB.out) (fun hHeld => ?_)
      clear hK
      try simp only [Act.put, List.setIfInBounds_toArray, List.set_cons_zero, List.set_cons_succ]
      refine wpAnyH_ready (rs := [6]) (by kernel_rfl) (by simp) ?_
      refine AllReadyH.cons (o := { dst := some 148, op := .call { callee := .value (.func 21), args := #[.tmp 145, .tmp 147], argTypes := #[23, 3] }, type := _, pos := _, after := _, guard := none }) rfl (fun K hK => ?_) AllReadyH.nil
      go_simp
      refine HA2.out.mono ?_
      rintro e w1 ⟨va, vc, rfl, HQ⟩
      have HOK := hid HQ.out.2
      have HX1 := hid (H1B.out _ va vc w1 HQ.out.1).1
      have HX3 := hid (H1B.out _ va vc w1 HQ.out.1).2
      refine hK.out _ _ (HX1.out) (fun hHeld => ?_)
      clear hK
      try simp only [Act.put, List.setIfInBounds_toArray, List.set_cons_zero, List.set_cons_succ]
      refine wpAnyH_take (i := 7) (oi := { dst := some 141, op := .move (.tmp 148), type := _, pos := _, after := _, guard := none }) (v := .tuple #[.agg #[.int .u32 t1, .int .u32 t2, .int .i64 t3, .int .i64 t4, (.slice va tz.length vc)], .bool F]) rfl (by kernel_rfl) (by kernel_rfl) (by kernel_rfl) (fun _ _ _ h => h) (Or.inl ⟨by rfl, fun wq hSw => by (try dsimp only at hSw); go_simp⟩) (by assumption) ?_
      try simp only [Act.put, List.setIfInBounds_toArray, List.set_cons_zero, List.set_cons_succ]
      refine wpAnyH_take (i := 8) (oi := { dst := some 149, op := .extract (.tmp 141) 0, type := _, pos := _, after := _, guard := none }) (v := .agg #[.int .u32 t1, .int .u32 t2, .int .i64 t3, .int .i64 t4, (.slice va tz.length vc)]) rfl (by kernel_rfl) (by kernel_rfl) (by kernel_rfl) (fun _ _ _ h => h) (Or.inl ⟨by rfl, fun wq hSw => by (try dsimp only at hSw); go_simp⟩) (by assumption) ?_
      try simp only [Act.put, List.setIfInBounds_toArray, List.set_cons_zero, List.set_cons_succ]
      refine wpAnyH_take (i := 9) (oi := { dst := some 150, op := .extract (.tmp 141) 1, type := _, pos := _, after := _, guard := none }) (v := .bool F) rfl (by kernel_rfl) (by kernel_rfl) (by kernel_rfl) (fun _ _ _ h => h) (Or.inl ⟨by rfl, fun wq hSw => by (try dsimp only at hSw); go_simp⟩) (by assumption) ?_
      try simp only [Act.put, List.setIfInBounds_toArray, List.set_cons_zero, List.set_cons_succ]
      refine wpAnyH_ready (rs := [11]) (by kernel_rfl) (by simp) ?_
      refine AllReadyH.cons (o := { dst := none, op := .store 53 (.tmp 15) (.tmp 149), type := _, pos := _, after := _, guard := none }) rfl (fun K hK => ?_) AllReadyH.nil
      refine step_store_row rfl 53 _ _ rfl (w.heap.size + 1) #[.int .u32 t1, .int .u32 t2, .int .i64 t3, .int .i64 t4, (.slice va tz.length vc)] rfl rfl 53 _ (HX3.out.1) (by kernel_rfl) rfl (by first | kernel_rfl | simp [Value.oneCell']) ?_
      intro W2 g2 b2
      have HX4 := hid (HX3.out.2 W2 g2.out b2.out).1
      have HM2 := (HX3.out.2 W2 g2.out b2.out).2
      refine hK.out _ _ (HX4.out) (fun hHeld => ?_)
      clear hK
      try simp only [Act.put, List.setIfInBounds_toArray, List.set_cons_zero, List.set_cons_succ]
      refine wpAnyH_take (i := 12) (oi := { dst := some 16, op := .assign (.tmp 150), type := _, pos := _, after := _, guard := none }) (v := .bool F) rfl (by kernel_rfl) (by kernel_rfl) (by kernel_rfl) (fun _ _ _ h => h) (Or.inl ⟨by rfl, fun wq hSw => by (try dsimp only at hSw); go_simp⟩) (by assumption) ?_
      try simp only [Act.put, List.setIfInBounds_toArray, List.set_cons_zero, List.set_cons_succ]
      refine wpAnyH_done (by kernel_rfl) ?_ _
      refine NoPanic.normal ?_
      clear hHeld
      go_wp2_with fail
      go_meet
      case rel => exact ⟨W2, _, va, vc, rfl, rfl, rfl, HM2.out, HOK.out⟩
  case rest =>
  obtain ⟨W2, ga, va, vc, rfl, rfl, rfl, HQ⟩ := hcut
  have HM2 := hid HQ.out.1
  have HOK := hid HQ.out.2
  have HX4 := hid (H2.out va vc ga W2 HM2.out).1
  have HTA := hid (H2.out va vc ga W2 HM2.out).2.1
  have HX5 := hid (H2.out va vc ga W2 HM2.out).2.2.1
  have HTB := hid (H2.out va vc ga W2 HM2.out).2.2.2
  clear HQ HA HA2 H1A H1B H2 HSB HS0 HB HB2
  go_upto_region 19 with (fail)
  go_cut [17, 18, 151, 152, 153, 154, 155, 156, 157, 158, 159, 160] (fun v17 v18 _ _ _ _ _ _ _ _ _ _ wx => ∃ (W4 : World) (gb : Nat) (ua : Option Addr) (uc : Nat), W4 = wx ∧ v17 = .pointer (some ⟨gb, 0, none⟩) ∧ v18 = .bool F ∧ Hid (MA w0 W4 (ST P' X' (OwC b (bxV c x d y)) b' (OwP c M D S2) (OwX x M D S2) (OwD 92 d zs) (OwD 94 y zs) (OwK kb gk n) (OwB gk nb) (OwU (.slice va tz.length vc) tz) nobody (OwC w.heap.size (.cells #[.int .i64 5, .int .i64 m, .int .u32 si, .int .u32 di, .int .i64 s, .int .i64 dd, pv] 55 (0, 0))) (OwC ga (.cells #[.int .u32 t1, .int .u32 t2, .int .i64 t3, .int .i64 t4, (.slice va tz.length vc)] 53 (0, 0))) (OwC gb (.cells #[.int .u32 t1, .int .u32 t2, .int .i64 t3, .int .i64 t4, (.slice ua tz.length uc)] 53 (0, 0)))) ∧ Row W4 5 (.slice ua tz.length uc) (u8s tz)))
  case first =>
    refine wp_region_noPanic ?_
    refine wp_region_held_drew (S := fun s' => ((∀ q, s'.cell? ⟨w.heap.size, q, none⟩ = (#[.int .i64 5, .int .i64 m, .int .u32 si, .int .u32 di, .int .i64 s, .int .i64 dd, pv] : Array Value)[q]?) ∧ (∀ q, s'.cell? ⟨b, q, none⟩ = (#[.pointer (some ⟨c, 0, none⟩), .pointer (some ⟨x, 0, none⟩), .pointer (some ⟨d, 0, none⟩), .pointer (some ⟨y, 0, none⟩)] : Array Value)[q]?))) (by kernel_rfl) (HX4.out) (fun hHeld => ?_)
    refine wpAnyH_take (i := 0) (oi := { dst := some 152, op := .move (.tmp 0), type := _, pos := _, after := _, guard := none }) (v := .pointer (some ⟨b, 0, none⟩)) rfl (by kernel_rfl) (by kernel_rfl) (by kernel_rfl) (fun _ _ _ h => h) (Or.inl ⟨by rfl, fun wq hSw => by (try dsimp only at hSw); go_simp⟩) (by assumption) ?_
    try simp only [Act.put, List.setIfInBounds_toArray, List.set_cons_zero, List.set_cons_succ]
    refine wpAnyH_take (i := 1) (oi := { dst := some 153, op := .nilCheck (.tmp 152), type := _, pos := _, after := _, guard := none }) (v := .pointer (some ⟨b, 0, none⟩)) rfl (by kernel_rfl) (by kernel_rfl) (by kernel_rfl) (fun _ _ _ h => h) (Or.inl ⟨by rfl, fun wq hSw => by (try dsimp only at hSw); go_simp⟩) (by assumption) ?_
    try simp only [Act.put, List.setIfInBounds_toArray, List.set_cons_zero, List.set_cons_succ]
    refine wpAnyH_take (i := 2) (oi := { dst := some 154, op := .fieldAddr 39 (.tmp 153) 1, type := _, pos := _, after := _, guard := none }) (v := .pointer (some ⟨b, 1, none⟩)) rfl (by kernel_rfl) (by kernel_rfl) (by kernel_rfl) (fun _ _ _ h => h) (Or.inl ⟨by rfl, fun wq hSw => by (try dsimp only at hSw); go_simp⟩) (by assumption) ?_
    try simp only [Act.put, List.setIfInBounds_toArray, List.set_cons_zero, List.set_cons_succ]
    refine wpAnyH_take (i := 3) (oi := { dst := some 155, op := .load 32 (.tmp 154), type := _, pos := _, after := _, guard := none }) (v := .pointer (some ⟨x, 0, none⟩)) rfl (by kernel_rfl) (by kernel_rfl) (by kernel_rfl) (fun _ _ _ h => h) (Or.inl ⟨by rfl, fun wq hSw => by (try dsimp only at hSw); (obtain ⟨hs1, hs2⟩ := hSw; go_simp)⟩) (by assumption) ?_
    try simp only [Act.put, List.setIfInBounds_toArray, List.set_cons_zero, List.set_cons_succ]
    refine wpAnyH_take (i := 4) (oi := { dst := some 156, op := .fieldAddr 55 (.tmp 5) 1, type := _, pos := _, after := _, guard := none }) (v := .pointer (some ⟨w.heap.size, 1, none⟩)) rfl (by kernel_rfl) (by kernel_rfl) (by kernel_rfl) (fun _ _ _ h => h) (Or.inl ⟨by rfl, fun wq hSw => by (try dsimp only at hSw); go_simp⟩) (by assumption) ?_
    try simp only [Act.put, List.setIfInBounds_toArray, List.set_cons_zero, List.set_cons_succ]
    refine wpAnyH_take (i := 5) (oi := { dst := some 157, op := .load 3 (.tmp 156), type := _, pos := _, after := _, guard := none }) (v := .int .i64 m) rfl (by kernel_rfl) (by kernel_rfl) (by kernel_rfl) (fun _ _ _ h => h) (Or.inl ⟨by rfl, fun wq hSw => by (try dsimp only at hSw); (obtain ⟨hs1, hs2⟩ := hSw; go_simp)⟩) (by assumption) ?_
    try simp only [Act.put, List.setIfInBounds_toArray, List.set_cons_zero, List.set_cons_succ]
    refine wpAnyH_ready (rs := [6, 10]) (by kernel_rfl) (by simp) ?_
    refine AllReadyH.cons (o := { dst := some 158, op := .call { callee := .value (.func 37), args := #[.tmp 155, .tmp 157], argTypes := #[32, 3] }, type := _, pos := _, after := _, guard := none }) rfl (fun K hK => ?_) (AllReadyH.cons (o := { dst := some 17, op := .alloc 53, type := _, pos := _, after := _, guard := none }) rfl (fun K hK => ?_) AllReadyH.nil)
    · go_simp
      refine HTA.out.mono ?_
      rintro e w1 ⟨ua, uc, rfl, HQ⟩
      have HX1 := hid (H3A.out va ua vc uc ga w1 HQ.out.1 HQ.out.2).1
      have HX2 := hid (H3A.out va ua vc uc ga w1 HQ.out.1 HQ.out.2).2.1
      have HX3 := hid (H3B.out _ va ua vc uc ga _ (H3A.out va ua vc uc ga w1 HQ.out.1 HQ.out.2).2.2.out.1 (H3A.out va ua vc uc ga w1 HQ.out.1 HQ.out.2).2.2.out.2).2
      refine hK.out _ _ (HX1.out) (fun hHeld => ?_)
      clear hK
      try simp only [Act.put, List.setIfInBounds_toArray, List.set_cons_zero, List.set_cons_succ]
      refine wpAnyH_take (i := 7) (oi := { dst := some 151, op := .move (.tmp 158), type := _, pos := _, after := _, guard := none }) (v := .tuple #[.agg #[.int .u32 t1, .int .u32 t2, .int .i64 t3, .int .i64 t4, (.slice ua tz.length uc)], .bool F]) rfl (by kernel_rfl) (by kernel_rfl) (by kernel_rfl) (fun _ _ _ h => h) (Or.inl ⟨by rfl, fun wq hSw => by (try dsimp only at hSw); go_simp⟩) (by assumption) ?_
      try simp only [Act.put, List.setIfInBounds_toArray, List.set_cons_zero, List.set_cons_succ]
      refine wpAnyH_take (i := 8) (oi := { dst := some 159, op := .extract (.tmp 151) 0, type := _, pos := _, after := _, guard := none }) (v := .agg #[.int .u32 t1, .int .u32 t2, .int .i64 t3, .int .i64 t4, (.slice ua tz.length uc)]) rfl (by kernel_rfl) (by kernel_rfl) (by kernel_rfl) (fun _ _ _ h => h) (Or.inl ⟨by rfl, fun wq hSw => by (try dsimp only at hSw); go_simp⟩) (by assumption) ?_
      try simp only [Act.put, List.setIfInBounds_toArray, List.set_cons_zero, List.set_cons_succ]
      refine wpAnyH_take (i := 9) (oi := { dst := some 160, op := .extract (.tmp 151) 1, type := _, pos := _, after := _, guard := none }) (v := .bool F) rfl (by kernel_rfl) (by kernel_rfl) (by kernel_rfl) (fun _ _ _ h => h) (Or.inl ⟨by rfl, fun wq hSw => by (try dsimp only at hSw); go_simp⟩) (by assumption) ?_
      try simp only [Act.put, List.setIfInBounds_toArray, List.set_cons_zero, List.set_cons_succ]
      refine wpAnyH_ready (rs := [10]) (by kernel_rfl) (by simp) ?_
      refine AllReadyH.cons (o := { dst := some 17, op := .alloc 53, type := _, pos := _, after := _, guard := none }) rfl (fun K hK => ?_) AllReadyH.nil
      refine step_alloc_to rfl 53 rfl #[.int .u32 0, .int .u32 0, .int .i64 0, .int .i64 0, .slice none 0 0] (by kernel_rfl) ?_
      refine hK.out _ _ (HX2.out) (fun hHeld => ?_)
      clear hK
      try simp only [Act.put, List.setIfInBounds_toArray, List.set_cons_zero, List.set_cons_succ]
      refine wpAnyH_ready (rs := [11]) (by kernel_rfl) (by simp) ?_
      refine AllReadyH.cons (o := { dst := none, op := .store 53 (.tmp 17) (.tmp 159), type := _, pos := _, after := _, guard := none }) rfl (fun K hK => ?_) AllReadyH.nil
      refine step_store_row rfl 53 _ _ rfl (w1.heap.size) #[.int .u32 t1, .int .u32 t2, .int .i64 t3, .int .i64 t4, (.slice ua tz.length uc)] rfl rfl 53 _ (heap_new w1 _) (by kernel_rfl) rfl (by first | kernel_rfl | simp [Value.oneCell']) ?_
      intro W2 g2 b2
      have HX4 := hid (HX3.out.2 W2 g2.out b2.out).1
      have HM2 := (HX3.out.2 W2 g2.out b2.out).2
      refine hK.out _ _ (HX4.out) (fun hHeld => ?_)
      clear hK
      try simp only [Act.put, List.setIfInBounds_toArray, List.set_cons_zero, List.set_cons_succ]
      refine wpAnyH_take (i := 12) (oi := { dst := some 18, op := .assign (.tmp 160), type := _, pos := _, after := _, guard := none }) (v := .bool F) rfl (by kernel_rfl) (by kernel_rfl) (by kernel_rfl) (fun _ _ _ h => h) (Or.inl ⟨by rfl, fun wq hSw => by (try dsimp only at hSw); go_simp⟩) (by assumption) ?_
      try simp only [Act.put, List.setIfInBounds_toArray, List.set_cons_zero, List.set_cons_succ]
      refine wpAnyH_done (by kernel_rfl) ?_ _
      refine NoPanic.normal ?_
      clear hHeld
      go_wp2_with fail
      go_meet
      case rel => exact ⟨W2, _, ua, uc, rfl, rfl, rfl, HM2.out⟩
    · refine step_alloc_to rfl 53 rfl #[.int .u32 0, .int .u32 0, .int .i64 0, .int .i64 0, .slice none 0 0] (by kernel_rfl) ?_
      refine hK.out _ _ (HX5.out) (fun hHeld => ?_)
      clear hK
      try simp only [Act.put, List.setIfInBounds_toArray, List.set_cons_zero, List.set_cons_succ]
      refine wpAnyH_ready (rs := [6]) (by kernel_rfl) (by simp) ?_
      refine AllReadyH.cons (o := { dst := some 158, op := .call { callee := .value (.func 37), args := #[.tmp 155, .tmp 157], argTypes := #[32, 3] }, type := _, pos := _, after := _, guard := none }) rfl (fun K hK => ?_) AllReadyH.nil
      go_simp
      refine HTB.out.mono ?_
      rintro e w1 ⟨ua, uc, rfl, HQ⟩
      have HX1 := hid (H3B.out _ va ua vc uc ga w1 HQ.out.1 HQ.out.2).1
      have HX3 := hid (H3B.out _ va ua vc uc ga w1 HQ.out.1 HQ.out.2).2
      refine hK.out _ _ (HX1.out) (fun hHeld => ?_)
      clear hK
      try simp only [Act.put, List.setIfInBounds_toArray, List.set_cons_zero, List.set_cons_succ]
      refine wpAnyH_take (i := 7) (oi := { dst := some 151, op := .move (.tmp 158), type := _, pos := _, after := _, guard := none }) (v := .tuple #[.agg #[.int .u32 t1, .int .u32 t2, .int .i64 t3, .int .i64 t4, (.slice ua tz.length uc)], .bool F]) rfl (by kernel_rfl) (by kernel_rfl) (by kernel_rfl) (fun _ _ _ h => h) (Or.inl ⟨by rfl, fun wq hSw => by (try dsimp only at hSw); go_simp⟩) (by assumption) ?_
      try simp only [Act.put, List.setIfInBounds_toArray, List.set_cons_zero, List.set_cons_succ]
      refine wpAnyH_take (i := 8) (oi := { dst := some 159, op := .extract (.tmp 151) 0, type := _, pos := _, after := _, guard := none }) (v := .agg #[.int .u32 t1, .int .u32 t2, .int .i64 t3, .int .i64 t4, (.slice ua tz.length uc)]) rfl (by kernel_rfl) (by kernel_rfl) (by kernel_rfl) (fun _ _ _ h => h) (Or.inl ⟨by rfl, fun wq hSw => by (try dsimp only at hSw); go_simp⟩) (by assumption) ?_
      try simp only [Act.put, List.setIfInBounds_toArray, List.set_cons_zero, List.set_cons_succ]
      refine wpAnyH_take (i := 9) (oi := { dst := some 160, op := .extract (.tmp 151) 1, type := _, pos := _, after := _, guard := none }) (v := .bool F) rfl (by kernel_rfl) (by kernel_rfl) (by kernel_rfl) (fun _ _ _ h => h) (Or.inl ⟨by rfl, fun wq hSw => by (try dsimp only at hSw); go_simp⟩) (by assumption) ?_
      try simp only [Act.put, List.setIfInBounds_toArray, List.set_cons_zero, List.set_cons_succ]
      refine wpAnyH_ready (rs := [11]) (by kernel_rfl) (by simp) ?_
      refine AllReadyH.cons (o := { dst := none, op := .store 53 (.tmp 17) (.tmp 159), type := _, pos := _, after := _, guard := none }) rfl (fun K hK => ?_) AllReadyH.nil
      refine step_store_row rfl 53 _ _ rfl (W2.heap.size) #[.int .u32 t1, .int .u32 t2, .int .i64 t3, .int .i64 t4, (.slice ua tz.length uc)] rfl rfl 53 _ (HX3.out.1) (by kernel_rfl) rfl (by first | kernel_rfl | simp [Value.oneCell']) ?_
      intro W2 g2 b2
      have HX4 := hid (HX3.out.2 W2 g2.out b2.out).1
      have HM2 := (HX3.out.2 W2 g2.out b2.out).2
      refine hK.out _ _ (HX4.out) (fun hHeld => ?_)
      clear hK
      try simp only [Act.put, List.setIfInBounds_toArray, List.set_cons_zero, List.set_cons_succ]
      refine wpAnyH_take (i := 12) (oi := { dst := some 18, op := .assign (.tmp 160), type := _, pos := _, after := _, guard := none }) (v := .bool F) rfl (by kernel_rfl) (by kernel_rfl) (by kernel_rfl) (fun _ _ _ h => h) (Or.inl ⟨by rfl, fun wq hSw => by (try dsimp only at hSw); go_simp⟩) (by assumption) ?_
      try simp only [Act.put, List.setIfInBounds_toArray, List.set_cons_zero, List.set_cons_succ]
      refine wpAnyH_done (by kernel_rfl) ?_ _
      refine NoPanic.normal ?_
      clear hHeld
      go_wp2_with fail
      go_meet
      case rel => exact ⟨W2, _, ua, uc, rfl, rfl, rfl, HM2.out⟩
  case rest =>
  obtain ⟨W4, gb, ua, uc, rfl, rfl, rfl, HM4⟩ := hcut
  clear HX4 HX5 HTA HTB H3A H3B HM2
  have HGA := hid (H4.out va ua vc uc ga gb W4 HOK.out HM4.out.1 HM4.out.2).1
  have HGB := hid (H4.out va ua vc uc ga gb W4 HOK.out HM4.out.1 HM4.out.2).2.1
  have HSM := hid (H4.out va ua vc uc ga gb W4 HOK.out HM4.out.1 HM4.out.2).2.2
  clear H4
  go_wp2_with (first
    | (refine wpList_load_row rfl 53 _ rfl ga rfl 53 #[.int .u32 t1, .int .u32 t2, .int .i64 t3, .int .i64 t4, (.slice va tz.length vc)] (0, 0) _ HGA.out Try.underlying53 rfl (by kernel_rfl) ?_)
    | (refine wpList_load_row rfl 53 _ rfl gb rfl 53 #[.int .u32 t1, .int .u32 t2, .int .i64 t3, .int .i64 t4, (.slice ua tz.length uc)] (0, 0) _ HGB.out Try.underlying53 rfl (by kernel_rfl) ?_)
    | (go_at_call 38; refine HSM.out.mono ?_; go_loud (rintro e w5 ⟨rfl, HB5⟩; have HY := hid (H5.out va ua vc uc ga gb W4 w5 HOK.out HM4.out.1 HB5.out).1; have HTK := hid (H5.out va ua vc uc ga gb W4 w5 HOK.out HM4.out.1 HB5.out).2.1; have HF := hid (H5.out va ua vc uc ga gb W4 w5 HOK.out HM4.out.1 HB5.out).2.2; clear HB5))
    | fail)
  go_region_held3 (fun s' => s'.cell? ⟨kb, 0, none⟩ = some (.pointer (some ⟨gk, 0, none⟩)) ∧ ∀ q, s'.cell? ⟨ga, q, none⟩ = (#[.int .u32 t1, .int .u32 t2, .int .i64 t3, .int .i64 t4, (.slice va tz.length vc)] : Array Value)[q]?) (first | exact HY.out.out | exact HY2.out.out | go_keep | exact ⟨trivial, trivial⟩) (first
    | (go_at_call 39; refine HTK.out.mono ?_; rintro e w6 ⟨rfl, HQ⟩; have HY2 := hid (HF.out w6 HQ.out).1; have HG := hid (HF.out w6 HQ.out).2))
  go_wp2
  go_ret
  exact HG.out.out
end
end Go.Proofs.Ythipdchdbdmmnaa
