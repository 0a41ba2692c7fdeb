import Derived.Test.YtgcpoanjjgbfjaaLzAsk
import Derived.Test.YtgcpoanjjgbfjaaPDUse
import Derived.Test.YtgcpoanjjgbfjaaLzJa
import Derived.Test.YtgcpoanjjgbfjaaOFst
import Derived.Test.YtgcpoanjjgbfjaaBOwnP
import Derived.Deep.MidRow
import Derived.Great.BuildSlice
import Derived.Test.YtgcpoanjjgbfjaaBRowT
/-
  Lease without memory: leases, clients, acts; what each call does, as functions.
-/
namespace Go.Proofs.Ytgcpoanjjgbfjaa
open Go.RowKit
set_option linter.all false

/-- a lease. -/
structure Ls where
  ip : Int
  m : Int
  r : Int
  sv : Int
  nx : Int
  file : ByteArray
  frm : Int
  t1 : Int
  t2 : Int
  un : Int
def Ls.cells (l : Ls) : Array Value := #[.int .u32 l.ip, .int .u32 l.m, .int .u32 l.r, .int .u32 l.sv, .int .u32 l.nx, .string l.file, .int .i64 l.frm, .int .i64 l.t1, .int .i64 l.t2, .int .i64 l.un]
def Ls.val (l : Ls) : Value := .agg l.cells
def Ls.zero : Ls := ⟨0, 0, 0, 0, 0, noText, 0, 0, 0, 0⟩
def Tm (n : Int) : Prop := -1 ≤ n ∧ n ≤ 1125899906842624
structure Ls.ok (l : Ls) : Prop where
  ip : U32 l.ip
  m : U32 l.m
  r : U32 l.r
  sv : U32 l.sv
  nx : U32 l.nx
  file : l.file.size ≤ 140737488353280
  frm : Tm l.frm
  t1 : Tm l.t1
  t2 : Tm l.t2
  un : Tm l.un
theorem Ls.zero_ok : Ls.zero.ok := by constructor <;> simp [Ls.zero, U32, Tm, noText, ByteArray.size]
/-- a client. -/
structure Cl where
  own : Mac
  now : Int
  st : Int
  xid : Int
  beg : Int
  ask : Int
  l : Ls
  tries : Int
  due : Int
structure Cl.ok (c : Cl) : Prop where
  own : c.own.ok
  now : 0 ≤ c.now ∧ c.now ≤ 1125899906842624
  st : 0 ≤ c.st ∧ c.st ≤ 6
  xid : U32 c.xid
  beg : 0 ≤ c.beg ∧ c.beg ≤ c.now
  ask : 0 ≤ c.ask ∧ c.ask ≤ c.now
  l : c.l.ok
  tries : 0 ≤ c.tries ∧ c.tries ≤ 5
  due : Tm c.due
/-- an act. -/
structure Ac where
  kind : Int
  frm : Int
  dst : Int
  msg : Bp
  opts : List Opt
  l : Ls
/-- a client with its draws; the acts of a call so far. -/
structure LS where
  c : Cl
  zs : List Int
  acts : List Ac
structure LS.ok (s : LS) : Prop where
  c : s.c.ok
  words : Words s.zs
  few : s.zs.length ≤ maxLen

def bhd (a t : Int) : Int := min (a + t) 1125899906842624
def hearC (c : Cl) (now : Int) : Cl := { c with now := min (max c.now now) 1125899906842624 }
def dueB (t now : Int) : Bool := (t != -1) && decide (t ≤ now)
def secsC (c : Cl) : Int := (c.now - c.beg) / 10
def sendS (kind frm dst secs : Int) (more : List Opt) (s : LS) : LS := { s with acts := s.acts ++ [⟨1, frm, dst, askM s.c.own s.c.xid secs frm, (53, op1 kind) :: more, Ls.zero⟩] }
def namesL (l : Ls) : List Opt := [(50, ip4 l.ip), (54, ip4 l.sv)]
def discoverS (s : LS) : LS := sendS 1 0 4294967295 (secsC s.c) [] s
def requestS (s : LS) : LS := if s.c.st = 2 then sendS 3 0 4294967295 (secsC s.c) (namesL s.c.l) s else if s.c.st = 5 then sendS 3 s.c.l.ip s.c.l.sv (secsC s.c) [] s else if s.c.st = 6 then sendS 3 s.c.l.ip 4294967295 (secsC s.c) [] s else s
def declineS (s : LS) : LS := sendS 4 0 4294967295 0 (namesL s.c.l) s
def waitS (n : Int) (s : LS) : LS := { s with c := { s.c with due := bhd s.c.now n } }
def backI (s : LS) : Int := waitI (aboutI 40 640 s.c.tries) (hd0 s.zs)
def msgS (s : LS) : LS := if s.c.st = 1 then discoverS s else requestS s
def askS (s : LS) : LS := waitS (backI (msgS s)) { msgS s with zs := (msgS s).zs.tail }
def questionS (s : LS) : LS := { s with c := { s.c with xid := hd0 s.zs, beg := s.c.now }, zs := s.zs.tail }
def beginS (s : LS) : LS := askS { questionS s with c := { (questionS s).c with l := Ls.zero, st := 1, tries := 1 } }
def tellS (kind : Int) (l : Ls) (s : LS) : LS := { s with acts := s.acts ++ [⟨kind, 0, 0, zeroBp, [], l⟩] }
def askAgainS (s : LS) : LS := if s.c.tries = 5 then beginS s else askS { s with c := { s.c with tries := s.c.tries + 1 } }
def probeS (l : Ls) (s : LS) : LS := waitS 10 (tellS 2 l { s with c := { s.c with l := l, st := 3, tries := 0 } })
def letGoS (s : LS) : LS := if 4 ≤ s.c.st then tellS 4 s.c.l s else s
def restS (s : LS) : LS := waitS 100 { s with c := { s.c with l := Ls.zero, st := 0, tries := 0 } }
def endC (c : Cl) : Int := if c.st = 6 then c.l.un else c.l.t2
def renewS (s : LS) : LS := { requestS s with c := { s.c with due := min (bhd s.c.now (max ((endC s.c - s.c.now).tdiv 2) 600)) (endC s.c) } }
def renewAsS (st : Int) (s : LS) : LS := renewS (questionS { s with c := { s.c with st := st } })
def holdOnS (s : LS) : LS := if dueB s.c.l.un s.c.now = true then beginS (letGoS s) else if s.c.st ≠ 6 ∧ dueB s.c.l.t2 s.c.now = true then renewAsS 6 s else if s.c.st = 4 ∧ dueB s.c.l.t1 s.c.now = true then renewAsS 5 s else if dueB s.c.due s.c.now = true then renewS s else s
def adoptS (l : Ls) (s : LS) : LS := holdOnS (tellS 3 l { s with c := { s.c with l := l, st := 4, tries := 0, due := l.t1 } })
def probedS (s : LS) : LS := if dueB s.c.l.un s.c.now = true then beginS s else adoptS s.c.l s
def atDueS (s : LS) : LS := if s.c.st = 0 then beginS s else if s.c.st = 1 ∨ s.c.st = 2 then askAgainS s else if s.c.st = 3 then probedS s else holdOnS s
def hearS (now : Int) (s : LS) : LS := { s with c := hearC s.c now }
def goOnS (now : Int) (s : LS) : LS := if dueB (hearS now s).c.due (hearS now s).c.now = true then atDueS (hearS now s) else hearS now s
/-! ### What fits -/
def datG (g : List Opt) (code : Int) : List Int := (findO g code).getD []
def numG (g : List Opt) (code : Int) : Int := exN (datG g code) 4
def okG (g : List Opt) (code : Int) : Bool := exB (datG g code) 4
def maskG (g : List Opt) : Int := if (findO g 1).isSome = true then numG g 1 else 4294967295
def routerG (g : List Opt) : Int := (getAns (datG g 3) 0 4).1
def fileG (m : Bp) (g : List Opt) : ByteArray := if (findO g 67).isSome = true then strOfNums (datG g 67) else m.file
def canB (ip m r : Int) : Bool := faultV ⟨ip, m, r⟩ == 0
def readF (m : Bp) (g : List Opt) : Option Ls :=
  if hostB (numG g 54) = true ∧ ¬ numG g 51 = 0 ∧ canB m.yi (maskG g) 0 = true then
    some ⟨m.yi, maskG g, if canB m.yi (maskG g) (routerG g) = true then routerG g else 0, numG g 54, if hostB m.si = true then m.si else numG g 54, fileG m g, 0, 0, 0, 0⟩
  else none
def lspanI (g : List Opt) (code without : Int) : Int := if okG g code = true then numG g code * 10 else without
def spansP (g : List Opt) (all : Int) : Int × Int :=
  if lspanI g 58 (all / 2) ≤ 0 ∨ lspanI g 59 (all * 7 / 8) ≤ lspanI g 58 (all / 2) ∨ all ≤ lspanI g 59 (all * 7 / 8) then (all / 2, all * 7 / 8) else (lspanI g 58 (all / 2), lspanI g 59 (all * 7 / 8))
def timedF (l : Ls) (g : List Opt) (frm : Int) : Ls :=
  if numG g 51 = 4294967295 then { l with frm := frm, t1 := -1, t2 := -1, un := -1 }
  else { l with frm := frm, t1 := bhd frm (spansP g (numG g 51 * 10)).1, t2 := bhd frm (spansP g (numG g 51 * 10)).2, un := bhd frm (numG g 51 * 10) }
def hearsB (c : Cl) (sv : Int) : Bool := if c.st = 2 ∨ c.st = 5 then sv == c.l.sv else c.st == 6
def offeredS (m : Bp) (g : List Opt) (s : LS) : LS := match readF m g with
  | none => s
  | some l => if s.c.st = 1 then askS { s with c := { s.c with l := l, ask := s.c.now, st := 2, tries := 1 } } else s
def givenS (m : Bp) (g : List Opt) (s : LS) : LS := match readF m g with
  | none => s
  | some l => if l.ip = s.c.l.ip ∧ hearsB s.c l.sv = true then
      if 4 ≤ s.c.st then
        if dueB (timedF l g s.c.beg).un s.c.now = true then s else adoptS (timedF l g s.c.beg) s
      else probeS (timedF l g s.c.ask) s
    else s
def refusedS (g : List Opt) (s : LS) : LS := if okG g 54 = true ∧ hearsB s.c (numG g 54) = true then restS (letGoS s) else s
def toUs (m : Bp) (c : Cl) : Prop := m.op = 2 ∧ m.mac = c.own ∧ m.xid = c.xid
instance (m : Bp) (c : Cl) : Decidable (toUs m c) := inferInstanceAs (Decidable (_ ∧ _ ∧ _))
def onS (m : Bp) (g : List Opt) (now : Int) (s : LS) : LS := if toUs m (goOnS now s).c then (if typG g = 2 then offeredS m g (goOnS now s) else if typG g = 5 then givenS m g (goOnS now s) else if typG g = 6 then refusedS g (goOnS now s) else goOnS now s) else goOnS now s
def clashS (ip now : Int) (s : LS) : LS := if 3 ≤ (goOnS now s).c.st ∧ ip = (goOnS now s).c.l.ip then restS (declineS (letGoS (goOnS now s))) else goOnS now s
def startS (now : Int) (s : LS) : LS := beginS (letGoS (hearS now s))
end Go.Proofs.Ytgcpoanjjgbfjaa

/-
  Whole structs stored into the middle of a block. For every seat.
-/
namespace Go.Proofs.Ytgcpoanjjgbfjaa
open Go.RowKit
set_option linter.all false

theorem wpList_store_mid {ops : Array Oper} {rest : List Oper} {o : Oper} {a : Act} {w : World} {Q : Exit → Act → World → Prop} (hgd : o.guard = none) (ty : TypeId) (x y : Operand) (ho : o.op = .store ty x y)
    (b off : Nat) (cells : Array Value) (hx : a.eval x = .pointer (some ⟨b, off, none⟩)) (hy : a.eval y = .agg cells)
    (ht : w.there b off cells.size) (hi : (Try.prog.info? ty).map (·.size) = some cells.size) (h1 : cells.all (·.oneCell') = true)
    (h : ∀ w', Hid (w' = w.setCells b off cells.toList) → wpList Try.prog ops Q rest (a.put o.dst undef) w') : wpList Try.prog ops Q (o :: rest) a w :=
  wpList_plain hgd fun _ hK => wp_store_mid ty x y ho b off cells hx hy ht hi h1 (hK _ _ (h _ rfl))
theorem step_store_mid {ops : Array Oper} {o : Oper} {a : Act} {w : World} {K : Act → World → Prop} {Q : Exit → Act → World → Prop} {E : Prop} (hn : o.dst = none) (hgd : o.guard = none) (ty : TypeId) (x y : Operand) (ho : o.op = .store ty x y)
    (b off : Nat) (cells : Array Value) (hx : a.eval x = .pointer (some ⟨b, off, none⟩)) (hy : a.eval y = .agg cells)
    (ht : w.there b off cells.size) (hi : (Try.prog.info? ty).map (·.size) = some cells.size) (h1 : cells.all (·.oneCell') = true)
    (h : K (a.put none undef) (w.setCells b off cells.toList)) :
    if Region.wanted o (yielded ops a.tmps) = true then Oper.wp Try.prog o a w K Q else E := by
  have hw : Region.wanted o (yielded ops a.tmps) = true := by simp [Region.wanted, hgd]
  rw [if_pos hw]
  exact wp_store_mid ty x y ho b off cells hx hy ht hi h1 (by rw [hn]; exact h)
theorem But.setCells (g : Nat) : ∀ (l : List Value) (w : World) (o : Nat), But g w (w.setCells g o l)
  | [], w, o => But.refl g w
  | v :: r, w, o => (But.setCell g w o v).trans (But.setCells g r _ (o + 1))
theorem there_of {w : World} {g : Nat} {C : Array Value} {t : TypeId} (h : w.heap[g]? = some (.cells C t (0, 0))) (o n : Nat) (hn : o + n ≤ C.size) : w.there g o n := fun j hj => by
  refine ⟨?_, frozen_of_heap h _⟩
  rw [cell_of_heap h, Array.getElem?_eq_getElem (by omega)]
  rfl
/-- a slice literal of one struct. -/
theorem wpList_slice_one {ops : Array Oper} {rest : List Oper} {o : Oper} {a : Act} {w : World} {Q : Exit → Act → World → Prop} (hgd : o.guard = none) (t e : TypeId) (x : Operand) (ho : o.op = .buildSlice t 1 #[(0, x)])
    (C : Array Value) (sz : Nat) (z : Value) (hx : a.eval x = .agg C) (hC : C.size = sz) (hpos : 0 < sz) (hle : sz ≤ 16777216) (ht : Try.prog.underlying t = some (.slice e)) (hi : (Try.prog.info? e).map (fun i => (i.zero, i.size)) = some (some z, sz))
    (h : wpList Try.prog ops Q rest (a.put o.dst (.slice (some ⟨w.heap.size, 0, none⟩) 1 1)) (w.alloc (.cells C e))) : wpList Try.prog ops Q (o :: rest) a w := by
  cases hq : Try.prog.info? e with
  | none => simp [hq] at hi
  | some ie =>
    simp only [hq, Option.map_some, Option.some.injEq, Prod.mk.injEq] at hi
    obtain ⟨hz, hs⟩ := hi
    refine wpList_buildSlice hgd t e 1 _ ho C ie z ht hq hz (by rw [hs]; omega) (by rw [hs]; omega) ?_ h
    have hp : ((#[(0, x)] : Array (Nat × Operand)).map fun (i, x) => (i, a.eval x)).toList = (([Value.agg C]).zipIdx 0).map fun x => (x.2, x.1) := by simp [hx]
    rw [hp, hs, Great.fill_whole hpos [Value.agg C] _ (by simp [Value.cells, hC]) (by simp)]
    simp [Value.cells]
end Go.Proofs.Ytgcpoanjjgbfjaa

/-
  Rows of elements of several cells that are being made, appended to one by one. For every seat (out of NwA).
-/
namespace Go.Proofs.Ytgcpoanjjgbfjaa
open Go.RowKit
set_option linter.all false

theorem flatG {α : Type} (f : α → List Value) (sz : Nat) (hf : ∀ x, (f x).length = sz) : ∀ (l : List α) (k j : Nat) (y : α), l[k]? = some y → j < sz → (l.flatMap f)[k * sz + j]? = (f y)[j]?
  | [], k, j, y, h, _ => by simp at h
  | x :: l, 0, j, y, h, hj => by
    simp at h; subst h
    simp only [List.flatMap_cons, Nat.zero_mul, Nat.zero_add]
    rw [List.getElem?_append_left (by rw [hf]; exact hj)]
  | x :: l, k + 1, j, y, h, hj => by
    simp at h
    have ih := flatG f sz hf l k j y h hj
    simp only [List.flatMap_cons]
    rw [List.getElem?_append_right (by rw [hf, Nat.add_mul]; omega), hf, show (k + 1) * sz + j - sz = k * sz + j from by rw [Nat.add_mul]; omega]
    exact ih
theorem flatL {α : Type} (f : α → List Value) (sz : Nat) (hf : ∀ x, (f x).length = sz) : ∀ l : List α, (l.flatMap f).length = l.length * sz
  | [] => by simp
  | x :: l => by
    rw [List.flatMap_cons, List.length_append, flatL f sz hf l, hf, List.length_cons, Nat.add_mul]; omega
theorem RowS.at0 {w : World} {e : TypeId} {sz : Nat} {a : Option Addr} {n cp : Nat} {xs : List Value} (h : RowS w e sz (.slice a n cp) n xs) (h0 : 0 < n) : ∃ g, a = some ⟨g, 0, none⟩ ∧ ∀ (j : Nat) (u : Value), xs[j]? = some u → w.cell? ⟨g, j, none⟩ = some u := by
  obtain ⟨g, cap, h1, h2, h3⟩ := h.some_of h0
  simp only [Value.slice.injEq] at h1
  obtain ⟨rfl, _, rfl⟩ := h1
  exact ⟨g, rfl, fun j u hj => RowS.cell h hj⟩
/-! ### rows that are being made -/
structure RowB (e : TypeId) (sz : Nat) (w wr : World) (a : Option Addr) (n cp : Nat) (xs : List Value) : Prop where
  row : RowS wr e sz (.slice a n cp) n xs
  new : ∀ b, (Value.slice a n cp).ownBlock = some b → w.heap.size ≤ b
  below : Below w.heap.size w wr
theorem RowB.void (e : TypeId) (sz : Nat) (w : World) : RowB e sz w w none 0 0 [] := ⟨RowS.nil _ _ _, by simp [Value.ownBlock], Below.refl _ _⟩
theorem RowB.bel {e : TypeId} {sz : Nat} {w wr wx : World} {a : Option Addr} {n cp : Nat} {xs : List Value} (h : RowB e sz w wr a n cp xs) (hb : Below wr.heap.size wr wx) : RowB e sz w wx a n cp xs :=
  ⟨h.row.below hb, h.new, bstep h.below hb⟩
theorem RowB.one (t e : TypeId) (z : Value) (sz bytes : Nat) (ht : Try.prog.underlying t = some (.slice e)) (hinfo : (Try.prog.info? e).map (fun i => (i.zero, i.size, i.bytes)) = some (some z, sz, bytes)) (hzc : z.cells.size = sz) (hsz : 0 < sz)
    {w wr w5 : World} {a : Option Addr} {n cp : Nat} {xs : List Value} (h : RowB e sz w wr a n cp xs) (hb : Below wr.heap.size wr w5) (C : Array Value) (hC : C.size = sz) (h1 : ∀ u ∈ C.toList, u.oneCell' = true) (hl : n + 1 ≤ maxLen) (hby : (n + 1) * bytes ≤ 140737488355328) :
    ∃ a' cp' w7, (Builtin.append_ #[t, t] t #[.slice a n cp, .slice (some ⟨w5.heap.size, 0, none⟩) 1 1]).run Try.prog (w5.alloc (.cells C e)) = .ok (.slice a' (n + 1) cp') w7 ∧ Hid (RowB e sz w w7 a' (n + 1) cp' (xs ++ C.toList)) ∧ Hid (∀ b, b < w5.heap.size → (Value.slice a n cp).ownBlock ≠ some b → w7.heap[b]? = w5.heap[b]?) := by
  have hbp := bpush (Below.refl w5.heap.size w5) (.cells C e)
  have hbW := bstep hb hbp
  have rW := h.row.below hbW
  have hnew : (w5.alloc (.cells C e)).heap[w5.heap.size]? = some (.cells C e (0, 0)) := heap_new _ _
  obtain ⟨v', w7, hrun, hrow, hgr, hloc⟩ := append_s t t e z sz bytes ht hinfo hzc hsz rW ⟨w5.heap.size, 0, none⟩ 1 1 C.toList (by simp [hC])
    (fun j u hj => by
      rw [show (⟨w5.heap.size, 0, none⟩ : Addr).add j = ⟨w5.heap.size, j, none⟩ from by unfold Addr.add; split <;> simp_all, cell_of_heap hnew, ← Array.getElem?_toList]
      exact hj)
    h1 hl hby
  obtain ⟨a', cp', hv', _⟩ := hrow.form
  subst hv'
  have hsz : wr.heap.size ≤ w5.heap.size := hb.size
  have h1sz : w.heap.size ≤ wr.heap.size := h.below.size
  have keepT : ∀ b, b < (w5.alloc (.cells C e)).heap.size → (Value.slice a n cp).ownBlock ≠ some b → w7.heap[b]? = (w5.alloc (.cells C e)).heap[b]? := fun b hlt hne => hgr.block b hlt (fun e => hne (by simpa using e.symm))
  have hb1 : Below w.heap.size w (w5.alloc (.cells C e)) := bstep h.below hbW
  refine ⟨a', cp', w7, hrun, ⟨hrow, fun b hb' => ?_, ?_⟩, fun b hb' hne => (keepT b (by simp; omega) hne).trans (heap_old w5 _ hb')⟩
  · rcases hloc b (by cases a' <;> simpa [Value.ownBlock] using hb') with h2 | h2
    · exact h.new b (by cases a <;> simpa [Value.ownBlock] using h2)
    · simp at h2; omega
  · exact ⟨hgr.os.trans hb1.os, hgr.tape.trans hb1.tape, hgr.output.trans hb1.output, Nat.le_trans hb1.size hgr.size, fun i hl' => (keepT i (Nat.lt_of_lt_of_le hl' hb1.size) (fun e => by have := h.new i e; omega)).trans (hb1.block i hl')⟩
end Go.Proofs.Ytgcpoanjjgbfjaa

/-
  Lease: clients, dice and acts in memory; the closure that acts are told to.
-/
namespace Go.Proofs.Ytgcpoanjjgbfjaa
open Go.RowKit
set_option linter.all false

def Cl.cells (c : Cl) : Array Value := #[.int .u8 c.own.b0, .int .u8 c.own.b1, .int .u8 c.own.b2, .int .u8 c.own.b3, .int .u8 c.own.b4, .int .u8 c.own.b5, .int .i64 c.now, .int .i64 c.st, .int .u32 c.xid, .int .i64 c.beg, .int .i64 c.ask, .int .u32 c.l.ip, .int .u32 c.l.m, .int .u32 c.l.r, .int .u32 c.l.sv, .int .u32 c.l.nx, .string c.l.file, .int .i64 c.l.frm, .int .i64 c.l.t1, .int .i64 c.l.t2, .int .i64 c.l.un, .int .i64 c.tries, .int .i64 c.due]
def Ac.cells (a : Ac) (v : Value) : Array Value := #[.int .i64 a.kind, .int .u32 a.frm, .int .u32 a.dst, .int .i64 a.msg.op, .int .i64 a.msg.hops, .int .u32 a.msg.xid, .int .i64 a.msg.secs, .bool a.msg.all, .int .u32 a.msg.ci, .int .u32 a.msg.yi, .int .u32 a.msg.si, .int .u32 a.msg.gi, .int .u8 a.msg.mac.b0, .int .u8 a.msg.mac.b1, .int .u8 a.msg.mac.b2, .int .u8 a.msg.mac.b3, .int .u8 a.msg.mac.b4, .int .u8 a.msg.mac.b5, .string a.msg.sname, .string a.msg.file, v, .int .u32 a.l.ip, .int .u32 a.l.m, .int .u32 a.l.r, .int .u32 a.l.sv, .int .u32 a.l.nx, .string a.l.file, .int .i64 a.l.frm, .int .i64 a.l.t1, .int .i64 a.l.t2, .int .i64 a.l.un]
theorem Ac.size (a : Ac) (v : Value) : (a.cells v).size = 31 := rfl
theorem ac_one (a : Ac) (x : Option Addr) (n c : Nat) : (a.cells (.slice x n c)).all (·.oneCell') = true := by simp [Ac.cells, Value.oneCell']
theorem infoAct : (Try.prog.info? 51).map (fun i => (i.zero, i.size, i.bytes)) = some (some (.agg (Ac.cells ⟨0, 0, 0, zeroBp, [], Ls.zero⟩ (.slice none 0 0))), 31, 208) := by kernel_rfl
theorem infoAct2 : (Try.prog.info? 51).map (fun i => (i.zero, i.size)) = some (some (.agg (Ac.cells ⟨0, 0, 0, zeroBp, [], Ls.zero⟩ (.slice none 0 0))), 31) := by kernel_rfl
theorem infoLs : (Try.prog.info? 44).map (·.size) = some 10 := by kernel_rfl
/-- an act with the slice of its options, and they with the slices of their bytes. -/
abbrev AE := Ac × Value × List (Opt × Value)
def flatA (E : List AE) : List Value := E.flatMap fun p => (p.1.cells p.2.1).toList
theorem flatA_snoc (E : List AE) (p : AE) : flatA (E ++ [p]) = flatA E ++ (p.1.cells p.2.1).toList := by simp [flatA]
structure ActI (B : Nat) (w : World) (v : Value) (E : List AE) : Prop where
  row : RowS w 51 31 v E.length (flatA E)
  low : ∀ b, v.ownBlock = some b → B ≤ b
  opts : ∀ p ∈ E, OwnO B w p.2.1 p.2.2 ∧ codes p.2.2 = p.1.opts
  apart : ∀ (i j : Nat) p q b, i ≠ j → E[i]? = some p → E[j]? = some q → InO p.2.1 p.2.2 b → ¬ InO q.2.1 q.2.2 b
theorem ActI.nil (B : Nat) (w : World) : ActI B w (.slice none 0 0) [] := ⟨RowS.nil _ _ _, by simp [Value.ownBlock], by simp, by simp⟩
def InA (v : Value) (E : List AE) (b : Nat) : Prop := v.ownBlock = some b ∨ ∃ p ∈ E, InO p.2.1 p.2.2 b
theorem ActI.lt {B : Nat} {w : World} {v : Value} {E : List AE} (h : ActI B w v E) {b : Nat} (hb : InA v E b) : B ≤ b ∧ b < w.heap.size := by
  rcases hb with hb | ⟨p, hp, hb⟩
  · exact ⟨h.low b hb, h.row.lt hb⟩
  · exact (h.opts p hp).1.lt hb
theorem ActI.keep {B : Nat} {w w' : World} {v : Value} {E : List AE} (h : ActI B w v E) (hk : ∀ b, InA v E b → w'.heap[b]? = w.heap[b]?) : ActI B w' v E :=
  ⟨h.row.keep fun b hb => hk b (Or.inl hb), h.low, fun p hp => ⟨(h.opts p hp).1.keep fun b hb => hk b (Or.inr ⟨p, hp, hb⟩), (h.opts p hp).2⟩, h.apart⟩
theorem ActI.below {B : Nat} {w w' : World} {v : Value} {E : List AE} (h : ActI B w v E) (hb : Below w.heap.size w w') : ActI B w' v E := h.keep fun b hi => hb.block b (h.lt hi).2
theorem OwnO.objT {B : Nat} {w : World} {v : Value} {E : List (Opt × Value)} (h : OwnO B w v E) {b : Nat} (hb : InO v E b) : ∃ cur t f, w.heap[b]? = some (.cells cur t f) ∧ (t = 38 ∨ t = 5) := by
  rcases hb with hb | ⟨p, hp, hb⟩
  · obtain ⟨cur, h1⟩ := h.row.obj hb
    exact ⟨cur, _, _, h1, Or.inl rfl⟩
  · obtain ⟨cur, f, h1⟩ := (h.data p hp).obj hb
    exact ⟨cur, _, f, h1, Or.inr rfl⟩
/-- of what type its blocks are. -/
theorem ActI.objT {B : Nat} {w : World} {v : Value} {E : List AE} (h : ActI B w v E) {b : Nat} (hb : InA v E b) : ∃ cur t f, w.heap[b]? = some (.cells cur t f) ∧ (t = 51 ∨ t = 38 ∨ t = 5) := by
  rcases hb with hb | ⟨p, hp, hb⟩
  · obtain ⟨cur, h1⟩ := h.row.obj hb
    exact ⟨cur, _, _, h1, Or.inl rfl⟩
  · obtain ⟨cur, t, f, h1, h2⟩ := (h.opts p hp).1.objT hb
    exact ⟨cur, t, f, h1, Or.inr h2⟩
theorem ActI.form {B : Nat} {w : World} {v : Value} {E : List AE} (h : ActI B w v E) : ∃ a c, v = .slice a E.length c := by
  obtain ⟨a, c, e, _⟩ := h.row.form
  exact ⟨a, c, e⟩
/-- one act more. -/
theorem ActI.app {B : Nat} {w : World} {v : Value} {E : List AE} (h : ActI B w v E) (hB : B ≤ w.heap.size) (hn : E.length < 4096) (p : AE) (ho : OwnO B w p.2.1 p.2.2) (hc : codes p.2.2 = p.1.opts) (ha : ∀ q ∈ E, ∀ b, InO p.2.1 p.2.2 b → ¬ InO q.2.1 q.2.2 b) :
    ∃ a n c w', (Builtin.append_ #[34, 34] 34 #[v, .slice (some ⟨w.heap.size, 0, none⟩) 1 1]).run Try.prog (w.alloc (.cells (p.1.cells p.2.1) 51)) = .ok (.slice a n c) w' ∧ ActI B w' (.slice a n c) (E ++ [p]) ∧ Below B w w' ∧ (∀ b, b < w.heap.size → v.ownBlock ≠ some b → w'.heap[b]? = w.heap[b]?) := by
  have hz := h.below (bpush (Below.refl _ w) (.cells (p.1.cells p.2.1) 51))
  obtain ⟨ov, oc, oe, _⟩ := ho.form
  obtain ⟨v', w1, h1, h2, h3, h4⟩ := append_s 34 34 51 _ 31 208 Try.underlying34 infoAct rfl (by decide) hz.row ⟨w.heap.size, 0, none⟩ 1 1 (p.1.cells p.2.1).toList (by simp [Ac.size]) (fun j u hj => by
    have e : (⟨w.heap.size, 0, none⟩ : Addr).add j = ⟨w.heap.size, j, none⟩ := by unfold Addr.add; split <;> simp_all
    rw [e, cell_of_heap (heap_new w _)]
    simpa using hj) (by
      have hall := ac_one p.1 ov p.2.2.length oc
      rw [← oe, Array.all_eq_true'] at hall
      intro u hu
      exact hall u (by simpa using hu)) (by unfold maxLen; omega) (by omega)
  obtain ⟨a, c, e, _⟩ := h2.form
  have keepT : ∀ b, b < w.heap.size → v.ownBlock ≠ some b → w1.heap[b]? = w.heap[b]? := fun b hb hv => by
    rw [h3.block b (by simp; omega) (fun e => hv e.symm), heap_old _ _ hb]
  have notrow : ∀ b, (∃ cur t f, w.heap[b]? = some (.cells cur t f) ∧ (t = 38 ∨ t = 5)) → v.ownBlock ≠ some b := fun b hx e => by
    obtain ⟨cur, t, f, g1, g2⟩ := hx
    obtain ⟨cur', g3⟩ := h.row.obj e
    rw [g3] at g1
    simp only [Option.some.injEq, Obj.cells.injEq] at g1
    obtain ⟨_, g4, _⟩ := g1
    subst g4
    rcases g2 with g2 | g2 <;> exact absurd g2 (by decide)
  refine ⟨a, _, c, w1, by rw [h1, e], ⟨?_, fun b hb => ?_, fun q hq => ?_, fun i j q r b hne hi hj hb => ?_⟩, ⟨h3.os, h3.tape, h3.output, Nat.le_trans (by simp) h3.size, fun b hb => keepT b (by omega) (fun e => by have := h.low b e; omega)⟩, keepT⟩
  · rw [flatA_snoc, List.length_append, ← e]
    exact h2
  · rw [← e] at hb
    rcases h4 b hb with h5 | h5
    · exact h.low b h5
    · simp at h5; omega
  · rcases List.mem_append.1 hq with hq | hq
    · exact ⟨(h.opts q hq).1.keep fun b hb => keepT b ((h.opts q hq).1.lt hb).2 (notrow b ((h.opts q hq).1.objT hb)), (h.opts q hq).2⟩
    · simp only [List.mem_singleton] at hq
      subst hq
      exact ⟨ho.keep fun b hb => keepT b (ho.lt hb).2 (notrow b (ho.objT hb)), hc⟩
  · have last : ∀ (i : Nat) (q : AE), (E ++ [p])[i]? = some q → E[i]? = some q ∨ (i = E.length ∧ q = p) := fun i q hi => by
      rcases Nat.lt_or_ge i E.length with h1 | h1
      · rw [List.getElem?_append_left h1] at hi; exact Or.inl hi
      · have h2 : i = E.length := by have := (List.getElem?_eq_some_iff.1 hi).1; simp at this; omega
        subst h2
        simp at hi
        exact Or.inr ⟨rfl, hi.symm⟩
    rcases last i q hi with k1 | ⟨k1, k3⟩ <;> rcases last j r hj with k2 | ⟨k2, k4⟩
    · exact h.apart i j q r b hne k1 k2 hb
    · rw [k4]
      exact fun e => ha q (List.mem_of_getElem? k1) b e hb
    · rw [k3] at hb
      exact fun e => ha r (List.mem_of_getElem? k2) b hb e
    · omega

/-! ### A client, its dice, the acts so far -/
structure LW (W0 : World) (p pd gA : Nat) (ab : Option Nat) (s : LS) (w : World) : Prop where
  box : w.heap[p]? = some (.cells s.c.cells 53 (0, 0))
  dice : ∃ a c, DiceW 56 w pd a c s.zs ∧ blk a = ab
  var : ∃ a n c E, w.heap[gA]? = some (.cells #[.slice a n c] 34 (0, 0)) ∧ ActI W0.heap.size w (.slice a n c) E ∧ E.map (·.1) = s.acts
  old : Only (fun k => k = p ∨ k = pd) W0 w
  lp : p < W0.heap.size
  ld : pd < W0.heap.size
  lab : ∀ b, ab = some b → b < W0.heap.size
  lg : W0.heap.size ≤ gA
  ok : s.ok
section
variable {W0 w w' : World} {p pd gA : Nat} {ab : Option Nat} {s : LS}
theorem LW.size (h : LW W0 p pd gA ab s w) : W0.heap.size ≤ w.heap.size := h.old.size
theorem LW.lpw (h : LW W0 p pd gA ab s w) : p < w.heap.size := heap_lt h.box
theorem LW.lgw (h : LW W0 p pd gA ab s w) : gA < w.heap.size := by obtain ⟨a, n, c, E, h1, _⟩ := h.var; exact heap_lt h1
theorem LW.below (h : LW W0 p pd gA ab s w) (hb : Below w.heap.size w w') : LW W0 p pd gA ab s w' := by
  obtain ⟨a, c, d1, d2⟩ := h.dice
  obtain ⟨a', n', c', E, v1, v2, v3⟩ := h.var
  exact ⟨kept h.box hb, ⟨a, c, d1.below hb, d2⟩, ⟨a', n', c', E, kept v1 hb, v2.below hb, v3⟩, h.old.trans (Only.of_below hb), h.lp, h.ld, h.lab, h.lg, h.ok⟩
/-- a block of another type. -/
theorem ne_of_ty {w : World} {k g : Nat} {C C' : Array Value} {t t' : TypeId} {f f' : Nat × Nat} (h1 : w.heap[k]? = some (.cells C t f)) (h2 : w.heap[g]? = some (.cells C' t' f')) (hn : t ≠ t') : k ≠ g := fun e => by
  subst e
  rw [h1] at h2
  simp only [Option.some.injEq, Obj.cells.injEq] at h2
  exact hn h2.2.1
theorem LW.pd_ne (h : LW W0 p pd gA ab s w) : pd ≠ p := by
  obtain ⟨a, c, d1, d2⟩ := h.dice
  exact ne_of_ty d1.box h.box (by decide)
theorem LW.ab_ne (h : LW W0 p pd gA ab s w) : ab ≠ some p := fun e => by
  obtain ⟨a, c, d1, d2⟩ := h.dice
  obtain ⟨cur, h1⟩ := d1.row.cells (d2.trans e)
  exact ne_of_ty h1 h.box (by decide) rfl
/-- the client turns. -/
theorem LW.set (h : LW W0 p pd gA ab s w) (hb : But p w w') {c' : Cl} (hg : w'.heap[p]? = some (.cells c'.cells 53 (0, 0))) (hok : c'.ok) : LW W0 p pd gA ab { s with c := c' } w' := by
  have hne := h.pd_ne
  have han := h.ab_ne
  obtain ⟨a, c, d1, d2⟩ := h.dice
  obtain ⟨a', n', cc', E, v1, v2, v3⟩ := h.var
  refine ⟨hg, ⟨a, c, d1.keep fun k hk => hb.block k (fun e => ?_) (d1.lt k hk), d2⟩, ⟨a', n', cc', E, keptBut v1 hb (ne_of_ty v1 h.box (by decide)), v2.keep fun b hi => hb.block b (fun e => ?_) (v2.lt hi).2, v3⟩, h.old.trans ((Only.of_but hb rfl).mono fun k hk => Or.inl hk.symm), h.lp, h.ld, h.lab, h.lg, ⟨hok, h.ok.words, h.ok.few⟩⟩
  · rcases hk with hk | hk
    · exact hne (hk.symm.trans e)
    · exact han (by rw [← d2, hk, e])
  · obtain ⟨cur, t, f, o1, o2⟩ := v2.objT hi
    refine ne_of_ty o1 h.box ?_ e
    rcases o2 with rfl | rfl | rfl <;> decide
/-- a draw is taken. -/
theorem LW.drawn (h : LW W0 p pd gA ab s w) {zs : List Int} (hz : Words zs) (hf : zs.length ≤ maxLen) (hu : ∀ a c, DiceW 56 w pd a c s.zs → blk a = ab → ∃ a' c', DiceW 56 w' pd a' c' zs ∧ blk a' = ab) (hb : But pd w w') : LW W0 p pd gA ab { s with zs := zs } w' := by
  have hne := h.pd_ne
  obtain ⟨a, c, d1, d2⟩ := h.dice
  obtain ⟨a', n', cc', E, v1, v2, v3⟩ := h.var
  have hbx := d1.box
  refine ⟨keptBut h.box hb (Ne.symm hne), hu a c d1 d2, ⟨a', n', cc', E, keptBut v1 hb (ne_of_ty v1 hbx (by decide)), v2.keep fun b hi => hb.block b (fun e => ?_) (v2.lt hi).2, v3⟩, h.old.trans ((Only.of_but hb rfl).mono fun k hk => Or.inr hk.symm), h.lp, h.ld, h.lab, h.lg, ⟨h.ok.c, hz, hf⟩⟩
  obtain ⟨cur, t, f, o1, o2⟩ := v2.objT hi
  refine ne_of_ty o1 hbx ?_ e
  rcases o2 with rfl | rfl | rfl <;> decide
end
/-- what is no client, no dice, no row of acts stays. -/
structure Stay (w w' : World) : Prop where
  size : w.heap.size ≤ w'.heap.size
  blk : ∀ {b : Nat} {C : Array Value} {t : TypeId} {f : Nat × Nat}, w.heap[b]? = some (.cells C t f) → t ≠ 53 → t ≠ 56 → t ≠ 34 → t ≠ 51 → w'.heap[b]? = some (.cells C t f)
theorem Stay.refl (w : World) : Stay w w := ⟨Nat.le_refl _, fun h _ _ _ _ => h⟩
theorem Stay.trans {a b c : World} (h : Stay a b) (k : Stay b c) : Stay a c := ⟨Nat.le_trans h.size k.size, fun h1 h2 h3 h4 h5 => k.blk (h.blk h1 h2 h3 h4 h5) h2 h3 h4 h5⟩
theorem Stay.of_below {w w' : World} (h : Below w.heap.size w w') : Stay w w' := ⟨h.size, fun h1 _ _ _ _ => kept h1 h⟩
theorem Stay.of_but {w w' : World} {g : Nat} {C : Array Value} {t : TypeId} {f : Nat × Nat} (h : But g w w') (hg : w.heap[g]? = some (.cells C t f)) (ht : t = 53 ∨ t = 56 ∨ t = 34 ∨ t = 51) : Stay w w' :=
  ⟨h.size, fun h1 h2 h3 h4 h5 => (h.block _ (ne_of_ty h1 hg (by rcases ht with rfl | rfl | rfl | rfl <;> assumption)) (heap_lt h1)).trans h1⟩
/-- what a method leaves. -/
def LC (W0 : World) (p pd gA : Nat) (ab : Option Nat) (s : LS) (w w' : World) : Prop := LW W0 p pd gA ab s w' ∧ Stay w w'
/-- what a call's methods are lent. -/
def turnV (pd gA : Nat) : Value := .agg #[.pointer (some ⟨pd, 0, none⟩), .func (.func 27) #[] #[.pointer (some ⟨gA, 0, none⟩)]]
theorem sizeTurn : (Try.prog.info? 60).map (·.size) = some 2 := by kernel_rfl
end Go.Proofs.Ytgcpoanjjgbfjaa
