/-
  NeighWaits: what a run has seen, in memory.
-/
import Derived.Test.YtaaoelhmanahpaaNAns
namespace Go.Proofs.Ytaaoelhmanahpaa
open Go.RowKit
set_option linter.all false

def intOf6 : Value → Int | .int _ q => q | _ => 0
theorem nty {w : World} {b b' : Nat} {C C' : Array Value} {t t' : TypeId} {f f' : Nat × Nat} (h1 : w.heap[b]? = some (.cells C t f)) (h2 : w.heap[b']? = some (.cells C' t' f')) (ht : t ≠ t') : b ≠ b' := by
  rintro rfl
  rw [h1] at h2
  simp only [Option.some.injEq, Obj.cells.injEq] at h2
  exact ht h2.2.1
theorem nmp {w : World} {b b' : Nat} {C : Array Value} {t : TypeId} {f : Nat × Nat} {es : Array MapEntry} {n : Nat} (h1 : w.heap[b]? = some (.cells C t f)) (h2 : w.heap[b']? = some (.map es n)) : b ≠ b' := by
  rintro rfl
  rw [h1] at h2
  simp at h2
theorem Row.objY {w : World} {e : TypeId} {v : Value} {vs : List Value} (h : Row w e v vs) {g : Nat} (hg : v.ownBlock = some g) : ∃ cur f, w.heap[g]? = some (.cells cur e f) := by
  rcases h with ⟨rfl, _⟩ | ⟨g', cap, cur, lo, hi, rfl, h1, _⟩
  · simp [Value.ownBlock] at hg
  · simp [Value.ownBlock] at hg; subst hg; exact ⟨_, _, h1⟩
theorem rowS_ne {w : World} {e t : TypeId} {sz n : Nat} {v : Value} {xs : List Value} {k : Nat} {C : Array Value} {f : Nat × Nat} (h : RowS w e sz v n xs) (hk : w.heap[k]? = some (.cells C t f)) (hne : e ≠ t) : ∀ b, v.ownBlock = some b → b ≠ k := fun b hb => by
  obtain ⟨cur, hc⟩ := h.obj hb
  exact nty hc hk hne
/-- what waits: its number, its address, how many questions have gone out. -/
structure W3 where
  n : Int
  ip : Int
  q : Int
/-- a station that was told. -/
structure Tl where
  ip : Int
  mac : Mac
def w3C (x : W3) : Array Value := #[.int .i64 x.n, .int .u32 x.ip, .int .i64 x.q]
def tlC (x : Tl) : Array Value := #[.int .u32 x.ip, .int .u8 x.mac.b0, .int .u8 x.mac.b1, .int .u8 x.mac.b2, .int .u8 x.mac.b3, .int .u8 x.mac.b4, .int .u8 x.mac.b5]
def w3s (l : List W3) : List Value := l.flatMap fun x => (w3C x).toList
def tls (l : List Tl) : List Value := l.flatMap fun x => (tlC x).toList
theorem flatG {α : Type} (f : α → List Value) (sz : Nat) (hf : ∀ x, (f x).length = sz) : ∀ (l : List α) (k j : Nat) (y : α), l[k]? = some y → j < sz → (l.flatMap f)[k * sz + j]? = (f y)[j]?
  | [], k, j, y, h, _ => by simp at h
  | x :: l, 0, j, y, h, hj => by
    simp at h; subst h
    simp only [List.flatMap_cons, Nat.zero_mul, Nat.zero_add]
    rw [List.getElem?_append_left (by rw [hf]; exact hj)]
  | x :: l, k + 1, j, y, h, hj => by
    simp at h
    have ih := flatG f sz hf l k j y h hj
    simp only [List.flatMap_cons]
    rw [List.getElem?_append_right (by rw [hf, Nat.add_mul]; omega), hf, show (k + 1) * sz + j - sz = k * sz + j from by rw [Nat.add_mul]; omega]
    exact ih
theorem flatL {α : Type} (f : α → List Value) (sz : Nat) (hf : ∀ x, (f x).length = sz) : ∀ l : List α, (l.flatMap f).length = l.length * sz
  | [] => by simp
  | x :: l => by
    rw [List.flatMap_cons, List.length_append, flatL f sz hf l, hf, List.length_cons, Nat.add_mul]; omega
theorem w3s_get {l : List W3} {k : Nat} {y : W3} (h : l[k]? = some y) {j : Nat} (hj : j < 3) : (w3s l)[k * 3 + j]? = (w3C y)[j]? := by
  rw [← Array.getElem?_toList]; exact flatG _ 3 (fun _ => rfl) l k j y h hj
theorem tls_get {l : List Tl} {k : Nat} {y : Tl} (h : l[k]? = some y) {j : Nat} (hj : j < 7) : (tls l)[k * 7 + j]? = (tlC y)[j]? := by
  rw [← Array.getElem?_toList]; exact flatG _ 7 (fun _ => rfl) l k j y h hj
theorem sds_get {l : List (Sd × Value)} {k : Nat} {p : Sd × Value} (h : l[k]? = some p) {j : Nat} (hj : j < 8) : (sdCells l)[k * 8 + j]? = (p.1.cells p.2)[j]? := by
  rw [← Array.getElem?_toList]; exact flatG _ 8 (fun _ => rfl) l k j p h hj
theorem w3s_len (l : List W3) : (w3s l).length = l.length * 3 := flatL _ 3 (fun _ => rfl) l
theorem tls_len (l : List Tl) : (tls l).length = l.length * 7 := flatL _ 7 (fun _ => rfl) l
theorem w3s_snoc (l : List W3) (y : W3) : w3s (l ++ [y]) = w3s l ++ (w3C y).toList := by simp [w3s]
theorem tls_snoc (l : List Tl) (y : Tl) : tls (l ++ [y]) = tls l ++ (tlC y).toList := by simp [tls]
theorem RowS.at0 {w : World} {e : TypeId} {sz : Nat} {a : Option Addr} {n cp : Nat} {xs : List Value} (h : RowS w e sz (.slice a n cp) n xs) (h0 : 0 < n) : ∃ g, a = some ⟨g, 0, none⟩ ∧ ∀ (j : Nat) (u : Value), xs[j]? = some u → w.cell? ⟨g, j, none⟩ = some u := by
  obtain ⟨g, cap, h1, h2, h3⟩ := h.some_of h0
  simp only [Value.slice.injEq] at h1
  obtain ⟨rfl, _, rfl⟩ := h1
  exact ⟨g, rfl, fun j u hj => RowS.cell h hj⟩
/-! ### rows that are being made -/
structure RowB (e : TypeId) (sz : Nat) (w wr : World) (a : Option Addr) (n cp : Nat) (xs : List Value) : Prop where
  row : RowS wr e sz (.slice a n cp) n xs
  new : ∀ b, (Value.slice a n cp).ownBlock = some b → w.heap.size ≤ b
  below : Below w.heap.size w wr
theorem RowB.void (e : TypeId) (sz : Nat) (w : World) : RowB e sz w w none 0 0 [] := ⟨RowS.nil _ _ _, by simp [Value.ownBlock], Below.refl _ _⟩
theorem RowB.bel {e : TypeId} {sz : Nat} {w wr wx : World} {a : Option Addr} {n cp : Nat} {xs : List Value} (h : RowB e sz w wr a n cp xs) (hb : Below wr.heap.size wr wx) : RowB e sz w wx a n cp xs :=
  ⟨h.row.below hb, h.new, bstep h.below hb⟩
theorem RowB.one (t e : TypeId) (z : Value) (sz bytes : Nat) (ht : Try.prog.underlying t = some (.slice e)) (hinfo : (Try.prog.info? e).map (fun i => (i.zero, i.size, i.bytes)) = some (some z, sz, bytes)) (hzc : z.cells.size = sz) (hsz : 0 < sz)
    {w wr w5 : World} {a : Option Addr} {n cp : Nat} {xs : List Value} (h : RowB e sz w wr a n cp xs) (hb : Below wr.heap.size wr w5) (C : Array Value) (hC : C.size = sz) (h1 : ∀ u ∈ C.toList, u.oneCell' = true) (hl : n + 1 ≤ maxLen) (hby : (n + 1) * bytes ≤ 140737488355328) :
    ∃ a' cp' w7, (Builtin.append_ #[t, t] t #[.slice a n cp, .slice (some ⟨w5.heap.size, 0, none⟩) 1 1]).run Try.prog (w5.alloc (.cells C e)) = .ok (.slice a' (n + 1) cp') w7 ∧ Hid (RowB e sz w w7 a' (n + 1) cp' (xs ++ C.toList)) := by
  have hbp := bpush (Below.refl w5.heap.size w5) (.cells C e)
  have hbW := bstep hb hbp
  have rW := h.row.below hbW
  have hnew : (w5.alloc (.cells C e)).heap[w5.heap.size]? = some (.cells C e (0, 0)) := heap_new _ _
  obtain ⟨v', w7, hrun, hrow, hgr, hloc⟩ := append_s t t e z sz bytes ht hinfo hzc hsz rW ⟨w5.heap.size, 0, none⟩ 1 1 C.toList (by simp [hC])
    (fun j u hj => by
      rw [show (⟨w5.heap.size, 0, none⟩ : Addr).add j = ⟨w5.heap.size, j, none⟩ from by unfold Addr.add; split <;> simp_all, cell_of_heap hnew, ← Array.getElem?_toList]
      exact hj)
    h1 hl hby
  obtain ⟨a', cp', hv', _⟩ := hrow.form
  subst hv'
  have hsz : wr.heap.size ≤ w5.heap.size := hb.size
  have h1sz : w.heap.size ≤ wr.heap.size := h.below.size
  have keepT : ∀ b, b < (w5.alloc (.cells C e)).heap.size → (Value.slice a n cp).ownBlock ≠ some b → w7.heap[b]? = (w5.alloc (.cells C e)).heap[b]? := fun b hlt hne => hgr.block b hlt (fun e => hne (by simpa using e.symm))
  have hb1 : Below w.heap.size w (w5.alloc (.cells C e)) := bstep h.below hbW
  refine ⟨a', cp', w7, hrun, ⟨hrow, fun b hb' => ?_, ?_⟩⟩
  · rcases hloc b (by cases a' <;> simpa [Value.ownBlock] using hb') with h2 | h2
    · exact h.new b (by cases a <;> simpa [Value.ownBlock] using h2)
    · simp at h2; omega
  · exact ⟨hgr.os.trans hb1.os, hgr.tape.trans hb1.tape, hgr.output.trans hb1.output, Nat.le_trans hb1.size hgr.size, fun i hl' => (keepT i (Nat.lt_of_lt_of_le hl' hb1.size) (fun e => by have := h.new i e; omega)).trans (hb1.block i hl')⟩
theorem infoW3 : (Try.prog.info? 57).map (fun i => (i.zero, i.size, i.bytes)) = some (some (.agg #[.int .i64 0, .int .u32 0, .int .i64 0]), 3, 24) := by kernel_rfl
theorem infoTl : (Try.prog.info? 96).map (fun i => (i.zero, i.size, i.bytes)) = some (some (.agg #[.int .u32 0, .int .u8 0, .int .u8 0, .int .u8 0, .int .u8 0, .int .u8 0, .int .u8 0]), 7, 12) := by kernel_rfl
theorem RowB.w3 {w wr w5 : World} {a : Option Addr} {n cp : Nat} {l : List W3} (h : RowB 57 3 w wr a n cp (w3s l)) (hb : Below wr.heap.size wr w5) (y : W3) (hl : n ≤ 1000) :
    ∃ a' cp' w7, (Builtin.append_ #[47, 47] 47 #[.slice a n cp, .slice (some ⟨w5.heap.size, 0, none⟩) 1 1]).run Try.prog (w5.alloc (.cells #[.int .i64 y.n, .int .u32 y.ip, .int .i64 y.q] 57)) = .ok (.slice a' (n + 1) cp') w7 ∧ Hid (RowB 57 3 w w7 a' (n + 1) cp' (w3s (l ++ [y]))) := by
  rw [w3s_snoc]
  exact RowB.one 47 57 _ 3 24 Try.underlying47 infoW3 rfl (by omega) h hb (w3C y) rfl (fun u hu => by simp [w3C] at hu; rcases hu with rfl | rfl | rfl <;> rfl) (by unfold maxLen; omega) (by omega)
theorem RowB.tl {w wr w5 : World} {a : Option Addr} {n cp : Nat} {l : List Tl} (h : RowB 96 7 w wr a n cp (tls l)) (hb : Below wr.heap.size wr w5) (y : Tl) (hl : n ≤ 2199023255552) :
    ∃ a' cp' w7, (Builtin.append_ #[48, 48] 48 #[.slice a n cp, .slice (some ⟨w5.heap.size, 0, none⟩) 1 1]).run Try.prog (w5.alloc (.cells #[.int .u32 y.ip, .int .u8 y.mac.b0, .int .u8 y.mac.b1, .int .u8 y.mac.b2, .int .u8 y.mac.b3, .int .u8 y.mac.b4, .int .u8 y.mac.b5] 96)) = .ok (.slice a' (n + 1) cp') w7 ∧ Hid (RowB 96 7 w w7 a' (n + 1) cp' (tls (l ++ [y]))) := by
  rw [tls_snoc]
  exact RowB.one 48 96 _ 7 12 Try.underlying48 infoTl rfl (by omega) h hb (tlC y) rfl (fun u hu => by simp [tlC] at hu; rcases hu with rfl | rfl | rfl | rfl | rfl | rfl | rfl <;> rfl) (by unfold maxLen; omega) (by omega)
/-! ### what a run has seen -/
structure SeW (B : Nat) (w : World) (gs : Nat) (al : Option Addr) (cl : Nat) (am : Option Addr) (cm : Nat) (ls : List W3) (ms : List Tl) : Prop where
  box : w.heap[gs]? = some (.cells #[.slice al ls.length cl, .slice am ms.length cm] 50 (0, 0))
  l : RowS w 57 3 (.slice al ls.length cl) ls.length (w3s ls)
  m : RowS w 96 7 (.slice am ms.length cm) ms.length (tls ms)
  lo : B ≤ gs
  lol : ∀ b, (Value.slice al ls.length cl).ownBlock = some b → B ≤ b
  lom : ∀ b, (Value.slice am ms.length cm).ownBlock = some b → B ≤ b
def Se (B : Nat) (w : World) (gs : Nat) (ls : List W3) (ms : List Tl) : Prop := ∃ al cl am cm, SeW B w gs al cl am cm ls ms
/-- what is none of it stays. -/
structure Sk (B : Nat) (w w' : World) : Prop where
  os : w'.os = w.os
  tape : w'.tape = w.tape
  output : w'.output = w.output
  size : w.heap.size ≤ w'.heap.size
  low : ∀ b, b < B → b < w.heap.size → w'.heap[b]? = w.heap[b]?
  typ : ∀ (b : Nat) (C : Array Value) (t : TypeId) (f : Nat × Nat), w.heap[b]? = some (.cells C t f) → t ≠ 50 → t ≠ 57 → t ≠ 96 → w'.heap[b]? = some (.cells C t f)
  map : ∀ (b : Nat) (es : Array MapEntry) (n : Nat), w.heap[b]? = some (.map es n) → w'.heap[b]? = some (.map es n)
section
variable {B : Nat} {w w' w'' : World} {gs : Nat} {al am : Option Addr} {cl cm : Nat} {ls : List W3} {ms : List Tl}
theorem Sk.refl (B : Nat) (w : World) : Sk B w w := ⟨rfl, rfl, rfl, Nat.le_refl _, fun _ _ _ => rfl, fun _ _ _ _ h _ _ _ => h, fun _ _ _ h => h⟩
theorem Sk.of_below (hb : Below w.heap.size w w') : Sk B w w' := ⟨hb.os, hb.tape, hb.output, hb.size, fun b _ h => hb.block b h, fun b C t f h _ _ _ => kept h hb, fun b es n h => kept h hb⟩
theorem Sk.trans (h : Sk B w w') (k : Sk B w' w'') : Sk B w w'' := ⟨k.os.trans h.os, k.tape.trans h.tape, k.output.trans h.output, Nat.le_trans h.size k.size, fun b hb hl => (k.low b hb (Nat.lt_of_lt_of_le hl h.size)).trans (h.low b hb hl), fun b C t f h1 h2 h3 h4 => k.typ b C t f (h.typ b C t f h1 h2 h3 h4) h2 h3 h4, fun b es n h1 => k.map b es n (h.map b es n h1)⟩
theorem Sk.below {w0 : World} (h : Sk w0.heap.size w w') (hb : Below w0.heap.size w0 w) : Below w0.heap.size w0 w' := hb.trans ⟨h.os, h.tape, h.output, h.size, fun b hl => h.low b hl (Nat.lt_of_lt_of_le hl hb.size)⟩
/-- a block of it turns. -/
theorem Sk.of_but {g : Nat} {C : Array Value} {t : TypeId} {f : Nat × Nat} (hg : w.heap[g]? = some (.cells C t f)) (ht : t = 50 ∨ t = 57 ∨ t = 96) (hl : B ≤ g) (hb : But g w w') : Sk B w w' :=
  ⟨hb.os, hb.tape, hb.output, hb.size, fun b h1 h2 => hb.block b (by omega) h2, fun b C' t' f' h h1 h2 h3 => keptBut h hb (nty h hg (by rcases ht with rfl | rfl | rfl <;> assumption)), fun b es n h => keptBut h hb (Ne.symm (nmp hg h))⟩
theorem Sk.ca {c m : Nat} {S : St} {V : Int → Value} (h : Sk B w w') (x : CaW w c m S V) : CaW w' c m S V := by
  obtain ⟨es, clock, hm, _⟩ := x.map
  refine x.keep ((h.typ _ _ _ _ x.box (by decide) (by decide) (by decide)).trans x.box.symm) ((h.map _ _ _ hm).trans hm.symm) fun y hy b hb => ?_
  obtain ⟨cur, f, hc⟩ := (x.rows y hy).objY hb
  exact (h.typ _ _ _ _ hc (by decide) (by decide) (by decide)).trans hc.symm
theorem Sk.outs {v : Value} {l : List (Sd × Value)} (h : Sk B w w') (o : Outs w v l) : Outs w' v l := by
  refine o.keep (fun b hb => ?_) (fun p hp b hb => ?_)
  · obtain ⟨cur, hc⟩ := o.row.obj hb
    exact (h.typ _ _ _ _ hc (by decide) (by decide) (by decide)).trans hc.symm
  · obtain ⟨cur, f, hc⟩ := (o.dat p hp).objY hb
    exact (h.typ _ _ _ _ hc (by decide) (by decide) (by decide)).trans hc.symm
theorem SeW.keep (x : SeW B w gs al cl am cm ls ms) (h1 : w'.heap[gs]? = w.heap[gs]?) (h2 : ∀ b, (Value.slice al ls.length cl).ownBlock = some b → w'.heap[b]? = w.heap[b]?) (h3 : ∀ b, (Value.slice am ms.length cm).ownBlock = some b → w'.heap[b]? = w.heap[b]?) : SeW B w' gs al cl am cm ls ms :=
  { x with box := h1.trans x.box, l := x.l.keep h2, m := x.m.keep h3 }
theorem SeW.below (x : SeW B w gs al cl am cm ls ms) (hb : Below w.heap.size w w') : SeW B w' gs al cl am cm ls ms := x.keep (hb.block _ (heap_lt x.box)) (fun b h => hb.block b (x.l.lt h)) (fun b h => hb.block b (x.m.lt h))
theorem Se.below (x : Se B w gs ls ms) (hb : Below w.heap.size w w') : Se B w' gs ls ms := by
  obtain ⟨al, cl, am, cm, x⟩ := x
  exact ⟨al, cl, am, cm, x.below hb⟩
theorem Se.size (x : Se B w gs ls ms) : B ≤ w.heap.size := by
  obtain ⟨al, cl, am, cm, x⟩ := x
  have := heap_lt x.box
  have := x.lo
  omega
/-- the cache turns. -/
theorem Se.two {c m : Nat} {S : St} {V : Int → Value} (x : Se B w gs ls ms) (y : CaW w c m S V) (h : Two c m w w') : Se B w' gs ls ms := by
  obtain ⟨al, cl, am, cm, x⟩ := x
  obtain ⟨es, clock, hm, _⟩ := y.map
  have key : ∀ {b : Nat} {C : Array Value} {t : TypeId} {f : Nat × Nat}, w.heap[b]? = some (.cells C t f) → t ≠ 76 → w'.heap[b]? = w.heap[b]? := fun hb ht => h.block _ (nty hb y.box ht) (nmp hb hm) (heap_lt hb)
  refine ⟨al, cl, am, cm, x.keep (key x.box (by decide)) (fun b hb => ?_) (fun b hb => ?_)⟩
  · obtain ⟨cur, hc⟩ := x.l.obj hb
    exact key hc (by decide)
  · obtain ⟨cur, hc⟩ := x.m.obj hb
    exact key hc (by decide)
/-- another row takes the place of what waits. -/
theorem SeW.setl {w0 : World} {a' : Option Addr} {n cp' : Nat} {l' : List W3} (x : SeW B w0 gs al cl am cm ls ms) (hl' : n = l'.length) (h : RowB 57 3 w0 w a' n cp' (w3s l')) : Se B (w.setCell ⟨gs, 0, none⟩ (.slice a' n cp')) gs l' ms ∧ Sk B w0 (w.setCell ⟨gs, 0, none⟩ (.slice a' n cp')) := by
  subst hl'
  have y := x.below h.below
  have hb : But gs w (w.setCell ⟨gs, 0, none⟩ (.slice a' l'.length cp')) := But.setCell _ _ _ _
  have hz : B ≤ w0.heap.size := Se.size ⟨al, cl, am, cm, x⟩
  refine ⟨⟨a', cp', am, cm, ?_, ?_, ?_, x.lo, fun b hb' => Nat.le_trans hz (h.new b hb'), x.lom⟩, (Sk.of_below h.below).trans (Sk.of_but y.box (Or.inl rfl) x.lo hb)⟩
  · rw [heap_setCell y.box]; rfl
  · exact h.row.keep fun b hb' => hb.block b (rowS_ne h.row y.box (by decide) b hb') (h.row.lt hb')
  · exact y.m.keep fun b hb' => hb.block b (rowS_ne y.m y.box (by decide) b hb') (y.m.lt hb')
theorem SeW.setm {w0 : World} {a' : Option Addr} {n cp' : Nat} {m' : List Tl} (x : SeW B w0 gs al cl am cm ls ms) (hl' : n = m'.length) (h : RowB 96 7 w0 w a' n cp' (tls m')) : Se B (w.setCell ⟨gs, 1, none⟩ (.slice a' n cp')) gs ls m' ∧ Sk B w0 (w.setCell ⟨gs, 1, none⟩ (.slice a' n cp')) := by
  subst hl'
  have y := x.below h.below
  have hb : But gs w (w.setCell ⟨gs, 1, none⟩ (.slice a' m'.length cp')) := But.setCell _ _ _ _
  have hz : B ≤ w0.heap.size := Se.size ⟨al, cl, am, cm, x⟩
  refine ⟨⟨al, cl, a', cp', ?_, ?_, ?_, x.lo, x.lol, fun b hb' => Nat.le_trans hz (h.new b hb')⟩, (Sk.of_below h.below).trans (Sk.of_but y.box (Or.inl rfl) x.lo hb)⟩
  · rw [heap_setCell y.box]; rfl
  · exact y.l.keep fun b hb' => hb.block b (rowS_ne y.l y.box (by decide) b hb') (y.l.lt hb')
  · exact h.row.keep fun b hb' => hb.block b (rowS_ne h.row y.box (by decide) b hb') (h.row.lt hb')
theorem SeW.ent (x : SeW B w gs al cl am cm ls ms) {k : Nat} {y : W3} (hy : ls[k]? = some y) : ∃ g, al = some ⟨g, 0, none⟩ ∧ w.cell? ⟨g, k * 3, none⟩ = some (.int .i64 y.n) ∧ w.cell? ⟨g, k * 3 + 1, none⟩ = some (.int .u32 y.ip) ∧ w.cell? ⟨g, k * 3 + 2, none⟩ = some (.int .i64 y.q) := by
  have hk := (List.getElem?_eq_some_iff.1 hy).1
  obtain ⟨g, e, hc⟩ := x.l.at0 (by omega)
  exact ⟨g, e, hc _ _ (w3s_get hy (j := 0) (by omega)), hc _ _ (w3s_get hy (j := 1) (by omega)), hc _ _ (w3s_get hy (j := 2) (by omega))⟩
theorem SeW.tent (x : SeW B w gs al cl am cm ls ms) {k : Nat} {y : Tl} (hy : ms[k]? = some y) : ∃ g, am = some ⟨g, 0, none⟩ ∧ w.cell? ⟨g, k * 7, none⟩ = some (.int .u32 y.ip) ∧ w.cell? ⟨g, k * 7 + 1, none⟩ = some (.int .u8 y.mac.b0) ∧ w.cell? ⟨g, k * 7 + 2, none⟩ = some (.int .u8 y.mac.b1) ∧ w.cell? ⟨g, k * 7 + 3, none⟩ = some (.int .u8 y.mac.b2) ∧ w.cell? ⟨g, k * 7 + 4, none⟩ = some (.int .u8 y.mac.b3) ∧ w.cell? ⟨g, k * 7 + 5, none⟩ = some (.int .u8 y.mac.b4) ∧ w.cell? ⟨g, k * 7 + 6, none⟩ = some (.int .u8 y.mac.b5) := by
  have hk := (List.getElem?_eq_some_iff.1 hy).1
  obtain ⟨g, e, hc⟩ := x.m.at0 (by omega)
  exact ⟨g, e, hc _ _ (tls_get hy (j := 0) (by omega)), hc _ _ (tls_get hy (j := 1) (by omega)), hc _ _ (tls_get hy (j := 2) (by omega)), hc _ _ (tls_get hy (j := 3) (by omega)), hc _ _ (tls_get hy (j := 4) (by omega)), hc _ _ (tls_get hy (j := 5) (by omega)), hc _ _ (tls_get hy (j := 6) (by omega))⟩
theorem SeW.c0 (x : SeW B w gs al cl am cm ls ms) : w.cell? ⟨gs, 0, none⟩ = some (.slice al ls.length cl) := by rw [cell_of_heap x.box]; rfl
theorem SeW.c1 (x : SeW B w gs al cl am cm ls ms) : w.cell? ⟨gs, 1, none⟩ = some (.slice am ms.length cm) := by rw [cell_of_heap x.box]; rfl
end
end Go.Proofs.Ytaaoelhmanahpaa
