/-
  A script of calls that came in.
-/
import Derived.Test.YtdfefhiajleejaaDiOpen
import Derived.Test.YtdfefhiajleejaaBUpto
namespace Go.Proofs.Ytdfefhiajleejaa
open Go.ChangeShapes Go.WideShapes Go.ChangeAt Go.RowKit Go.Deep
set_option linter.all false
theorem cells_int : Try.prog.cellsOf 3 = 1 := by kernel_rfl
theorem cells_words : Try.prog.cellsOf 22 = 1 := by kernel_rfl
theorem cells_op : Try.prog.cellsOf 34 = 6 := by kernel_rfl
/-- a call of a script. -/
structure OpU where
  k : Int
  on : Int
  x : Int
  y : Int
  t : Int
  a : Option Addr
  c : Nat
  ds : List Int
def OpU.nil : OpU := ⟨0, 0, 0, 0, 0, none, 0, []⟩
def OpU.cells (q : OpU) : List Value := [.int .i64 q.k, .int .i64 q.on, .int .i64 q.x, .int .i64 q.y, .int .i64 q.t, .slice q.a q.ds.length q.c]
structure OpU.ok (w : World) (q : OpU) : Prop where
  x : -9223372036854775808 ≤ q.x ∧ q.x ≤ 9223372036854775807
  y : -9223372036854775808 ≤ q.y ∧ q.y ≤ 9223372036854775807
  t : -9223372036854775808 ≤ q.t ∧ q.t ≤ 9223372036854775807
  part : PartU w q.a q.c q.ds
def OpsAt (w : World) (a : Option Addr) (xs : List OpU) : Prop :=
  ∀ j, j < xs.length → ∃ b o, a = some ⟨b, o, none⟩ ∧ (∀ i u, (xs.getD j OpU.nil).cells[i]? = some u → w.cell? ⟨b, o + j * 6 + i, none⟩ = some u) ∧ (xs.getD j OpU.nil).ok w
/-- how many draws a script hands in. -/
def total (xs : List OpU) : Nat := (xs.map (fun q => q.ds.length)).sum
theorem total_cons (q : OpU) (r : List OpU) : total (q :: r) = q.ds.length + total r := by simp [total]
theorem total_step (xs : List OpU) (k : Nat) (h : k < xs.length) : total (xs.take (k + 1)) = total (xs.take k) + (xs.getD k OpU.nil).ds.length ∧ total (xs.take (k + 1)) ≤ total xs := by
  constructor
  · rw [List.take_succ_eq_append_getElem h]
    have e1 : (xs.getD k OpU.nil) = xs[k] := by simp [List.getD_eq_getElem?_getD, h]
    rw [e1]
    simp only [total, List.map_append, List.sum_append_nat, List.map_cons, List.map_nil, List.sum_cons, List.sum_nil, Nat.add_zero]
  · have e : total xs = total (xs.take (k + 1)) + total (xs.drop (k + 1)) := by
      conv => lhs; rw [← List.take_append_drop (k + 1) xs]
      simp only [total, List.map_append, List.sum_append_nat]
    omega
section
variable {H : Type} {enc : TypeId × Value → H} {W W' : World}
theorem op_cells {sp : Nat → Bool} {m : Nat} {cs : List Value} {y : DataW H × List MemPlace} (hs : ∀ b, sp b = true) (h : DataW.trod enc Try.prog W 0 sp true m 34 cs = some y) (hl6 : cs.length = 6) :
    ∃ q : OpU, cs = q.cells ∧ q.ok W ∧ q.ds.length + 1 ≤ Rows.uptoBulk y.1 := by
  obtain ⟨xs, n, _, hd, hl, hlen, hel⟩ := DataW.trod_struct Try.underlying34 h
  match cs, hl6, xs, hlen with
  | [c0, c1, c2, c3, c4, c5], _, [x0, x1, x2, x3, x4, x5], _ =>
    have f0 := hel 0
    have f1 := hel 1
    have f2 := hel 2
    have f3 := hel 3
    have f4 := hel 4
    have f5 := hel 5
    simp [cells_int, Value.cells] at f0
    simp [cells_int, Value.cells] at f1
    simp [cells_int, Value.cells] at f2
    simp [cells_int, Value.cells] at f3
    simp [cells_int, Value.cells] at f4
    simp [cells_words, cells_int, Value.cells] at f5
    obtain ⟨k, rfl, bk⟩ := int_cell f0 rfl
    obtain ⟨on, rfl, bo⟩ := int_cell f1 rfl
    obtain ⟨p, rfl, bp⟩ := int_cell f2 rfl
    obtain ⟨q, rfl, bq⟩ := int_cell f3 rfl
    obtain ⟨t, rfl, bt⟩ := int_cell f4 rfl
    obtain ⟨a, c, zs, rfl, okp, hx⟩ := words_cell hs f5 rfl
    refine ⟨⟨k, on, p, q, t, a, c, zs⟩, rfl, ⟨bp, bq, bt, okp⟩, ?_⟩
    have h1 := upto_lits hx
    rw [hd]
    simp only [List.map_cons, List.map_nil, Rows.uptoBulk, Rows.uptoBulkAll]
    have h2 : zs.length ≤ Rows.uptoBulk x5.fst := h1
    show zs.length + 1 ≤ _
    omega
theorem bulk_ge : ∀ (elems : List (DataW H)) (xs : List OpU), elems.length = xs.length → (∀ (i : Nat) (y : DataW H) (q : OpU), elems[i]? = some y → xs[i]? = some q → q.ds.length + 1 ≤ Rows.uptoBulk y) → total xs + xs.length ≤ Rows.uptoBulkAll elems
  | [], [], _, _ => by simp [total]
  | y :: r, q :: s, hl, h => by
    have h1 := h 0 y q rfl rfl
    have h2 := bulk_ge r s (by simpa using hl) (fun i y' q' hy hq => h (i + 1) y' q' (by simpa using hy) (by simpa using hq))
    rw [total_cons]
    simp only [Rows.uptoBulkAll, List.length_cons]
    omega
  | [], q :: s, hl, _ => by simp at hl
  | y :: r, [], hl, _ => by simp at hl
set_option maxRecDepth 20000 in
theorem open_ops {base : Nat} {sp : Nat → Bool} {v : Value} {d : DataW H} {p : List MemPlace} (hs : ∀ b, sp b = true) (hv : Value.okWide Try.prog W .any base 23 v) (h : DataW.Trod enc Try.prog W 0 sp true 23 v d p) :
    ∃ (xs : List OpU) (a : Option Addr) (c : Nat), v = .slice a xs.length c ∧ OpsAt W a xs ∧ total xs + xs.length ≤ Rows.uptoBulk d := by
  obtain ⟨a, len, cap, rfl⟩ := okWide_slice Try.underlying23 hv
  obtain ⟨fuel, hf⟩ := h
  rcases open_slice Try.underlying23 hf with ⟨hcs, hx⟩ | ⟨x, l, c, m, n, D, Pl, hcs, _, hl, hm, hmm, hx, hel⟩
  · simp [Value.cells] at hcs
    obtain ⟨rfl, rfl, rfl⟩ := hcs
    exact ⟨[], none, 0, rfl, fun j hj => by simp at hj, by simp [total]⟩
  · simp [Value.cells] at hcs
    obtain ⟨rfl, rfl, rfl⟩ := hcs
    rw [if_pos (hs _)] at hmm
    simp only [Prod.mk.injEq] at hx
    rw [cells_op] at hel
    have each : ∀ i, i < len → ∃ q : OpU, (∀ j u, q.cells[j]? = some u → W.cell? ((x.add (i * 6)).add j) = some u) ∧ q.ok W ∧ q.ds.length + 1 ≤ Rows.uptoBulk (D i) := fun i hi => by
      obtain ⟨cs', h1, h2⟩ := hel i (by omega)
      obtain ⟨_, h3, h4⟩ := World.cells?_some h1
      obtain ⟨q, e1, e2, e3⟩ := op_cells hs h2 h3
      refine ⟨q, fun j u hj => ?_, e2, e3⟩
      have hj6 : j < 6 := by have := (List.getElem?_eq_some_iff.1 hj).1; simpa [OpU.cells] using this
      rw [h4 j hj6, e1, hj]
    have inh : Inhabited OpU := ⟨OpU.nil⟩
    obtain ⟨f, hff⟩ := choose_lt each
    have hlen : ((List.range len).map f).length = len := by simp
    have hget : ∀ i, i < len → ((List.range len).map f).getD i OpU.nil = f i := fun i hi => by simp [List.getD_eq_getElem?_getD, hi]
    refine ⟨(List.range len).map f, some x, cap, by rw [hlen], fun i hi => ?_, ?_⟩
    · rw [hlen] at hi
      obtain ⟨b, off, spot⟩ := x
      have hspot : spot = none := by
        have := (hff 0 (by omega)).1 0 _ rfl
        simpa [Addr.add] using World.cell?_spot this
      subst hspot
      rw [hget i hi]
      have ad : ∀ j, ((⟨b, off, none⟩ : Addr).add (i * 6)).add j = ⟨b, off + i * 6 + j, none⟩ := fun j => by
        rw [show (⟨b, off, none⟩ : Addr).add (i * 6) = ⟨b, off + i * 6, none⟩ from by unfold Addr.add; split <;> simp_all]
        unfold Addr.add; split <;> simp_all
      refine ⟨b, off, rfl, fun j u hj => ?_, (hff i hi).2.1⟩
      have := (hff i hi).1 j u hj
      rw [ad] at this
      exact this
    · rw [hx.1]
      simp only [Rows.uptoBulk]
      have := bulk_ge ((List.range len).map D) ((List.range len).map f) (by simp) (fun i y q hy hq => by
        have hil : i < len := by have := (List.getElem?_eq_some_iff.1 hy).1; simpa using this
        simp [hil] at hy hq
        subst hy hq
        exact (hff i hil).2.2)
      omega
end
end Go.Proofs.Ytdfefhiajleejaa
