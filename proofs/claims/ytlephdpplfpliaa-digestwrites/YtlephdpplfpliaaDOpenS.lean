/-
  A list of slices of bytes that came in; how what came in reads as before behind a call that wrote nothing that was there.
-/
import Derived.Test.YtlephdpplfpliaaDNew
import Derived.Test.YtlephdpplfpliaaDEq
import Derived.ProofKit
import Derived.OpenShut
import Derived.SizedLaws
import Derived.Carry
import Derived.ChangeOld
import Derived.Deep.Slices
namespace Go.Proofs.Ytlephdpplfpliaa
open Go.ChangeShapes Go.WideShapes Go.ChangeAt Go.RowKit Go.Deep
set_option linter.all false

theorem own : ownKnob Try.prog.godebug = none := by kernel_rfl
theorem laidOut : laidOutB Try.prog = true := by kernel_rfl
section
variable {H : Type} {enc : TypeId × Value → H} {W W' : World}
theorem trodAll_below : ∀ {ts : List TypeId} {vs : List Value} {ds : List (DataW H)} {ps : List MemPlace}, (∀ t, t ∈ ts → Try.prog.readableRec t = true ∧ t < Try.prog.types.size) →
    DataW.TrodAll enc Try.prog W 0 (fun _ => true) true ts vs ds ps → Below W.heap.size W W' → (∀ x, x ∈ ps → x.block < W.heap.size) →
    DataW.TrodAll enc Try.prog W' 0 (fun b => decide (b < W.heap.size)) true ts vs ds ps
  | [], vs, ds, ps, _, h, _, _ => by
    cases vs <;> cases ds <;> simp [DataW.TrodAll] at h ⊢
    exact h
  | t :: ts, vs, ds, ps, hr, h, hb, hlt => by
    obtain ⟨v, vs', d, ds', p, q, rfl, rfl, rfl, h0, h1⟩ := trodAll_cons h
    exact trodAll_cons_mk (Below.trod laidOut (hr t (by simp)).1 (hr t (by simp)).2 h0 hb (fun x hx => hlt x (by simp [hx])))
      (trodAll_below (fun u hu => hr u (by simp [hu])) h1 hb (fun x hx => hlt x (by simp [hx])))
theorem reach_is : reachBytes = 140737488351232 := rfl
theorem bytesU8 : Try.prog.bytesOf 5 = 1 := by kernel_rfl
theorem cellsSl : Try.prog.cellsOf 37 = 1 := by kernel_rfl
theorem bytesSl : Try.prog.bytesOf 37 = 24 := by kernel_rfl

/-- one slice of bytes, by its reading alone. -/
theorem part_of_trod {sp : Nat → Bool} {n : Nat} {v : Value} {y : DataW H × List MemPlace} (hs : ∀ b, sp b = true) (hf : DataW.trod enc Try.prog W 0 sp true n 37 [v] = some y) :
    ∃ pt : Part, v = pt.val ∧ pt.ok W ∧ (y.1 = .nil ∧ pt.zs = [] ∨ ∃ spare, y.1 = .slice (lits .u8 pt.zs) spare) := by
  rcases open_ints Try.underlying37 Try.underlying5 cellsU8 hf with ⟨hcs, hx⟩ | ⟨x, l, c, zs, hcs, _, hl, hm, hz, hx, hcell, hwz⟩
  · simp only [List.cons.injEq, and_true] at hcs
    exact ⟨⟨none, 0, []⟩, hcs, ⟨by simp, by simp, Or.inl rfl⟩, Or.inl ⟨by rw [hx], rfl⟩⟩
  · simp only [List.cons.injEq, and_true] at hcs
    rw [if_pos (hs _)] at hz
    have hlen : (zs.take l).length = l := by simp; omega
    refine ⟨⟨some x, c, zs.take l⟩, by rw [hcs]; simp [Part.val, hlen], ⟨fun z hz' => ?_, by simp only [hlen]; omega, ?_⟩, Or.inr ⟨_, by rw [hx]⟩⟩
    · exact bounds_u8 (hwz z (List.mem_of_mem_take hz'))
    · by_cases h0 : l = 0
      · left; simp [h0]
      · right
        obtain ⟨b, off, spot⟩ := x
        have hc := hcell 0 (by omega)
        have hspot : spot = none := by simpa [Addr.add] using World.cell?_spot hc
        subst hspot
        refine ⟨b, off, rfl, fun j hj => ?_⟩
        have hj' : j < l := by simpa [hlen] using hj
        have := hcell j (by omega)
        rw [show (⟨b, off, none⟩ : Addr).add j = ⟨b, off + j, none⟩ from by unfold Addr.add; split <;> simp_all] at this
        rw [List.getD_eq_getElem?_getD, List.getElem?_take, if_pos hj', ← List.getD_eq_getElem?_getD]
        simpa using this

theorem open_bytess {base : Nat} {sp : Nat → Bool} {v : Value} {d : DataW H} {p : List MemPlace} (hs : ∀ b, sp b = true) (hv : Value.okWide Try.prog W .any base 22 v) (h : DataW.Trod enc Try.prog W 0 sp true 22 v d p) :
    ∃ (ps : List Part) (a : Option Addr) (c : Nat), v = .slice a ps.length c ∧ PartsAt W a ps ∧ (d = .nil ∧ ps = [] ∨ ∃ elems spare, d = .slice elems spare ∧ elems.length = ps.length ∧
      ∀ i, i < ps.length → ∃ y, y ∈ elems ∧ (y = .nil ∧ (ps.getD i Part.nil).zs = [] ∨ ∃ spare, y = .slice (lits .u8 (ps.getD i Part.nil).zs) spare)) := by
  obtain ⟨a, len, cap, rfl⟩ := okWide_slice Try.underlying22 hv
  obtain ⟨fuel, hf⟩ := h
  rcases open_slice1 Try.underlying22 cellsSl hf with ⟨hcs, hx⟩ | ⟨x, l, c, m, n, V, D, Pl, hcs, _, hl, hm, hmm, hx, hel⟩
  · simp [Value.cells] at hcs
    obtain ⟨rfl, rfl, rfl⟩ := hcs
    simp only [Prod.mk.injEq] at hx
    exact ⟨[], none, 0, rfl, ⟨by simp, by simp⟩, Or.inl ⟨hx.1, rfl⟩⟩
  · simp [Value.cells] at hcs
    obtain ⟨rfl, rfl, rfl⟩ := hcs
    rw [if_pos (hs _)] at hmm
    simp only [Prod.mk.injEq] at hx
    have each : ∀ i, i < len → ∃ pt : Part, V i = pt.val ∧ pt.ok W ∧ (D i = .nil ∧ pt.zs = [] ∨ ∃ spare, D i = .slice (lits .u8 pt.zs) spare) := fun i hi => part_of_trod hs (hel i (by omega)).2
    have inh : Inhabited Part := ⟨Part.nil⟩
    obtain ⟨f, hff⟩ := choose_lt each
    have hlen : ((List.range len).map f).length = len := by simp
    have hget : ∀ i, i < len → ((List.range len).map f).getD i Part.nil = f i := fun i hi => by simp [List.getD_eq_getElem?_getD, hi]
    refine ⟨(List.range len).map f, some x, cap, by rw [hlen], ⟨fun i hi => ?_, fun q hq => ?_⟩, Or.inr ⟨_, _, hx.1, by simp, fun i hi => ?_⟩⟩
    · rw [hlen] at hi
      obtain ⟨b, off, spot⟩ := x
      have h1 := (hel i (by omega)).1
      have hspot : spot = none := by simpa [Addr.add] using World.cell?_spot (hel 0 (by omega)).1
      subst hspot
      refine ⟨b, off, rfl, ?_⟩
      rw [hget i hi, ← (hff i hi).1, ← h1]
      congr 1
      unfold Addr.add; split <;> simp_all
    · obtain ⟨i, hi, rfl⟩ := List.mem_map.1 hq
      exact (hff i (by simpa using hi)).2.1
    · rw [hlen] at hi
      refine ⟨D i, List.mem_map.2 ⟨i, by simpa using hi, rfl⟩, ?_⟩
      rw [hget i hi]
      exact (hff i hi).2.2

theorem weightsAll_mem {P : Program} {e : TypeId} : ∀ {l : List (DataW H)} {d : DataW H}, d ∈ l → ∀ n, n ∈ d.weights P e → n ∈ DataW.weightsAll P e l
  | d' :: r, d, hd, n, hn => by
    simp only [DataW.weightsAll, List.mem_append]
    rcases List.mem_cons.1 hd with rfl | h
    · exact Or.inl hn
    · exact Or.inr (weightsAll_mem h n hn)

theorem bytess_sized {ts : List TypeId} {ds : List (DataW H)} {d : DataW H} {ps : List Part} (hsz : (DataW.weightsEach Try.prog ts ds).all (· ≤ reachBytes) = true) {j : Nat} (ht : ts[j]? = some 22) (hd : ds[j]? = some d)
    (h : d = .nil ∧ ps = [] ∨ ∃ elems spare, d = .slice elems spare ∧ elems.length = ps.length ∧
      ∀ i, i < ps.length → ∃ y, y ∈ elems ∧ (y = .nil ∧ (ps.getD i Part.nil).zs = [] ∨ ∃ spare, y = .slice (lits .u8 (ps.getD i Part.nil).zs) spare)) :
    ps.length * 24 ≤ 140737488351232 ∧ ∀ p, p ∈ ps → p.zs.length ≤ 140737488351232 := by
  rcases h with ⟨_, h⟩ | ⟨elems, spare, rfl, hl, he⟩
  · subst h; simp
  · have h1 := sized_slice hsz ht hd Try.underlying22
    rw [bytesSl, reach_is] at h1
    refine ⟨by rw [← hl]; omega, fun p hp => ?_⟩
    obtain ⟨i, hi, rfl⟩ := List.getElem_of_mem hp
    obtain ⟨y, hy, hyy⟩ := he i hi
    have hg : ps.getD i Part.nil = ps[i] := by simp [List.getD_eq_getElem?_getD, hi]
    rw [hg] at hyy
    rcases hyy with ⟨_, e⟩ | ⟨sp, rfl⟩
    · rw [e]; simp
    · have h2 : ((lits .u8 ps[i].zs : List (DataW H)).length + sp.length) * Try.prog.bytesOf 5 ≤ reachBytes := by
        refine of_decide_eq_true (List.all_eq_true.1 hsz _ (DataW.weights_mem_each ht hd _ ?_))
        simp only [DataW.weights, Try.underlying22, List.mem_cons, List.mem_append]
        exact Or.inr (Or.inl (weightsAll_mem hy _ (by simp [DataW.weights, Try.underlying37])))
      rw [bytesU8, reach_is] at h2
      simp [lits] at h2
      omega
end
end Go.Proofs.Ytlephdpplfpliaa
