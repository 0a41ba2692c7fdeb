/-
  Options, and parts, as they came in.
-/
import Derived.Test.YtmdkanbfpmdimaaBOpen
import Derived.Test.YtmdkanbfpmdimaaBUpto
import Derived.Test.YtmdkanbfpmdimaaOPar
namespace Go.Proofs.Ytmdkanbfpmdimaa
open Go.ChangeShapes Go.WideShapes Go.ChangeAt Go.RowKit Go.Deep
set_option linter.all false
theorem cells_int : Try.prog.cellsOf 3 = 1 := by kernel_rfl
theorem cells_bytes : Try.prog.cellsOf 41 = 1 := by kernel_rfl
theorem cells_opt : Try.prog.cellsOf 45 = 2 := by kernel_rfl
theorem bytes_opt : Try.prog.bytesOf 45 = 32 := by kernel_rfl
theorem bytes_sl : Try.prog.bytesOf 41 = 24 := by kernel_rfl
def OP.nil : OP := (0, Part.nil)
section
variable {H : Type} {enc : TypeId × Value → H} {W W' : World}
def BytD (y : DataW H) (zs : List Int) : Prop := y = .nil ∧ zs = [] ∨ ∃ spare, y = .slice (lits .u8 zs) spare
def OptD (y : DataW H) (q : OP) : Prop := ∃ x0 x1, y = .agg [x0, x1] ∧ BytD x1 q.2.zs
set_option maxRecDepth 20000 in
theorem opt_cells {sp : Nat → Bool} {m : Nat} {cs : List Value} {y : DataW H × List MemPlace} (hs : ∀ b, sp b = true) (h : DataW.trod enc Try.prog W 0 sp true m 45 cs = some y) (hl2 : cs.length = 2) :
    ∃ q : OP, cs = [.int .i64 q.1, q.2.val] ∧ (-9223372036854775808 ≤ q.1 ∧ q.1 ≤ 9223372036854775807) ∧ q.2.ok W ∧ OptD y.1 q := by
  obtain ⟨xs, n, _, hd, hl, hlen, hel⟩ := DataW.trod_struct Try.underlying45 h
  match cs, hl2, xs, hlen with
  | [c0, c1], _, [x0, x1], _ =>
    have f0 := hel 0
    have f1 := hel 1
    simp [cells_int, Value.cells] at f0
    simp [cells_bytes, cells_int, Value.cells] at f1
    obtain ⟨k, rfl, bk⟩ := int_cell f0 rfl
    obtain ⟨pt, rfl, okp, hx⟩ := bytes_cell hs f1 rfl
    exact ⟨(k, pt), rfl, bk, okp, x0.1, x1.1, by rw [hd]; rfl, hx⟩
def OptsD (d : DataW H) (os : List OP) : Prop := d = .nil ∧ os = [] ∨ ∃ elems spare, d = .slice elems spare ∧ elems.length = os.length ∧ ∀ i, i < os.length → ∃ y, y ∈ elems ∧ OptD y (os.getD i OP.nil)
/-- options that are only read, of any size. -/
structure OV0 (w : World) (a : Option Addr) (os : List OP) : Prop where
  cell : ∀ (i : Nat) o, os[i]? = some o → ∃ b off, a = some ⟨b, off, none⟩ ∧ w.cell? ⟨b, off + i * 2, none⟩ = some (.int .i64 o.1) ∧ w.cell? ⟨b, off + i * 2 + 1, none⟩ = some o.2.val
  oks : ∀ o ∈ os, o.2.ok w
  nums : ∀ o ∈ os, -9223372036854775808 ≤ o.1 ∧ o.1 ≤ 9223372036854775807
theorem OV0.full {w : World} {a : Option Addr} {os : List OP} (h : OV0 w a os) (hl : ∀ o ∈ os, o.2.zs.length ≤ 140737488351232) (hf : os.length ≤ 4398046511104) : OV w a os := ⟨h.cell, fun o ho => ⟨h.oks o ho, Nat.le_trans (hl o ho) (by omega)⟩, hf, h.nums⟩
set_option maxRecDepth 20000 in
theorem open_opts {base : Nat} {sp : Nat → Bool} {v : Value} {d : DataW H} {p : List MemPlace} (hs : ∀ b, sp b = true) (hv : Value.okWide Try.prog W .any base 25 v) (h : DataW.Trod enc Try.prog W 0 sp true 25 v d p) :
    ∃ (os : List OP) (a : Option Addr) (c : Nat), v = .slice a os.length c ∧ OV0 W a os ∧ OptsD d os := by
  obtain ⟨a, len, cap, rfl⟩ := okWide_slice Try.underlying25 hv
  obtain ⟨fuel, hf⟩ := h
  rcases open_slice Try.underlying25 hf with ⟨hcs, hx⟩ | ⟨x, l, c, m, n, D, Pl, hcs, _, hl, hm, hmm, hx, hel⟩
  · simp [Value.cells] at hcs
    obtain ⟨rfl, rfl, rfl⟩ := hcs
    simp only [Prod.mk.injEq] at hx
    exact ⟨[], none, 0, rfl, ⟨by simp, by simp, by simp⟩, Or.inl ⟨hx.1, rfl⟩⟩
  · simp [Value.cells] at hcs
    obtain ⟨rfl, rfl, rfl⟩ := hcs
    rw [if_pos (hs _)] at hmm
    simp only [Prod.mk.injEq] at hx
    rw [cells_opt] at hel
    have each : ∀ i, i < len → ∃ q : OP, (∀ j u, [Value.int .i64 q.1, q.2.val][j]? = some u → W.cell? ((x.add (i * 2)).add j) = some u) ∧ (-9223372036854775808 ≤ q.1 ∧ q.1 ≤ 9223372036854775807) ∧ q.2.ok W ∧ OptD (D i) q := fun i hi => by
      obtain ⟨cs', h1, h2⟩ := hel i (by omega)
      obtain ⟨_, h3, h4⟩ := World.cells?_some h1
      obtain ⟨q, e1, e2, e3, e4⟩ := opt_cells hs h2 h3
      refine ⟨q, fun j u hj => ?_, e2, e3, e4⟩
      have hj3 : j < 2 := by have := (List.getElem?_eq_some_iff.1 hj).1; simpa using this
      rw [h4 j hj3, e1, hj]
    have inh : Inhabited OP := ⟨OP.nil⟩
    obtain ⟨f, hff⟩ := choose_lt each
    have hlen : ((List.range len).map f).length = len := by simp
    have hget : ∀ i, i < len → ((List.range len).map f).getD i OP.nil = f i := fun i hi => by simp [List.getD_eq_getElem?_getD, hi]
    refine ⟨(List.range len).map f, some x, cap, by rw [hlen], ⟨fun i o ho => ?_, fun o ho => ?_, fun o ho => ?_⟩, Or.inr ⟨_, _, hx.1, by simp, fun i hi => ?_⟩⟩
    · have hi : i < len := by have := (List.getElem?_eq_some_iff.1 ho).1; rwa [hlen] at this
      have hfo : f i = o := by
        rw [List.getElem?_map, List.getElem?_range hi] at ho
        simpa using ho
      obtain ⟨b, off, spot⟩ := x
      have hspot : spot = none := by
        have := (hff 0 (by omega)).1 0 _ rfl
        simpa [Addr.add] using World.cell?_spot this
      subst hspot
      have ad : ∀ j, ((⟨b, off, none⟩ : Addr).add (i * 2)).add j = ⟨b, off + i * 2 + j, none⟩ := fun j => by
        rw [show (⟨b, off, none⟩ : Addr).add (i * 2) = ⟨b, off + i * 2, none⟩ from by unfold Addr.add; split <;> simp_all]
        unfold Addr.add; split <;> simp_all
      refine ⟨b, off, rfl, ?_, ?_⟩
      · have := (hff i hi).1 0 _ rfl
        rw [ad, hfo] at this
        exact this
      · have := (hff i hi).1 1 _ rfl
        rw [ad, hfo] at this
        exact this
    · obtain ⟨i, hi, rfl⟩ := List.mem_map.1 ho
      exact (hff i (by simpa using hi)).2.2.1
    · obtain ⟨i, hi, rfl⟩ := List.mem_map.1 ho
      exact (hff i (by simpa using hi)).2.1
    · rw [hlen] at hi
      refine ⟨D i, List.mem_map.2 ⟨i, by simpa using hi, rfl⟩, ?_⟩
      rw [hget i hi]
      exact (hff i hi).2.2.2
theorem weightsAll_mem {P : Program} {e : TypeId} : ∀ {l : List (DataW H)} {d : DataW H}, d ∈ l → ∀ n, n ∈ d.weights P e → n ∈ DataW.weightsAll P e l
  | d' :: r, d, hd, n, hn => by
    simp only [DataW.weightsAll, List.mem_append]
    rcases List.mem_cons.1 hd with rfl | h
    · exact Or.inl hn
    · exact Or.inr (weightsAll_mem h n hn)
set_option maxRecDepth 20000 in
theorem opts_sized {ts : List TypeId} {ds : List (DataW H)} {d : DataW H} {os : List OP} (hsz : (DataW.weightsEach Try.prog ts ds).all (· ≤ reachBytes) = true) {j : Nat} (ht : ts[j]? = some 25) (hd : ds[j]? = some d) (h : OptsD d os) :
    os.length ≤ 4398046511104 ∧ ∀ o ∈ os, o.2.zs.length ≤ 140737488351232 := by
  rcases h with ⟨_, h⟩ | ⟨elems, spare, rfl, hl, he⟩
  · subst h; simp
  · have h1 := sized_slice hsz ht hd Try.underlying25
    rw [bytes_opt, reach_is] at h1
    refine ⟨by rw [← hl]; omega, fun o ho => ?_⟩
    obtain ⟨i, hi, rfl⟩ := List.getElem_of_mem ho
    have hg : os.getD i OP.nil = os[i] := by simp [List.getD_eq_getElem?_getD, hi]
    obtain ⟨y, hy, x0, x1, rfl, hzz⟩ := he i hi
    rw [hg] at hzz
    generalize os[i].2.zs = zt at hzz ⊢
    have key : ∀ (ws : List Int) (sp : List (DataW H)), (((lits .u8 ws : List (DataW H)).length + sp.length) * Try.prog.bytesOf 5) ∈ DataW.weights Try.prog 45 (.agg [x0, x1]) → ws.length ≤ 140737488351232 := fun ws sp hm => by
      have h2 : ((lits .u8 ws : List (DataW H)).length + sp.length) * Try.prog.bytesOf 5 ≤ reachBytes := by
        refine of_decide_eq_true (List.all_eq_true.1 hsz _ (DataW.weights_mem_each ht hd _ ?_))
        simp only [DataW.weights, Try.underlying25, List.mem_cons, List.mem_append]
        exact Or.inr (Or.inl (weightsAll_mem hy _ hm))
      rw [bytes_u8, reach_is] at h2
      simp [lits] at h2
      omega
    rcases hzz with ⟨_, e⟩ | ⟨sp, rfl⟩
    · rw [e]; simp
    · exact key zt sp (by simp [DataW.weights, DataW.weightsEach, Try.underlying45, Try.underlying41])
theorem upto_bytD {y : DataW H} {zs : List Int} (h : BytD y zs) : zs.length ≤ Rows.uptoBulk y := upto_lits h
theorem opts_upto {d : DataW H} {os : List OP} (h : OptsD d os) : os.length ≤ Rows.uptoBulk d ∧ ∀ o ∈ os, o.2.zs.length ≤ Rows.uptoBulk d := by
  rcases h with ⟨_, h⟩ | ⟨elems, spare, rfl, hl, he⟩
  · subst h; simp
  · have h1 := upto_len elems
    refine ⟨by simp only [Rows.uptoBulk]; omega, fun o ho => ?_⟩
    obtain ⟨i, hi, rfl⟩ := List.getElem_of_mem ho
    have hg : os.getD i OP.nil = os[i] := by simp [List.getD_eq_getElem?_getD, hi]
    obtain ⟨y, hy, x0, x1, rfl, hzz⟩ := he i hi
    rw [hg] at hzz
    have h2 := upto_mem elems _ hy
    have h3 := upto_bytD hzz
    simp only [Rows.uptoBulk, Rows.uptoBulkAll] at h2 ⊢
    omega
/-! ### parts -/
def PartsD (d : DataW H) (ps : List Part) : Prop := d = .nil ∧ ps = [] ∨ ∃ elems spare, d = .slice elems spare ∧ elems.length = ps.length ∧ ∀ i, i < ps.length → ∃ y, y ∈ elems ∧ BytD y (ps.getD i Part.nil).zs
set_option maxRecDepth 20000 in
theorem open_bytess {base : Nat} {sp : Nat → Bool} {v : Value} {d : DataW H} {p : List MemPlace} (hs : ∀ b, sp b = true) (hv : Value.okWide Try.prog W .any base 22 v) (h : DataW.Trod enc Try.prog W 0 sp true 22 v d p) :
    ∃ (ps : List Part) (a : Option Addr) (c : Nat), v = .slice a ps.length c ∧ PV W a ps ∧ PartsD d ps := by
  obtain ⟨a, len, cap, rfl⟩ := okWide_slice Try.underlying22 hv
  obtain ⟨fuel, hf⟩ := h
  rcases open_slice1 Try.underlying22 cells_bytes hf with ⟨hcs, hx⟩ | ⟨x, l, c, m, n, V, D, Pl, hcs, _, hl, hm, hmm, hx, hel⟩
  · simp [Value.cells] at hcs
    obtain ⟨rfl, rfl, rfl⟩ := hcs
    simp only [Prod.mk.injEq] at hx
    exact ⟨[], none, 0, rfl, ⟨by simp, by simp⟩, Or.inl ⟨hx.1, rfl⟩⟩
  · simp [Value.cells] at hcs
    obtain ⟨rfl, rfl, rfl⟩ := hcs
    rw [if_pos (hs _)] at hmm
    simp only [Prod.mk.injEq] at hx
    have each : ∀ i, i < len → ∃ pt : Part, V i = pt.val ∧ pt.ok W ∧ BytD (D i) pt.zs := fun i hi => bytes_cell hs (hel i (by omega)).2 rfl
    have inh : Inhabited Part := ⟨Part.nil⟩
    obtain ⟨f, hff⟩ := choose_lt each
    have hlen : ((List.range len).map f).length = len := by simp
    have hget : ∀ i, i < len → ((List.range len).map f).getD i Part.nil = f i := fun i hi => by simp [List.getD_eq_getElem?_getD, hi]
    refine ⟨(List.range len).map f, some x, cap, by rw [hlen], ⟨fun i o ho => ?_, fun q hq => ?_⟩, Or.inr ⟨_, _, hx.1, by simp, fun i hi => ?_⟩⟩
    · have hi : i < len := by have := (List.getElem?_eq_some_iff.1 ho).1; rwa [hlen] at this
      have hfo : f i = o := by
        rw [List.getElem?_map, List.getElem?_range hi] at ho
        simpa using ho
      obtain ⟨b, off, spot⟩ := x
      have h1 := (hel i (by omega)).1
      have hspot : spot = none := by simpa [Addr.add] using World.cell?_spot (hel 0 (by omega)).1
      subst hspot
      refine ⟨b, off, rfl, ?_⟩
      rw [← hfo, ← (hff i hi).1, ← h1]
      congr 1
      unfold Addr.add; split <;> simp_all
    · obtain ⟨i, hi, rfl⟩ := List.mem_map.1 hq
      exact (hff i (by simpa using hi)).2.1
    · rw [hlen] at hi
      refine ⟨D i, List.mem_map.2 ⟨i, by simpa using hi, rfl⟩, ?_⟩
      rw [hget i hi]
      exact (hff i hi).2.2
set_option maxRecDepth 20000 in
theorem bytess_sized {ts : List TypeId} {ds : List (DataW H)} {d : DataW H} {ps : List Part} (hsz : (DataW.weightsEach Try.prog ts ds).all (· ≤ reachBytes) = true) {j : Nat} (ht : ts[j]? = some 22) (hd : ds[j]? = some d) (h : PartsD d ps) :
    ps.length * 24 ≤ 140737488351232 ∧ ∀ p, p ∈ ps → p.zs.length ≤ 140737488351232 := by
  rcases h with ⟨_, h⟩ | ⟨elems, spare, rfl, hl, he⟩
  · subst h; simp
  · have h1 := sized_slice hsz ht hd Try.underlying22
    rw [bytes_sl, reach_is] at h1
    refine ⟨by rw [← hl]; omega, fun p hp => ?_⟩
    obtain ⟨i, hi, rfl⟩ := List.getElem_of_mem hp
    obtain ⟨y, hy, hyy⟩ := he i hi
    have hg : ps.getD i Part.nil = ps[i] := by simp [List.getD_eq_getElem?_getD, hi]
    rw [hg] at hyy
    rcases hyy with ⟨_, e⟩ | ⟨sp, rfl⟩
    · rw [e]; simp
    · have h2 : ((lits .u8 ps[i].zs : List (DataW H)).length + sp.length) * Try.prog.bytesOf 5 ≤ reachBytes := by
        refine of_decide_eq_true (List.all_eq_true.1 hsz _ (DataW.weights_mem_each ht hd _ ?_))
        simp only [DataW.weights, Try.underlying22, List.mem_cons, List.mem_append]
        exact Or.inr (Or.inl (weightsAll_mem hy _ (by simp [DataW.weights, Try.underlying41])))
      rw [bytes_u8, reach_is] at h2
      simp [lits] at h2
      omega
theorem bytess_upto {d : DataW H} {ps : List Part} (h : PartsD d ps) : ps.length ≤ Rows.uptoBulk d ∧ ∀ p ∈ ps, p.zs.length ≤ Rows.uptoBulk d := by
  rcases h with ⟨_, h⟩ | ⟨elems, spare, rfl, hl, he⟩
  · subst h; simp
  · have h1 := upto_len elems
    refine ⟨by simp only [Rows.uptoBulk]; omega, fun p hp => ?_⟩
    obtain ⟨i, hi, rfl⟩ := List.getElem_of_mem hp
    obtain ⟨y, hy, hyy⟩ := he i hi
    have hg : ps.getD i Part.nil = ps[i] := by simp [List.getD_eq_getElem?_getD, hi]
    rw [hg] at hyy
    have h2 := upto_mem elems _ hy
    have h3 := upto_bytD hyy
    simp only [Rows.uptoBulk] at h2 ⊢
    omega
end
end Go.Proofs.Ytmdkanbfpmdimaa
