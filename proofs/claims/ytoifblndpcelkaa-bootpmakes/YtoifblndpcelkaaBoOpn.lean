/-
  Messages that came in.
-/
import Derived.Test.YtoifblndpcelkaaOOpen
import Derived.Test.YtoifblndpcelkaaBoMsg
namespace Go.Proofs.Ytoifblndpcelkaa
open Go.ChangeShapes Go.WideShapes Go.ChangeAt Go.RowKit Go.Deep
set_option linter.all false
theorem cells_u32 : Try.prog.cellsOf 23 = 1 := by kernel_rfl
theorem cells_bool : Try.prog.cellsOf 4 = 1 := by kernel_rfl
theorem cells_str : Try.prog.cellsOf 9 = 1 := by kernel_rfl
theorem cells_opts : Try.prog.cellsOf 26 = 1 := by kernel_rfl
section
variable {H : Type} {enc : TypeId × Value → H} {W W' : World}
theorem mac_cells {sp : Nat → Bool} {m : Nat} {cs : List Value} {y : DataW H × List MemPlace} (h : DataW.trod enc Try.prog W 0 sp true m 25 cs = some y) : ∃ mc : Mac, cs = [.int .u8 mc.b0, .int .u8 mc.b1, .int .u8 mc.b2, .int .u8 mc.b3, .int .u8 mc.b4, .int .u8 mc.b5] ∧ mc.ok := by
  obtain ⟨xs, m, _, _, hl, hn, hel⟩ := DataW.trod_array Try.underlying25 h
  rw [cellsMac] at hl
  simp only [cellsU8, Nat.mul_one] at hel
  match cs, hl, xs, hn with
  | [c0, c1, c2, c3, c4, c5], _, [x0, x1, x2, x3, x4, x5], _ =>
    obtain ⟨n0, rfl, a0⟩ := byte_cell (hel 0 (by omega)) rfl
    obtain ⟨n1, rfl, a1⟩ := byte_cell (hel 1 (by omega)) rfl
    obtain ⟨n2, rfl, a2⟩ := byte_cell (hel 2 (by omega)) rfl
    obtain ⟨n3, rfl, a3⟩ := byte_cell (hel 3 (by omega)) rfl
    obtain ⟨n4, rfl, a4⟩ := byte_cell (hel 4 (by omega)) rfl
    obtain ⟨n5, rfl, a5⟩ := byte_cell (hel 5 (by omega)) rfl
    exact ⟨⟨n0, n1, n2, n3, n4, n5⟩, rfl, a0, a1, a2, a3, a4, a5⟩
set_option maxRecDepth 20000 in
theorem open_mac {base : Nat} {sp : Nat → Bool} {v : Value} {d : DataW H} {p : List MemPlace} (hv : Value.okWide Try.prog W .any base 25 v) (h : DataW.Trod enc Try.prog W 0 sp true 25 v d p) : ∃ m : Mac, v = m.val ∧ m.ok := by
  simp only [Value.okWide, Try.underlying25] at hv
  obtain ⟨⟨l⟩, rfl, hsz, _⟩ := hv
  obtain ⟨fuel, hf⟩ := h
  obtain ⟨m, hm, hok⟩ := mac_cells hf
  have e : l = _ := hm
  subst e
  exact ⟨m, rfl, hok⟩
theorem word_cell {sp : Nat → Bool} {m : Nat} {cs : List Value} {c : Value} {y : DataW H × List MemPlace} (h : DataW.trod enc Try.prog W 0 sp true m 23 cs = some y) (hc : cs = [c]) :
    ∃ n : Int, c = .int .u32 n ∧ 0 ≤ n ∧ n ≤ 4294967295 := by
  subst hc
  obtain ⟨n, e1, e2, hw⟩ := DataW.trod_int Try.underlying23 h
  simp at e1
  exact ⟨n, e1, bounds_u32 hw⟩
theorem bool_cell {sp : Nat → Bool} {m : Nat} {cs : List Value} {c : Value} {y : DataW H × List MemPlace} (h : DataW.trod enc Try.prog W 0 sp true m 4 cs = some y) (hc : cs = [c]) :
    ∃ b : Bool, c = .bool b := by
  subst hc
  obtain ⟨b, e1, e2⟩ := DataW.trod_bool Try.underlying4 h
  simp at e1
  exact ⟨b, e1⟩
theorem str_cell {sp : Nat → Bool} {m : Nat} {cs : List Value} {c : Value} {y : DataW H × List MemPlace} (h : DataW.trod enc Try.prog W 0 sp true m 9 cs = some y) (hc : cs = [c]) :
    ∃ s : ByteArray, c = .string s ∧ y.1 = .lit (.string s.data.toList) := by
  subst hc
  obtain ⟨s, e1, e2, _⟩ := DataW.trod_string Try.underlying9 h
  simp at e1
  exact ⟨s, e1, by rw [e2]⟩
set_option maxRecDepth 20000 in
theorem opts_cell {sp : Nat → Bool} {fuel : Nat} {cs : List Value} {v : Value} {y : DataW H × List MemPlace} (hs : ∀ b, sp b = true) (hf : DataW.trod enc Try.prog W 0 sp true fuel 26 cs = some y) (hc : cs = [v]) :
    ∃ (os : List OP) (a : Option Addr) (c : Nat), v = .slice a os.length c ∧ OV0 W a os ∧ OptsD y.1 os := by
  subst hc
  rcases open_slice Try.underlying26 hf with ⟨hcs, hx⟩ | ⟨x, len, cap, m, n, D, Pl, hcs, _, hl, hm, hmm, hx, hel⟩
  · simp at hcs
    subst hcs hx
    exact ⟨[], none, 0, rfl, ⟨by simp, by simp, by simp⟩, Or.inl ⟨rfl, rfl⟩⟩
  · simp at hcs
    subst hcs hx
    rw [if_pos (hs _)] at hmm
    rw [cells_opt] at hel
    have each : ∀ i, i < len → ∃ q : OP, (∀ j u, [Value.int .i64 q.1, q.2.val][j]? = some u → W.cell? ((x.add (i * 2)).add j) = some u) ∧ (-9223372036854775808 ≤ q.1 ∧ q.1 ≤ 9223372036854775807) ∧ q.2.ok W ∧ OptD (D i) q := fun i hi => by
      obtain ⟨cs', h1, h2⟩ := hel i (by omega)
      obtain ⟨_, h3, h4⟩ := World.cells?_some h1
      obtain ⟨q, e1, e2, e3, e4⟩ := opt_cells hs h2 h3
      refine ⟨q, fun j u hj => ?_, e2, e3, e4⟩
      have hj3 : j < 2 := by have := (List.getElem?_eq_some_iff.1 hj).1; simpa using this
      rw [h4 j hj3, e1, hj]
    have inh : Inhabited OP := ⟨OP.nil⟩
    obtain ⟨f, hff⟩ := choose_lt each
    have hlen : ((List.range len).map f).length = len := by simp
    have hget : ∀ i, i < len → ((List.range len).map f).getD i OP.nil = f i := fun i hi => by simp [List.getD_eq_getElem?_getD, hi]
    refine ⟨(List.range len).map f, some x, cap, by rw [hlen], ⟨fun i o ho => ?_, fun o ho => ?_, fun o ho => ?_⟩, Or.inr ⟨_, _, rfl, by simp, fun i hi => ?_⟩⟩
    · have hi : i < len := by have := (List.getElem?_eq_some_iff.1 ho).1; rwa [hlen] at this
      have hfo : f i = o := by
        rw [List.getElem?_map, List.getElem?_range hi] at ho
        simpa using ho
      obtain ⟨b, off, spot⟩ := x
      have hspot : spot = none := by
        have := (hff 0 (by omega)).1 0 _ rfl
        simpa [Addr.add] using World.cell?_spot this
      subst hspot
      have ad : ∀ j, ((⟨b, off, none⟩ : Addr).add (i * 2)).add j = ⟨b, off + i * 2 + j, none⟩ := fun j => by
        rw [show (⟨b, off, none⟩ : Addr).add (i * 2) = ⟨b, off + i * 2, none⟩ from by unfold Addr.add; split <;> simp_all]
        unfold Addr.add; split <;> simp_all
      refine ⟨b, off, rfl, ?_, ?_⟩
      · have := (hff i hi).1 0 _ rfl
        rw [ad, hfo] at this
        exact this
      · have := (hff i hi).1 1 _ rfl
        rw [ad, hfo] at this
        exact this
    · obtain ⟨i, hi, rfl⟩ := List.mem_map.1 ho
      exact (hff i (by simpa using hi)).2.2.1
    · obtain ⟨i, hi, rfl⟩ := List.mem_map.1 ho
      exact (hff i (by simpa using hi)).2.1
    · rw [hlen] at hi
      refine ⟨D i, List.mem_map.2 ⟨i, by simpa using hi, rfl⟩, ?_⟩
      rw [hget i hi]
      exact (hff i hi).2.2.2
set_option maxRecDepth 20000 in
theorem opts_sizedD {d : DataW H} {os : List OP} (hw : ∀ n, n ∈ DataW.weights Try.prog 26 d → n ≤ reachBytes) (h : OptsD d os) :
    os.length ≤ 4398046511104 ∧ ∀ o ∈ os, o.2.zs.length ≤ 140737488351232 := by
  rcases h with ⟨_, h⟩ | ⟨elems, spare, rfl, hl, he⟩
  · subst h; simp
  · have h1 := hw ((elems.length + spare.length) * Try.prog.bytesOf 67) (by simp [DataW.weights, Try.underlying26])
    rw [bytes_opt, reach_is] at h1
    refine ⟨by rw [← hl]; omega, fun o ho => ?_⟩
    obtain ⟨i, hi, rfl⟩ := List.getElem_of_mem ho
    have hg : os.getD i OP.nil = os[i] := by simp [List.getD_eq_getElem?_getD, hi]
    obtain ⟨y, hy, x0, x1, rfl, hzz⟩ := he i hi
    rw [hg] at hzz
    generalize os[i].2.zs = zt at hzz ⊢
    have key : ∀ (ws : List Int) (sp : List (DataW H)), (((lits .u8 ws : List (DataW H)).length + sp.length) * Try.prog.bytesOf 5) ∈ DataW.weights Try.prog 67 (.agg [x0, x1]) → ws.length ≤ 140737488351232 := fun ws sp hm => by
      have h2 : ((lits .u8 ws : List (DataW H)).length + sp.length) * Try.prog.bytesOf 5 ≤ reachBytes := by
        refine hw _ ?_
        simp only [DataW.weights, Try.underlying26, List.mem_cons, List.mem_append]
        exact Or.inr (Or.inl (weightsAll_mem hy _ hm))
      rw [bytes_u8, reach_is] at h2
      simp [lits] at h2
      omega
    rcases hzz with ⟨_, e⟩ | ⟨sp, rfl⟩
    · rw [e]; simp
    · exact key zt sp (by simp [DataW.weights, DataW.weightsEach, Try.underlying67, Try.underlying33])
set_option maxRecDepth 20000 in
theorem opened_bp {base : Nat} {sp : Nat → Bool} {v : Value} {d : DataW H} {p : List MemPlace} (hs : ∀ b, sp b = true) (hv : Value.okWide Try.prog W .any base 28 v) (h : DataW.Trod enc Try.prog W 0 sp true 28 v d p) :
    ∃ (m : Bp) (os : List OP) (a : Option Addr) (c : Nat), v = m.val (.slice a os.length c) ∧ (m.sname.size ≤ 140737488351232 → m.file.size ≤ 140737488351232 → m.ok) ∧ OV0 W a os ∧ ∃ x0 x1 x2 x3 x4 x5 x6 x7 x8 x9 x10 x11 x12, d = .agg [x0, x1, x2, x3, x4, x5, x6, x7, x8, x9, x10, x11, x12] ∧ x10 = .lit (.string m.sname.data.toList) ∧ x11 = .lit (.string m.file.data.toList) ∧ OptsD x12 os := by
  obtain ⟨⟨l⟩, rfl, hsz⟩ := okWide_struct Try.underlying28 hv
  rw [cellsBp] at hsz
  obtain ⟨fuel, hf⟩ := h
  obtain ⟨xs, n, _, hd, hl, hlen, hel⟩ := DataW.trod_struct Try.underlying28 hf
  simp only [Prod.mk.injEq] at hd
  have hl18 : l.length = 18 := hsz
  match l, hl18, xs, hlen with
  | [c0, c1, c2, c3, c4, c5, c6, c7, c8, c9, c10, c11, c12, c13, c14, c15, c16, c17], _, [x0, x1, x2, x3, x4, x5, x6, x7, x8, x9, x10, x11, x12], _ =>
    have f0 := hel 0
    have f1 := hel 1
    have f2 := hel 2
    have f3 := hel 3
    have f4 := hel 4
    have f5 := hel 5
    have f6 := hel 6
    have f7 := hel 7
    have f8 := hel 8
    have f9 := hel 9
    have f10 := hel 10
    have f11 := hel 11
    have f12 := hel 12
    simp [cells_int, cells_u32, cells_bool, cellsMac, cells_str, cells_opts, Value.cells] at f0
    simp [cells_int, cells_u32, cells_bool, cellsMac, cells_str, cells_opts, Value.cells] at f1
    simp [cells_int, cells_u32, cells_bool, cellsMac, cells_str, cells_opts, Value.cells] at f2
    simp [cells_int, cells_u32, cells_bool, cellsMac, cells_str, cells_opts, Value.cells] at f3
    simp [cells_int, cells_u32, cells_bool, cellsMac, cells_str, cells_opts, Value.cells] at f4
    simp [cells_int, cells_u32, cells_bool, cellsMac, cells_str, cells_opts, Value.cells] at f5
    simp [cells_int, cells_u32, cells_bool, cellsMac, cells_str, cells_opts, Value.cells] at f6
    simp [cells_int, cells_u32, cells_bool, cellsMac, cells_str, cells_opts, Value.cells] at f7
    simp [cells_int, cells_u32, cells_bool, cellsMac, cells_str, cells_opts, Value.cells] at f8
    simp [cells_int, cells_u32, cells_bool, cellsMac, cells_str, cells_opts, Value.cells] at f9
    simp [cells_int, cells_u32, cells_bool, cellsMac, cells_str, cells_opts, Value.cells] at f10
    simp [cells_int, cells_u32, cells_bool, cellsMac, cells_str, cells_opts, Value.cells] at f11
    simp [cells_int, cells_u32, cells_bool, cellsMac, cells_str, cells_opts, Value.cells] at f12
    obtain ⟨k0, e0, b0⟩ := int_cell f0 rfl
    obtain ⟨k1, e1, b1⟩ := int_cell f1 rfl
    obtain ⟨k2, e2, b2⟩ := word_cell f2 rfl
    obtain ⟨k3, e3, b3⟩ := int_cell f3 rfl
    obtain ⟨k4, e4⟩ := bool_cell f4 rfl
    obtain ⟨k5, e5, b5⟩ := word_cell f5 rfl
    obtain ⟨k6, e6, b6⟩ := word_cell f6 rfl
    obtain ⟨k7, e7, b7⟩ := word_cell f7 rfl
    obtain ⟨k8, e8, b8⟩ := word_cell f8 rfl
    obtain ⟨k9, e9, b9⟩ := mac_cells f9
    obtain ⟨k10, e10, d10⟩ := str_cell f10 rfl
    obtain ⟨k11, e11, d11⟩ := str_cell f11 rfl
    obtain ⟨os, a, c, e12, ov, d12⟩ := opts_cell hs f12 rfl
    simp only [List.cons.injEq, and_true] at e9
    obtain ⟨q0, q1, q2, q3, q4, q5⟩ := e9
    subst e0 e1 e2 e3 e4 e5 e6 e7 e8 e10 e11 e12 q0 q1 q2 q3 q4 q5
    exact ⟨⟨k0, k1, k2, k3, k4, k5, k6, k7, k8, k9, k10, k11⟩, os, a, c, rfl, fun h1 h2 => ⟨b0, b1, b2, b3, b5, b6, b7, b8, b9, Nat.le_trans h1 (by omega), Nat.le_trans h2 (by omega)⟩, ov, x0.1, x1.1, x2.1, x3.1, x4.1, x5.1, x6.1, x7.1, x8.1, x9.1, x10.1, x11.1, x12.1, hd.1, d10, d11, d12⟩
set_option maxRecDepth 20000 in
theorem bp_sized {ts : List TypeId} {ds : List (DataW H)} {x0 x1 x2 x3 x4 x5 x6 x7 x8 x9 x10 x11 x12 : DataW H} {m : Bp} {os : List OP} (hsz : (DataW.weightsEach Try.prog ts ds).all (· ≤ reachBytes) = true) {j : Nat} (ht : ts[j]? = some 28) (hd : ds[j]? = some (.agg [x0, x1, x2, x3, x4, x5, x6, x7, x8, x9, x10, x11, x12]))
    (h10 : x10 = .lit (.string m.sname.data.toList)) (h11 : x11 = .lit (.string m.file.data.toList)) (h : OptsD x12 os) : m.sname.size ≤ 140737488351232 ∧ m.file.size ≤ 140737488351232 ∧ os.length ≤ 4398046511104 ∧ ∀ o ∈ os, o.2.zs.length ≤ 140737488351232 := by
  have hw : ∀ n, n ∈ DataW.weightsEach Try.prog ((match Try.prog.underlying 28 with | some (.struct fs) => fs.toList.map (·.type) | _ => [])) [x0, x1, x2, x3, x4, x5, x6, x7, x8, x9, x10, x11, x12] → n ≤ reachBytes := fun n hn => by
    have := List.all_eq_true.1 hsz _ (DataW.weights_mem_each ht hd n (by
      simp only [Try.underlying28] at hn
      simp only [DataW.weights, Try.underlying28]
      exact hn))
    exact of_decide_eq_true this
  simp only [Try.underlying28, List.map_cons, List.map_nil, DataW.weightsEach, List.mem_append] at hw
  have w10 := hw m.sname.data.toList.length (by subst h10; simp [DataW.weights])
  have w11 := hw m.file.data.toList.length (by subst h11; simp [DataW.weights])
  have w12 := opts_sizedD (fun n hn => hw n (by simp [hn])) h
  rw [reach_is] at w10 w11
  refine ⟨?_, ?_, w12⟩
  · have e : m.sname.size = m.sname.data.toList.length := by rw [Array.length_toList]; rfl
    omega
  · have e : m.file.size = m.file.data.toList.length := by rw [Array.length_toList]; rfl
    omega
end
end Go.Proofs.Ytoifblndpcelkaa
