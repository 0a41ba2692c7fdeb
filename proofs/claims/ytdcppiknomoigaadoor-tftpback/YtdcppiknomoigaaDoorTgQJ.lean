import Derived.Test.YtdcppiknomoigaaDoorBOpen
import Derived.Test.YtdcppiknomoigaaDoorTgF
import Derived.Test.YtdcppiknomoigaaDoorTgE
import Derived.Test.YtdcppiknomoigaaDoorTie
import Derived.ProofKit
import Derived.LaidMore
import Derived.OpenShut
import Derived.Stop.Joined
import Derived.Stop.LaidErr
import Derived.SevenTiedAt
/-
  Choices, packets and offers, as they came in.
-/
namespace Go.Proofs.YtdcppiknomoigaaDoor
open Go.ChangeShapes Go.WideShapes Go.ChangeAt Go.RowKit Go.Deep
set_option linter.all false
theorem cells_int : Tryd.prog.cellsOf 3 = 1 := by kernel_rfl
theorem cells_str : Tryd.prog.cellsOf 9 = 1 := by kernel_rfl
theorem cells_bytes : Tryd.prog.cellsOf 24 = 1 := by kernel_rfl
theorem cells_ch : Tryd.prog.cellsOf 56 = 2 := by kernel_rfl
theorem cells_chs : Tryd.prog.cellsOf 23 = 1 := by kernel_rfl
theorem cells_tp : Tryd.prog.cellsOf 26 = 8 := by kernel_rfl
theorem cells_of : Tryd.prog.cellsOf 46 = 5 := by kernel_rfl
theorem bytes_ch : Tryd.prog.bytesOf 56 = 24 := by kernel_rfl
section
variable {H : Type} {enc : TypeId × Value → H} {W W' : World}
def BytD (y : DataW H) (zs : List Int) : Prop := y = .nil ∧ zs = [] ∨ ∃ spare, y = .slice (lits .u8 zs) spare
theorem str_cell {sp : Nat → Bool} {m : Nat} {cs : List Value} {c : Value} {y : DataW H × List MemPlace} (h : DataW.trod enc Tryd.prog W 0 sp true m 9 cs = some y) (hc : cs = [c]) :
    ∃ s : ByteArray, c = .string s ∧ y.1 = .lit (.string s.data.toList) := by
  subst hc
  obtain ⟨s, e1, e2, _⟩ := DataW.trod_string Tryd.underlying9 h
  simp at e1
  exact ⟨s, e1, by rw [e2]⟩
set_option maxRecDepth 20000 in
theorem ch_cells {sp : Nat → Bool} {m : Nat} {cs : List Value} {y : DataW H × List MemPlace} (h : DataW.trod enc Tryd.prog W 0 sp true m 56 cs = some y) (hl2 : cs.length = 2) : ∃ q : Ch, cs = [.string q.nm, .int .i64 q.v] := by
  obtain ⟨xs, n, _, hd, hl, hlen, hel⟩ := DataW.trod_struct Tryd.underlying56 h
  match cs, hl2, xs, hlen with
  | [c0, c1], _, [x0, x1], _ =>
    have f0 := hel 0
    have f1 := hel 1
    simp [cells_int, cells_str, Value.cells] at f0
    simp [cells_int, cells_str, Value.cells] at f1
    obtain ⟨s, rfl, _⟩ := str_cell f0 rfl
    obtain ⟨k, rfl, _⟩ := int_cell f1 rfl
    exact ⟨⟨s, k⟩, rfl⟩
def ChsD (d : DataW H) (l : List Ch) : Prop := d = .nil ∧ l = [] ∨ ∃ elems spare, d = .slice elems spare ∧ elems.length = l.length
set_option maxRecDepth 20000 in
theorem chs_cell {sp : Nat → Bool} {fuel : Nat} {cs : List Value} {v : Value} {y : DataW H × List MemPlace} (hs : ∀ b, sp b = true) (hf : DataW.trod enc Tryd.prog W 0 sp true fuel 23 cs = some y) (hc : cs = [v]) :
    ∃ (l : List Ch) (a : Option Addr) (c : Nat), v = .slice a l.length c ∧ l.length ≤ c ∧ ChV W a l ∧ ChsD y.1 l := by
  subst hc
  rcases open_slice Tryd.underlying23 hf with ⟨hcs, hx⟩ | ⟨x, len, cap, m, n, D, Pl, hcs, _, hl, hm, hmm, hx, hel⟩
  · simp at hcs
    subst hcs hx
    exact ⟨[], none, 0, rfl, Nat.le_refl _, Or.inl rfl, Or.inl ⟨rfl, rfl⟩⟩
  · simp at hcs
    subst hcs hx
    rw [if_pos (hs _)] at hmm
    rw [cells_ch] at hel
    have each : ∀ i, i < len → ∃ q : Ch, (∀ j u, [Value.string q.nm, .int .i64 q.v][j]? = some u → W.cell? ((x.add (i * 2)).add j) = some u) := fun i hi => by
      obtain ⟨cs', h1, h2⟩ := hel i (by omega)
      obtain ⟨_, h3, h4⟩ := World.cells?_some h1
      obtain ⟨q, e1⟩ := ch_cells h2 h3
      refine ⟨q, fun j u hj => ?_⟩
      have hj3 : j < 2 := by have := (List.getElem?_eq_some_iff.1 hj).1; simpa using this
      rw [h4 j hj3, e1, hj]
    have inh : Inhabited Ch := ⟨Ch.nil⟩
    obtain ⟨f, hff⟩ := choose_lt each
    have hlen : ((List.range len).map f).length = len := by simp
    refine ⟨(List.range len).map f, some x, cap, by rw [hlen], by rw [hlen]; exact hl, ?_, Or.inr ⟨_, _, rfl, by simp⟩⟩
    by_cases h0 : len = 0
    · left; rw [h0]; rfl
    · right
      obtain ⟨b, off, spot⟩ := x
      have hspot : spot = none := by
        have := hff 0 (by omega) 0 _ rfl
        simpa [Addr.add] using World.cell?_spot this
      subst hspot
      refine ⟨b, off, rfl, fun i o ho => ?_⟩
      have hi : i < len := by have := (List.getElem?_eq_some_iff.1 ho).1; rwa [hlen] at this
      have hfo : f i = o := by
        rw [List.getElem?_map, List.getElem?_range hi] at ho
        simpa using ho
      have ad : ∀ j, ((⟨b, off, none⟩ : Addr).add (i * 2)).add j = ⟨b, off + i * 2 + j, none⟩ := fun j => by
        rw [show (⟨b, off, none⟩ : Addr).add (i * 2) = ⟨b, off + i * 2, none⟩ from by unfold Addr.add; split <;> simp_all]
        unfold Addr.add; split <;> simp_all
      refine ⟨?_, ?_⟩
      · have := hff i hi 0 _ rfl
        rw [ad, hfo] at this
        exact this
      · have := hff i hi 1 _ rfl
        rw [ad, hfo] at this
        exact this
set_option maxRecDepth 20000 in
theorem open_chs {base : Nat} {sp : Nat → Bool} {v : Value} {d : DataW H} {p : List MemPlace} (hs : ∀ b, sp b = true) (hv : Value.okWide Tryd.prog W .any base 23 v) (h : DataW.Trod enc Tryd.prog W 0 sp true 23 v d p) :
    ∃ (l : List Ch) (a : Option Addr) (c : Nat), v = .slice a l.length c ∧ l.length ≤ c ∧ ChV W a l ∧ ChsD d l := by
  obtain ⟨a, len, cap, rfl⟩ := okWide_slice Tryd.underlying23 hv
  obtain ⟨fuel, hf⟩ := h
  exact chs_cell hs hf rfl
theorem chs_sizedD {d : DataW H} {l : List Ch} (hw : ∀ n, n ∈ DataW.weights Tryd.prog 23 d → n ≤ reachBytes) (h : ChsD d l) : l.length ≤ 5864062014700 := by
  rcases h with ⟨_, h⟩ | ⟨elems, spare, rfl, hl⟩
  · subst h; simp
  · have h1 := hw ((elems.length + spare.length) * Tryd.prog.bytesOf 56) (by simp [DataW.weights, Tryd.underlying23])
    rw [bytes_ch, reach_is] at h1
    rw [← hl]; omega
theorem chs_sized {ts : List TypeId} {ds : List (DataW H)} {d : DataW H} {l : List Ch} (hsz : (DataW.weightsEach Tryd.prog ts ds).all (· ≤ reachBytes) = true) {j : Nat} (ht : ts[j]? = some 23) (hd : ds[j]? = some d) (h : ChsD d l) : l.length ≤ 5864062014700 :=
  chs_sizedD (fun n hn => of_decide_eq_true (List.all_eq_true.1 hsz _ (DataW.weights_mem_each ht hd n hn))) h
set_option maxRecDepth 20000 in
theorem opened_tp {base : Nat} {sp : Nat → Bool} {v : Value} {d : DataW H} {p : List MemPlace} (hs : ∀ b, sp b = true) (hv : Value.okWide Tryd.prog W .any base 26 v) (h : DataW.Trod enc Tryd.prog W 0 sp true 26 v d p) :
    ∃ (t : Tp) (ca : Option Addr) (cc : Nat) (da : Option Addr) (dc : Nat), v = .agg (tpC t ca cc da dc) ∧ t.ch.length ≤ cc ∧ ChV W ca t.ch ∧ Part.ok W ⟨da, dc, t.da⟩ ∧ ∃ x0 x1 x2 x3 x4 x5 x6 x7, d = .agg [x0, x1, x2, x3, x4, x5, x6, x7] ∧ x1 = .lit (.string t.fl.data.toList) ∧ x2 = .lit (.string t.md.data.toList) ∧ ChsD x3 t.ch ∧ BytD x5 t.da ∧ x7 = .lit (.string t.tx.data.toList) := by
  obtain ⟨⟨l⟩, rfl, hsz⟩ := okWide_struct Tryd.underlying26 hv
  rw [cells_tp] at hsz
  obtain ⟨fuel, hf⟩ := h
  obtain ⟨xs, n, _, hd, hl, hlen, hel⟩ := DataW.trod_struct Tryd.underlying26 hf
  simp only [Prod.mk.injEq] at hd
  have hl8 : l.length = 8 := hsz
  match l, hl8, xs, hlen with
  | [c0, c1, c2, c3, c4, c5, c6, c7], _, [x0, x1, x2, x3, x4, x5, x6, x7], _ =>
    have f0 := hel 0
    have f1 := hel 1
    have f2 := hel 2
    have f3 := hel 3
    have f4 := hel 4
    have f5 := hel 5
    have f6 := hel 6
    have f7 := hel 7
    simp [cells_int, cells_str, cells_chs, cells_bytes, Value.cells] at f0
    simp [cells_int, cells_str, cells_chs, cells_bytes, Value.cells] at f1
    simp [cells_int, cells_str, cells_chs, cells_bytes, Value.cells] at f2
    simp [cells_int, cells_str, cells_chs, cells_bytes, Value.cells] at f3
    simp [cells_int, cells_str, cells_chs, cells_bytes, Value.cells] at f4
    simp [cells_int, cells_str, cells_chs, cells_bytes, Value.cells] at f5
    simp [cells_int, cells_str, cells_chs, cells_bytes, Value.cells] at f6
    simp [cells_int, cells_str, cells_chs, cells_bytes, Value.cells] at f7
    obtain ⟨k0, e0, _⟩ := int_cell f0 rfl
    obtain ⟨k1, e1, d1⟩ := str_cell f1 rfl
    obtain ⟨k2, e2, d2⟩ := str_cell f2 rfl
    obtain ⟨k3, ca, cc, e3, hcc, hcv, d3⟩ := chs_cell hs f3 rfl
    obtain ⟨k4, e4, _⟩ := int_cell f4 rfl
    obtain ⟨⟨da, dc, zs⟩, e5, okp, d5⟩ := bytes_cell hs f5 rfl
    obtain ⟨k6, e6, _⟩ := int_cell f6 rfl
    obtain ⟨k7, e7, d7⟩ := str_cell f7 rfl
    subst e0 e1 e2 e3 e4 e5 e6 e7
    exact ⟨⟨k0, k1, k2, k3, k4, zs, k6, k7⟩, ca, cc, da, dc, rfl, hcc, hcv, okp, x0.1, x1.1, x2.1, x3.1, x4.1, x5.1, x6.1, x7.1, hd.1, d1, d2, d3, d5, d7⟩
set_option maxRecDepth 20000 in
theorem tp_sized {ts : List TypeId} {ds : List (DataW H)} {x0 x1 x2 x3 x4 x5 x6 x7 : DataW H} {t : Tp} {ca da : Option Addr} {cc dc : Nat} (hsz : (DataW.weightsEach Tryd.prog ts ds).all (· ≤ reachBytes) = true) {j : Nat} (ht : ts[j]? = some 26) (hd : ds[j]? = some (.agg [x0, x1, x2, x3, x4, x5, x6, x7]))
    (hcc : t.ch.length ≤ cc) (hcv : ChV W ca t.ch) (okp : Part.ok W ⟨da, dc, t.da⟩) (h1 : x1 = .lit (.string t.fl.data.toList)) (h2 : x2 = .lit (.string t.md.data.toList)) (h3 : ChsD x3 t.ch) (h5 : BytD x5 t.da) (h7 : x7 = .lit (.string t.tx.data.toList)) : TpS t ca cc da dc W := by
  have hw : ∀ n, n ∈ DataW.weightsEach Tryd.prog ((match Tryd.prog.underlying 26 with | some (.struct fs) => fs.toList.map (·.type) | _ => [])) [x0, x1, x2, x3, x4, x5, x6, x7] → n ≤ reachBytes := fun n hn => by
    have := List.all_eq_true.1 hsz _ (DataW.weights_mem_each ht hd n (by
      simp only [Tryd.underlying26] at hn
      simp only [DataW.weights, Tryd.underlying26]
      exact hn))
    exact of_decide_eq_true this
  simp only [Tryd.underlying26, List.map_cons, List.map_nil, DataW.weightsEach, List.mem_append] at hw
  have w1 := hw t.fl.data.toList.length (by subst h1; simp [DataW.weights])
  have w2 := hw t.md.data.toList.length (by subst h2; simp [DataW.weights])
  have w7 := hw t.tx.data.toList.length (by subst h7; simp [DataW.weights])
  have w3 := chs_sizedD (fun n hn => hw n (by simp [hn])) h3
  rw [reach_is] at w1 w2 w7
  have sz : ∀ s : ByteArray, s.data.toList.length ≤ 140737488351232 → s.size ≤ 140737488353280 := fun s h => by
    have e : s.size = s.data.toList.length := by rw [Array.length_toList]; rfl
    omega
  refine ⟨hcv, hcc, w3, okp, ?_, sz _ w1, sz _ w2, sz _ w7⟩
  rcases h5 with ⟨_, e⟩ | ⟨sp, rfl⟩
  · rw [e]; simp
  · have w5 := hw (((lits .u8 t.da : List (DataW H)).length + sp.length) * Tryd.prog.bytesOf 5) (by simp [DataW.weights, Tryd.underlying24])
    rw [bytes_u8, reach_is] at w5
    simp [lits] at w5
    omega
set_option maxRecDepth 20000 in
theorem open_offer {base : Nat} {sp : Nat → Bool} {v : Value} {d : DataW H} {p : List MemPlace} (hv : Value.okWide Tryd.prog W .any base 46 v) (h : DataW.Trod enc Tryd.prog W 0 sp true 46 v d p) :
    ∃ (ob ow os om : Int) (on : ByteArray), v = .agg #[.int .i64 ob, .int .i64 ow, .int .i64 os, .int .i64 om, .string on] := by
  obtain ⟨⟨l⟩, rfl, hsz⟩ := okWide_struct Tryd.underlying46 hv
  rw [cells_of] at hsz
  obtain ⟨fuel, hf⟩ := h
  obtain ⟨xs, n, _, hd, hl, hlen, hel⟩ := DataW.trod_struct Tryd.underlying46 hf
  have hl5 : l.length = 5 := hsz
  match l, hl5, xs, hlen with
  | [c0, c1, c2, c3, c4], _, [x0, x1, x2, x3, x4], _ =>
    have f0 := hel 0
    have f1 := hel 1
    have f2 := hel 2
    have f3 := hel 3
    have f4 := hel 4
    simp [cells_int, cells_str, Value.cells] at f0
    simp [cells_int, cells_str, Value.cells] at f1
    simp [cells_int, cells_str, Value.cells] at f2
    simp [cells_int, cells_str, Value.cells] at f3
    simp [cells_int, cells_str, Value.cells] at f4
    obtain ⟨k0, e0, _⟩ := int_cell f0 rfl
    obtain ⟨k1, e1, _⟩ := int_cell f1 rfl
    obtain ⟨k2, e2, _⟩ := int_cell f2 rfl
    obtain ⟨k3, e3, _⟩ := int_cell f3 rfl
    obtain ⟨k4, e4, _⟩ := str_cell f4 rfl
    subst e0 e1 e2 e3 e4
    exact ⟨k0, k1, k2, k3, k4, rfl⟩
end
end Go.Proofs.YtdcppiknomoigaaDoor

/-
  Tftp: what the rows of this seat share: the listed tables and errors, a start that holds them.
-/
namespace Go.Proofs.YtdcppiknomoigaaDoor
open Go.ChangeShapes Go.WideShapes Go.ChangeAt Go.RowKit
set_option linter.all false


def laid5 : List (String × DataW Unit) := [("math/bits.deBruijn32tab", Rows.laid_math_bits_deBruijn32tab), ("math/bits.deBruijn64tab", Rows.laid_math_bits_deBruijn64tab), ("internal/strconv.uint64pow10", Rows.laid_internal_strconv_uint64pow10), ("strconv.ErrRange", Rows.laid_strconv_ErrRange), ("strconv.ErrSyntax", Rows.laid_strconv_ErrSyntax)]
set_option maxRecDepth 100000 in
theorem door_met (os : Os) (args : Array Value) : laidMetH Tryd.prog laid5 ((World.doorLaid Tryd.prog 400 os).forCall (fun _ _ => 0) ⟨#[], args, []⟩).memory :=
  laidMetH_of_parts3 (fuel := 8) (laidMet_of_run' 8 (by kernel_rfl) (by kernel_rfl)) (by kernel_rfl) (by kernel_rfl)
theorem gPow : Tryd.prog.globalNamed "internal/strconv.uint64pow10" = some 1 := by kernel_rfl
theorem tPow : (Tryd.prog.globals[1]?).map (·.type) = some 117 := by kernel_rfl
theorem cPow : Tryd.prog.cellsOf 59 = 1 := by kernel_rfl
theorem cPows : Tryd.prog.cellsOf 117 = 20 := by kernel_rfl
theorem gRng : Tryd.prog.globalNamed "strconv.ErrRange" = some 3 := by kernel_rfl
theorem gSyn : Tryd.prog.globalNamed "strconv.ErrSyntax" = some 2 := by kernel_rfl
theorem tRng : (Tryd.prog.globals[3]?).map (·.type) = some 96 := by kernel_rfl
theorem tSyn : (Tryd.prog.globals[2]?).map (·.type) = some 96 := by kernel_rfl
theorem starEr : "*" ++ "errors.errorString" = "*errors.errorString" := by decide
theorem rowEr (u : TypeId) (h : Tryd.prog.typeName? 3 u = some "*errors.errorString") : u = 131 :=
  typeName_ptr_named (nm := "errors.errorString") (by rw [starEr]; kernel_rfl) (by kernel_rfl) (by decide) u (by rw [starEr]; exact h)
theorem cEs : Tryd.prog.cellsOf 133 = 1 := by kernel_rfl
theorem cSt : Tryd.prog.cellsOf 9 = 1 := by kernel_rfl
theorem env_of_laid {W : World} (h : laidMetH Tryd.prog laid5 W) : Env W := by
  rw [MakeChecks.laidMetH_plain _ _ _ (by kernel_rfl)] at h
  have h2 := laidMet.tail (laidMet.tail h)
  have h3 := laidMet.tail h2
  have h4 := laidMet.tail h3
  refine ⟨Lib.tabIs_of_head gPow tPow Tryd.underlying117 Tryd.underlying59 cPow cPows h2, ?_, ?_⟩
  · obtain ⟨a, s, hv, _⟩ := laid_sentinel h4 gSyn tSyn Tryd.underlying96 rowEr Tryd.underlying131 Tryd.underlying133 rfl rfl Tryd.underlying9 cEs cSt
    exact ⟨_, _, hv⟩
  · obtain ⟨a, s, hv, _⟩ := laid_sentinel h3 gRng tRng Tryd.underlying96 rowEr Tryd.underlying131 Tryd.underlying133 rfl rfl Tryd.underlying9 cEs cSt
    exact ⟨_, _, hv⟩
end Go.Proofs.YtdcppiknomoigaaDoor
