/-
  Neigh: addresses, put in order.
-/
import Derived.Test.YtaaoelhmanahpaaNRoom
import Derived.Test.YtaaoelhmanahpaaBSrtH
namespace Go.Proofs.Ytaaoelhmanahpaa
open Go.RowKit
set_option linter.all false

def u32s (zs : List Int) : List Value := zs.map (Value.int .u32)
theorem u32s_len (a : List Int) : (u32s a).length = a.length := by simp [u32s]
theorem infoU32 : (Try.prog.info? 39).map (fun i => (i.zero, i.size, i.bytes)) = some (some (.int .u32 0), 1, 4) := by kernel_rfl
theorem sorted_ips {L : List Ab} (hr : Rise L) {zs : List Int} (hp : zs.Perm (L.map (·.ip))) : (zs.mergeSort fun x y => !Sort.ltInt y x) = L.map (·.ip) := by
  have hl := hp.length_eq
  have h := Sort.sorted_unique_holds (lt := Sort.ltInt) Sort.swo_ltInt (fun x y h1 h2 => by simp only [Sort.ltInt, decide_eq_false_iff_not] at h1 h2; omega) zs.toArray (L.map (·.ip)).toArray
    ⟨by simpa using hl.symm, fun i hi => ?_, ?_⟩ ?_
  · simpa using h.symm
  · simp only [List.size_toArray] at hi
    rw [getElem!_neg _ _ (by simp; simp at hl; omega), getElem!_neg _ _ (by simp; omega)]
  · simp only [List.extract_toArray, List.size_toArray, List.extract_eq_drop_take, List.drop_zero, Nat.sub_zero]
    rw [List.take_of_length_le (by simp; simp at hl; omega), List.take_length]
    exact hp.symm
  · intro i j _ hij hj
    simp only [List.size_toArray] at hj
    have hj' : j < L.length := by simp at hl; omega
    rw [getElem!_pos _ j (by simpa using hj'), getElem!_pos _ i (by simp; omega)]
    simp only [List.getElem_toArray, List.getElem_map, Sort.ltInt, decide_eq_false_iff_not]
    have := List.pairwise_iff_getElem.1 hr i j (by omega) hj' hij
    omega
theorem zeros_row {w : World} {g n : Nat} (hn : n ≤ maxLen) (C : Array Value) (hC : C.size = n) (h : w.heap[g]? = some (.cells C 39 (0, 0))) : Row w 39 (.slice (some ⟨g, 0, none⟩) 0 n) [] :=
  Or.inr ⟨g, n, C, 0, 0, rfl, h, Or.inr rfl, Nat.zero_le _, hn, hC, by simp⟩
/-- the list, while it is filled. -/
structure AdI (w : World) (c m : Nat) (S : St) (V : Int → Value) (wr : World) (g n cap : Nat) (D : List Ab) (k : Nat) : Prop where
  it : It wr m (w.heap.size + 1) S.L V D k
  row : Row wr 39 (.slice (some ⟨g, 0, none⟩) n cap) (u32s (D.reverse.map (·.ip)))
  gg : w.heap.size ≤ g
  ne : g ≠ w.heap.size + 1
  below : Below w.heap.size w wr
theorem AdI.one {w : World} {c m : Nat} {S : St} {V : Int → Value} {wr w1 : World} {g n cap : Nat} {D : List Ab} {k k' : Nat} (h : AdI w c m S V wr g n cap D k) {y : Ab} (hb : But (w.heap.size + 1) wr w1) (hi : It w1 m (w.heap.size + 1) S.L V (y :: D) k') (hm : m < w.heap.size) (hl : (y :: D).length ≤ 64) :
    ∃ g' n' cap' w2, (Builtin.append_ #[100, 100] 100 #[.slice (some ⟨g, 0, none⟩) n cap, .slice (some ⟨w1.heap.size, 0, none⟩) 1 1]).run Try.prog (w1.alloc (.cells #[.int .u32 y.ip] 39)) = .ok (.slice (some ⟨g', 0, none⟩) n' cap') w2 ∧ AdI w c m S V w2 g' n' cap' (y :: D) k' := by
  have hsz := hb.size
  have hwr := h.below.size
  have hb1 : Below w.heap.size w w1 := h.below.trans (hb.below (by omega) hwr)
  have r1 : Row w1 39 (.slice (some ⟨g, 0, none⟩) n cap) (u32s (D.reverse.map (·.ip))) := h.row.but hb (fun b hb => by simp [Value.ownBlock] at hb; subst hb; exact h.ne)
  have hgw : g < w1.heap.size := r1.lt rfl
  have bl := (Below.refl w1.heap.size w1).alloc (Nat.le_refl _) (.cells #[.int .u32 y.ip] 39)
  have ra := r1.below bl
  have hl2 : D.length ≤ 63 := by simp at hl; omega
  obtain ⟨v', w2, hrun, row', hgr, hcase⟩ := append_one 100 100 39 _ 4 Try.underlying100 infoU32 rfl ra (.int .u32 y.ip) rfl w1.heap.size _ (heap_new _ _) (by rw [u32s_len]; simp; unfold maxLen; omega) (by rw [u32s_len]; simp; omega)
  have erow : u32s (D.reverse.map (·.ip)) ++ [Value.int .u32 y.ip] = u32s ((y :: D).reverse.map (·.ip)) := by simp [u32s]
  rw [erow] at row'
  have hit : It w2 m (w.heap.size + 1) S.L V (y :: D) k' := by
    have hi2 := hi.below bl
    refine hi2.keep (hgr.block m (by have := hi2.lt.1; exact this) ?_) (hgr.block _ hi2.lt.2 ?_)
    · simp [Value.ownBlock]; have := h.gg; omega
    · simp [Value.ownBlock]; exact Ne.symm h.ne
  have hbel : Below w.heap.size w w2 := ((hb1.alloc (by omega) _)).grown hgr (by simp; omega) (fun k hk => by simp [Value.ownBlock] at hk; subst hk; exact h.gg)
  rcases hcase with ⟨g0, cap0, e1, e2⟩ | ⟨g0, cap0, e2, hnew, _⟩
  · subst e2
    simp only [Value.slice.injEq, Option.some.injEq, Addr.mk.injEq] at e1
    obtain ⟨⟨rfl, _⟩, _, rfl⟩ := e1
    exact ⟨g, _, cap, w2, hrun, hit, row', h.gg, h.ne, hbel⟩
  · subst e2
    simp at hnew
    have := hi.lt.2
    exact ⟨g0, _, cap0, w2, hrun, hit, row', by omega, by omega, hbel⟩
theorem Row.sw {w : World} {g n cap : Nat} {zs : List Int} (h : Row w 39 (.slice (some ⟨g, 0, none⟩) n cap) (u32s zs)) : n = zs.length ∧ SW w w g 0 zs.toArray := by
  rcases h with ⟨h1, _⟩ | ⟨g', cap', cur, lo, hi, hv, hg, hf, hl, hm, hs, ht⟩
  · simp at h1
  · simp only [Value.slice.injEq, Option.some.injEq, Addr.mk.injEq] at hv
    obtain ⟨⟨rfl, _⟩, hn, rfl⟩ := hv
    rw [u32s_len] at hn hl ht
    refine ⟨hn, SW.start _ _ _ _ (fun t htl => ?_) (fun t htl => ?_)⟩
    · simp only [List.size_toArray] at htl
      rw [cell_of_heap hg, Nat.zero_add, ← Array.getElem?_toList]
      have h1 : (cur.toList.take zs.length)[t]? = (u32s zs)[t]? := by rw [ht]
      rw [List.getElem?_take, if_pos htl] at h1
      rw [h1, getElem!_pos _ t (by simpa using htl)]
      simp [u32s, htl]
    · simp only [List.size_toArray] at htl
      rw [Nat.zero_add]
      exact frozen_of_heap' hg (by omega) t (by omega)
theorem make0 (n : Nat) (hn : n ≤ 64) (w : World) : (Instr.makeSlice 100 (.int .i64 0) (.int .i64 n)).run Try.prog w = .ok (.slice (some ⟨w.heap.size, 0, none⟩) 0 n) (w.alloc (.cells (madeCells #[.int .u32 0] n) 39)) := by
  obtain ⟨i, hi, hz, hs, hb⟩ := info_three infoU32
  have hr := run_make (P := Try.prog) w 100 39 i (.int .u32 0) Try.underlying100 hi hz .i64 .i64 0 n (by omega) (by omega) (by rw [hb]; omega) (by omega)
  simp only [Int.toNat_natCast, hs, Nat.mul_one] at hr
  exact hr
set_option maxRecDepth 20000 in
set_option maxHeartbeats 4000000 in
theorem addresses_any (c m : Nat) (S : St) (V : Int → Value) (w : World) (x : CaW w c m S V) :
    Calls Try.prog 50 #[.pointer (some ⟨c, 0, none⟩)] w fun e w' => ∃ g cap, e = .returned (.slice (some ⟨g, 0, none⟩) S.L.length cap) ∧ w.heap.size ≤ g ∧ (∀ t (ht : t < S.L.length), w'.cell? ⟨g, t, none⟩ = some (.int .u32 S.L[t].ip)) ∧ Hid (Below w.heap.size w w') := by
  obtain ⟨_, c6, c7, c8, f7⟩ := x.cells
  have HC := hid x
  have hlen := fun ty => x.map.len ty
  have hl64 : S.L.length ≤ 64 := by have := x.ok.len; have := x.ok.most; omega
  have hmk := make0 S.L.length hl64 w
  have hx1 := x.below (bpush (Below.refl w.heap.size w) (.cells (madeCells #[.int .u32 0] S.L.length) 39))
  have d8 := hx1.cells.2.2.2.1
  obtain ⟨o, hrg, hit⟩ := It.start hx1.map
  have HA : Hid (AdI w c m S V ((w.alloc (.cells (madeCells #[.int .u32 0] S.L.length) 39)).alloc o) w.heap.size 0 S.L.length [] S.L.length) := by
    have hs1 : (w.alloc (.cells (madeCells #[.int .u32 0] S.L.length) 39)).heap.size = w.heap.size + 1 := by simp
    rw [hs1] at hit
    refine ⟨hit, ?_, Nat.le_refl _, by omega, bpush (bpush (Below.refl _ _) _) _⟩
    exact zeros_row (by unfold maxLen; omega) _ (size_madeCells _ _) ((heap_old _ _ (by simp)).trans (heap_new _ _))
  have hmlt := x.ltm
  have HCR := hid (fun (w1 : World) (h : Below w.heap.size w w1) => x.below h)
  clear x hit hx1
  go_enter Try.func50, Try.ntmps50
  go_wp2_with fail
  go_loopw [3, 4] (fun v3 _ wr => ∃ (g n cap k : Nat) (D : List Ab), v3 = .slice (some ⟨g, 0, none⟩) n cap ∧ Hid (AdI w c m S V wr g n cap D k)) (fun _ _ wr => leftN wr m (w.heap.size + 1))
  case atStart => exact ⟨_, _, _, _, [], rfl, HA⟩
  case round =>
    clear HA hrg hmk d8
    obtain ⟨g, n, cap, k, D, rfl, HA⟩ := hrel
    rcases HA.out.it.next 0 with ⟨h1, h2⟩ | ⟨y, w1, hy, h1, h2, hbr, n', hn', hi'⟩
    · have hrow := HA.out.row.sw
      have hsz : n = S.L.length := by rw [hrow.1]; simp; exact h2.length_eq
      have hso := sort_any wr g 0 cap _ wr hrow.2 (by have := hrow.1; simp at this ⊢; omega)
      have hper : (D.reverse.map (·.ip)).Perm (S.L.map (·.ip)) := ((List.reverse_perm D).trans h2).map _
      rw [show (D.reverse.map (·.ip)).toArray.toList = D.reverse.map (·.ip) from rfl, sorted_ips HC.out.ok.rise hper, show (D.reverse.map (·.ip)).toArray.size = S.L.length from by rw [← hsz, hrow.1]; simp] at hso
      have HSO := hid hso
      have HBW := hid HA.out.below
      have hgg := HA.out.gg
      subst hsz
      clear h2 hso hrow hper HA
      go_wp2_with (first
        | (go_at_call 71; with_reducible refine HSO.out.mono ?_; rintro e w2 ⟨rfl, HSW⟩)
        | fail)
      go_ret
      refine ⟨g, cap, rfl, hgg, fun t ht => ?_, HBW.out.trans (HSW.out.but.below hgg HBW.out.size)⟩
      have := HSW.out.cell t (by simpa using ht)
      rw [Nat.zero_add, getElem!_pos _ t (by simpa using ht)] at this
      simpa using this
    · have hn2 : leftN w1 m (w.heap.size + 1) < leftN wr m (w.heap.size + 1) := by rw [hi'.left, HA.out.it.left]; exact hn'
      have hld : (y :: D).length ≤ 64 := by
        obtain ⟨_, es, clock, seen, c0, since, a1, a2, a3, a4, a5, a6, F, g1, g2, g3⟩ := hi'
        have := g2.length_eq
        simp only [List.length_append] at this
        omega
      obtain ⟨g2, n2, cap2, w2, hrun, hA2⟩ := HA.out.one hbr hi' hmlt hld
      have HA2 := hid hA2
      have HN : Hid (leftN w2 m (w.heap.size + 1) < leftN wr m (w.heap.size + 1)) := by unfold Hid; rw [hA2.it.left, ← hi'.left]; exact hn2
      have HRUN := hid hrun
      obtain ⟨i, t, mc, q, sr, zs⟩ := y
      obtain ⟨pa, pc, hv, _⟩ := (HC.out.rows _ hy).form
      clear HA hrun hA2 hn2 hld hi' hbr hn' hy
      simp only at hv h1 h2
      rw [hv] at h1 h2
      clear hv
      simp only [Ab.val] at h1 h2
      generalize (u8s zs).length = pn at h1 h2
      go_wp2_with (first
        | (at_builtin; refine wpList_append_run _ rfl _ _ _ _ rfl _ _ rfl rfl HRUN.out ?_)
        | fail)
      go_roundw
      case rel => exact ⟨g2, n2, cap2, _, _, rfl, HA2⟩
      case measure => exact HN.out
end Go.Proofs.Ytaaoelhmanahpaa
