import Derived.Test.YtoifblndpcelkaaBoMsg
import Derived.Laws.CopyRow
import Derived.Test.YtoifblndpcelkaaBoFld
import Derived.Test.YtoifblndpcelkaaBBookJ
/-
  slices.DeleteFunc of the overload, out of options of a call's own.
-/
namespace Go.Proofs.Ytoifblndpcelkaa
open Go.RowKit
set_option linter.all false

abbrev keepO (p : Opt × Value) : Bool := p.1.1 != 52
/-- a DeleteFunc under way: i options kept of the first j. -/
structure DelI (B : Nat) (w : World) (v : Value) (E : List (Opt × Value)) (i j : Nat) (R : List (Opt × Value)) (wr : World) : Prop where
  len : R.length = E.length
  pre : R.take i = (E.take j).filter keepO
  rest : R.drop j = E.drop j
  row : RowS wr 67 2 v E.length (flatE R)
  keep : ∀ b, b < w.heap.size → v.ownBlock ≠ some b → wr.heap[b]? = w.heap[b]?
  below : Below B w wr
  sz : w.heap.size ≤ wr.heap.size
theorem DelI.step {B : Nat} {w wr w2 : World} {v : Value} {E R : List (Opt × Value)} {i j : Nat} (h : DelI B w v E i j R wr) (hB : B ≤ w.heap.size) (hb : Below wr.heap.size wr w2) : DelI B w v E i j R w2 :=
  ⟨h.len, h.pre, h.rest, h.row.below hb, fun b h1 h2 => (hb.block b (Nat.lt_of_lt_of_le h1 h.sz)).trans (h.keep b h1 h2), h.below.trans (hb.mono (Nat.le_trans hB h.sz)), Nat.le_trans h.sz hb.size⟩
theorem flatE_take (E : List (Opt × Value)) (k : Nat) : flatE (E.take k) = (flatE E).take (k * 2) := by
  induction E generalizing k with
  | nil => simp [flatE]
  | cons p E ih =>
    cases k with
    | zero => simp [flatE]
    | succ k =>
      have := ih k
      rw [List.take_succ_cons]
      simp only [flatE, List.flatMap_cons] at this ⊢
      rw [this, show (k + 1) * 2 = k * 2 + 2 by omega]
      simp
theorem flatE_put : ∀ (R : List (Opt × Value)) (i : Nat) (p : Opt × Value), i < R.length → ((flatE R).set (i * 2) (.int .i64 p.1.1)).set (i * 2 + 1) p.2 = flatE (R.set i p)
  | [], i, p, h => by simp at h
  | q :: R, 0, p, h => by simp [flatE]
  | q :: R, i + 1, p, h => by
    have := flatE_put R i p (by simpa using h)
    rw [show (i + 1) * 2 = i * 2 + 2 by omega]
    simp only [flatE, List.flatMap_cons, List.set_cons_succ] at this ⊢
    rw [← this]
    simp
/-- one that is left out. -/
theorem DelI.skip {B : Nat} {w wr : World} {v : Value} {E R : List (Opt × Value)} {i j : Nat} {p : Opt × Value} (h : DelI B w v E i j R wr) (hp : E[j]? = some p) (hk : keepO p = false) : DelI B w v E i (j + 1) R wr := by
  refine ⟨h.len, ?_, ?_, h.row, h.keep, h.below, h.sz⟩
  · have hj := (List.getElem?_eq_some_iff.1 hp).1
    have e := (List.getElem?_eq_some_iff.1 hp).2
    rw [List.take_succ_eq_append_getElem hj, List.filter_append, e, h.pre, List.filter_cons_of_neg (by simp [hk]), List.filter_nil, List.append_nil]
  · have := congrArg (List.drop 1) h.rest
    simpa [List.drop_drop, Nat.add_comm] using this
/-- one that stays. -/
theorem DelI.put {B : Nat} {w wr : World} {g n cap : Nat} {E R : List (Opt × Value)} {i j : Nat} {p : Opt × Value} (h : DelI B w (.slice (some ⟨g, 0, none⟩) n cap) E i j R wr) (hn : n = E.length) (hB : B ≤ w.heap.size) (hBg : B ≤ g) (hp : E[j]? = some p) (hk : keepO p = true) (hij : i ≤ j) :
    (∃ u, wr.cell? ⟨g, i * 2, none⟩ = some u) ∧ wr.frozen? ⟨g, i * 2, none⟩ = false ∧ (∃ u, wr.cell? ⟨g, i * 2 + 1, none⟩ = some u) ∧ wr.frozen? ⟨g, i * 2 + 1, none⟩ = false ∧
    DelI B w (.slice (some ⟨g, 0, none⟩) n cap) E (i + 1) (j + 1) (R.set i p) ((wr.setCell ⟨g, i * 2, none⟩ (.int .i64 p.1.1)).setCell ⟨g, i * 2 + 1, none⟩ p.2) := by
  subst hn
  have hj := (List.getElem?_eq_some_iff.1 hp).1
  have hi : i < R.length := by rw [h.len]; omega
  have hl := flatE_len R
  obtain ⟨s1, s2, s3⟩ := h.row.set (i * 2) (by omega) (.int .i64 p.1.1)
  obtain ⟨s4, s5, s6⟩ := s3.set (i * 2 + 1) (by rw [List.length_set]; omega) p.2
  obtain ⟨t1, t2, _⟩ := h.row.set (i * 2 + 1) (by omega) p.2
  refine ⟨s1, s2, t1, t2, ⟨by rw [List.length_set]; exact h.len, ?_, ?_, by rw [flatE_put R i p hi] at s6; exact s6, fun b h1 h2 => ?_, ?_, ?_⟩⟩
  · have e := (List.getElem?_eq_some_iff.1 hp).2
    rw [List.take_succ_eq_append_getElem hj, List.filter_append, e, ← h.pre]
    have : (R.set i p).take (i + 1) = R.take i ++ [p] := by
      rw [List.take_succ_eq_append_getElem (by rw [List.length_set]; exact hi), List.getElem_set_self, List.take_set, List.set_eq_of_length_le (by simp; omega)]
    rw [this, List.filter_cons_of_pos hk, List.filter_nil]
  · rw [List.drop_set_of_lt (by omega)]
    have := congrArg (List.drop 1) h.rest
    simpa [List.drop_drop, Nat.add_comm] using this
  · have hbg : b ≠ g := fun e => h2 (by simp [Value.ownBlock, e])
    have k1 := (But.setCell g wr (i * 2) (.int .i64 p.1.1)).trans (But.setCell g _ (i * 2 + 1) p.2)
    rw [k1.block b hbg (Nat.lt_of_lt_of_le h1 h.sz)]
    exact h.keep b h1 h2
  · have k1 := (But.setCell g wr (i * 2) (.int .i64 p.1.1)).trans (But.setCell g _ (i * 2 + 1) p.2)
    exact h.below.trans (k1.below hBg (Nat.le_trans hB h.sz))
  · have k1 := (But.setCell g wr (i * 2) (.int .i64 p.1.1)).trans (But.setCell g _ (i * 2 + 1) p.2)
    exact Nat.le_trans h.sz k1.size
def zOpts (k : Nat) : List Value := (Builtin.zeroCells #[.int .i64 0, .slice none 0 0] k).toList
theorem zOpts_len (k : Nat) : (zOpts k).length = k * 2 := by simp [zOpts, Builtin.zeroCells]
theorem zOpts_one (k : Nat) : ∀ v ∈ zOpts k, v.oneCell' = true := fun v hv => by
  simp only [zOpts, Builtin.zeroCells, Array.toList_map, List.mem_map] at hv
  obtain ⟨i, _, rfl⟩ := hv
  rcases (show i % 2 = 0 ∨ i % 2 = 1 by omega) with h | h
  · simp [h, Value.oneCell']
  · simp [h, Value.oneCell']
/-- 'clear(s[i:])'. -/
theorem run_clear_opts (w : World) (g o k c : Nat) (ty : TypeId) (cur : Array Value) (hg : w.heap[g]? = some (.cells cur 67 (0, 0))) (hk : 0 < k) (hfit : o + k * 2 ≤ cur.size) :
    (Builtin.clear_ #[26] ty #[.slice (some ⟨g, o, none⟩) k c]).run Try.prog w = .ok (.tuple #[]) (w.setRow g (cur.toList.take o ++ zOpts k ++ cur.toList.drop (o + k * 2)).toArray) := by
  have hst := run_storeCells_at (P := Try.prog) g o 67 (zOpts k) 0 cur w hg (by rw [zOpts_len]; omega) (zOpts_one k)
  rw [zOpts_len, Nat.add_zero] at hst
  obtain ⟨m, rfl⟩ : ∃ m, k = m + 1 := ⟨k - 1, by omega⟩
  have hz : (zeroValue 67).run Try.prog w = .ok (.agg #[.int .i64 0, .slice none 0 0]) w := Try.zeroValue67 w
  simp only [Builtin.clear_]
  simp [run_underlying Try.underlying26, hz]
  unfold zOpts at hst
  simp [Value.cells]
  rw [hst]
  simp [Result.andThen, zOpts]
/-- what is left. -/
theorem DelI.done {B : Nat} {w wr w2 : World} {g n cap : Nat} {E R : List (Opt × Value)} {i : Nat} (h : DelI B w (.slice (some ⟨g, 0, none⟩) n cap) E i E.length R wr) (hO : OwnO B w (.slice (some ⟨g, 0, none⟩) n cap) E) (hn : n = E.length) (hB : B ≤ w.heap.size) (hi : i ≤ E.length)
    (hc : But g wr w2) (hr : ∃ cur cur2, wr.heap[g]? = some (.cells cur 67 (0, 0)) ∧ w2.heap[g]? = some (.cells cur2 67 (0, 0)) ∧ cur2.size = cur.size ∧ cur2.toList.take (i * 2) = cur.toList.take (i * 2)) :
    OwnO B w2 (.slice (some ⟨g, 0, none⟩) i cap) (E.filter keepO) ∧ (E.filter keepO).length = i ∧ Below B w w2 := by
  subst hn
  have hpre := h.pre
  rw [List.take_length] at hpre
  have hlen : (E.filter keepO).length = i := by rw [← hpre, List.length_take, h.len]; omega
  have hBg : B ≤ g := hO.low g rfl
  have hsub : ∀ p ∈ E.filter keepO, p ∈ E := fun p hp => (List.mem_filter.1 hp).1
  have hdat : ∀ p ∈ E.filter keepO, Row w2 5 p.2 (u8s p.1.2) := fun p hp => (hO.data p (hsub p hp)).keep fun b hb => by
    have hbl := (hO.data p (hsub p hp)).lt hb
    have hbg : b ≠ g := fun e => hO.off (b := g) rfl (hsub p hp) (by rw [← e]; exact hb)
    rw [hc.block b hbg (Nat.lt_of_lt_of_le hbl h.sz)]
    exact h.keep b hbl (by simp [Value.ownBlock]; exact fun e => hbg e.symm)
  refine ⟨⟨?_, hO.low, hdat, fun p hp b hb => hO.dlow p (hsub p hp) b hb, ?_, fun p hp => hO.oks p (hsub p hp)⟩, hlen, h.below.trans (hc.below hBg (Nat.le_trans hB h.sz))⟩
  · rw [hlen]
    obtain ⟨cur, cur2, e1, e2, e3, e4⟩ := hr
    rcases h.row.2 with ⟨h1, _⟩ | ⟨g', cap', cur', hv, _, hg, hl, hm, hs, ht⟩
    · simp at h1
    · simp only [Value.slice.injEq, Option.some.injEq, Addr.mk.injEq] at hv
      obtain ⟨⟨rfl, _⟩, _, rfl⟩ := hv
      rw [e1] at hg
      simp only [Option.some.injEq, Obj.cells.injEq] at hg
      obtain ⟨rfl, _⟩ := hg
      refine ⟨by rw [flatE_len, hlen], Or.inr ⟨g, cap, cur2, rfl, Nat.zero_le _, e2, by omega, hm, by rw [e3]; exact hs, ?_⟩⟩
      rw [e4, ← hpre, flatE_take, ← ht, List.take_take, Nat.min_eq_left (by omega)]
  · have hpw : E.Pairwise (fun p q => ∀ b, p.2.ownBlock = some b → q.2.ownBlock ≠ some b) := by
      rw [List.pairwise_iff_getElem]
      intro a b ha hb hab k hk
      exact hO.apart a b _ _ k (by omega) (List.getElem?_eq_getElem ha) (List.getElem?_eq_getElem hb) hk
    have hpf := hpw.filter keepO
    rw [List.pairwise_iff_getElem] at hpf
    intro a b p q k hne hp hq hk
    obtain ⟨ha, ea⟩ := List.getElem?_eq_some_iff.1 hp
    obtain ⟨hb, eb⟩ := List.getElem?_eq_some_iff.1 hq
    rcases Nat.lt_or_gt_of_ne hne with hab | hab
    · exact eb ▸ hpf a b ha hb hab k (by rw [ea]; exact hk)
    · intro hq'
      exact hpf b a hb ha hab k (by rw [eb]; exact hq') (by rw [ea]; exact hk)
end Go.Proofs.Ytoifblndpcelkaa

/-
  slices.DeleteFunc of the overload: the walk.
-/
namespace Go.Proofs.Ytoifblndpcelkaa
open Go.RowKit
set_option linter.all false

def DelP (B : Nat) (w : World) (v : Value) (E : List (Opt × Value)) (e : Ending) (w' : World) : Prop := ∃ a' n' c', e = .returned (.slice a' n' c') ∧ OwnO B w' (.slice a' n' c') (E.filter keepO) ∧ n' = (E.filter keepO).length ∧ Below B w w' ∧ ∀ b, b < w.heap.size → v.ownBlock ≠ some b → w'.heap[b]? = w.heap[b]?
theorem ovAt_spec (os : List OP) : (ovAt os = -1 ∧ ∀ o ∈ os, o.1 ≠ 52) ∨ ∃ (k : Nat) (o : OP), ovAt os = (k : Int) ∧ os[k]? = some o ∧ o.1 = 52 ∧ ∀ (j : Nat), j < k → ∀ o, os[j]? = some o → o.1 ≠ 52 := by
  unfold ovAt
  cases h : os.findIdx? (fun o => o.1 == 52) with
  | none =>
    rw [List.findIdx?_eq_none_iff] at h
    exact Or.inl ⟨rfl, fun o ho => by have := h o ho; simpa using this⟩
  | some i =>
    obtain ⟨hl, hp, hq⟩ := List.findIdx?_eq_some_iff_getElem.1 h
    refine Or.inr ⟨i, os[i], rfl, List.getElem?_eq_getElem hl, by simpa using hp, fun j hj o ho => ?_⟩
    have := hq j hj
    rw [List.getElem?_eq_getElem (by omega)] at ho
    simp only [Option.some.injEq] at ho
    rw [← ho]
    simpa using this
theorem filter_none {E : List (Opt × Value)} (h : ∀ p ∈ E, p.1.1 ≠ 52) : E.filter keepO = E := List.filter_eq_self.2 fun p hp => by simpa [keepO] using h p hp
set_option maxRecDepth 20000 in
set_option maxHeartbeats 1000000 in
theorem deleteFunc_any (B : Nat) (a : Option Addr) (n c : Nat) (E : List (Opt × Value)) (w : World) (h : OwnO B w (.slice a n c) E) (hB : B ≤ w.heap.size) (hl : ∀ p ∈ E, p.1.2.length ≤ 140737488353280) (hf : E.length ≤ 4398046511104) (hc : ∀ p ∈ E, -9223372036854775808 ≤ p.1.1 ∧ p.1.1 ≤ 9223372036854775807) :
    Calls Try.prog 36 #[.slice a n c, fOver] w fun e w' => DelP B w (.slice a n c) E e w' := by
  obtain ⟨hv, hn⟩ := h.view hl hf hc
  have C0 := indexFunc_any a c (E.map ptOf) w hv
  rw [List.length_map, ← hn] at C0
  rcases ovAt_spec (E.map ptOf) with ⟨e1, e2⟩ | ⟨k0, o0, e1, e2, e3, e4⟩
  · rw [e1] at C0
    have hE : E.filter keepO = E := filter_none fun p hp => e2 (ptOf p) (List.mem_map.2 ⟨p, hp, rfl⟩)
    have HP : Hid (∀ w', Below w.heap.size w w' → DelP B w (.slice a n c) E (.returned (.slice a n c)) w') := fun w' hb => ⟨a, n, c, rfl, by rw [hE]; exact h.below hb, by rw [hE]; exact hn, hb.mono hB, fun b h1 _ => hb.block b h1⟩
    clear h hl hf hc hv e2 hE hn hB e1
    unfold fOver at *
    go_enter Try.func36, Try.ntmps36
    go_wp2_with (first
      | (go_at_call 66; refine C0.mono ?_; rintro e w1 ⟨rfl, HB1⟩)
      | fail)
    go_ret
    exact HP.out _ HB1.out
  · rw [e1] at C0
    have hk0 : k0 < n := by have := (List.getElem?_eq_some_iff.1 e2).1; simp at this; omega
    obtain ⟨g, cap, ev, hcap, hmx⟩ := h.row.some_of (by omega)
    rw [hn] at h
    simp only [Value.slice.injEq] at ev
    obtain ⟨rfl, -, rfl⟩ := ev
    have hnE := hn
    rw [← hn] at hcap
    have HH := hid h
    have HBB := hid hB
    have HNE := hid hn
    obtain ⟨p0, hp0, ho0⟩ : ∃ p, E[k0]? = some p ∧ ptOf p = o0 := by
      rw [List.getElem?_map] at e2
      cases hp : E[k0]? with
      | none => rw [hp] at e2; simp at e2
      | some p => rw [hp] at e2; simp at e2; exact ⟨p, rfl, e2⟩
    have HD0 : Hid (∀ w', Below w.heap.size w w' → DelI B w (.slice (some ⟨g, 0, none⟩) n c) E k0 (k0 + 1) E w') := fun w' hb => by
      have hpre : (E.take k0).filter keepO = E.take k0 := filter_none fun p hp => by
        obtain ⟨j, hj⟩ := List.getElem?_of_mem hp
        have hjk : j < k0 := by have := (List.getElem?_eq_some_iff.1 hj).1; simp at this; omega
        rw [List.getElem?_take, if_pos hjk] at hj
        exact e4 j hjk (ptOf p) (by rw [List.getElem?_map, hj]; rfl)
      have h0 : DelI B w (.slice (some ⟨g, 0, none⟩) n c) E k0 k0 E w' := ⟨rfl, hpre.symm, rfl, by rw [HNE.out]; exact HH.out.row.below hb, fun b h1 _ => hb.block b h1, hb.mono HBB.out, hb.size⟩
      exact h0.skip hp0 (by have : p0.1.1 = 52 := by rw [← e3, ← ho0]; rfl
                            simp [keepO, this])
    have HOV := hid (fun (cd : Int) (v : Value) (w : World) => isOverload_any cd v w)
    have hn63 : (n : Int) ≤ 4398046511104 := by omega
    have HBG : Hid (B ≤ g) := HH.out.low g rfl
    have q1 : (k0 : Int) < (n : Int) := by omega
    have hwk : IntKind.i64.wrap ((k0 : Int) + 1) = (k0 : Int) + 1 := by simp only [IntKind.wrap_i64]; omega
    have hne : ((k0 : Int) == -1) = false := by rw [beq_eq_false_iff_ne]; omega
    clear h hl hf hc hv e1 e2 e3 e4 hB hn hp0 ho0 hnE
    unfold fOver at *
    go_enter Try.func36, Try.ntmps36
    go_wp2_with (first
      | (go_at_call 66; refine C0.mono ?_; rintro e w1 ⟨rfl, HB1⟩)
      | fail)
    go_loopw [5, 6] (fun s5 s6 wr => ∃ (i j : Nat) (R : List (Opt × Value)), i < j ∧ j ≤ n ∧ s5 = .int .i64 i ∧ s6 = .int .i64 j ∧ Hid (DelI B w (.slice (some ⟨g, 0, none⟩) n c) E i j R wr)) (fun _ s6 _ => n - (intOf s6).toNat)
    case atStart => exact ⟨k0, k0 + 1, E, by omega, by omega, rfl, by go_num, HD0.out _ HB1.out⟩
    case round =>
      obtain ⟨i, j, R, hij, hjn, rfl, rfl, HD⟩ := hrel
      by_cases hlt : j < n
      · have hlt' : (j : Int) < n := by omega
        obtain ⟨p, hp⟩ : ∃ p, E[j]? = some p := ⟨E[j]'(by rw [← HNE.out]; exact hlt), List.getElem?_eq_getElem _⟩
        have hRp : R[j]? = some p := by
          have := congrArg (fun l => l[0]?) HD.out.rest
          simp only [List.getElem?_drop, Nat.add_zero] at this
          rw [this, hp]
        obtain ⟨f0, f1⟩ := flatE_at R j p hRp
        have hrow := HD.out.row
        rw [← HNE.out] at hrow
        have c0 : wr.cell? ⟨g, j * 2, none⟩ = some (.int .i64 p.1.1) := hrow.cell f0
        have c1 : wr.cell? ⟨g, j * 2 + 1, none⟩ = some p.2 := hrow.cell f1
        obtain ⟨pa, pc, ep, _⟩ := (HH.out.data p (List.mem_of_getElem? hp)).form
        rw [ep] at c1
        have HP := hid hp
        have HEP := hid ep
        have hgl : g < wr.heap.size := World.block_lt_of_cell? wr _ c0
        clear hp hRp f0 f1 hrow ep
        obtain ⟨cd, hcd⟩ : ∃ cd, cd = p.1.1 := ⟨_, rfl⟩
        rw [← hcd] at c0
        have HCD := hid hcd
        clear hcd
        generalize (u8s p.1.2).length = pn at *
        by_cases he : cd = 52
        · have he' : (cd == 52) = true := by simpa using he
          have HK : Hid (keepO p = false) := by unfold Hid keepO; rw [← HCD.out, he]; rfl
          clear he
          go_wp2_with (first
            | (go_at_call 37; refine (HOV.out _ _ _).mono ?_; rintro e w2 ⟨rfl, HB2⟩)
            | fail)
          go_roundw
          case rel => exact ⟨i, j + 1, R, by omega, by omega, rfl, by go_num, ((HD.out.step HBB.out (bpush (Below.refl _ _) _)).step HBB.out HB2.out).skip HP.out HK.out⟩
          case measure => simp [intOf]; omega
        · have he' : (cd == 52) = false := by simpa using he
          have HK : Hid (keepO p = true) := by unfold Hid keepO; rw [← HCD.out]; simpa using he
          clear he
          have q3 : (i : Int) < (n : Int) := by omega
          go_wp2_with (first
            | (go_at_call 37; refine (HOV.out _ _ _).mono ?_; rintro e w2 ⟨rfl, HB2⟩
               have HX2 := hid (kept (heap_new wr (.cells #[.int .i64 cd, .slice pa pn pc] 67)) HB2.out)
               have x0 : w2.cell? ⟨wr.heap.size, 0, none⟩ = some (.int .i64 cd) := (cell_of_heap HX2.out 0).trans rfl
               have x1 : w2.cell? ⟨wr.heap.size, 1, none⟩ = some (.slice pa pn pc) := (cell_of_heap HX2.out 1).trans rfl
               have HPU := hid (((HD.out.step HBB.out (bpush (Below.refl _ _) _)).step HBB.out HB2.out).put HNE.out HBB.out HBG.out HP.out HK.out (by omega))
               obtain ⟨⟨u0, y0⟩, y1, ⟨u1, y2⟩, y3, _⟩ := HPU.out)
            | fail)
          go_roundw
          case rel => exact ⟨i + 1, j + 1, R.set i p, by omega, by omega, by go_num, by go_num, by have := HPU.out.2.2.2.2; rw [← HCD.out, HEP.out] at this; exact this⟩
          case measure => simp [intOf]; omega
      · have hge : ¬ (j : Int) < n := by omega
        have hjn' : j = n := by omega
        have q3 : (i : Int) ≤ (n : Int) := by omega
        have q4 : ¬ c = i := by omega
        have q5 : (i : Int) ≤ (c : Int) := by omega
        have q6 : 0 < n - i := by omega
        obtain ⟨cur, hcur⟩ := HD.out.row.obj (g := g) rfl
        have hsz : cur.size = c * 2 := by
          rcases HD.out.row.2 with ⟨h1, _⟩ | ⟨g', cap', cur', hv, _, hg, hl, hm, hs, ht⟩
          · simp at h1
          · simp only [Value.slice.injEq, Option.some.injEq, Addr.mk.injEq] at hv
            obtain ⟨⟨rfl, _⟩, _, rfl⟩ := hv
            rw [hcur] at hg
            simp only [Option.some.injEq, Obj.cells.injEq] at hg
            obtain ⟨rfl, _⟩ := hg
            exact hs
        have hclr := fun ty => run_clear_opts wr g (i * 2) (n - i) (c - i) ty cur hcur q6 (by rw [hsz]; omega)
        have HDN : Hid (DelP B w (.slice (some ⟨g, 0, none⟩) n c) E (.returned (.slice (some ⟨g, 0, none⟩) i c)) (wr.setRow g (cur.toList.take (i * 2) ++ zOpts (n - i) ++ cur.toList.drop (i * 2 + (n - i) * 2)).toArray)) := by
          have hd := HD.out
          rw [hjn', HNE.out] at hd
          have hh := HH.out
          obtain ⟨r1, r2, r3⟩ := hd.done hh rfl HBB.out (by rw [← HNE.out]; omega) (But.setRow g wr (cur.toList.take (i * 2) ++ zOpts (n - i) ++ cur.toList.drop (i * 2 + (n - i) * 2)).toArray) ⟨cur, _, hcur, setRow_heap _ _ _ _ _ _ hcur, by simp [zOpts_len]; omega, by rw [List.toList_toArray, List.append_assoc, List.take_append_of_le_length (by simp; omega), List.take_take, Nat.min_self]⟩
          refine ⟨_, _, _, rfl, r1, r2.symm, r3, fun b h1 h2 => ?_⟩
          have hbg : b ≠ g := fun e => h2 (by simp [Value.ownBlock, e])
          rw [setRow_other _ _ _ _ hbg]
          exact HD.out.keep b h1 h2
        clear hcur hsz
        generalize (wr.setRow g (cur.toList.take (i * 2) ++ zOpts (n - i) ++ cur.toList.drop (i * 2 + (n - i) * 2)).toArray) = W9 at *
        go_wp2
        go_ret
        exact HDN.out
end Go.Proofs.Ytoifblndpcelkaa

/-
  bootp.rooms.
-/
namespace Go.Proofs.Ytoifblndpcelkaa
open Go.RowKit
set_option linter.all false

theorem PV.of_row {w : World} {a : Option Addr} {n c : Nat} {ps : List Part} (h : Row w 33 (.slice a n c) (ps.map Part.val)) (hp : ∀ p ∈ ps, p.ok w) : PV w a ps ∧ n = ps.length := by
  obtain ⟨a0, c0, e, _⟩ := h.form
  simp only [Value.slice.injEq, List.length_map] at e
  refine ⟨⟨fun i p hi => ?_, hp⟩, e.2.1⟩
  have hl : i < (ps.map Part.val).length := by rw [List.length_map]; exact (List.getElem?_eq_some_iff.1 hi).1
  obtain ⟨g, cap, ev, hc⟩ := h.cell i hl
  simp only [Value.slice.injEq] at ev
  refine ⟨g, 0, ev.1, ?_⟩
  rw [Nat.zero_add, hc, List.getElem_map]
  rw [(List.getElem?_eq_some_iff.1 hi).2]
/-- one more room behind the others. -/
theorem room_app {w : World} {v : Value} {vs : List Value} (B : Nat) (h : Row w 33 v vs) (x : Value) (hx : x.oneCell' = true) (hB : B ≤ w.heap.size) (hf : ∀ b, v.ownBlock = some b → B ≤ b) (hl : vs.length ≤ 5) :
    ∃ a n c w', (Builtin.append_ #[39, 39] 39 #[v, .slice (some ⟨w.heap.size, 0, none⟩) 1 1]).run Try.prog (w.alloc (.cells #[x] 33)) = .ok (.slice a n c) w' ∧ Row w' 33 (.slice a n c) (vs ++ [x]) ∧ (∀ b, (Value.slice a n c).ownBlock = some b → B ≤ b) ∧ Below B w w' := by
  have ha := h.below (bpush (Below.refl _ w) (.cells #[x] 33))
  obtain ⟨v', w1, h1, h2, h3, h4⟩ := append_one 39 39 33 _ 24 Try.underlying39 infoSl rfl ha x hx w.heap.size (0, 0) (heap_new w _) (by unfold maxLen; omega) (by omega)
  obtain ⟨a, c, e, _⟩ := h2.form
  rw [e] at h1 h2
  refine ⟨a, _, c, w1, h1, h2, ?_, ((bpush (Below.refl _ w) _).mono hB).trans (grown_from h3 hf (Nat.le_trans hB (by simp)))⟩
  rw [← e]
  intro b hb
  rcases h4 with ⟨g, cap, e1, e2⟩ | ⟨g, cap, e1, e2, _⟩
  · rw [e2] at hb
    refine hf b ?_
    rw [e1]
    exact hb
  · rw [e1] at hb
    simp only [Value.ownBlock, Option.some.injEq] at hb
    subst hb
    simp at e2
    omega
def rm0 (b o c : Nat) (zs : List Int) : Part := ⟨if c = 240 then some ⟨b, o, none⟩ else some ⟨b, o + 240, none⟩, c - 240, zs.drop 240⟩
def rmF (b o c : Nat) (zs : List Int) : Part := ⟨some ⟨b, o + 108, none⟩, c - 108, (zs.drop 108).take 128⟩
def rmS (b o c : Nat) (zs : List Int) : Part := ⟨some ⟨b, o + 44, none⟩, c - 44, (zs.drop 44).take 64⟩
/-- the rooms that hold options. -/
def roomsP (b o c : Nat) (zs : List Int) (h : Int) : List Part := [rm0 b o c zs] ++ (if h = 1 ∨ h = 3 then [rmF b o c zs] else []) ++ (if h = 2 ∨ h = 3 then [rmS b o c zs] else [])
theorem rm0_ok {w : World} {b o c : Nat} {zs : List Int} (hok : Part.ok w ⟨some ⟨b, o, none⟩, c, zs⟩) (h : 240 ≤ zs.length) : (rm0 b o c zs).ok w := by
  have := cut_ok hok 240 (zs.length - 240) (by omega)
  rw [List.take_of_length_le (by simp)] at this
  exact this
theorem rmF_ok {w : World} {b o c : Nat} {zs : List Int} (hok : Part.ok w ⟨some ⟨b, o, none⟩, c, zs⟩) (h : 240 ≤ zs.length) : (rmF b o c zs).ok w := Part.sub_ok hok 108 128 _ (by omega) (by have := hok.2.1; simp only at this; omega)
theorem rmS_ok {w : World} {b o c : Nat} {zs : List Int} (hok : Part.ok w ⟨some ⟨b, o, none⟩, c, zs⟩) (h : 240 ≤ zs.length) : (rmS b o c zs).ok w := Part.sub_ok hok 44 64 _ (by omega) (by have := hok.2.1; simp only at this; omega)
theorem rooms_ok {w : World} {b o c : Nat} {zs : List Int} (hok : Part.ok w ⟨some ⟨b, o, none⟩, c, zs⟩) (h : 240 ≤ zs.length) (k : Int) : ∀ p ∈ roomsP b o c zs k, p.ok w := fun p hp => by
  unfold roomsP at hp
  simp only [List.mem_append, List.mem_singleton] at hp
  rcases hp with (rfl | hp) | hp
  · exact rm0_ok hok h
  · split at hp
    · simp at hp; subst hp; exact rmF_ok hok h
    · simp at hp
  · split at hp
    · simp at hp; subst hp; exact rmS_ok hok h
    · simp at hp
def RmI (w w' : World) (a : Option Addr) (n : Nat) (ps : List Part) : Prop := PV w' a ps ∧ n = ps.length ∧ Below w.heap.size w w'
def RmP (w : World) (ps : List Part) (e : Ending) (w' : World) : Prop := ∃ a n cx, e = .returned (.slice a n cx) ∧ RmI w w' a n ps
set_option maxRecDepth 20000 in
set_option maxHeartbeats 1000000 in
theorem rooms_any (b o c : Nat) (zs : List Int) (h : Int) (w : World) (hok : Part.ok w ⟨some ⟨b, o, none⟩, c, zs⟩) (hl : 240 ≤ zs.length) (hh : h = 1 ∨ h = 2 ∨ h = 3) :
    Calls Try.prog 33 #[.slice (some ⟨b, o, none⟩) zs.length c, .int .i64 h] w fun e w' => RmP w (roomsP b o c zs h) e w' := by
  have hcap : zs.length ≤ c := hok.2.1
  have HP := hid (fun (w' : World) (hb : Below w.heap.size w w') => rooms_ok (Part.ok_below hok hb) hl h)
  have i0 : ∀ p : Part, p.val.oneCell' = true := fun p => rfl
  have e0 : (rm0 b o c zs).val = .slice (if c = 240 then some ⟨b, o, none⟩ else some ⟨b, o + 240, none⟩) (zs.length - 240) (c - 240) := by simp [rm0, Part.val]
  have e1 : (rmF b o c zs).val = .slice (some ⟨b, o + 108, none⟩) 128 (c - 108) := by simp [rmF, Part.val]; omega
  have e2 : (rmS b o c zs).val = .slice (some ⟨b, o + 44, none⟩) 64 (c - 44) := by simp [rmS, Part.val]; omega
  obtain ⟨v0, hv0⟩ : ∃ v, v = (rm0 b o c zs).val := ⟨_, rfl⟩
  have R0 : Row (w.alloc (.cells #[v0] 33)) 33 (.slice (some ⟨w.heap.size, 0, none⟩) 1 1) [v0] := Row.of_heap (heap_new w _) (by unfold maxLen; simp)
  have B0 : Below w.heap.size w (w.alloc (.cells #[v0] 33)) := bpush (Below.refl _ _) _
  obtain ⟨a1, n1, c1, w1, r1, R1, F1, B1⟩ := room_app w.heap.size R0 (rmF b o c zs).val rfl (by simp) (by simp [Value.ownBlock]) (by simp)
  obtain ⟨a2, n2, c2, w2, r2, R2, F2, B2⟩ := room_app w.heap.size R0 (rmS b o c zs).val rfl (by simp) (by simp [Value.ownBlock]) (by simp)
  obtain ⟨a3, n3, c3, w3, r3, R3, F3, B3⟩ := room_app w.heap.size R1 (rmS b o c zs).val rfl (Nat.le_trans B0.size B1.size) F1 (by simp)
  have HF : Hid (∀ a n cx w', Below w.heap.size w w' → Row w' 33 (.slice a n cx) ((roomsP b o c zs h).map Part.val) → RmI w w' a n (roomsP b o c zs h)) := fun a n cx w' hb hr => by
    obtain ⟨p1, p2⟩ := PV.of_row hr (HP.out w' hb)
    exact ⟨p1, p2, hb⟩
  have q1 : (240 : Int) ≤ (zs.length : Int) := by omega
  have q2 : (236 : Int) ≤ (c : Int) := by omega
  have q3 : (108 : Int) ≤ (c : Int) := by omega
  have q4 : ¬ c = 108 := by omega
  have q5 : ¬ c = 44 := by omega
  rw [hv0, e0] at r1 r2
  rw [e1] at r1
  rw [e2] at r2 r3
  simp only [World.size_alloc] at r1 r2
  have HR1 := hid r1
  have HR2 := hid r2
  have HR3 := hid r3
  rcases hh with rfl | rfl | rfl
  · have HX : Hid (RmP w (roomsP b o c zs 1) (.returned (.slice a1 n1 c1)) w1) := ⟨_, _, _, rfl, HF.out a1 n1 c1 w1 (B0.trans B1) (by rw [hv0] at R1; exact R1)⟩
    clear hok hcap e0 e1 e2 hv0 R0 B0 r1 R1 F1 B1 r2 R2 F2 B2 r3 R3 F3 B3 HF HP i0 HR2 HR3
    generalize zs.length = n at *
    go_enter Try.func33, Try.ntmps33
    go_wp2_with (first
      | (at_builtin; refine wpList_append_run _ rfl _ _ _ _ rfl _ _ rfl rfl HR1.out ?_; clear HR1))
    all_goals
      go_ret
      first
        | exact HX.out
        | (have hc : c = 240 := by assumption
           have hx := HX.out
           rw [hc] at hx
           exact hx)
  · have HX : Hid (RmP w (roomsP b o c zs 2) (.returned (.slice a2 n2 c2)) w2) := ⟨_, _, _, rfl, HF.out a2 n2 c2 w2 (B0.trans B2) (by rw [hv0] at R2; exact R2)⟩
    clear hok hcap e0 e1 e2 hv0 R0 B0 r1 R1 F1 B1 r2 R2 F2 B2 r3 R3 F3 B3 HF HP i0 HR1 HR3
    generalize zs.length = n at *
    go_enter Try.func33, Try.ntmps33
    go_wp2_with (first
      | (at_builtin; refine wpList_append_run _ rfl _ _ _ _ rfl _ _ rfl rfl HR2.out ?_; clear HR2))
    all_goals
      go_ret
      first
        | exact HX.out
        | (have hc : c = 240 := by assumption
           have hx := HX.out
           rw [hc] at hx
           exact hx)
  · have HX : Hid (RmP w (roomsP b o c zs 3) (.returned (.slice a3 n3 c3)) w3) := ⟨_, _, _, rfl, HF.out a3 n3 c3 w3 ((B0.trans B1).trans B3) (by rw [hv0] at R3; exact R3)⟩
    clear hok hcap e0 e1 e2 hv0 R0 B0 r1 R1 F1 B1 r2 R2 F2 B2 r3 R3 F3 B3 HF HP i0 HR2
    generalize zs.length = n at *
    go_enter Try.func33, Try.ntmps33
    go_wp2_with (first
      | (at_builtin; refine wpList_append_run _ rfl _ _ _ _ rfl _ _ rfl rfl HR1.out ?_; clear HR1)
      | (at_builtin; refine wpList_append_run _ rfl _ _ _ _ rfl _ _ rfl rfl HR3.out ?_; clear HR3))
    all_goals
      go_ret
      first
        | exact HX.out
        | (have hc : c = 240 := by assumption
           have hx := HX.out
           rw [hc] at hx
           exact hx)
end Go.Proofs.Ytoifblndpcelkaa

/-
  What bootp.Decode answers, without memory; what it lays, in memory.
-/
namespace Go.Proofs.Ytoifblndpcelkaa
open Go.RowKit
set_option linter.all false

/-- which rooms hold options; the error. -/
def ovG (L : List Opt) : Int × Int := if L.any (fun o => o.1 == 52) then (if exN ((findO L 52).getD []) 1 = 0 ∨ 3 < exN ((findO L 52).getD []) 1 then (0, 162) else (exN ((findO L 52).getD []) 1, 0)) else (0, 0)
theorem ovV_abs (os : List OP) : ovV os = ovG (absO os) := by
  have e1 : ovB os = (absO os).any (fun o => o.1 == 52) := by simp [ovB, absO, Function.comp_def]
  have e2 : (fstP os 52).zs = (findO (absO os) 52).getD [] := by
    rw [find_abs]
    unfold fstP
    cases fst? os 52 <;> rfl
  unfold ovV ovG
  rw [e1, e2]
def roomsZ (zs : List Int) (h : Int) : List (List Int) := [zs.drop 240] ++ (if h = 1 ∨ h = 3 then [(zs.drop 108).take 128] else []) ++ (if h = 2 ∨ h = 3 then [(zs.drop 44).take 64] else [])
theorem rooms_parts (b o c : Nat) (zs : List Int) (h : Int) : partsZ (roomsP b o c zs h) = roomsZ zs h := by
  unfold partsZ roomsP roomsZ
  simp only [List.map_append]
  congr 1
  · congr 1
    split <;> rfl
  · split <;> rfl
def snS (zs : List Int) : ByteArray := strOfNums (txt ((zs.drop 44).take 64))
def flS (zs : List Int) : ByteArray := strOfNums (txt ((zs.drop 108).take 128))
/-- a message as it was read, but for its options. -/
def decB (zs : List Int) (h : Int) : Bp := { fldB zs with sname := if h = 2 ∨ h = 3 then noText else snS zs, file := if h = 1 ∨ h = 3 then noText else flS zs }
def dec2 (zs : List Int) (h : Int) : Except Int (List Opt) → Except Int (Bp × List Opt)
  | .error e => .error e
  | .ok g => .ok (decB zs h, g.filter fun o => o.1 != 52)
def dec1 (zs : List Int) : Except Int (List Opt) → Except Int (Bp × List Opt)
  | .error e => .error e
  | .ok g => if (ovG g).2 ≠ 0 then .error (ovG g).2 else dec2 zs (ovG g).1 (if (ovG g).1 = 0 then .ok g else parseG [] (roomsZ zs (ovG g).1))
/-- what Decode answers. -/
def decR (zs : List Int) : Except Int (Bp × List Opt) := if unR zs ≠ 0 then .error (unR zs) else dec1 zs (parseG [] [zs.drop 240])
def decA : Except Int (Bp × List Opt) → Bp
  | .error _ => zeroBp
  | .ok p => p.1
def decL : Except Int (Bp × List Opt) → List Opt
  | .error _ => []
  | .ok p => p.2
def decX : Except Int (Bp × List Opt) → Int
  | .error e => e
  | .ok _ => 0
/-- options of a call's own. -/
def OptI (w W : World) (v : Value) (g : List Opt) : Prop := ∃ E, OwnO w.heap.size W v E ∧ codes E = g
theorem OptI.below {w W W' : World} {v : Value} {g : List Opt} (h : OptI w W v g) (hb : Below W.heap.size W W') : OptI w W' v g := by
  obtain ⟨E, h1, h2⟩ := h
  exact ⟨E, h1.below hb, h2⟩
def DecP (w : World) (R : Except Int (Bp × List Opt)) (e : Ending) (w' : World) : Prop := ∃ a n c, e = .returned (.tuple #[(decA R).val (.slice a n c), .int .i64 (decX R)]) ∧ OptI w w' (.slice a n c) (decL R) ∧ Below w.heap.size w w'
theorem decP_err (w : World) (E : Int) (w' : World) (hb : Below w.heap.size w w') : DecP w (.error E) (.returned (.tuple #[.agg zeroC, .int .i64 E])) w' := ⟨none, 0, 0, rfl, ⟨[], OwnO.nil _ _, rfl⟩, hb⟩
/-- what stays: all blocks but that of a row. -/
def Stays (W w' : World) (v : Value) : Prop := ∀ b, b < W.heap.size → v.ownBlock ≠ some b → w'.heap[b]? = W.heap[b]?
/-- a Decode under way: the answer's box, the message's. -/
structure DcS (w : World) (gm : Nat) (X : Array Value) (W : World) : Prop where
  res : W.heap[w.heap.size]? = some (.cells zeroC 28 (0, 0))
  box : W.heap[gm]? = some (.cells X 28 (0, 0))
  ne : w.heap.size ≠ gm
  low : w.heap.size ≤ gm
  below : Below w.heap.size w W
theorem DcS.keep {w W W' : World} {gm : Nat} {X : Array Value} (h : DcS w gm X W) (hb : Below W.heap.size W W') : DcS w gm X W' := ⟨kept h.res hb, kept h.box hb, h.ne, h.low, bstep h.below hb⟩
theorem DcS.next {w W W' : World} {gm : Nat} {X X' : Array Value} (h : DcS w gm X W) (hb : But gm W W') (hx : W'.heap[gm]? = some (.cells X' 28 (0, 0))) : DcS w gm X' W' := ⟨keptBut h.res hb h.ne, hx, h.ne, h.low, bbut h.below hb h.low⟩
theorem DcS.new {w W W' : World} (hr : W.heap[w.heap.size]? = some (.cells zeroC 28 (0, 0))) (hb : Below w.heap.size w W) (e : W' = W.alloc (.cells zeroC 28)) : DcS w W.heap.size zeroC W' := by
  subst e
  have h1 := bpush (Below.refl _ W) (.cells zeroC 28)
  have h2 := heap_lt hr
  exact ⟨kept hr h1, heap_new _ _, by omega, by omega, bstep hb h1⟩
theorem OptI.obj {w W : World} {v : Value} {g : List Opt} (h : OptI w W v g) {b : Nat} (hb : v.ownBlock = some b ∨ ∃ E, OwnO w.heap.size W v E ∧ ∃ p ∈ E, p.2.ownBlock = some b) {X : Array Value} : W.heap[b]? ≠ some (.cells X 28 (0, 0)) := fun hx => by
  obtain ⟨E, h1, _⟩ := h
  rcases hb with hb | ⟨E', h2, p, hp, hb⟩
  · obtain ⟨c1, e⟩ := h1.row.obj hb
    rw [e] at hx
    simp at hx
  · obtain ⟨c1, f, e⟩ := (h2.data p hp).obj hb
    rw [e] at hx
    simp at hx
theorem OptI.but {w W W' : World} {v : Value} {g : List Opt} {gm : Nat} {X : Array Value} (h : OptI w W v g) (hb : But gm W W') (hs : DcS w gm X W) : OptI w W' v g := by
  have h0 := h
  obtain ⟨E, h1, h2⟩ := h
  refine ⟨E, h1.keep fun b hi => hb.block b (fun e => ?_) (h1.lt hi).2, h2⟩
  subst e
  rcases hi with hi | ⟨p, hp, hi⟩
  · exact h0.obj (Or.inl hi) hs.box
  · exact h0.obj (Or.inr ⟨E, h1, p, hp, hi⟩) hs.box
theorem OptI.res {w W W' : World} {v : Value} {g : List Opt} {gm : Nat} {X : Array Value} (h : OptI w W v g) (hs : DcS w gm X W) (hb : But w.heap.size W W') : OptI w W' v g := by
  have h0 := h
  obtain ⟨E, h1, h2⟩ := h
  refine ⟨E, h1.keep fun b hi => hb.block b (fun e => ?_) (h1.lt hi).2, h2⟩
  subst e
  rcases hi with hi | ⟨p, hp, hi⟩
  · exact h0.obj (Or.inl hi) hs.res
  · exact h0.obj (Or.inr ⟨E, h1, p, hp, hi⟩) hs.res
theorem DcS.del {w W W' : World} {gm : Nat} {X : Array Value} {v : Value} {g : List Opt} (h : DcS w gm X W) (ho : OptI w W v g) (hk : Stays W W' v) (hb : Below w.heap.size W W') : DcS w gm X W' :=
  ⟨(hk _ (heap_lt h.res) fun e => ho.obj (Or.inl e) h.res).trans h.res, (hk _ (heap_lt h.box) fun e => ho.obj (Or.inl e) h.box).trans h.box, h.ne, h.low, h.below.trans hb⟩
end Go.Proofs.Ytoifblndpcelkaa

/-
  What Encode wrote is read as it was, whatever stands behind it: without memory.
-/
namespace Go.Proofs.Ytoifblndpcelkaa
open Go.RowKit
set_option linter.all false

/-- what stands ahead of the options: 34 bytes, one by one, then the rooms. -/
def hd34 (m : Bp) (r : List Int) : List Int :=
  m.op % 256 :: 1 :: 6 :: m.hops % 256 :: m.xid / 16777216 % 256 :: m.xid / 65536 % 256 :: m.xid / 256 % 256 :: m.xid % 256 :: m.secs / 256 % 256 :: m.secs % 256 :: flagN m.all / 256 % 256 :: flagN m.all % 256 ::
  m.ci / 16777216 % 256 :: m.ci / 65536 % 256 :: m.ci / 256 % 256 :: m.ci % 256 :: m.yi / 16777216 % 256 :: m.yi / 65536 % 256 :: m.yi / 256 % 256 :: m.yi % 256 :: m.si / 16777216 % 256 :: m.si / 65536 % 256 :: m.si / 256 % 256 :: m.si % 256 :: m.gi / 16777216 % 256 :: m.gi / 65536 % 256 :: m.gi / 256 % 256 :: m.gi % 256 ::
  m.mac.b0 :: m.mac.b1 :: m.mac.b2 :: m.mac.b3 :: m.mac.b4 :: m.mac.b5 :: r
def rmSn (m : Bp) : List Int := nums m.sname ++ zs0 (64 - m.sname.size)
def rmFl (m : Bp) : List Int := nums m.file ++ zs0 (128 - m.file.size)
theorem encL_form (m : Bp) (O rest : List Int) : encL m O ++ rest = hd34 m (zs0 10 ++ (rmSn m ++ (rmFl m ++ (mark4 ++ (O ++ (zs0 (60 - O.length) ++ rest)))))) := by
  simp only [encL, segL, segN, segT, rmSn, rmFl, List.cons_append, List.nil_append, List.flatten_cons, List.flatten_nil, List.append_nil, List.append_assoc, show (0:Nat) < 9 by omega, show (1:Nat) < 9 by omega, show (2:Nat) < 9 by omega, show (3:Nat) < 9 by omega, show (4:Nat) < 9 by omega, show (5:Nat) < 9 by omega, show (6:Nat) < 9 by omega, show (7:Nat) < 9 by omega, show (8:Nat) < 9 by omega, if_true]
  rfl
theorem rmSn_len {m : Bp} (h : m.sname.size ≤ 64) : (rmSn m).length = 64 := by simp [rmSn, nums_len, zs0_len]; omega
theorem rmFl_len {m : Bp} (h : m.file.size ≤ 128) : (rmFl m).length = 128 := by simp [rmFl, nums_len, zs0_len]; omega
theorem hd34_drop (m : Bp) (r : List Int) (k : Nat) : (hd34 m r).drop (34 + k) = r.drop k := by
  rw [← List.drop_drop]
  rfl
theorem drop_past {a b : List Int} {n k : Nat} (h : a.length = n) : (a ++ b).drop (n + k) = b.drop k := by
  subst h
  simp
theorem enc44 (m : Bp) (O rest : List Int) : (encL m O ++ rest).drop 44 = rmSn m ++ (rmFl m ++ (mark4 ++ (O ++ (zs0 (60 - O.length) ++ rest)))) := by
  rw [encL_form, show 44 = 34 + 10 from rfl, hd34_drop, show 10 = 10 + 0 from rfl, drop_past (zs0_len 10)]
  rfl
theorem enc108 (m : Bp) (O rest : List Int) (h : m.sname.size ≤ 64) : (encL m O ++ rest).drop 108 = rmFl m ++ (mark4 ++ (O ++ (zs0 (60 - O.length) ++ rest))) := by
  rw [show 108 = 44 + (64 + 0) from rfl, ← List.drop_drop, enc44, drop_past (rmSn_len h)]
  rfl
theorem enc236 (m : Bp) (O rest : List Int) (h : m.sname.size ≤ 64) (h2 : m.file.size ≤ 128) : (encL m O ++ rest).drop 236 = mark4 ++ (O ++ (zs0 (60 - O.length) ++ rest)) := by
  rw [show 236 = 108 + (128 + 0) from rfl, ← List.drop_drop, enc108 m O rest h, drop_past (rmFl_len h2)]
  rfl
theorem enc240 (m : Bp) (O rest : List Int) (h : m.sname.size ≤ 64) (h2 : m.file.size ≤ 128) : (encL m O ++ rest).drop 240 = O ++ (zs0 (60 - O.length) ++ rest) := by
  rw [show 240 = 236 + (4 + 0) from rfl, ← List.drop_drop, enc236 m O rest h h2, drop_past (show mark4.length = 4 from rfl)]
  rfl
theorem getD_drop (zs : List Int) (a k : Nat) : zs.getD (a + k) 0 = (zs.drop a).getD k 0 := by
  simp [List.getD_eq_getElem?_getD]
theorem getTo_drop (zs : List Int) (a : Nat) : ∀ k, getTo zs a k = getTo (zs.drop a) 0 k
  | 0 => rfl
  | k + 1 => by
    simp only [getTo]
    rw [getTo_drop zs a k, getD_drop, Nat.zero_add]
theorem txt_pad : ∀ (l : List Int) (n : Nat), (0 : Int) ∉ l → 0 < n → txt (l ++ zs0 n) = l
  | [], n, _, hn => by
    obtain ⟨k, rfl⟩ : ∃ k, n = k + 1 := ⟨n - 1, by omega⟩
    rfl
  | z :: l, n, h, hn => by
    have hz : z ≠ 0 := fun e => h (by simp [e])
    have := txt_pad l n (fun e => h (by simp [e])) hn
    unfold txt at this ⊢
    rw [List.cons_append, List.takeWhile_cons, if_pos (by simpa using hz), this]
theorem take_head {a b : List Int} {n : Nat} (h : a.length = n) : (a ++ b).take n = a := by
  subst h
  simp
/-- a message that may be written, its options aside. -/
structure Fits (m : Bp) : Prop where
  ok : m.ok
  op : m.op = 1 ∨ m.op = 2
  hops : 0 ≤ m.hops ∧ m.hops ≤ 255
  secs : 0 ≤ m.secs ∧ m.secs ≤ 65535
  sz : zeroIn m.sname = false
  fz : zeroIn m.file = false
  sl : m.sname.size ≤ 63
  fl : m.file.size ≤ 127
theorem Fits.of {m : Bp} {b : Bool} (hm : m.ok) (h : unE m b = 0) : Fits m ∧ b = false := by
  obtain ⟨u1, u2, u3, u4, u5, u6, u7, u8⟩ := unE_zero h
  exact ⟨⟨hm, u1, u2, u3, u4, u5, u6, u7⟩, u8⟩
theorem snS_back {m : Bp} (h : Fits m) (O rest : List Int) : snS (encL m O ++ rest) = m.sname := by
  unfold snS
  rw [enc44, take_head (rmSn_len (by have := h.sl; omega)), rmSn, txt_pad _ _ (by have := h.sz; simpa [zeroIn] using this) (by have := h.sl; omega), str_nums]
theorem flS_back {m : Bp} (h : Fits m) (O rest : List Int) : flS (encL m O ++ rest) = m.file := by
  unfold flS
  rw [enc108 m O rest (by have := h.sl; omega), take_head (rmFl_len (by have := h.fl; omega)), rmFl, txt_pad _ _ (by have := h.fz; simpa [zeroIn] using this) (by have := h.fl; omega), str_nums]
theorem get1 {z : Int} : (0 : Int) * 256 + z = z := by omega
theorem fldB_back {m : Bp} (h : Fits m) (O rest : List Int) : fldB (encL m O ++ rest) = { m with sname := noText, file := noText } := by
  have hx := h.ok.xid
  have h1 := h.ok.ci
  have h2 := h.ok.yi
  have h3 := h.ok.si
  have h4 := h.ok.gi
  have h5 := h.hops
  have h6 := h.secs
  have h7 := h.op
  rw [encL_form]
  generalize zs0 10 ++ (rmSn m ++ (rmFl m ++ (mark4 ++ (O ++ (zs0 (60 - O.length) ++ rest))))) = r
  obtain ⟨op, hops, xid, secs, all, ci, yi, si, gi, ⟨b0, b1, b2, b3, b4, b5⟩, sname, file⟩ := m
  simp only at *
  have e0 : getTo (hd34 ⟨op, hops, xid, secs, all, ci, yi, si, gi, ⟨b0, b1, b2, b3, b4, b5⟩, sname, file⟩ r) 0 1 = op := by
    show 0 * 256 + op % 256 = op
    omega
  have e1 : getTo (hd34 ⟨op, hops, xid, secs, all, ci, yi, si, gi, ⟨b0, b1, b2, b3, b4, b5⟩, sname, file⟩ r) 3 1 = hops := by
    show 0 * 256 + hops % 256 = hops
    omega
  have e2 : getTo (hd34 ⟨op, hops, xid, secs, all, ci, yi, si, gi, ⟨b0, b1, b2, b3, b4, b5⟩, sname, file⟩ r) 4 4 = xid := by
    show (((0 * 256 + xid / 16777216 % 256) * 256 + xid / 65536 % 256) * 256 + xid / 256 % 256) * 256 + xid % 256 = xid
    omega
  have e3 : getTo (hd34 ⟨op, hops, xid, secs, all, ci, yi, si, gi, ⟨b0, b1, b2, b3, b4, b5⟩, sname, file⟩ r) 8 2 = secs := by
    show (0 * 256 + secs / 256 % 256) * 256 + secs % 256 = secs
    omega
  have e4 : decide (32768 ≤ getTo (hd34 ⟨op, hops, xid, secs, all, ci, yi, si, gi, ⟨b0, b1, b2, b3, b4, b5⟩, sname, file⟩ r) 10 2) = all := by
    show decide (32768 ≤ (0 * 256 + flagN all / 256 % 256) * 256 + flagN all % 256) = all
    cases all <;> rfl
  have e5 : getTo (hd34 ⟨op, hops, xid, secs, all, ci, yi, si, gi, ⟨b0, b1, b2, b3, b4, b5⟩, sname, file⟩ r) 12 4 = ci := by
    show (((0 * 256 + ci / 16777216 % 256) * 256 + ci / 65536 % 256) * 256 + ci / 256 % 256) * 256 + ci % 256 = ci
    omega
  have e6 : getTo (hd34 ⟨op, hops, xid, secs, all, ci, yi, si, gi, ⟨b0, b1, b2, b3, b4, b5⟩, sname, file⟩ r) 16 4 = yi := by
    show (((0 * 256 + yi / 16777216 % 256) * 256 + yi / 65536 % 256) * 256 + yi / 256 % 256) * 256 + yi % 256 = yi
    omega
  have e7 : getTo (hd34 ⟨op, hops, xid, secs, all, ci, yi, si, gi, ⟨b0, b1, b2, b3, b4, b5⟩, sname, file⟩ r) 20 4 = si := by
    show (((0 * 256 + si / 16777216 % 256) * 256 + si / 65536 % 256) * 256 + si / 256 % 256) * 256 + si % 256 = si
    omega
  have e8 : getTo (hd34 ⟨op, hops, xid, secs, all, ci, yi, si, gi, ⟨b0, b1, b2, b3, b4, b5⟩, sname, file⟩ r) 24 4 = gi := by
    show (((0 * 256 + gi / 16777216 % 256) * 256 + gi / 65536 % 256) * 256 + gi / 256 % 256) * 256 + gi % 256 = gi
    omega
  have e9 : macAt (hd34 ⟨op, hops, xid, secs, all, ci, yi, si, gi, ⟨b0, b1, b2, b3, b4, b5⟩, sname, file⟩ r) 28 = ⟨b0, b1, b2, b3, b4, b5⟩ := rfl
  simp only [fldB, fldN, e0, e1, e2, e3, e4, e5, e6, e7, e8, e9, show (0:Nat) < 9 by omega, show (1:Nat) < 9 by omega, show (2:Nat) < 9 by omega, show (3:Nat) < 9 by omega, show (4:Nat) < 9 by omega, show (5:Nat) < 9 by omega, show (6:Nat) < 9 by omega, show (7:Nat) < 9 by omega, show (8:Nat) < 9 by omega, if_true]
theorem unR_back {m : Bp} (h : Fits m) (O rest : List Int) : unR (encL m O ++ rest) = 0 := by
  have h7 := h.op
  have hl : ¬ (encL m O ++ rest).length < 240 := by
    rw [List.length_append, encL_len m O (by have := h.sl; omega) (by have := h.fl; omega)]
    omega
  have e0 : (encL m O ++ rest).getD 0 0 = m.op := by
    rw [encL_form]
    show m.op % 256 = m.op
    omega
  have e1 : getTo (encL m O ++ rest) 1 2 = 262 := by rw [encL_form]; rfl
  have e2 : getTo (encL m O ++ rest) 236 4 = 1669485411 := by
    rw [getTo_drop, enc236 m O rest (by have := h.sl; omega) (by have := h.fl; omega)]
    rfl
  unfold unR
  rw [if_neg hl, e0, e1, e2, if_neg (fun hh => hh ⟨h7, rfl⟩), if_neg (by simp)]
theorem ovG_none {L : List Opt} (h : (L.any fun o => o.1 == 52) = false) : ovG L = (0, 0) := by
  unfold ovG
  rw [h]
  rfl
theorem filt_none {L : List Opt} (h : (L.any fun o => o.1 == 52) = false) : (L.filter fun o => o.1 != 52) = L := by
  rw [List.filter_eq_self]
  intro o ho
  rw [List.any_eq_false] at h
  have := h o ho
  simpa using this
theorem packE_apart {L : List Opt} {room : Int} (h : packE L room = 0) : Apart L ∧ L.length ≤ 64 ∧ ((packB L).length : Int) ≤ room := by
  unfold packE at h
  split at h
  · split at h
    · omega
    · split at h
      · omega
      · exact ⟨by assumption, by omega, by omega⟩
  · omega
/-- what was written is read. -/
theorem dec_back {m : Bp} (h : Fits m) {L : List Opt} (hp : packE L 1232 = 0) (ho : (L.any fun o => o.1 == 52) = false) (rest : List Int) : decR (encL m (packA L 1232) ++ rest) = .ok (m, L) := by
  obtain ⟨p1, p2, p3⟩ := packE_apart hp
  have eA : packA L 1232 = packB L := by unfold packA; rw [if_pos hp]
  rw [eA]
  unfold decR
  rw [unR_back h, if_neg (by simp), enc240 m _ _ (by have := h.sl; omega) (by have := h.fl; omega)]
  have e1 : parseG [] [packB L ++ (zs0 (60 - (packB L).length) ++ rest)] = .ok L := by
    unfold parseG
    rw [read_pack p1 p2]
    rfl
  rw [e1]
  simp only [dec1, ovG_none ho]
  simp only [ne_eq, not_true, if_false, if_true, dec2, filt_none ho]
  congr 2
  unfold decB
  rw [fldB_back h, snS_back h, flS_back h]
  rfl
end Go.Proofs.Ytoifblndpcelkaa

/-
  The contract of bootp.Encode, of any message.
-/
namespace Go.Proofs.Ytoifblndpcelkaa
open Go.RowKit
set_option linter.all false

def ov52 (L : List Opt) : Bool := L.any fun o => o.1 == 52
theorem ovB_abs (os : List OP) : ovB os = ov52 (absO os) := by simp [ovB, ov52, absO, Function.comp_def]
/-- Encode's error. -/
def encX (m : Bp) (L : List Opt) : Int := if unE m (ov52 L) = 0 then packE L 1232 else unE m (ov52 L)
/-- Encode's bytes. -/
def encZ (m : Bp) (L : List Opt) : List Int := if encX m L = 0 then encL m (packA L 1232) else []
theorem packA_bd {L : List Opt} (hz : ∀ o ∈ L, ∀ z ∈ o.2, 0 ≤ z ∧ z ≤ 255) : ∀ z, z ∈ packA L 1232 → 0 ≤ z ∧ z ≤ 255 := fun z hzz => by
  unfold packA at hzz
  split at hzz
  · next h =>
    obtain ⟨p1, _, _⟩ := packE_apart h
    unfold packB layL at hzz
    rcases List.mem_append.1 hzz with h1 | h1
    · obtain ⟨o, ho, h2⟩ := List.mem_flatMap.1 h1
      exact layO_bd (by have := p1.1 o ho; omega) (hz o ho) z h2
    · simp at h1
      omega
  · simp at hzz
theorem packA_len {L : List Opt} (h : packE L 1232 = 0) : (packA L 1232).length ≤ 1232 := by
  obtain ⟨_, _, h3⟩ := packE_apart h
  unfold packA
  rw [if_pos h]
  omega
theorem encX_zero {m : Bp} {L : List Opt} (h : encX m L = 0) : unE m (ov52 L) = 0 ∧ packE L 1232 = 0 := by
  unfold encX at h
  split at h
  · exact ⟨by assumption, h⟩
  · next h1 => exact absurd h h1
theorem encZ_len {m : Bp} {L : List Opt} (h : encX m L = 0) : 300 ≤ (encZ m L).length ∧ (encZ m L).length ≤ 1472 := by
  obtain ⟨h1, h2⟩ := encX_zero h
  obtain ⟨u1, u2, u3, u4, u5, u6, u7, u8⟩ := unE_zero h1
  unfold encZ
  rw [if_pos h, encL_len m _ (by omega) (by omega)]
  have := packA_len h2
  omega
theorem encZ_bd {m : Bp} {L : List Opt} (hm : m.mac.ok) (hz : ∀ o ∈ L, ∀ z ∈ o.2, 0 ≤ z ∧ z ≤ 255) : ∀ z, z ∈ encZ m L → 0 ≤ z ∧ z ≤ 255 := by
  unfold encZ
  split
  · exact encL_bd m _ hm (packA_bd hz)
  · simp
theorem encZ_le (m : Bp) (L : List Opt) : (encZ m L).length ≤ 1472 := by
  by_cases h : encX m L = 0
  · exact (encZ_len h).2
  · unfold encZ
    rw [if_neg h]
    simp
theorem abs_bd {w : World} {a : Option Addr} {os : List OP} (h : OV w a os) : ∀ o ∈ absO os, ∀ z ∈ o.2, 0 ≤ z ∧ z ≤ 255 := fun o ho => by
  obtain ⟨p, hp, rfl⟩ := List.mem_map.1 ho
  exact (h.oks p hp).1.1
/-- what was written is read. -/
theorem decZ_back {m : Bp} (hm : m.ok) {L : List Opt} (h : encX m L = 0) (rest : List Int) : decR (encZ m L ++ rest) = .ok (m, L) := by
  obtain ⟨h1, h2⟩ := encX_zero h
  obtain ⟨f1, f2⟩ := Fits.of hm h1
  unfold encZ
  rw [if_pos h]
  exact dec_back f1 h2 f2 rest
theorem encode_any (m : Bp) (hm : m.ok) (a : Option Addr) (c : Nat) (os : List OP) (w : World) (h : OV w a os) (hs : (layL (absO os)).length ≤ 35184372088832) :
    Calls Try.prog 14 #[m.val (.slice a os.length c)] w fun e w' => ∃ ax cx, e = .returned (.tuple #[.slice ax (encZ m (absO os)).length cx, .int .i64 (encX m (absO os))]) ∧ Hid (Ans w w' (encZ m (absO os)) ax (encZ m (absO os)).length cx) := by
  by_cases h1 : unE m (ovB os) = 0
  · have e1 : encX m (absO os) = packE (absO os) 1232 := by unfold encX; rw [← ovB_abs, if_pos h1]
    by_cases h2 : packE (absO os) 1232 = 0
    · have e0 : encX m (absO os) = 0 := e1.trans h2
      have ez : encZ m (absO os) = encL m (packA (absO os) 1232) := by unfold encZ; rw [if_pos e0]
      have hlen := encZ_le m (absO os)
      rw [e0, ez]
      rw [ez] at hlen
      refine (encode_ok m hm a c os w h h1 h2 hs (packA_bd (abs_bd h)) (packA_len h2)).mono ?_
      rintro e w' ⟨g, rfl, HG⟩
      exact ⟨_, _, rfl, ans_row rfl (by unfold maxLen; omega) HG.out.2.1 HG.out.1 HG.out.2.2⟩
    · have ez : encZ m (absO os) = [] := by unfold encZ; rw [if_neg (by rw [e1]; exact h2)]
      rw [e1, ez]
      refine (encode_no2 m a c os w h h1 h2 hs).mono ?_
      rintro e w' ⟨rfl, HB⟩
      exact ⟨none, 0, rfl, ans_nil HB.out⟩
  · have e1 : encX m (absO os) = unE m (ovB os) := by unfold encX; rw [← ovB_abs, if_neg h1]
    have ez : encZ m (absO os) = [] := by unfold encZ; rw [if_neg (by rw [e1]; exact h1)]
    rw [e1, ez]
    refine (encode_no1 m a c os w h h1).mono ?_
    rintro e w' ⟨rfl, HB⟩
    exact ⟨none, 0, rfl, ans_nil HB.out⟩
end Go.Proofs.Ytoifblndpcelkaa
