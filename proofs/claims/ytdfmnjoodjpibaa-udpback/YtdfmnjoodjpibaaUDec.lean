/-
  udp.Decode.
-/
import Derived.Test.YtdfmnjoodjpibaaUEnc
namespace Go.Proofs.Ytdfmnjoodjpibaa
open Go.RowKit
set_option linter.all false

/-- the first error. -/
def decE (src dst : Int) (zs : List Int) : Int :=
  if zs.length < 8 then 5 else if numAt zs 4 < 8 ∨ (zs.length : Int) < numAt zs 4 then 92 else if ¬ numAt zs 6 = 0 ∧ ¬ usum src dst (zs.take (numAt zs 4).toNat) = 0 then 93 else if numAt zs 2 = 0 then 120 else 0
/-- its data. -/
def datD (zs : List Int) : List Int := (zs.take (numAt zs 4).toNat).drop 8
/-- what a Decode tells. -/
def decS (src dst : Int) (zs : List Int) : Int := if decE src dst zs = 0 then numAt zs 0 else 0
def decT (src dst : Int) (zs : List Int) : Int := if decE src dst zs = 0 then numAt zs 2 else 0
def decD (src dst : Int) (zs : List Int) : List Int := if decE src dst zs = 0 then datD zs else []
theorem numAt_take {zs : List Int} {L a : Nat} (h : a + 1 < L) : numAt (zs.take L) a = numAt zs a := by
  unfold numAt
  simp only [List.getD_eq_getElem?_getD, List.getElem?_take]
  rw [if_pos (by omega), if_pos (by omega)]

theorem joined1 (w : World) (g : Nat) (p : Part) (h : p.ok w) (hg : w.heap[g]? = some (.cells #[p.val] 24 (0, 0))) (hl : p.zs.length ≤ 140737488355328) :
    Calls Try.prog 20 #[.slice (some ⟨g, 0, none⟩) 1 1] w fun e w' => ∃ a n c, e = .returned (.slice a n c) ∧ Ans w w' p.zs a n c := by
  have e : flat [p] = p.zs := by simp [flat]
  have h := joined_any g 0 1 [p] w (fun i hi => by
    rw [Nat.zero_add, cell_of_heap hg]
    simp only [List.length_cons, List.length_nil] at hi
    obtain rfl : i = 0 := by omega
    rfl) (fun q hq => by simp only [List.mem_singleton] at hq; subst hq; exact h) (by rw [e]; exact hl) (by simp)
  rw [e] at h
  exact h

/-- a Decode under way: its box, and what it must leave alone. -/
def DcI (w W : World) : Prop := W.heap[w.heap.size]? = some (.cells #[.int .i64 0, .int .i64 0, .slice none 0 0] 26 (0, 0)) ∧ Below w.heap.size w W
theorem DcI.first (w : World) : DcI w (w.alloc (.cells #[.int .i64 0, .int .i64 0, .slice none 0 0] 26)) := ⟨heap_new w _, bpush (Below.refl _ _) _⟩
theorem DcI.next {w W W' : World} (h : DcI w W) (hb : Below W.heap.size W W') : DcI w W' := ⟨kept h.1 hb, bstep h.2 hb⟩

set_option maxRecDepth 20000 in
set_option maxHeartbeats 1000000 in
theorem decode_short (src dst : Int) (a : Option Addr) (n c : Nat) (w : World) (h : n < 8) :
    Calls Try.prog 15 #[.int .u32 src, .int .u32 dst, .slice a n c] w fun e w' => e = .returned (.tuple #[.agg #[.int .i64 0, .int .i64 0, .slice none 0 0], .int .i64 5]) ∧ Below w.heap.size w w' := by
  have h1 : (n : Int) < 8 := by omega
  have H0 := hid (DcI.first w)
  go_enter Try.func15, Try.ntmps15
  go_wp2_with (first
    | (refine wpList_store_row rfl 26 _ _ rfl w.heap.size #[.int .i64 0, .int .i64 0, .slice none 0 0] rfl rfl 26 _ H0.out.1 (by kernel_rfl) rfl (by first | kernel_rfl | simp [Value.oneCell']) ?_) | fail)
  refine bodyPost_ret (v := .tuple #[.agg #[.int .i64 0, .int .i64 0, .slice none 0 0], .int .i64 5]) ?_ (by rfl) ⟨rfl, bbut H0.out.2 (But.setRow _ _ _) (Nat.le_refl _)⟩
  exact results_row2 Try.results15 _ _ w.heap.size 26 _ (0, 0) _ _ rfl rfl (setRow_heap _ _ _ _ _ _ H0.out.1) Try.underlying26 rfl (by kernel_rfl)
set_option maxRecDepth 20000 in
set_option maxHeartbeats 1000000 in
theorem decode_length (src dst : Int) (pt : Part) (w : World) (hok : pt.ok w) (hl : pt.zs.length ≤ 281474976710656) (h8 : 8 ≤ pt.zs.length) (h : numAt pt.zs 4 < 8 ∨ (pt.zs.length : Int) < numAt pt.zs 4) :
    Calls Try.prog 15 #[.int .u32 src, .int .u32 dst, pt.val] w fun e w' => e = .returned (.tuple #[.agg #[.int .i64 0, .int .i64 0, .slice none 0 0], .int .i64 92]) ∧ Below w.heap.size w w' := by
  have K4 : Hid (∀ W, Below w.heap.size w W → Calls Try.prog 24 #[pt.val, .int .i64 4] W fun e w' => e = .returned (.int .i64 (numAt pt.zs 4)) ∧ w' = W) := fun W hb => wordAt_any pt 4 W (Part.ok_below hok hb) hl (by omega)
  have H0 := hid (DcI.first w)
  unfold Part.val at *
  generalize numAt pt.zs 4 = N at *
  generalize pt.zs.length = l at *
  have h1 : ¬ (l : Int) < 8 := by omega
  clear hok
  go_enter Try.func15, Try.ntmps15
  go_wp2_with fail
  refine (K4.out _ H0.out.2).mono ?_
  rintro e w1 ⟨rfl, hw⟩
  subst w1
  by_cases h2 : N < 8
  · clear h
    go_wp2_with (first
      | (refine wpList_store_row rfl 26 _ _ rfl w.heap.size #[.int .i64 0, .int .i64 0, .slice none 0 0] rfl rfl 26 _ H0.out.1 (by kernel_rfl) rfl (by first | kernel_rfl | simp [Value.oneCell']) ?_) | fail)
    refine bodyPost_ret (v := .tuple #[.agg #[.int .i64 0, .int .i64 0, .slice none 0 0], .int .i64 92]) ?_ (by rfl) ⟨rfl, bbut H0.out.2 (But.setRow _ _ _) (Nat.le_refl _)⟩
    exact results_row2 Try.results15 _ _ w.heap.size 26 _ (0, 0) _ _ rfl rfl (setRow_heap _ _ _ _ _ _ H0.out.1) Try.underlying26 rfl (by kernel_rfl)
  · have h3 : (l : Int) < N := by omega
    clear h
    go_wp2_with (first
      | (refine wpList_store_row rfl 26 _ _ rfl w.heap.size #[.int .i64 0, .int .i64 0, .slice none 0 0] rfl rfl 26 _ H0.out.1 (by kernel_rfl) rfl (by first | kernel_rfl | simp [Value.oneCell']) ?_) | fail)
    refine bodyPost_ret (v := .tuple #[.agg #[.int .i64 0, .int .i64 0, .slice none 0 0], .int .i64 92]) ?_ (by rfl) ⟨rfl, bbut H0.out.2 (But.setRow _ _ _) (Nat.le_refl _)⟩
    exact results_row2 Try.results15 _ _ w.heap.size 26 _ (0, 0) _ _ rfl rfl (setRow_heap _ _ _ _ _ _ H0.out.1) Try.underlying26 rfl (by kernel_rfl)

/-- what a Decode calls, once the length is known. -/
structure DcK (w : World) (src dst : Int) (pa : Option Addr) (c L : Nat) (US N0 N2 N6 : Int) (D : List Int) : Prop where
  k6 : ∀ W, Below w.heap.size w W → Calls Try.prog 24 #[.slice pa L c, .int .i64 6] W fun e w' => e = .returned (.int .i64 N6) ∧ w' = W
  k2 : ∀ W, Below w.heap.size w W → Calls Try.prog 24 #[.slice pa L c, .int .i64 2] W fun e w' => e = .returned (.int .i64 N2) ∧ w' = W
  k0 : ∀ W, Below w.heap.size w W → Calls Try.prog 24 #[.slice pa L c, .int .i64 0] W fun e w' => e = .returned (.int .i64 N0) ∧ w' = W
  ks : ∀ W, Below w.heap.size w W → Calls Try.prog 22 #[.int .u32 src, .int .u32 dst, .slice pa L c] W fun e w' => e = .returned (.int .u16 US) ∧ Below W.heap.size W w'
  kj : ∀ (W : World) (g : Nat) (a : Option Addr), (L = 8 ∨ ∃ b o, pa = some ⟨b, o, none⟩ ∧ a = some ⟨b, o + 8, none⟩) → Below w.heap.size w W → W.heap[g]? = some (.cells #[.slice a (L - 8) (c - 8)] 24 (0, 0)) → Calls Try.prog 20 #[.slice (some ⟨g, 0, none⟩) 1 1] W fun e w' => ∃ a n c, e = .returned (.slice a n c) ∧ Ans W w' D a n c
theorem dcK (src dst : Int) (pt : Part) (w : World) (s0 : 0 ≤ src ∧ src ≤ 4294967295) (d0 : 0 ≤ dst ∧ dst ≤ 4294967295) (hok : pt.ok w) (L : Nat) (h8 : 8 ≤ L) (hL : L ≤ pt.zs.length) (hb : L ≤ 65535) :
    DcK w src dst pt.a pt.c L (usum src dst (pt.zs.take L)) (numAt pt.zs 0) (numAt pt.zs 2) (numAt pt.zs 6) ((pt.zs.take L).drop 8) := by
  have hn : (pt.zs.take L).length = L := by simp; omega
  obtain ⟨b, o, ha⟩ : ∃ b o, pt.a = some ⟨b, o, none⟩ := by
    rcases hok.2.2 with he | ⟨b, o, ha, _⟩
    · rw [he] at hL; simp at hL; omega
    · exact ⟨b, o, ha⟩
  have hcap := hok.2.1
  have hp : ∀ W, Below w.heap.size w W → Part.ok W ⟨pt.a, pt.c, pt.zs.take L⟩ := fun W hbl => by
    obtain ⟨pa, pc, zs⟩ := pt
    simp only at *
    subst ha
    have := Part.sub_ok (Part.ok_below hok hbl) 0 L pc (by omega) (by omega)
    simpa using this
  refine ⟨fun W hbl => ?_, fun W hbl => ?_, fun W hbl => ?_, fun W hbl => ?_, fun W g a hc hbl hg => ?_⟩
  · have h := wordAt_any _ 6 W (hp W hbl) (by simp only [hn]; omega) (by simp only [hn]; omega)
    simp only [Part.val, hn, numAt_take (show 6 + 1 < L by omega)] at h
    exact h
  · have h := wordAt_any _ 2 W (hp W hbl) (by simp only [hn]; omega) (by simp only [hn]; omega)
    simp only [Part.val, hn, numAt_take (show 2 + 1 < L by omega)] at h
    exact h
  · have h := wordAt_any _ 0 W (hp W hbl) (by simp only [hn]; omega) (by simp only [hn]; omega)
    simp only [Part.val, hn, numAt_take (show 0 + 1 < L by omega)] at h
    exact h
  · have h := sumOf_any src dst _ W s0 d0 (hp W hbl) (by simp only [hn]; omega)
    simp only [Part.val, hn] at h
    exact h
  · have hdl : ((pt.zs.take L).drop 8).length = L - 8 := by simp; omega
    have hq : Part.ok W ⟨a, pt.c - 8, (pt.zs.take L).drop 8⟩ := by
      rcases hc with rfl | ⟨b', o', e1, e2⟩
      · have : (pt.zs.take 8).drop 8 = [] := List.eq_nil_of_length_eq_zero (by simpa using hdl)
        rw [this]
        exact ⟨by simp, by simp, Or.inl rfl⟩
      · have hpw := hp W hbl
        rw [e1] at hpw
        have := Part.sub_ok hpw 8 (L - 8) (pt.c - 8) (by rw [hn]; omega) (by omega)
        rw [List.take_of_length_le (by rw [hdl]; omega)] at this
        rw [e2]
        exact this
    have h := joined1 W g _ hq (by simp only [Part.val, hdl]; exact hg) (by simp only [hdl]; omega)
    exact h

set_option maxRecDepth 20000 in
set_option maxHeartbeats 1000000 in
theorem decode_sum (src dst : Int) (pt : Part) (w : World) (s0 : 0 ≤ src ∧ src ≤ 4294967295) (d0 : 0 ≤ dst ∧ dst ≤ 4294967295) (hok : pt.ok w) (hl : pt.zs.length ≤ 281474976710656) (L : Nat) (hL : numAt pt.zs 4 = L) (h8 : 8 ≤ L) (hL2 : L ≤ pt.zs.length) (h6 : ¬ numAt pt.zs 6 = 0) (hs : ¬ usum src dst (pt.zs.take L) = 0) :
    Calls Try.prog 15 #[.int .u32 src, .int .u32 dst, pt.val] w fun e w' => e = .returned (.tuple #[.agg #[.int .i64 0, .int .i64 0, .slice none 0 0], .int .i64 93]) ∧ Below w.heap.size w w' := by
  have K4 : Hid (∀ W, Below w.heap.size w W → Calls Try.prog 24 #[pt.val, .int .i64 4] W fun e w' => e = .returned (.int .i64 (numAt pt.zs 4)) ∧ w' = W) := fun W hb => wordAt_any pt 4 W (Part.ok_below hok hb) hl (by omega)
  have hLb := numAt_bd hok.1 4
  have KK := hid (dcK src dst pt w s0 d0 hok L h8 hL2 (by omega))
  have H0 := hid (DcI.first w)
  have hcap := hok.2.1
  obtain ⟨b, o, ha⟩ : ∃ b o, pt.a = some ⟨b, o, none⟩ := by
    rcases hok.2.2 with he | ⟨b, o, ha, _⟩
    · rw [he] at hL2; simp at hL2; omega
    · exact ⟨b, o, ha⟩
  unfold Part.val at *
  rw [hL] at K4
  rw [ha] at K4 KK ⊢
  clear ha hL hLb hok
  generalize numAt pt.zs 6 = N6 at *
  generalize usum src dst (pt.zs.take L) = US at *
  generalize pt.zs.length = l at *
  generalize pt.c = c at *
  have h1 : ¬ (l : Int) < 8 := by omega
  have h2 : ¬ (L : Int) < 8 := by omega
  have h3 : ¬ (l : Int) < (L : Int) := by omega
  have h4 : (L : Int) ≤ (c : Int) := by omega
  have h5 : (N6 != 0) = true := by simpa using h6
  have h7 : (US != 0) = true := by simpa using hs
  clear h6 hs
  go_enter Try.func15, Try.ntmps15
  go_wp2_with fail
  refine (K4.out _ H0.out.2).mono ?_
  rintro e w1 ⟨rfl, hw⟩
  subst w1
  go_wp2_with fail
  refine (KK.out.k6 _ H0.out.2).mono ?_
  rintro e w1 ⟨rfl, hw⟩
  subst w1
  go_wp2_with fail
  refine (KK.out.ks _ H0.out.2).mono ?_
  rintro e w1 ⟨rfl, hb⟩
  have H1 := hid (H0.out.next hb)
  clear hb H0
  go_wp2_with (first
    | (refine wpList_store_row rfl 26 _ _ rfl w.heap.size #[.int .i64 0, .int .i64 0, .slice none 0 0] rfl rfl 26 _ H1.out.1 (by kernel_rfl) rfl (by first | kernel_rfl | simp [Value.oneCell']) ?_) | fail)
  refine bodyPost_ret (v := .tuple #[.agg #[.int .i64 0, .int .i64 0, .slice none 0 0], .int .i64 93]) ?_ (by rfl) ⟨rfl, bbut H1.out.2 (But.setRow _ _ _) (Nat.le_refl _)⟩
  exact results_row2 Try.results15 _ _ w.heap.size 26 _ (0, 0) _ _ rfl rfl (setRow_heap _ _ _ _ _ _ H1.out.1) Try.underlying26 rfl (by kernel_rfl)

end Go.Proofs.Ytdfmnjoodjpibaa
