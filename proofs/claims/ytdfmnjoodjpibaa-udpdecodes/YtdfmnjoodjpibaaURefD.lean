/-
  The document's Decode. Written by mkurefd.py.
-/
import Derived.Test.YtdfmnjoodjpibaaULive
import Derived.BigQuiet
import Derived.Deep.RegionHeldLaw
namespace Go.Proofs.Ytdfmnjoodjpibaa
open Go.RowKit
set_option linter.all false

set_option maxRecDepth 20000 in
set_option maxHeartbeats 1000000 in
theorem refDecode_short (src dst : Int) (a : Option Addr) (n c : Nat) (w : World) (h : n < 8) :
    Calls Try.prog 14 #[.int .u32 src, .int .u32 dst, .slice a n c] w fun e w' => e = .returned (.tuple #[.agg #[.int .i64 0, .int .i64 0, .slice none 0 0], .int .i64 5]) ∧ Below w.heap.size w w' := by
  have h1 : (n : Int) < 8 := by omega
  have H0 := hid (DcI.first w)
  go_enter Try.func14, Try.ntmps14
  go_wp2_with (first
    | (refine wpList_store_row rfl 26 _ _ rfl w.heap.size #[.int .i64 0, .int .i64 0, .slice none 0 0] rfl rfl 26 _ H0.out.1 (by kernel_rfl) rfl (by first | kernel_rfl | simp [Value.oneCell']) ?_) | fail)
  refine bodyPost_ret (v := .tuple #[.agg #[.int .i64 0, .int .i64 0, .slice none 0 0], .int .i64 5]) ?_ (by rfl) ⟨rfl, bbut H0.out.2 (But.setRow _ _ _) (Nat.le_refl _)⟩
  exact results_row2 Try.results14 _ _ w.heap.size 26 _ (0, 0) _ _ rfl rfl (setRow_heap _ _ _ _ _ _ H0.out.1) Try.underlying26 rfl (by kernel_rfl)

/-- what the document's Decode reads and calls. -/
structure RdK (w : World) (src dst : Int) (b o c l L : Nat) (US z0 z1 z2 z3 z4 z5 z6 z7 : Int) (D : List Int) : Prop where
  bd : (0 ≤ z0 ∧ z0 ≤ 255) ∧ (0 ≤ z1 ∧ z1 ≤ 255) ∧ (0 ≤ z2 ∧ z2 ≤ 255) ∧ (0 ≤ z3 ∧ z3 ≤ 255) ∧ (0 ≤ z4 ∧ z4 ≤ 255) ∧ (0 ≤ z5 ∧ z5 ≤ 255) ∧ (0 ≤ z6 ∧ z6 ≤ 255) ∧ (0 ≤ z7 ∧ z7 ≤ 255)
  cap : l ≤ c
  cells : ∀ W, Below w.heap.size w W → W.cell? ⟨b, o, none⟩ = some (.int .u8 z0) ∧ W.cell? ⟨b, o + 1, none⟩ = some (.int .u8 z1) ∧ W.cell? ⟨b, o + 2, none⟩ = some (.int .u8 z2) ∧ W.cell? ⟨b, o + 3, none⟩ = some (.int .u8 z3) ∧ W.cell? ⟨b, o + 4, none⟩ = some (.int .u8 z4) ∧ W.cell? ⟨b, o + 5, none⟩ = some (.int .u8 z5) ∧ W.cell? ⟨b, o + 6, none⟩ = some (.int .u8 z6) ∧ W.cell? ⟨b, o + 7, none⟩ = some (.int .u8 z7)
  sum : 8 ≤ L → L ≤ l → L ≤ 65535 → ∀ W, Below w.heap.size w W → Calls Try.prog 18 #[.int .u32 src, .int .u32 dst, .slice (some ⟨b, o, none⟩) L c] W fun e w' => e = .returned (.int .u16 US) ∧ Below W.heap.size W w'
  app : 8 ≤ L → L ≤ l → L ≤ 65535 → ∀ (W : World) (a : Option Addr), (L = 8 ∨ a = some ⟨b, o + 8, none⟩) → Below w.heap.size w W → ∃ a' n' c' w', (Builtin.append_ #[24, 24] 24 #[.slice none 0 0, .slice a (L - 8) (c - 8)]).run Try.prog W = .ok (.slice a' n' c') w' ∧ Ans W w' D a' n' c'
theorem bdrewN {a w : World} (h : Below a.heap.size a w) (n : Nat) : Below a.heap.size a (w.drewN n) := ⟨h.os, h.tape, h.output, h.size, h.block⟩
theorem rdK (src dst : Int) (pt : Part) (w : World) (s0 : 0 ≤ src ∧ src ≤ 4294967295) (d0 : 0 ≤ dst ∧ dst ≤ 4294967295) (hok : pt.ok w) (h8 : 8 ≤ pt.zs.length) (b o L : Nat) (ha : pt.a = some ⟨b, o, none⟩) :
    RdK w src dst b o pt.c pt.zs.length L (usum src dst (pt.zs.take L)) (pt.zs.getD 0 0) (pt.zs.getD 1 0) (pt.zs.getD 2 0) (pt.zs.getD 3 0) (pt.zs.getD 4 0) (pt.zs.getD 5 0) (pt.zs.getD 6 0) (pt.zs.getD 7 0) ((pt.zs.take L).drop 8) := by
  have hcap := hok.2.1
  have hbd := getD_mem_bd hok.1
  have hc : ∀ j, j < pt.zs.length → w.cell? ⟨b, o + j, none⟩ = some (.int .u8 (pt.zs.getD j 0)) := by
    rcases hok.2.2 with he | ⟨b', o', ha', hc⟩
    · rw [he] at h8; simp at h8
    · rw [ha] at ha'
      simp only [Option.some.injEq, Addr.mk.injEq, and_true] at ha'
      obtain ⟨rfl, rfl⟩ := ha'
      exact hc
  have hcW : ∀ W, Below w.heap.size w W → ∀ j, j < 8 → W.cell? ⟨b, o + j, none⟩ = some (.int .u8 (pt.zs.getD j 0)) := fun W hb j hj =>
    (hb.cell (p := ⟨b, o + j, none⟩) (World.block_lt_of_cell? w _ (hc j (by omega)))).trans (hc j (by omega))
  have hp : ∀ W, L ≤ pt.zs.length → Below w.heap.size w W → Part.ok W ⟨some ⟨b, o, none⟩, pt.c, pt.zs.take L⟩ := fun W hL hbl => by
    obtain ⟨pa, pc, zs⟩ := pt
    simp only at *
    subst ha
    have := Part.sub_ok (Part.ok_below hok hbl) 0 L pc (by omega) (by omega)
    simpa using this
  refine ⟨⟨hbd 0, hbd 1, hbd 2, hbd 3, hbd 4, hbd 5, hbd 6, hbd 7⟩, hcap, fun W hb => ⟨hcW W hb 0 (by omega), hcW W hb 1 (by omega), hcW W hb 2 (by omega), hcW W hb 3 (by omega), hcW W hb 4 (by omega), hcW W hb 5 (by omega), hcW W hb 6 (by omega), hcW W hb 7 (by omega)⟩, fun h8L hL hLb W hbl => ?_, fun h8L hL hLb W a hca hbl => ?_⟩
  · have hn : (pt.zs.take L).length = L := by simp; omega
    have h := refSum12_any src dst _ W s0 d0 (hp W hL hbl) (by simp only [hn]; omega)
    simp only [Part.val, hn] at h
    exact h
  · have hn : (pt.zs.take L).length = L := by simp; omega
    have hdl : ((pt.zs.take L).drop 8).length = L - 8 := by simp; omega
    have hq : Part.ok W ⟨a, pt.c - 8, (pt.zs.take L).drop 8⟩ := by
      rcases hca with rfl | e2
      · have : (pt.zs.take 8).drop 8 = [] := List.eq_nil_of_length_eq_zero (by simpa using hdl)
        rw [this]
        exact ⟨by simp, by simp, Or.inl rfl⟩
      · have := Part.sub_ok (hp W hL hbl) 8 (L - 8) (pt.c - 8) (by rw [hn]; omega) (by omega)
        rw [List.take_of_length_le (by rw [hdl]; omega)] at this
        rw [e2]
        exact this
    obtain ⟨a', c', w', h1, h2, h3, h4⟩ := append_nil_part _ W hq (by simp only [hdl]; omega) 24
    simp only [Part.val, hdl] at h1 h2 h4
    exact ⟨a', _, c', w', h1, h2, h4, h3⟩

set_option maxRecDepth 20000 in
set_option maxHeartbeats 2000000 in
theorem refDecode_length (src dst : Int) (w : World) (b o c l L : Nat) (US z0 z1 z2 z3 z4 z5 z6 z7 : Int) (D : List Int) (K : RdK w src dst b o c l L US z0 z1 z2 z3 z4 z5 z6 z7 D) (hl : l ≤ 281474976710656) (h8 : 8 ≤ l) (h : z4 * 256 + z5 < 8 ∨ (l : Int) < z4 * 256 + z5) :
    Calls Try.prog 14 #[.int .u32 src, .int .u32 dst, .slice (some ⟨b, o, none⟩) l c] w fun e w' => e = .returned (.tuple #[.agg #[.int .i64 0, .int .i64 0, .slice none 0 0], .int .i64 92]) ∧ Below w.heap.size w w' := by
  obtain ⟨⟨b00, b01⟩, ⟨b10, b11⟩, ⟨b20, b21⟩, ⟨b30, b31⟩, ⟨b40, b41⟩, ⟨b50, b51⟩, ⟨b60, b61⟩, ⟨b70, b71⟩⟩ := K.bd
  have hcap := K.cap
  have KK := hid K
  clear K
  have H0 := hid (DcI.first w)
  have h1 : ¬ (l : Int) < 8 := by omega
  have i4 : (4 : Int) < (l : Int) := by omega
  have i5 : (5 : Int) < (l : Int) := by omega
  have i6 : (6 : Int) < (l : Int) := by omega
  have i7 : (7 : Int) < (l : Int) := by omega
  have i0 : (0 : Int) < (l : Int) := by omega
  have i0n : 0 < l := by omega
  have i0m : ¬ l = 0 := by omega
  have i1 : (1 : Int) < (l : Int) := by omega
  have i2 : (2 : Int) < (l : Int) := by omega
  have i3 : (3 : Int) < (l : Int) := by omega
  have e4 : IntKind.i64.wrap (IntKind.i64.wrap (IntKind.i64.wrap z4 * 256) + IntKind.i64.wrap z5) = z4 * 256 + z5 := by simp only [IntKind.wrap_i64]; omega
  have f4 : IntKind.i64.wrap z4 = z4 := by simp only [IntKind.wrap_i64]; omega
  have f5 : IntKind.i64.wrap z5 = z5 := by simp only [IntKind.wrap_i64]; omega
  have g4 : IntKind.i64.wrap (z4 * 256) = z4 * 256 := by simp only [IntKind.wrap_i64]; omega
  have g45 : IntKind.i64.wrap (z4 * 256 + z5) = z4 * 256 + z5 := by simp only [IntKind.wrap_i64]; omega
  obtain ⟨c0, c1, c2, c3, c4, c5, c6, c7⟩ := KK.out.cells _ H0.out.2
  go_enter Try.func14, Try.ntmps14
  go_wp2
  generalize w.alloc (.cells #[.int .i64 0, .int .i64 0, .slice none 0 0] 26) = W0 at *
  go_quiet (fail)
  have H1 := hid (H0.out.next (bdrewN (Below.refl _ W0) nq))
  generalize W0.drewN nq = W1 at *
  generalize z4 * 256 + z5 = N at *
  clear c0 c1 c2 c3 c4 c5 c6 c7 H0
  by_cases h2 : N < 8
  · clear h
    go_wp2_with (first
      | (refine wpList_store_row rfl 26 _ _ rfl w.heap.size #[.int .i64 0, .int .i64 0, .slice none 0 0] rfl rfl 26 _ H1.out.1 (by kernel_rfl) rfl (by first | kernel_rfl | simp [Value.oneCell']) ?_) | fail)
    refine bodyPost_ret (v := .tuple #[.agg #[.int .i64 0, .int .i64 0, .slice none 0 0], .int .i64 92]) ?_ (by rfl) ⟨rfl, bbut H1.out.2 (But.setRow _ _ _) (Nat.le_refl _)⟩
    exact results_row2 Try.results14 _ _ w.heap.size 26 _ (0, 0) _ _ rfl rfl (setRow_heap _ _ _ _ _ _ H1.out.1) Try.underlying26 rfl (by kernel_rfl)
  · have h3 : (l : Int) < N := by omega
    clear h
    go_wp2_with (first
      | (refine wpList_store_row rfl 26 _ _ rfl w.heap.size #[.int .i64 0, .int .i64 0, .slice none 0 0] rfl rfl 26 _ H1.out.1 (by kernel_rfl) rfl (by first | kernel_rfl | simp [Value.oneCell']) ?_) | fail)
    refine bodyPost_ret (v := .tuple #[.agg #[.int .i64 0, .int .i64 0, .slice none 0 0], .int .i64 92]) ?_ (by rfl) ⟨rfl, bbut H1.out.2 (But.setRow _ _ _) (Nat.le_refl _)⟩
    exact results_row2 Try.results14 _ _ w.heap.size 26 _ (0, 0) _ _ rfl rfl (setRow_heap _ _ _ _ _ _ H1.out.1) Try.underlying26 rfl (by kernel_rfl)

set_option maxRecDepth 20000 in
set_option maxHeartbeats 2000000 in
theorem refDecode_sum (src dst : Int) (w : World) (b o c l L : Nat) (US z0 z1 z2 z3 z4 z5 z6 z7 : Int) (D : List Int) (K : RdK w src dst b o c l L US z0 z1 z2 z3 z4 z5 z6 z7 D) (hl : l ≤ 281474976710656) (h8 : 8 ≤ l) (hL : z4 * 256 + z5 = (L : Int)) (h8L : 8 ≤ L) (hLl : L ≤ l) (h6 : ¬ z6 = 0 ∨ ¬ z7 = 0) (hs : ¬ US = 0) :
    Calls Try.prog 14 #[.int .u32 src, .int .u32 dst, .slice (some ⟨b, o, none⟩) l c] w fun e w' => e = .returned (.tuple #[.agg #[.int .i64 0, .int .i64 0, .slice none 0 0], .int .i64 93]) ∧ Below w.heap.size w w' := by
  obtain ⟨⟨b00, b01⟩, ⟨b10, b11⟩, ⟨b20, b21⟩, ⟨b30, b31⟩, ⟨b40, b41⟩, ⟨b50, b51⟩, ⟨b60, b61⟩, ⟨b70, b71⟩⟩ := K.bd
  have hcap := K.cap
  have KK := hid K
  clear K
  have H0 := hid (DcI.first w)
  have h1 : ¬ (l : Int) < 8 := by omega
  have i4 : (4 : Int) < (l : Int) := by omega
  have i5 : (5 : Int) < (l : Int) := by omega
  have i6 : (6 : Int) < (l : Int) := by omega
  have i7 : (7 : Int) < (l : Int) := by omega
  have i0 : (0 : Int) < (l : Int) := by omega
  have i0n : 0 < l := by omega
  have i0m : ¬ l = 0 := by omega
  have i1 : (1 : Int) < (l : Int) := by omega
  have i2 : (2 : Int) < (l : Int) := by omega
  have i3 : (3 : Int) < (l : Int) := by omega
  have e4 : IntKind.i64.wrap (IntKind.i64.wrap (IntKind.i64.wrap z4 * 256) + IntKind.i64.wrap z5) = z4 * 256 + z5 := by simp only [IntKind.wrap_i64]; omega
  have f4 : IntKind.i64.wrap z4 = z4 := by simp only [IntKind.wrap_i64]; omega
  have f5 : IntKind.i64.wrap z5 = z5 := by simp only [IntKind.wrap_i64]; omega
  have g4 : IntKind.i64.wrap (z4 * 256) = z4 * 256 := by simp only [IntKind.wrap_i64]; omega
  have g45 : IntKind.i64.wrap (z4 * 256 + z5) = z4 * 256 + z5 := by simp only [IntKind.wrap_i64]; omega
  obtain ⟨c0, c1, c2, c3, c4, c5, c6, c7⟩ := KK.out.cells _ H0.out.2
  go_enter Try.func14, Try.ntmps14
  go_wp2
  generalize w.alloc (.cells #[.int .i64 0, .int .i64 0, .slice none 0 0] 26) = W0 at *
  go_quiet (fail)
  have H1 := hid (H0.out.next (bdrewN (Below.refl _ W0) nq))
  generalize W0.drewN nq = W1 at *
  have hLb : L ≤ 65535 := by omega
  have j2 : ¬ (L : Int) < 8 := by omega
  have j3 : ¬ (l : Int) < (L : Int) := by omega
  have j4 : (L : Int) ≤ (c : Int) := by omega
  clear c0 c1 c2 c3 c4 c5 c6 c7 H0 hL g45 e4 f4 f5 g4
  go_wp2_with fail
  refine (KK.out.sum h8L hLl hLb _ H1.out.2).mono ?_
  rintro e W2 ⟨rfl, hb⟩
  have H2 := hid (H1.out.next hb)
  clear hb H1
  obtain ⟨c0, c1, c2, c3, c4, c5, c6, c7⟩ := KK.out.cells _ H2.out.2
  have h7 : (US != 0) = true := by simpa using hs
  clear hs
  by_cases hz6 : z6 = 0
  · have hz7 : (z7 != 0) = true := by simp; omega
    have hz6' : (z6 != 0) = false := by simpa using hz6
    clear h6 hz6
    go_wp2_with (first
      | (refine wpList_store_row rfl 26 _ _ rfl w.heap.size #[.int .i64 0, .int .i64 0, .slice none 0 0] rfl rfl 26 _ H2.out.1 (by kernel_rfl) rfl (by first | kernel_rfl | simp [Value.oneCell']) ?_) | fail)
    refine bodyPost_ret (v := .tuple #[.agg #[.int .i64 0, .int .i64 0, .slice none 0 0], .int .i64 93]) ?_ (by rfl) ⟨rfl, bbut H2.out.2 (But.setRow _ _ _) (Nat.le_refl _)⟩
    exact results_row2 Try.results14 _ _ w.heap.size 26 _ (0, 0) _ _ rfl rfl (setRow_heap _ _ _ _ _ _ H2.out.1) Try.underlying26 rfl (by kernel_rfl)
  · have hz6' : (z6 != 0) = true := by simpa using hz6
    clear h6 hz6
    go_wp2_with (first
      | (refine wpList_store_row rfl 26 _ _ rfl w.heap.size #[.int .i64 0, .int .i64 0, .slice none 0 0] rfl rfl 26 _ H2.out.1 (by kernel_rfl) rfl (by first | kernel_rfl | simp [Value.oneCell']) ?_) | fail)
    refine bodyPost_ret (v := .tuple #[.agg #[.int .i64 0, .int .i64 0, .slice none 0 0], .int .i64 93]) ?_ (by rfl) ⟨rfl, bbut H2.out.2 (But.setRow _ _ _) (Nat.le_refl _)⟩
    exact results_row2 Try.results14 _ _ w.heap.size 26 _ (0, 0) _ _ rfl rfl (setRow_heap _ _ _ _ _ _ H2.out.1) Try.underlying26 rfl (by kernel_rfl)

set_option maxRecDepth 20000 in
set_option maxHeartbeats 2000000 in
theorem refDecode_zero (src dst : Int) (w : World) (b o c l L : Nat) (US z0 z1 z2 z3 z4 z5 z6 z7 : Int) (D : List Int) (K : RdK w src dst b o c l L US z0 z1 z2 z3 z4 z5 z6 z7 D) (hl : l ≤ 281474976710656) (h8 : 8 ≤ l) (hL : z4 * 256 + z5 = (L : Int)) (h8L : 8 ≤ L) (hLl : L ≤ l) (h6 : (z6 = 0 ∧ z7 = 0) ∨ US = 0) (h2 : (z2 * 256 + z3 == 0) = true) :
    Calls Try.prog 14 #[.int .u32 src, .int .u32 dst, .slice (some ⟨b, o, none⟩) l c] w fun e w' => e = .returned (.tuple #[.agg #[.int .i64 0, .int .i64 0, .slice none 0 0], .int .i64 120]) ∧ Below w.heap.size w w' := by
  obtain ⟨⟨b00, b01⟩, ⟨b10, b11⟩, ⟨b20, b21⟩, ⟨b30, b31⟩, ⟨b40, b41⟩, ⟨b50, b51⟩, ⟨b60, b61⟩, ⟨b70, b71⟩⟩ := K.bd
  have hcap := K.cap
  have KK := hid K
  clear K
  have H0 := hid (DcI.first w)
  have h1 : ¬ (l : Int) < 8 := by omega
  have i4 : (4 : Int) < (l : Int) := by omega
  have i5 : (5 : Int) < (l : Int) := by omega
  have i6 : (6 : Int) < (l : Int) := by omega
  have i7 : (7 : Int) < (l : Int) := by omega
  have i0 : (0 : Int) < (l : Int) := by omega
  have i0n : 0 < l := by omega
  have i0m : ¬ l = 0 := by omega
  have i1 : (1 : Int) < (l : Int) := by omega
  have i2 : (2 : Int) < (l : Int) := by omega
  have i3 : (3 : Int) < (l : Int) := by omega
  have e4 : IntKind.i64.wrap (IntKind.i64.wrap (IntKind.i64.wrap z4 * 256) + IntKind.i64.wrap z5) = z4 * 256 + z5 := by simp only [IntKind.wrap_i64]; omega
  have f4 : IntKind.i64.wrap z4 = z4 := by simp only [IntKind.wrap_i64]; omega
  have f5 : IntKind.i64.wrap z5 = z5 := by simp only [IntKind.wrap_i64]; omega
  have g4 : IntKind.i64.wrap (z4 * 256) = z4 * 256 := by simp only [IntKind.wrap_i64]; omega
  have g45 : IntKind.i64.wrap (z4 * 256 + z5) = z4 * 256 + z5 := by simp only [IntKind.wrap_i64]; omega
  obtain ⟨c0, c1, c2, c3, c4, c5, c6, c7⟩ := KK.out.cells _ H0.out.2
  have w0 : IntKind.i64.wrap z0 = z0 := by simp only [IntKind.wrap_i64]; omega
  have w1 : IntKind.i64.wrap z1 = z1 := by simp only [IntKind.wrap_i64]; omega
  have w2 : IntKind.i64.wrap z2 = z2 := by simp only [IntKind.wrap_i64]; omega
  have w3 : IntKind.i64.wrap z3 = z3 := by simp only [IntKind.wrap_i64]; omega
  have w4 : IntKind.i64.wrap (z0 * 256) = z0 * 256 := by simp only [IntKind.wrap_i64]; omega
  have w5 : IntKind.i64.wrap (z2 * 256) = z2 * 256 := by simp only [IntKind.wrap_i64]; omega
  have w6 : IntKind.i64.wrap (z0 * 256 + z1) = z0 * 256 + z1 := by simp only [IntKind.wrap_i64]; omega
  have w7 : IntKind.i64.wrap (z2 * 256 + z3) = z2 * 256 + z3 := by simp only [IntKind.wrap_i64]; omega
  go_enter Try.func14, Try.ntmps14
  go_wp2
  generalize w.alloc (.cells #[.int .i64 0, .int .i64 0, .slice none 0 0] 26) = W0 at *
  go_quiet (fail)
  have H1 := hid (H0.out.next (bdrewN (Below.refl _ W0) nq))
  generalize W0.drewN nq = W1 at *
  have hLb : L ≤ 65535 := by omega
  have j2 : ¬ (L : Int) < 8 := by omega
  have j3 : ¬ (l : Int) < (L : Int) := by omega
  have j4 : (L : Int) ≤ (c : Int) := by omega
  clear c0 c1 c2 c3 c4 c5 c6 c7 H0 hL g45 e4 f4 f5 g4
  go_wp2_with fail
  refine (KK.out.sum h8L hLl hLb _ H1.out.2).mono ?_
  rintro e W2 ⟨rfl, hb⟩
  have H2 := hid (H1.out.next hb)
  clear hb H1
  obtain ⟨c0, c1, c2, c3, c4, c5, c6, c7⟩ := KK.out.cells _ H2.out.2
  have HC9 : Hid (∀ W, Below W2.heap.size W2 W → W.cell? ⟨b, o, none⟩ = some (.int .u8 z0) ∧ W.cell? ⟨b, o + 1, none⟩ = some (.int .u8 z1) ∧ W.cell? ⟨b, o + 2, none⟩ = some (.int .u8 z2) ∧ W.cell? ⟨b, o + 3, none⟩ = some (.int .u8 z3)) := fun W hb => by
    obtain ⟨q0, q1, q2, q3, _⟩ := KK.out.cells W (bstep H2.out.2 hb)
    exact ⟨q0, q1, q2, q3⟩
  by_cases hz6 : z6 = 0
  · have hz6' : (z6 != 0) = false := by simpa using hz6
    by_cases hz7 : z7 = 0
    · have hz7' : (z7 != 0) = false := by simpa using hz7
      clear h6 hz6 hz7
      go_wp2
      go_region_held3 (fun x => x.cell? ⟨b, o, none⟩ = some (.int .u8 z0) ∧ x.cell? ⟨b, o + 1, none⟩ = some (.int .u8 z1) ∧ x.cell? ⟨b, o + 2, none⟩ = some (.int .u8 z2) ∧ x.cell? ⟨b, o + 3, none⟩ = some (.int .u8 z3)) (first | assumption | (refine HC9.out _ ?_; repeat (first | exact Below.refl _ _ | refine bpush ?_ _ | refine Below.drew ?_)) | go_keep) (first | fail)
      generalize hN2 : z2 * 256 + z3 = N2 at *
      have HN2 := hid hN2
      clear hN2
      generalize hN0 : z0 * 256 + z1 = N0 at *
      have HN0 := hid hN0
      clear hN0
      have H3 := hid (H2.out.next (bpush (Below.refl _ _) (.cells #[.int .i64 N0, .int .i64 N2, .slice none 0 0] 26)).drew)
      have HU : Hid ((W2.alloc (.cells #[.int .i64 N0, .int .i64 N2, .slice none 0 0] 26)).drew.heap[W2.heap.size]? = some (.cells #[.int .i64 N0, .int .i64 N2, .slice none 0 0] 26 (0, 0))) := heap_new W2 _
      have HG : Hid (w.heap.size < W2.heap.size) := heap_lt H2.out.1
      generalize (W2.alloc (.cells #[.int .i64 N0, .int .i64 N2, .slice none 0 0] 26)).drew = W3 at *
      generalize W2.heap.size = gu at *
      have u1 : W3.cell? ⟨gu, 1, none⟩ = some (.int .i64 N2) := cell_of_heap HU.out 1
      go_wp2_with (first
        | (refine wpList_store_row rfl 26 _ _ rfl w.heap.size #[.int .i64 0, .int .i64 0, .slice none 0 0] rfl rfl 26 _ H3.out.1 (by kernel_rfl) rfl (by first | kernel_rfl | simp [Value.oneCell']) ?_) | fail)
      refine bodyPost_ret (v := .tuple #[.agg #[.int .i64 0, .int .i64 0, .slice none 0 0], .int .i64 120]) ?_ (by rfl) ⟨rfl, bbut H3.out.2 (But.setRow _ _ _) (Nat.le_refl _)⟩
      exact results_row2 Try.results14 _ _ w.heap.size 26 _ (0, 0) _ _ rfl rfl (setRow_heap _ _ _ _ _ _ H3.out.1) Try.underlying26 rfl (by kernel_rfl)
    · have hz7' : (z7 != 0) = true := by simpa using hz7
      have h7 : (US != 0) = false := by simp; omega
      clear h6 hz6 hz7
      go_wp2
      go_region_held3 (fun x => x.cell? ⟨b, o, none⟩ = some (.int .u8 z0) ∧ x.cell? ⟨b, o + 1, none⟩ = some (.int .u8 z1) ∧ x.cell? ⟨b, o + 2, none⟩ = some (.int .u8 z2) ∧ x.cell? ⟨b, o + 3, none⟩ = some (.int .u8 z3)) (first | assumption | (refine HC9.out _ ?_; repeat (first | exact Below.refl _ _ | refine bpush ?_ _ | refine Below.drew ?_)) | go_keep) (first | fail)
      generalize hN2 : z2 * 256 + z3 = N2 at *
      have HN2 := hid hN2
      clear hN2
      generalize hN0 : z0 * 256 + z1 = N0 at *
      have HN0 := hid hN0
      clear hN0
      have H3 := hid (H2.out.next (bpush (Below.refl _ _) (.cells #[.int .i64 N0, .int .i64 N2, .slice none 0 0] 26)).drew)
      have HU : Hid ((W2.alloc (.cells #[.int .i64 N0, .int .i64 N2, .slice none 0 0] 26)).drew.heap[W2.heap.size]? = some (.cells #[.int .i64 N0, .int .i64 N2, .slice none 0 0] 26 (0, 0))) := heap_new W2 _
      have HG : Hid (w.heap.size < W2.heap.size) := heap_lt H2.out.1
      generalize (W2.alloc (.cells #[.int .i64 N0, .int .i64 N2, .slice none 0 0] 26)).drew = W3 at *
      generalize W2.heap.size = gu at *
      have u1 : W3.cell? ⟨gu, 1, none⟩ = some (.int .i64 N2) := cell_of_heap HU.out 1
      go_wp2_with (first
        | (refine wpList_store_row rfl 26 _ _ rfl w.heap.size #[.int .i64 0, .int .i64 0, .slice none 0 0] rfl rfl 26 _ H3.out.1 (by kernel_rfl) rfl (by first | kernel_rfl | simp [Value.oneCell']) ?_) | fail)
      refine bodyPost_ret (v := .tuple #[.agg #[.int .i64 0, .int .i64 0, .slice none 0 0], .int .i64 120]) ?_ (by rfl) ⟨rfl, bbut H3.out.2 (But.setRow _ _ _) (Nat.le_refl _)⟩
      exact results_row2 Try.results14 _ _ w.heap.size 26 _ (0, 0) _ _ rfl rfl (setRow_heap _ _ _ _ _ _ H3.out.1) Try.underlying26 rfl (by kernel_rfl)
  · have hz6' : (z6 != 0) = true := by simpa using hz6
    have h7 : (US != 0) = false := by simp; omega
    clear h6 hz6
    go_wp2
    go_region_held3 (fun x => x.cell? ⟨b, o, none⟩ = some (.int .u8 z0) ∧ x.cell? ⟨b, o + 1, none⟩ = some (.int .u8 z1) ∧ x.cell? ⟨b, o + 2, none⟩ = some (.int .u8 z2) ∧ x.cell? ⟨b, o + 3, none⟩ = some (.int .u8 z3)) (first | assumption | (refine HC9.out _ ?_; repeat (first | exact Below.refl _ _ | refine bpush ?_ _ | refine Below.drew ?_)) | go_keep) (first | fail)
    generalize hN2 : z2 * 256 + z3 = N2 at *
    have HN2 := hid hN2
    clear hN2
    generalize hN0 : z0 * 256 + z1 = N0 at *
    have HN0 := hid hN0
    clear hN0
    have H3 := hid (H2.out.next (bpush (Below.refl _ _) (.cells #[.int .i64 N0, .int .i64 N2, .slice none 0 0] 26)).drew)
    have HU : Hid ((W2.alloc (.cells #[.int .i64 N0, .int .i64 N2, .slice none 0 0] 26)).drew.heap[W2.heap.size]? = some (.cells #[.int .i64 N0, .int .i64 N2, .slice none 0 0] 26 (0, 0))) := heap_new W2 _
    have HG : Hid (w.heap.size < W2.heap.size) := heap_lt H2.out.1
    generalize (W2.alloc (.cells #[.int .i64 N0, .int .i64 N2, .slice none 0 0] 26)).drew = W3 at *
    generalize W2.heap.size = gu at *
    have u1 : W3.cell? ⟨gu, 1, none⟩ = some (.int .i64 N2) := cell_of_heap HU.out 1
    go_wp2_with (first
      | (refine wpList_store_row rfl 26 _ _ rfl w.heap.size #[.int .i64 0, .int .i64 0, .slice none 0 0] rfl rfl 26 _ H3.out.1 (by kernel_rfl) rfl (by first | kernel_rfl | simp [Value.oneCell']) ?_) | fail)
    refine bodyPost_ret (v := .tuple #[.agg #[.int .i64 0, .int .i64 0, .slice none 0 0], .int .i64 120]) ?_ (by rfl) ⟨rfl, bbut H3.out.2 (But.setRow _ _ _) (Nat.le_refl _)⟩
    exact results_row2 Try.results14 _ _ w.heap.size 26 _ (0, 0) _ _ rfl rfl (setRow_heap _ _ _ _ _ _ H3.out.1) Try.underlying26 rfl (by kernel_rfl)

set_option maxRecDepth 20000 in
set_option maxHeartbeats 2000000 in
theorem refDecode_ok (src dst : Int) (w : World) (b o c l L : Nat) (US z0 z1 z2 z3 z4 z5 z6 z7 : Int) (D : List Int) (K : RdK w src dst b o c l L US z0 z1 z2 z3 z4 z5 z6 z7 D) (hl : l ≤ 281474976710656) (h8 : 8 ≤ l) (hL : z4 * 256 + z5 = (L : Int)) (h8L : 8 ≤ L) (hLl : L ≤ l) (h6 : (z6 = 0 ∧ z7 = 0) ∨ US = 0) (h2 : (z2 * 256 + z3 == 0) = false) :
    Calls Try.prog 14 #[.int .u32 src, .int .u32 dst, .slice (some ⟨b, o, none⟩) l c] w fun e w' => ∃ a n c, e = .returned (.tuple #[.agg #[.int .i64 (z0 * 256 + z1), .int .i64 (z2 * 256 + z3), .slice a n c], .int .i64 0]) ∧ Ans w w' D a n c := by
  obtain ⟨⟨b00, b01⟩, ⟨b10, b11⟩, ⟨b20, b21⟩, ⟨b30, b31⟩, ⟨b40, b41⟩, ⟨b50, b51⟩, ⟨b60, b61⟩, ⟨b70, b71⟩⟩ := K.bd
  have hcap := K.cap
  have KK := hid K
  clear K
  have H0 := hid (DcI.first w)
  have h1 : ¬ (l : Int) < 8 := by omega
  have i4 : (4 : Int) < (l : Int) := by omega
  have i5 : (5 : Int) < (l : Int) := by omega
  have i6 : (6 : Int) < (l : Int) := by omega
  have i7 : (7 : Int) < (l : Int) := by omega
  have i0 : (0 : Int) < (l : Int) := by omega
  have i0n : 0 < l := by omega
  have i0m : ¬ l = 0 := by omega
  have i1 : (1 : Int) < (l : Int) := by omega
  have i2 : (2 : Int) < (l : Int) := by omega
  have i3 : (3 : Int) < (l : Int) := by omega
  have e4 : IntKind.i64.wrap (IntKind.i64.wrap (IntKind.i64.wrap z4 * 256) + IntKind.i64.wrap z5) = z4 * 256 + z5 := by simp only [IntKind.wrap_i64]; omega
  have f4 : IntKind.i64.wrap z4 = z4 := by simp only [IntKind.wrap_i64]; omega
  have f5 : IntKind.i64.wrap z5 = z5 := by simp only [IntKind.wrap_i64]; omega
  have g4 : IntKind.i64.wrap (z4 * 256) = z4 * 256 := by simp only [IntKind.wrap_i64]; omega
  have g45 : IntKind.i64.wrap (z4 * 256 + z5) = z4 * 256 + z5 := by simp only [IntKind.wrap_i64]; omega
  obtain ⟨c0, c1, c2, c3, c4, c5, c6, c7⟩ := KK.out.cells _ H0.out.2
  have w0 : IntKind.i64.wrap z0 = z0 := by simp only [IntKind.wrap_i64]; omega
  have w1 : IntKind.i64.wrap z1 = z1 := by simp only [IntKind.wrap_i64]; omega
  have w2 : IntKind.i64.wrap z2 = z2 := by simp only [IntKind.wrap_i64]; omega
  have w3 : IntKind.i64.wrap z3 = z3 := by simp only [IntKind.wrap_i64]; omega
  have w4 : IntKind.i64.wrap (z0 * 256) = z0 * 256 := by simp only [IntKind.wrap_i64]; omega
  have w5 : IntKind.i64.wrap (z2 * 256) = z2 * 256 := by simp only [IntKind.wrap_i64]; omega
  have w6 : IntKind.i64.wrap (z0 * 256 + z1) = z0 * 256 + z1 := by simp only [IntKind.wrap_i64]; omega
  have w7 : IntKind.i64.wrap (z2 * 256 + z3) = z2 * 256 + z3 := by simp only [IntKind.wrap_i64]; omega
  go_enter Try.func14, Try.ntmps14
  go_wp2
  generalize w.alloc (.cells #[.int .i64 0, .int .i64 0, .slice none 0 0] 26) = W0 at *
  go_quiet (fail)
  have H1 := hid (H0.out.next (bdrewN (Below.refl _ W0) nq))
  generalize W0.drewN nq = W1 at *
  have hLb : L ≤ 65535 := by omega
  have j2 : ¬ (L : Int) < 8 := by omega
  have j3 : ¬ (l : Int) < (L : Int) := by omega
  have j4 : (L : Int) ≤ (c : Int) := by omega
  clear c0 c1 c2 c3 c4 c5 c6 c7 H0 hL g45 e4 f4 f5 g4
  go_wp2_with fail
  refine (KK.out.sum h8L hLl hLb _ H1.out.2).mono ?_
  rintro e W2 ⟨rfl, hb⟩
  have H2 := hid (H1.out.next hb)
  clear hb H1
  obtain ⟨c0, c1, c2, c3, c4, c5, c6, c7⟩ := KK.out.cells _ H2.out.2
  have HC9 : Hid (∀ W, Below W2.heap.size W2 W → W.cell? ⟨b, o, none⟩ = some (.int .u8 z0) ∧ W.cell? ⟨b, o + 1, none⟩ = some (.int .u8 z1) ∧ W.cell? ⟨b, o + 2, none⟩ = some (.int .u8 z2) ∧ W.cell? ⟨b, o + 3, none⟩ = some (.int .u8 z3)) := fun W hb => by
    obtain ⟨q0, q1, q2, q3, _⟩ := KK.out.cells W (bstep H2.out.2 hb)
    exact ⟨q0, q1, q2, q3⟩
  by_cases hz6 : z6 = 0
  · have hz6' : (z6 != 0) = false := by simpa using hz6
    by_cases hz7 : z7 = 0
    · have hz7' : (z7 != 0) = false := by simpa using hz7
      clear h6 hz6 hz7
      go_wp2
      go_region_held3 (fun x => x.cell? ⟨b, o, none⟩ = some (.int .u8 z0) ∧ x.cell? ⟨b, o + 1, none⟩ = some (.int .u8 z1) ∧ x.cell? ⟨b, o + 2, none⟩ = some (.int .u8 z2) ∧ x.cell? ⟨b, o + 3, none⟩ = some (.int .u8 z3)) (first | assumption | (refine HC9.out _ ?_; repeat (first | exact Below.refl _ _ | refine bpush ?_ _ | refine Below.drew ?_)) | go_keep) (first | fail)
      generalize hN2 : z2 * 256 + z3 = N2 at *
      have HN2 := hid hN2
      clear hN2
      generalize hN0 : z0 * 256 + z1 = N0 at *
      have HN0 := hid hN0
      clear hN0
      have H3 := hid (H2.out.next (bpush (Below.refl _ _) (.cells #[.int .i64 N0, .int .i64 N2, .slice none 0 0] 26)).drew)
      have HU : Hid ((W2.alloc (.cells #[.int .i64 N0, .int .i64 N2, .slice none 0 0] 26)).drew.heap[W2.heap.size]? = some (.cells #[.int .i64 N0, .int .i64 N2, .slice none 0 0] 26 (0, 0))) := heap_new W2 _
      have HG : Hid (w.heap.size < W2.heap.size) := heap_lt H2.out.1
      generalize (W2.alloc (.cells #[.int .i64 N0, .int .i64 N2, .slice none 0 0] 26)).drew = W3 at *
      generalize W2.heap.size = gu at *
      have u1 : W3.cell? ⟨gu, 1, none⟩ = some (.int .i64 N2) := cell_of_heap HU.out 1
      have j8 : (8 : Int) ≤ (L : Int) := by omega
      by_cases hc8 : c = 8
      · have hL8 : L = 8 := by omega
        subst hL8
        subst hc8
        obtain ⟨a9, n9, c9, w9, hrun, an⟩ := KK.out.app h8L hLl hLb W3.drew (some ⟨b, o, none⟩) (Or.inl rfl) (H3.out.2).drew
        simp only [Nat.sub_self] at hrun
        have hb9 : Below W3.heap.size W3 w9 := ((Below.refl _ W3).drew).trans an.2.2
        have HRUN := hid hrun
        have HD9 := hid (H3.out.next hb9)
        have HU9 := hid (kept HU.out hb9)
        have HR9 := hid an.1
        have HF9 : Hid (∀ q, (Value.slice a9 n9 c9).ownBlock = some q → W3.heap.size ≤ q) := an.2.1
        have HG3 := hid (heap_lt HU.out)
        have k2 : W3.cell? ⟨gu, 2, none⟩ = some (.slice none 0 0) := cell_of_heap HU.out 2
        have k9 : w9.cell? ⟨gu, 2, none⟩ = some (.slice none 0 0) := cell_of_heap HU9.out 2
        have f9 : w9.frozen? ⟨gu, 2, none⟩ = false := frozen_of_heap HU9.out 2
        clear hrun an hb9
        go_wp2
        go_region_law (refine step_append_run rfl (.tmp 81) (.tmp 84) 24 24 rfl _ _ rfl rfl HRUN.out ?_)
        have HU10 : Hid ((w9.setCell ⟨gu, 2, none⟩ (.slice a9 n9 c9)).heap[gu]? = some (.cells #[.int .i64 N0, .int .i64 N2, .slice a9 n9 c9] 26 (0, 0))) := by
          have := heap_setCell (j := 2) (v := .slice a9 n9 c9) HU9.out
          unfold Hid
          simpa using this
        have HD10 : Hid (DcI w (w9.setCell ⟨gu, 2, none⟩ (.slice a9 n9 c9))) := ⟨keptBut HD9.out.1 (But.setCell gu w9 2 _) (by have := HG.out; omega), bbut HD9.out.2 (But.setCell gu w9 2 _) (by have := HG.out; omega)⟩
        have HR10 := hid (HR9.out.but (But.setCell gu w9 2 (.slice a9 n9 c9)) (fun q hq => by have := HF9.out q hq; have := HG3.out; omega))
        generalize w9.setCell ⟨gu, 2, none⟩ (.slice a9 n9 c9) = W10 at *
        clear k2 k9 f9 u1 HRUN HD9 HU9 HR9
        go_wp2_with (first
          | (refine wpList_load_row rfl 26 _ rfl gu rfl 26 #[.int .i64 N0, .int .i64 N2, .slice a9 n9 c9] (0, 0) _ (by exact HU10.out) Try.underlying26 rfl (by kernel_rfl) ?_)
          | (refine wpList_store_row rfl 26 _ _ rfl w.heap.size #[.int .i64 N0, .int .i64 N2, .slice a9 n9 c9] rfl rfl 26 _ HD10.out.1 (by kernel_rfl) rfl (by first | kernel_rfl | simp [Value.oneCell']) ?_))
        refine bodyPost_ret (v := .tuple #[.agg #[.int .i64 N0, .int .i64 N2, .slice a9 n9 c9], .int .i64 0]) ?_ (by rfl) ?_
        · exact results_row2 Try.results14 _ _ w.heap.size 26 #[.int .i64 N0, .int .i64 N2, .slice a9 n9 c9] (0, 0) _ _ rfl rfl (setRow_heap _ _ _ _ _ _ HD10.out.1) Try.underlying26 rfl (by kernel_rfl)
        · exact ⟨a9, n9, c9, by rw [HN0.out, HN2.out], HR10.out.but (But.setRow _ _ _) (fun q hq => by have := HF9.out q hq; have := HG3.out; have := HG.out; omega), fun q hq => by have := HF9.out q hq; have := HG3.out; have := HG.out; omega, bbut HD10.out.2 (But.setRow _ _ _) (Nat.le_refl _)⟩
      · skip
        obtain ⟨a9, n9, c9, w9, hrun, an⟩ := KK.out.app h8L hLl hLb W3.drew (some ⟨b, o + 8, none⟩) (Or.inr rfl) (H3.out.2).drew
        have hb9 : Below W3.heap.size W3 w9 := ((Below.refl _ W3).drew).trans an.2.2
        have HRUN := hid hrun
        have HD9 := hid (H3.out.next hb9)
        have HU9 := hid (kept HU.out hb9)
        have HR9 := hid an.1
        have HF9 : Hid (∀ q, (Value.slice a9 n9 c9).ownBlock = some q → W3.heap.size ≤ q) := an.2.1
        have HG3 := hid (heap_lt HU.out)
        have k2 : W3.cell? ⟨gu, 2, none⟩ = some (.slice none 0 0) := cell_of_heap HU.out 2
        have k9 : w9.cell? ⟨gu, 2, none⟩ = some (.slice none 0 0) := cell_of_heap HU9.out 2
        have f9 : w9.frozen? ⟨gu, 2, none⟩ = false := frozen_of_heap HU9.out 2
        clear hrun an hb9
        go_wp2
        go_region_law (refine step_append_run rfl (.tmp 81) (.tmp 84) 24 24 rfl _ _ rfl rfl HRUN.out ?_)
        have HU10 : Hid ((w9.setCell ⟨gu, 2, none⟩ (.slice a9 n9 c9)).heap[gu]? = some (.cells #[.int .i64 N0, .int .i64 N2, .slice a9 n9 c9] 26 (0, 0))) := by
          have := heap_setCell (j := 2) (v := .slice a9 n9 c9) HU9.out
          unfold Hid
          simpa using this
        have HD10 : Hid (DcI w (w9.setCell ⟨gu, 2, none⟩ (.slice a9 n9 c9))) := ⟨keptBut HD9.out.1 (But.setCell gu w9 2 _) (by have := HG.out; omega), bbut HD9.out.2 (But.setCell gu w9 2 _) (by have := HG.out; omega)⟩
        have HR10 := hid (HR9.out.but (But.setCell gu w9 2 (.slice a9 n9 c9)) (fun q hq => by have := HF9.out q hq; have := HG3.out; omega))
        generalize w9.setCell ⟨gu, 2, none⟩ (.slice a9 n9 c9) = W10 at *
        clear k2 k9 f9 u1 HRUN HD9 HU9 HR9
        go_wp2_with (first
          | (refine wpList_load_row rfl 26 _ rfl gu rfl 26 #[.int .i64 N0, .int .i64 N2, .slice a9 n9 c9] (0, 0) _ (by exact HU10.out) Try.underlying26 rfl (by kernel_rfl) ?_)
          | (refine wpList_store_row rfl 26 _ _ rfl w.heap.size #[.int .i64 N0, .int .i64 N2, .slice a9 n9 c9] rfl rfl 26 _ HD10.out.1 (by kernel_rfl) rfl (by first | kernel_rfl | simp [Value.oneCell']) ?_))
        refine bodyPost_ret (v := .tuple #[.agg #[.int .i64 N0, .int .i64 N2, .slice a9 n9 c9], .int .i64 0]) ?_ (by rfl) ?_
        · exact results_row2 Try.results14 _ _ w.heap.size 26 #[.int .i64 N0, .int .i64 N2, .slice a9 n9 c9] (0, 0) _ _ rfl rfl (setRow_heap _ _ _ _ _ _ HD10.out.1) Try.underlying26 rfl (by kernel_rfl)
        · exact ⟨a9, n9, c9, by rw [HN0.out, HN2.out], HR10.out.but (But.setRow _ _ _) (fun q hq => by have := HF9.out q hq; have := HG3.out; have := HG.out; omega), fun q hq => by have := HF9.out q hq; have := HG3.out; have := HG.out; omega, bbut HD10.out.2 (But.setRow _ _ _) (Nat.le_refl _)⟩
    · have hz7' : (z7 != 0) = true := by simpa using hz7
      have h7 : (US != 0) = false := by simp; omega
      clear h6 hz6 hz7
      go_wp2
      go_region_held3 (fun x => x.cell? ⟨b, o, none⟩ = some (.int .u8 z0) ∧ x.cell? ⟨b, o + 1, none⟩ = some (.int .u8 z1) ∧ x.cell? ⟨b, o + 2, none⟩ = some (.int .u8 z2) ∧ x.cell? ⟨b, o + 3, none⟩ = some (.int .u8 z3)) (first | assumption | (refine HC9.out _ ?_; repeat (first | exact Below.refl _ _ | refine bpush ?_ _ | refine Below.drew ?_)) | go_keep) (first | fail)
      generalize hN2 : z2 * 256 + z3 = N2 at *
      have HN2 := hid hN2
      clear hN2
      generalize hN0 : z0 * 256 + z1 = N0 at *
      have HN0 := hid hN0
      clear hN0
      have H3 := hid (H2.out.next (bpush (Below.refl _ _) (.cells #[.int .i64 N0, .int .i64 N2, .slice none 0 0] 26)).drew)
      have HU : Hid ((W2.alloc (.cells #[.int .i64 N0, .int .i64 N2, .slice none 0 0] 26)).drew.heap[W2.heap.size]? = some (.cells #[.int .i64 N0, .int .i64 N2, .slice none 0 0] 26 (0, 0))) := heap_new W2 _
      have HG : Hid (w.heap.size < W2.heap.size) := heap_lt H2.out.1
      generalize (W2.alloc (.cells #[.int .i64 N0, .int .i64 N2, .slice none 0 0] 26)).drew = W3 at *
      generalize W2.heap.size = gu at *
      have u1 : W3.cell? ⟨gu, 1, none⟩ = some (.int .i64 N2) := cell_of_heap HU.out 1
      have j8 : (8 : Int) ≤ (L : Int) := by omega
      by_cases hc8 : c = 8
      · have hL8 : L = 8 := by omega
        subst hL8
        subst hc8
        obtain ⟨a9, n9, c9, w9, hrun, an⟩ := KK.out.app h8L hLl hLb W3.drew (some ⟨b, o, none⟩) (Or.inl rfl) (H3.out.2).drew
        simp only [Nat.sub_self] at hrun
        have hb9 : Below W3.heap.size W3 w9 := ((Below.refl _ W3).drew).trans an.2.2
        have HRUN := hid hrun
        have HD9 := hid (H3.out.next hb9)
        have HU9 := hid (kept HU.out hb9)
        have HR9 := hid an.1
        have HF9 : Hid (∀ q, (Value.slice a9 n9 c9).ownBlock = some q → W3.heap.size ≤ q) := an.2.1
        have HG3 := hid (heap_lt HU.out)
        have k2 : W3.cell? ⟨gu, 2, none⟩ = some (.slice none 0 0) := cell_of_heap HU.out 2
        have k9 : w9.cell? ⟨gu, 2, none⟩ = some (.slice none 0 0) := cell_of_heap HU9.out 2
        have f9 : w9.frozen? ⟨gu, 2, none⟩ = false := frozen_of_heap HU9.out 2
        clear hrun an hb9
        go_wp2
        go_region_law (refine step_append_run rfl (.tmp 81) (.tmp 84) 24 24 rfl _ _ rfl rfl HRUN.out ?_)
        have HU10 : Hid ((w9.setCell ⟨gu, 2, none⟩ (.slice a9 n9 c9)).heap[gu]? = some (.cells #[.int .i64 N0, .int .i64 N2, .slice a9 n9 c9] 26 (0, 0))) := by
          have := heap_setCell (j := 2) (v := .slice a9 n9 c9) HU9.out
          unfold Hid
          simpa using this
        have HD10 : Hid (DcI w (w9.setCell ⟨gu, 2, none⟩ (.slice a9 n9 c9))) := ⟨keptBut HD9.out.1 (But.setCell gu w9 2 _) (by have := HG.out; omega), bbut HD9.out.2 (But.setCell gu w9 2 _) (by have := HG.out; omega)⟩
        have HR10 := hid (HR9.out.but (But.setCell gu w9 2 (.slice a9 n9 c9)) (fun q hq => by have := HF9.out q hq; have := HG3.out; omega))
        generalize w9.setCell ⟨gu, 2, none⟩ (.slice a9 n9 c9) = W10 at *
        clear k2 k9 f9 u1 HRUN HD9 HU9 HR9
        go_wp2_with (first
          | (refine wpList_load_row rfl 26 _ rfl gu rfl 26 #[.int .i64 N0, .int .i64 N2, .slice a9 n9 c9] (0, 0) _ (by exact HU10.out) Try.underlying26 rfl (by kernel_rfl) ?_)
          | (refine wpList_store_row rfl 26 _ _ rfl w.heap.size #[.int .i64 N0, .int .i64 N2, .slice a9 n9 c9] rfl rfl 26 _ HD10.out.1 (by kernel_rfl) rfl (by first | kernel_rfl | simp [Value.oneCell']) ?_))
        refine bodyPost_ret (v := .tuple #[.agg #[.int .i64 N0, .int .i64 N2, .slice a9 n9 c9], .int .i64 0]) ?_ (by rfl) ?_
        · exact results_row2 Try.results14 _ _ w.heap.size 26 #[.int .i64 N0, .int .i64 N2, .slice a9 n9 c9] (0, 0) _ _ rfl rfl (setRow_heap _ _ _ _ _ _ HD10.out.1) Try.underlying26 rfl (by kernel_rfl)
        · exact ⟨a9, n9, c9, by rw [HN0.out, HN2.out], HR10.out.but (But.setRow _ _ _) (fun q hq => by have := HF9.out q hq; have := HG3.out; have := HG.out; omega), fun q hq => by have := HF9.out q hq; have := HG3.out; have := HG.out; omega, bbut HD10.out.2 (But.setRow _ _ _) (Nat.le_refl _)⟩
      · skip
        obtain ⟨a9, n9, c9, w9, hrun, an⟩ := KK.out.app h8L hLl hLb W3.drew (some ⟨b, o + 8, none⟩) (Or.inr rfl) (H3.out.2).drew
        have hb9 : Below W3.heap.size W3 w9 := ((Below.refl _ W3).drew).trans an.2.2
        have HRUN := hid hrun
        have HD9 := hid (H3.out.next hb9)
        have HU9 := hid (kept HU.out hb9)
        have HR9 := hid an.1
        have HF9 : Hid (∀ q, (Value.slice a9 n9 c9).ownBlock = some q → W3.heap.size ≤ q) := an.2.1
        have HG3 := hid (heap_lt HU.out)
        have k2 : W3.cell? ⟨gu, 2, none⟩ = some (.slice none 0 0) := cell_of_heap HU.out 2
        have k9 : w9.cell? ⟨gu, 2, none⟩ = some (.slice none 0 0) := cell_of_heap HU9.out 2
        have f9 : w9.frozen? ⟨gu, 2, none⟩ = false := frozen_of_heap HU9.out 2
        clear hrun an hb9
        go_wp2
        go_region_law (refine step_append_run rfl (.tmp 81) (.tmp 84) 24 24 rfl _ _ rfl rfl HRUN.out ?_)
        have HU10 : Hid ((w9.setCell ⟨gu, 2, none⟩ (.slice a9 n9 c9)).heap[gu]? = some (.cells #[.int .i64 N0, .int .i64 N2, .slice a9 n9 c9] 26 (0, 0))) := by
          have := heap_setCell (j := 2) (v := .slice a9 n9 c9) HU9.out
          unfold Hid
          simpa using this
        have HD10 : Hid (DcI w (w9.setCell ⟨gu, 2, none⟩ (.slice a9 n9 c9))) := ⟨keptBut HD9.out.1 (But.setCell gu w9 2 _) (by have := HG.out; omega), bbut HD9.out.2 (But.setCell gu w9 2 _) (by have := HG.out; omega)⟩
        have HR10 := hid (HR9.out.but (But.setCell gu w9 2 (.slice a9 n9 c9)) (fun q hq => by have := HF9.out q hq; have := HG3.out; omega))
        generalize w9.setCell ⟨gu, 2, none⟩ (.slice a9 n9 c9) = W10 at *
        clear k2 k9 f9 u1 HRUN HD9 HU9 HR9
        go_wp2_with (first
          | (refine wpList_load_row rfl 26 _ rfl gu rfl 26 #[.int .i64 N0, .int .i64 N2, .slice a9 n9 c9] (0, 0) _ (by exact HU10.out) Try.underlying26 rfl (by kernel_rfl) ?_)
          | (refine wpList_store_row rfl 26 _ _ rfl w.heap.size #[.int .i64 N0, .int .i64 N2, .slice a9 n9 c9] rfl rfl 26 _ HD10.out.1 (by kernel_rfl) rfl (by first | kernel_rfl | simp [Value.oneCell']) ?_))
        refine bodyPost_ret (v := .tuple #[.agg #[.int .i64 N0, .int .i64 N2, .slice a9 n9 c9], .int .i64 0]) ?_ (by rfl) ?_
        · exact results_row2 Try.results14 _ _ w.heap.size 26 #[.int .i64 N0, .int .i64 N2, .slice a9 n9 c9] (0, 0) _ _ rfl rfl (setRow_heap _ _ _ _ _ _ HD10.out.1) Try.underlying26 rfl (by kernel_rfl)
        · exact ⟨a9, n9, c9, by rw [HN0.out, HN2.out], HR10.out.but (But.setRow _ _ _) (fun q hq => by have := HF9.out q hq; have := HG3.out; have := HG.out; omega), fun q hq => by have := HF9.out q hq; have := HG3.out; have := HG.out; omega, bbut HD10.out.2 (But.setRow _ _ _) (Nat.le_refl _)⟩
  · have hz6' : (z6 != 0) = true := by simpa using hz6
    have h7 : (US != 0) = false := by simp; omega
    clear h6 hz6
    go_wp2
    go_region_held3 (fun x => x.cell? ⟨b, o, none⟩ = some (.int .u8 z0) ∧ x.cell? ⟨b, o + 1, none⟩ = some (.int .u8 z1) ∧ x.cell? ⟨b, o + 2, none⟩ = some (.int .u8 z2) ∧ x.cell? ⟨b, o + 3, none⟩ = some (.int .u8 z3)) (first | assumption | (refine HC9.out _ ?_; repeat (first | exact Below.refl _ _ | refine bpush ?_ _ | refine Below.drew ?_)) | go_keep) (first | fail)
    generalize hN2 : z2 * 256 + z3 = N2 at *
    have HN2 := hid hN2
    clear hN2
    generalize hN0 : z0 * 256 + z1 = N0 at *
    have HN0 := hid hN0
    clear hN0
    have H3 := hid (H2.out.next (bpush (Below.refl _ _) (.cells #[.int .i64 N0, .int .i64 N2, .slice none 0 0] 26)).drew)
    have HU : Hid ((W2.alloc (.cells #[.int .i64 N0, .int .i64 N2, .slice none 0 0] 26)).drew.heap[W2.heap.size]? = some (.cells #[.int .i64 N0, .int .i64 N2, .slice none 0 0] 26 (0, 0))) := heap_new W2 _
    have HG : Hid (w.heap.size < W2.heap.size) := heap_lt H2.out.1
    generalize (W2.alloc (.cells #[.int .i64 N0, .int .i64 N2, .slice none 0 0] 26)).drew = W3 at *
    generalize W2.heap.size = gu at *
    have u1 : W3.cell? ⟨gu, 1, none⟩ = some (.int .i64 N2) := cell_of_heap HU.out 1
    have j8 : (8 : Int) ≤ (L : Int) := by omega
    by_cases hc8 : c = 8
    · have hL8 : L = 8 := by omega
      subst hL8
      subst hc8
      obtain ⟨a9, n9, c9, w9, hrun, an⟩ := KK.out.app h8L hLl hLb W3.drew (some ⟨b, o, none⟩) (Or.inl rfl) (H3.out.2).drew
      simp only [Nat.sub_self] at hrun
      have hb9 : Below W3.heap.size W3 w9 := ((Below.refl _ W3).drew).trans an.2.2
      have HRUN := hid hrun
      have HD9 := hid (H3.out.next hb9)
      have HU9 := hid (kept HU.out hb9)
      have HR9 := hid an.1
      have HF9 : Hid (∀ q, (Value.slice a9 n9 c9).ownBlock = some q → W3.heap.size ≤ q) := an.2.1
      have HG3 := hid (heap_lt HU.out)
      have k2 : W3.cell? ⟨gu, 2, none⟩ = some (.slice none 0 0) := cell_of_heap HU.out 2
      have k9 : w9.cell? ⟨gu, 2, none⟩ = some (.slice none 0 0) := cell_of_heap HU9.out 2
      have f9 : w9.frozen? ⟨gu, 2, none⟩ = false := frozen_of_heap HU9.out 2
      clear hrun an hb9
      go_wp2
      go_region_law (refine step_append_run rfl (.tmp 81) (.tmp 84) 24 24 rfl _ _ rfl rfl HRUN.out ?_)
      have HU10 : Hid ((w9.setCell ⟨gu, 2, none⟩ (.slice a9 n9 c9)).heap[gu]? = some (.cells #[.int .i64 N0, .int .i64 N2, .slice a9 n9 c9] 26 (0, 0))) := by
        have := heap_setCell (j := 2) (v := .slice a9 n9 c9) HU9.out
        unfold Hid
        simpa using this
      have HD10 : Hid (DcI w (w9.setCell ⟨gu, 2, none⟩ (.slice a9 n9 c9))) := ⟨keptBut HD9.out.1 (But.setCell gu w9 2 _) (by have := HG.out; omega), bbut HD9.out.2 (But.setCell gu w9 2 _) (by have := HG.out; omega)⟩
      have HR10 := hid (HR9.out.but (But.setCell gu w9 2 (.slice a9 n9 c9)) (fun q hq => by have := HF9.out q hq; have := HG3.out; omega))
      generalize w9.setCell ⟨gu, 2, none⟩ (.slice a9 n9 c9) = W10 at *
      clear k2 k9 f9 u1 HRUN HD9 HU9 HR9
      go_wp2_with (first
        | (refine wpList_load_row rfl 26 _ rfl gu rfl 26 #[.int .i64 N0, .int .i64 N2, .slice a9 n9 c9] (0, 0) _ (by exact HU10.out) Try.underlying26 rfl (by kernel_rfl) ?_)
        | (refine wpList_store_row rfl 26 _ _ rfl w.heap.size #[.int .i64 N0, .int .i64 N2, .slice a9 n9 c9] rfl rfl 26 _ HD10.out.1 (by kernel_rfl) rfl (by first | kernel_rfl | simp [Value.oneCell']) ?_))
      refine bodyPost_ret (v := .tuple #[.agg #[.int .i64 N0, .int .i64 N2, .slice a9 n9 c9], .int .i64 0]) ?_ (by rfl) ?_
      · exact results_row2 Try.results14 _ _ w.heap.size 26 #[.int .i64 N0, .int .i64 N2, .slice a9 n9 c9] (0, 0) _ _ rfl rfl (setRow_heap _ _ _ _ _ _ HD10.out.1) Try.underlying26 rfl (by kernel_rfl)
      · exact ⟨a9, n9, c9, by rw [HN0.out, HN2.out], HR10.out.but (But.setRow _ _ _) (fun q hq => by have := HF9.out q hq; have := HG3.out; have := HG.out; omega), fun q hq => by have := HF9.out q hq; have := HG3.out; have := HG.out; omega, bbut HD10.out.2 (But.setRow _ _ _) (Nat.le_refl _)⟩
    · skip
      obtain ⟨a9, n9, c9, w9, hrun, an⟩ := KK.out.app h8L hLl hLb W3.drew (some ⟨b, o + 8, none⟩) (Or.inr rfl) (H3.out.2).drew
      have hb9 : Below W3.heap.size W3 w9 := ((Below.refl _ W3).drew).trans an.2.2
      have HRUN := hid hrun
      have HD9 := hid (H3.out.next hb9)
      have HU9 := hid (kept HU.out hb9)
      have HR9 := hid an.1
      have HF9 : Hid (∀ q, (Value.slice a9 n9 c9).ownBlock = some q → W3.heap.size ≤ q) := an.2.1
      have HG3 := hid (heap_lt HU.out)
      have k2 : W3.cell? ⟨gu, 2, none⟩ = some (.slice none 0 0) := cell_of_heap HU.out 2
      have k9 : w9.cell? ⟨gu, 2, none⟩ = some (.slice none 0 0) := cell_of_heap HU9.out 2
      have f9 : w9.frozen? ⟨gu, 2, none⟩ = false := frozen_of_heap HU9.out 2
      clear hrun an hb9
      go_wp2
      go_region_law (refine step_append_run rfl (.tmp 81) (.tmp 84) 24 24 rfl _ _ rfl rfl HRUN.out ?_)
      have HU10 : Hid ((w9.setCell ⟨gu, 2, none⟩ (.slice a9 n9 c9)).heap[gu]? = some (.cells #[.int .i64 N0, .int .i64 N2, .slice a9 n9 c9] 26 (0, 0))) := by
        have := heap_setCell (j := 2) (v := .slice a9 n9 c9) HU9.out
        unfold Hid
        simpa using this
      have HD10 : Hid (DcI w (w9.setCell ⟨gu, 2, none⟩ (.slice a9 n9 c9))) := ⟨keptBut HD9.out.1 (But.setCell gu w9 2 _) (by have := HG.out; omega), bbut HD9.out.2 (But.setCell gu w9 2 _) (by have := HG.out; omega)⟩
      have HR10 := hid (HR9.out.but (But.setCell gu w9 2 (.slice a9 n9 c9)) (fun q hq => by have := HF9.out q hq; have := HG3.out; omega))
      generalize w9.setCell ⟨gu, 2, none⟩ (.slice a9 n9 c9) = W10 at *
      clear k2 k9 f9 u1 HRUN HD9 HU9 HR9
      go_wp2_with (first
        | (refine wpList_load_row rfl 26 _ rfl gu rfl 26 #[.int .i64 N0, .int .i64 N2, .slice a9 n9 c9] (0, 0) _ (by exact HU10.out) Try.underlying26 rfl (by kernel_rfl) ?_)
        | (refine wpList_store_row rfl 26 _ _ rfl w.heap.size #[.int .i64 N0, .int .i64 N2, .slice a9 n9 c9] rfl rfl 26 _ HD10.out.1 (by kernel_rfl) rfl (by first | kernel_rfl | simp [Value.oneCell']) ?_))
      refine bodyPost_ret (v := .tuple #[.agg #[.int .i64 N0, .int .i64 N2, .slice a9 n9 c9], .int .i64 0]) ?_ (by rfl) ?_
      · exact results_row2 Try.results14 _ _ w.heap.size 26 #[.int .i64 N0, .int .i64 N2, .slice a9 n9 c9] (0, 0) _ _ rfl rfl (setRow_heap _ _ _ _ _ _ HD10.out.1) Try.underlying26 rfl (by kernel_rfl)
      · exact ⟨a9, n9, c9, by rw [HN0.out, HN2.out], HR10.out.but (But.setRow _ _ _) (fun q hq => by have := HF9.out q hq; have := HG3.out; have := HG.out; omega), fun q hq => by have := HF9.out q hq; have := HG3.out; have := HG.out; omega, bbut HD10.out.2 (But.setRow _ _ _) (Nat.le_refl _)⟩

theorem refDecode_u (src dst : Int) (pt : Part) (w : World) (s0 : 0 ≤ src ∧ src ≤ 4294967295) (d0 : 0 ≤ dst ∧ dst ≤ 4294967295) (hok : pt.ok w) (hl : pt.zs.length ≤ 281474976710656) :
    Calls Try.prog 14 #[.int .u32 src, .int .u32 dst, pt.val] w fun e w' => ∃ a n c, e = .returned (.tuple #[.agg #[.int .i64 (decS src dst pt.zs), .int .i64 (decT src dst pt.zs), .slice a n c], .int .i64 (decE src dst pt.zs)]) ∧ Ans w w' (decD src dst pt.zs) a n c := by
  unfold decS decT decD decE
  by_cases h1 : pt.zs.length < 8
  · simp only [if_pos h1, if_neg (show ¬ (5 : Int) = 0 by decide)]
    exact (refDecode_short src dst _ _ _ w h1).mono fun e w' h => ⟨_, _, _, h.1, ans_nil h.2⟩
  · simp only [if_neg h1]
    obtain ⟨b, o, ha⟩ : ∃ b o, pt.a = some ⟨b, o, none⟩ := by
      rcases hok.2.2 with he | ⟨b, o, ha, _⟩
      · rw [he] at h1; simp at h1
      · exact ⟨b, o, ha⟩
    have hv : pt.val = .slice (some ⟨b, o, none⟩) pt.zs.length pt.c := by unfold Part.val; rw [ha]
    rw [hv]
    have b6 := getD_mem_bd hok.1 6
    have b7 := getD_mem_bd hok.1 7
    have n6 : numAt pt.zs 6 = pt.zs.getD 6 0 * 256 + pt.zs.getD 7 0 := rfl
    have n4 : numAt pt.zs 4 = pt.zs.getD 4 0 * 256 + pt.zs.getD 5 0 := rfl
    by_cases h2 : numAt pt.zs 4 < 8 ∨ (pt.zs.length : Int) < numAt pt.zs 4
    · simp only [if_pos h2, if_neg (show ¬ (92 : Int) = 0 by decide)]
      exact (refDecode_length src dst w b o _ _ 0 _ _ _ _ _ _ _ _ _ _ (rdK src dst pt w s0 d0 hok (by omega) b o 0 ha) hl (by omega) h2).mono fun e w' h => ⟨_, _, _, h.1, ans_nil h.2⟩
    · simp only [if_neg h2]
      obtain ⟨L, hL⟩ := Int.eq_ofNat_of_zero_le (show 0 ≤ numAt pt.zs 4 by omega)
      simp only [hL, Int.toNat_natCast]
      rw [hL] at h2
      have K := rdK src dst pt w s0 d0 hok (by omega) b o L ha
      by_cases h3 : ¬ numAt pt.zs 6 = 0 ∧ ¬ usum src dst (pt.zs.take L) = 0
      · simp only [if_pos h3, if_neg (show ¬ (93 : Int) = 0 by decide)]
        exact (refDecode_sum src dst w b o _ _ L _ _ _ _ _ _ _ _ _ _ K hl (by omega) (by rw [← n4]; exact hL) (by omega) (by omega) (by omega) h3.2).mono fun e w' h => ⟨_, _, _, h.1, ans_nil h.2⟩
      · simp only [if_neg h3]
        have h3' : (pt.zs.getD 6 0 = 0 ∧ pt.zs.getD 7 0 = 0) ∨ usum src dst (pt.zs.take L) = 0 := by omega
        by_cases h4 : numAt pt.zs 2 = 0
        · simp only [if_pos h4, if_neg (show ¬ (120 : Int) = 0 by decide)]
          exact (refDecode_zero src dst w b o _ _ L _ _ _ _ _ _ _ _ _ _ K hl (by omega) (by rw [← n4]; exact hL) (by omega) (by omega) h3' (by simpa [numAt] using h4)).mono fun e w' h => ⟨_, _, _, h.1, ans_nil h.2⟩
        · simp only [if_neg h4, if_pos]
          unfold datD
          simp only [hL, Int.toNat_natCast]
          exact refDecode_ok src dst w b o _ _ L _ _ _ _ _ _ _ _ _ _ K hl (by omega) (by rw [← n4]; exact hL) (by omega) (by omega) h3' (by simpa [numAt] using h4)

end Go.Proofs.Ytdfmnjoodjpibaa
