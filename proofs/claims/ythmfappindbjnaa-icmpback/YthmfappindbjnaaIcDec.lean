/-
  icmp.Decode.
-/
import Derived.Test.YthmfappindbjnaaIcAct
namespace Go.Proofs.Ythmfappindbjnaa
open Go.RowKit
set_option linter.all false

/-- the first error. -/
def decE (zs : List Int) : Int :=
  if zs.length < 8 then 5 else if 1480 < zs.length then 2 else if ¬ numAt zs 2 = isum zs then 93 else if kindB (zs.getD 0 0) = false then 140 else 0
/-- what a Decode tells. -/
def decK (zs : List Int) : Int := if decE zs = 0 then zs.getD 0 0 else 0
def decC (zs : List Int) : Int := if decE zs = 0 then zs.getD 1 0 else 0
def decR (zs : List Int) : Int := if decE zs = 0 then num4 zs 4 else 0
def decD (zs : List Int) : List Int := if decE zs = 0 then zs.drop 8 else []

/-- a Decode under way: its box, and what it must leave alone. -/
def DcI (w W : World) : Prop := W.heap[w.heap.size]? = some (.cells #[.int .i64 0, .int .i64 0, .int .u32 0, .slice none 0 0] 26 (0, 0)) ∧ Below w.heap.size w W
theorem DcI.first (w : World) : DcI w (w.alloc (.cells #[.int .i64 0, .int .i64 0, .int .u32 0, .slice none 0 0] 26)) := ⟨heap_new w _, bpush (Below.refl _ _) _⟩
theorem DcI.next {w W W' : World} (h : DcI w W) (hb : Below W.heap.size W W') : DcI w W' := ⟨kept h.1 hb, bstep h.2 hb⟩
theorem DcI.lt {w W : World} (h : DcI w W) : w.heap.size < W.heap.size := heap_lt h.1

set_option maxRecDepth 20000 in
set_option maxHeartbeats 1000000 in
theorem decode_short (a : Option Addr) (n c : Nat) (w : World) (h : n < 8) :
    Calls Try.prog 16 #[.slice a n c] w fun e w' => e = .returned (.tuple #[.agg #[.int .i64 0, .int .i64 0, .int .u32 0, .slice none 0 0], .int .i64 5]) ∧ Below w.heap.size w w' := by
  have h1 : (n : Int) < 8 := by omega
  have H0 := hid (DcI.first w)
  go_enter Try.func16, Try.ntmps16
  go_wp2_with (first
    | (refine wpList_store_row rfl 26 _ _ rfl w.heap.size #[.int .i64 0, .int .i64 0, .int .u32 0, .slice none 0 0] rfl rfl 26 _ H0.out.1 (by kernel_rfl) rfl (by first | kernel_rfl | simp [Value.oneCell']) ?_) | fail)
  refine bodyPost_ret (v := .tuple #[.agg #[.int .i64 0, .int .i64 0, .int .u32 0, .slice none 0 0], .int .i64 5]) ?_ (by rfl) ⟨rfl, bbut H0.out.2 (But.setRow _ _ _) (Nat.le_refl _)⟩
  exact results_row2 Try.results16 _ _ w.heap.size 26 _ (0, 0) _ _ rfl rfl (setRow_heap _ _ _ _ _ _ H0.out.1) Try.underlying26 rfl (by kernel_rfl)
set_option maxRecDepth 20000 in
set_option maxHeartbeats 1000000 in
theorem decode_long (a : Option Addr) (n c : Nat) (w : World) (h : 1480 < n) :
    Calls Try.prog 16 #[.slice a n c] w fun e w' => e = .returned (.tuple #[.agg #[.int .i64 0, .int .i64 0, .int .u32 0, .slice none 0 0], .int .i64 2]) ∧ Below w.heap.size w w' := by
  have h1 : ¬ (n : Int) < 8 := by omega
  have h2 : (1480 : Int) < (n : Int) := by omega
  have H0 := hid (DcI.first w)
  go_enter Try.func16, Try.ntmps16
  go_wp2_with (first
    | (refine wpList_store_row rfl 26 _ _ rfl w.heap.size #[.int .i64 0, .int .i64 0, .int .u32 0, .slice none 0 0] rfl rfl 26 _ H0.out.1 (by kernel_rfl) rfl (by first | kernel_rfl | simp [Value.oneCell']) ?_) | fail)
  refine bodyPost_ret (v := .tuple #[.agg #[.int .i64 0, .int .i64 0, .int .u32 0, .slice none 0 0], .int .i64 2]) ?_ (by rfl) ⟨rfl, bbut H0.out.2 (But.setRow _ _ _) (Nat.le_refl _)⟩
  exact results_row2 Try.results16 _ _ w.heap.size 26 _ (0, 0) _ _ rfl rfl (setRow_heap _ _ _ _ _ _ H0.out.1) Try.underlying26 rfl (by kernel_rfl)

/-- what a Decode reads and calls, once the length is known. -/
structure DcK (w : World) (b o c l : Nat) (N2 US N4 z0 z1 : Int) (D : List Int) : Prop where
  bd : (0 ≤ z0 ∧ z0 ≤ 255) ∧ (0 ≤ z1 ∧ z1 ≤ 255) ∧ (0 ≤ N4 ∧ N4 ≤ 4294967295)
  cap : l ≤ c
  len : D.length = l - 8
  cells : ∀ W, Below w.heap.size w W → W.cell? ⟨b, o, none⟩ = some (.int .u8 z0) ∧ W.cell? ⟨b, o + 1, none⟩ = some (.int .u8 z1)
  k2 : ∀ W, Below w.heap.size w W → Calls Try.prog 29 #[.slice (some ⟨b, o, none⟩) l c, .int .i64 2, .int .i64 2] W fun e w' => e = .returned (.int .u64 N2) ∧ w' = W
  k4 : ∀ W, Below w.heap.size w W → Calls Try.prog 29 #[.slice (some ⟨b, o, none⟩) l c, .int .i64 4, .int .i64 4] W fun e w' => e = .returned (.int .u64 N4) ∧ w' = W
  ks : ∀ W, Below w.heap.size w W → Calls Try.prog 25 #[.slice (some ⟨b, o, none⟩) l c] W fun e w' => e = .returned (.int .u64 US) ∧ Below W.heap.size W w'
  kc : ∀ (W : World) (a : Option Addr), (l = 8 ∨ a = some ⟨b, o + 8, none⟩) → Below w.heap.size w W → Calls Try.prog 30 #[.slice a (l - 8) (c - 8)] W fun e w' => ∃ a c', e = .returned (.slice a (l - 8) c') ∧ Hid (Ans W w' D a (l - 8) c')
theorem dcK (pt : Part) (w : World) (hok : pt.ok w) (h8 : 8 ≤ pt.zs.length) (hl : pt.zs.length ≤ 1480) (b o : Nat) (ha : pt.a = some ⟨b, o, none⟩) :
    DcK w b o pt.c pt.zs.length (numAt pt.zs 2) (isum pt.zs) (num4 pt.zs 4) (pt.zs.getD 0 0) (pt.zs.getD 1 0) (pt.zs.drop 8) := by
  obtain ⟨pa, c, zs⟩ := pt
  simp only at *
  subst ha
  have hcap := hok.2.1
  have hbd := getD_mem_bd hok.1
  have hc : ∀ j, j < zs.length → w.cell? ⟨b, o + j, none⟩ = some (.int .u8 (zs.getD j 0)) := by
    rcases hok.2.2 with he | ⟨b', o', ha', hc⟩
    · simp only at he; rw [he] at h8; simp at h8
    · simp only [Option.some.injEq, Addr.mk.injEq, and_true] at ha'
      obtain ⟨rfl, rfl⟩ := ha'
      exact hc
  have hcW : ∀ W, Below w.heap.size w W → ∀ j, j < 8 → W.cell? ⟨b, o + j, none⟩ = some (.int .u8 (zs.getD j 0)) := fun W hb j hj =>
    (hb.cell (p := ⟨b, o + j, none⟩) (World.block_lt_of_cell? w _ (hc j (by omega)))).trans (hc j (by omega))
  refine ⟨⟨hbd 0, hbd 1, num4_bd hok.1 4⟩, hcap, by simp, fun W hb => ⟨hcW W hb 0 (by omega), hcW W hb 1 (by omega)⟩, fun W hb => ?_, fun W hb => ?_, fun W hb => ?_, fun W a hca hb => ?_⟩
  · exact numberAt_2 _ 2 W (Part.ok_below hok hb) (by simp only; omega) (by simp only; omega)
  · exact numberAt_4 _ 4 W (Part.ok_below hok hb) (by simp only; omega) (by simp only; omega)
  · exact isumOf_any _ W (Part.ok_below hok hb) h8 hl
  · have hdl : (zs.drop 8).length = zs.length - 8 := by simp
    have hq : Part.ok W ⟨a, c - 8, zs.drop 8⟩ := by
      rcases hca with e | e2
      · have : zs.drop 8 = [] := List.eq_nil_of_length_eq_zero (by rw [hdl]; omega)
        rw [this]
        exact ⟨by simp, by simp, Or.inl rfl⟩
      · have := Part.sub_ok (Part.ok_below hok hb) 8 (zs.length - 8) (c - 8) (by omega) (by simp only at hcap; omega)
        rw [List.take_of_length_le (by rw [hdl]; omega)] at this
        rw [e2]
        exact this
    have h := bclone_any _ W hq (by simp only [hdl]; omega)
    simp only [Part.val, hdl] at h
    exact h

set_option maxRecDepth 20000 in
set_option maxHeartbeats 1000000 in
theorem decode_sum (w : World) (b o c l : Nat) (N2 US N4 z0 z1 : Int) (D : List Int) (K : DcK w b o c l N2 US N4 z0 z1 D) (h8 : 8 ≤ l) (hl : l ≤ 1480) (hs : ¬ N2 = US) :
    Calls Try.prog 16 #[.slice (some ⟨b, o, none⟩) l c] w fun e w' => e = .returned (.tuple #[.agg #[.int .i64 0, .int .i64 0, .int .u32 0, .slice none 0 0], .int .i64 93]) ∧ Below w.heap.size w w' := by
  have KK := hid K
  clear K
  have H0 := hid (DcI.first w)
  have h1 : ¬ (l : Int) < 8 := by omega
  have h2 : ¬ (1480 : Int) < (l : Int) := by omega
  have h3 : (N2 != US) = true := by simpa using hs
  clear hs
  go_enter Try.func16, Try.ntmps16
  go_wp2_with fail
  refine (KK.out.k2 _ H0.out.2).mono ?_
  rintro e w1 ⟨rfl, hw⟩
  subst w1
  go_wp2_with fail
  refine (KK.out.ks _ H0.out.2).mono ?_
  rintro e w1 ⟨rfl, hb⟩
  have H1 := hid (H0.out.next hb)
  clear hb H0
  go_wp2_with (first
    | (refine wpList_store_row rfl 26 _ _ rfl w.heap.size #[.int .i64 0, .int .i64 0, .int .u32 0, .slice none 0 0] rfl rfl 26 _ H1.out.1 (by kernel_rfl) rfl (by first | kernel_rfl | simp [Value.oneCell']) ?_) | fail)
  refine bodyPost_ret (v := .tuple #[.agg #[.int .i64 0, .int .i64 0, .int .u32 0, .slice none 0 0], .int .i64 93]) ?_ (by rfl) ⟨rfl, bbut H1.out.2 (But.setRow _ _ _) (Nat.le_refl _)⟩
  exact results_row2 Try.results16 _ _ w.heap.size 26 _ (0, 0) _ _ rfl rfl (setRow_heap _ _ _ _ _ _ H1.out.1) Try.underlying26 rfl (by kernel_rfl)

theorem cut4 {α β γ δ : Type} {G : Prop} {H : α → β → γ → δ → Prop} (P : α → β → γ → δ → Prop) (h1 : (∀ a b c d, H a b c d → P a b c d) → G) (h2 : ∀ a b c d, H a b c d → P a b c d) : G := h1 h2

/-- behind the region that reads the message. -/
def DcM (w : World) (l : Nat) (N4 z0 z1 : Int) (D : List Int) (V : World) (gp : Nat) (a : Option Addr) (cp : Nat) : Prop :=
  DcI w V ∧ V.heap[gp]? = some (.cells #[.int .i64 z0, .int .i64 z1, .int .u32 N4, .slice a (l - 8) cp] 26 (0, 0)) ∧ Row V 5 (.slice a (l - 8) cp) (u8s D) ∧ (∀ b, (Value.slice a (l - 8) cp).ownBlock = some b → w.heap.size < b)
theorem DcM.a {w W w5 : World} {l : Nat} {N4 z0 z1 : Int} {D : List Int} {a : Option Addr} {cp : Nat} (h : DcI w W) (hb : Below W.heap.size W w5) (hr : Row w5 5 (.slice a (l - 8) cp) (u8s D)) (hf : ∀ b, (Value.slice a (l - 8) cp).ownBlock = some b → W.heap.size ≤ b) :
    DcM w l N4 z0 z1 D (w5.alloc (.cells #[.int .i64 z0, .int .i64 z1, .int .u32 N4, .slice a (l - 8) cp] 26)) w5.heap.size a cp := by
  refine ⟨(h.next hb).next (bpush (Below.refl _ _) _), heap_new w5 _, hr.below (bpush (Below.refl _ _) _), fun b hb' => ?_⟩
  have := hf b hb'
  have := h.lt
  omega
theorem DcM.b {w W w5 : World} {l : Nat} {N4 z0 z1 : Int} {D : List Int} {a : Option Addr} {cp : Nat} (h : DcI w W) (ha : Ans (W.alloc (.cells #[.int .i64 0, .int .i64 0, .int .u32 0, .slice none 0 0] 26)).drew w5 D a (l - 8) cp) :
    DcI w w5 ∧ w5.heap[W.heap.size]? = some (.cells #[.int .i64 0, .int .i64 0, .int .u32 0, .slice none 0 0] 26 (0, 0)) ∧ DcM w l N4 z0 z1 D ((((w5.setCell ⟨W.heap.size, 0, none⟩ (.int .i64 z0)).setCell ⟨W.heap.size, 1, none⟩ (.int .i64 z1)).setCell ⟨W.heap.size, 2, none⟩ (.int .u32 N4)).setCell ⟨W.heap.size, 3, none⟩ (.slice a (l - 8) cp)) W.heap.size a cp := by
  have hb : Below W.heap.size W w5 := bstep (bpush (Below.refl _ _) _).drew ha.2.2
  have hg : w5.heap[W.heap.size]? = some (.cells #[.int .i64 0, .int .i64 0, .int .u32 0, .slice none 0 0] 26 (0, 0)) := kept (w := (W.alloc (.cells #[.int .i64 0, .int .i64 0, .int .u32 0, .slice none 0 0] 26)).drew) (heap_new W _) ha.2.2
  have hlt := h.lt
  have bu : But W.heap.size w5 ((((w5.setCell ⟨W.heap.size, 0, none⟩ (.int .i64 z0)).setCell ⟨W.heap.size, 1, none⟩ (.int .i64 z1)).setCell ⟨W.heap.size, 2, none⟩ (.int .u32 N4)).setCell ⟨W.heap.size, 3, none⟩ (.slice a (l - 8) cp)) := (((But.setCell _ _ _ _).trans (But.setCell _ _ _ _)).trans (But.setCell _ _ _ _)).trans (But.setCell _ _ _ _)
  have hf : ∀ b, (Value.slice a (l - 8) cp).ownBlock = some b → W.heap.size + 1 ≤ b := fun b hb' => by
    have := ha.2.1 b hb'
    simpa using this
  refine ⟨h.next hb, hg, ⟨keptBut (h.next hb).1 bu (by omega), bbut (h.next hb).2 bu (by omega)⟩, ?_, ha.1.but bu (fun b hb' => by have := hf b hb'; omega), fun b hb' => by have := hf b hb'; omega⟩
  exact heap_setCell (j := 3) (heap_setCell (j := 2) (heap_setCell (j := 1) (heap_setCell (j := 0) hg)))
set_option maxRecDepth 20000 in
set_option maxHeartbeats 4000000 in
theorem decode_end (w : World) (b o c l : Nat) (N2 N4 z0 z1 : Int) (D : List Int) (K : DcK w b o c l N2 N2 N4 z0 z1 D) (h8 : 8 ≤ l) (hl : l ≤ 1480) :
    Calls Try.prog 16 #[.slice (some ⟨b, o, none⟩) l c] w fun e w' => if kindB z0 = false then e = .returned (.tuple #[.agg #[.int .i64 0, .int .i64 0, .int .u32 0, .slice none 0 0], .int .i64 140]) ∧ Below w.heap.size w w' else ∃ a c', e = .returned (.tuple #[.agg #[.int .i64 z0, .int .i64 z1, .int .u32 N4, .slice a (l - 8) c'], .int .i64 0]) ∧ Ans w w' D a (l - 8) c' := by
  have KK := hid K
  have hcap := K.cap
  obtain ⟨⟨b00, b01⟩, ⟨b10, b11⟩, ⟨b40, b41⟩⟩ := K.bd
  clear K
  have P1 : Hid (∀ w, _) := fun w => isKind_any z0 w
  generalize kindB z0 = KB at *
  have H0 := hid (DcI.first w)
  have h1 : ¬ (l : Int) < 8 := by omega
  have h2 : ¬ (1480 : Int) < (l : Int) := by omega
  have i0 : (0 : Int) < (l : Int) := by omega
  have i1 : (1 : Int) < (l : Int) := by omega
  have i0n : 0 < l := by omega
  have i1n : 1 < l := by omega
  have i8 : (8 : Int) ≤ (l : Int) := by omega
  have i9 : (l : Int) ≤ (c : Int) := by omega
  have kz0 : IntKind.i64.wrap z0 = z0 := by simp only [IntKind.wrap_i64]; omega
  have kz1 : IntKind.i64.wrap z1 = z1 := by simp only [IntKind.wrap_i64]; omega
  have k4 : IntKind.u32.wrap N4 = N4 := by simp only [IntKind.wrap_u32]; omega
  go_enter Try.func16, Try.ntmps16
  go_wp2_with fail
  refine (KK.out.k2 _ H0.out.2).mono ?_
  rintro e w1 ⟨rfl, hw⟩
  subst w1
  go_wp2_with fail
  refine (KK.out.ks _ H0.out.2).mono ?_
  rintro e W ⟨rfl, hb⟩
  have H1 := hid (H0.out.next hb)
  clear hb H0
  go_wp2
  have KS : Hid (∀ V : World, DcI w V → V.cell? ⟨b, o, none⟩ = some (.int .u8 z0) ∧ V.cell? ⟨b, o + 1, none⟩ = some (.int .u8 z1)) := fun V h => KK.out.cells V h.2
  have HBd : Hid (Below w.heap.size w W.drew) := H1.out.2.drew
  have HBa : Hid (∀ ob : Obj, Below w.heap.size w (W.alloc ob).drew) := fun ob => (bpush H1.out.2 ob).drew
  have PD : Hid (W.drew.cell? ⟨b, o, none⟩ = some (.int .u8 z0) ∧ W.drew.cell? ⟨b, o + 1, none⟩ = some (.int .u8 z1)) := KS.out _ (H1.out.next (Below.refl _ _).drew)
  have PA : Hid (∀ ob : Obj, (W.alloc ob).drew.cell? ⟨b, o, none⟩ = some (.int .u8 z0) ∧ (W.alloc ob).drew.cell? ⟨b, o + 1, none⟩ = some (.int .u8 z1)) := fun ob => KS.out _ (H1.out.next (bpush (Below.refl _ _) _).drew)
  have K4 := hid KK.out.k4
  have KC : Hid (∀ (V : World) (a : Option Addr), (l = 8 ∨ a = some ⟨b, o + 8, none⟩) → Below w.heap.size w V → Calls Try.prog 30 #[.slice a (l - 8) (c - 8)] V fun e w' => ∃ a c', e = .returned (.slice a (l - 8) c') ∧ Hid (Ans V w' D a (l - 8) c')) := KK.out.kc
  have M1 : Hid (∀ w5 (a5 : Option Addr) c5, Hid (Ans W.drew w5 D a5 (l - 8) c5) → DcM w l N4 z0 z1 D (w5.alloc (.cells #[.int .i64 z0, .int .i64 z1, .int .u32 N4, .slice a5 (l - 8) c5] 26)) w5.heap.size a5 c5 ∧ (w5.cell? ⟨b, o, none⟩ = some (.int .u8 z0) ∧ w5.cell? ⟨b, o + 1, none⟩ = some (.int .u8 z1)) ∧ (∀ ob : Obj, (w5.alloc ob).cell? ⟨b, o, none⟩ = some (.int .u8 z0) ∧ (w5.alloc ob).cell? ⟨b, o + 1, none⟩ = some (.int .u8 z1))) := fun w5 a5 c5 h => by
    have h5 := H1.out.next ((Below.refl _ _).drew.trans h.out.2.2)
    exact ⟨DcM.a (W := W.drew) (H1.out.next (Below.refl _ _).drew) h.out.2.2 h.out.1 h.out.2.1, KS.out _ h5, fun ob => KS.out _ (h5.next (bpush (Below.refl _ _) _))⟩
  have M2 : Hid (∀ w5 (a5 : Option Addr) c5, Hid (Ans (W.alloc (.cells #[.int .i64 0, .int .i64 0, .int .u32 0, .slice none 0 0] 26)).drew w5 D a5 (l - 8) c5) → w5.heap[W.heap.size]? = some (.cells #[.int .i64 0, .int .i64 0, .int .u32 0, .slice none 0 0] 26 (0, 0)) ∧ DcM w l N4 z0 z1 D ((((w5.setCell ⟨W.heap.size, 0, none⟩ (.int .i64 z0)).setCell ⟨W.heap.size, 1, none⟩ (.int .i64 z1)).setCell ⟨W.heap.size, 2, none⟩ (.int .u32 N4)).setCell ⟨W.heap.size, 3, none⟩ (.slice a5 (l - 8) c5)) W.heap.size a5 c5 ∧ (w5.cell? ⟨b, o, none⟩ = some (.int .u8 z0) ∧ w5.cell? ⟨b, o + 1, none⟩ = some (.int .u8 z1)) ∧ (((((w5.setCell ⟨W.heap.size, 0, none⟩ (.int .i64 z0)).setCell ⟨W.heap.size, 1, none⟩ (.int .i64 z1)).setCell ⟨W.heap.size, 2, none⟩ (.int .u32 N4)).setCell ⟨W.heap.size, 3, none⟩ (.slice a5 (l - 8) c5)).cell? ⟨b, o, none⟩ = some (.int .u8 z0) ∧ ((((w5.setCell ⟨W.heap.size, 0, none⟩ (.int .i64 z0)).setCell ⟨W.heap.size, 1, none⟩ (.int .i64 z1)).setCell ⟨W.heap.size, 2, none⟩ (.int .u32 N4)).setCell ⟨W.heap.size, 3, none⟩ (.slice a5 (l - 8) c5)).cell? ⟨b, o + 1, none⟩ = some (.int .u8 z1))) := fun w5 a5 c5 h => by
    have h6 := DcM.b (N4 := N4) (z0 := z0) (z1 := z1) H1.out h.out
    exact ⟨h6.2.1, h6.2.2, KS.out _ h6.1, KS.out _ h6.2.2.1⟩
  obtain ⟨g0, g1⟩ := KS.out _ H1.out
  clear KK KS
  by_cases hc8 : c = 8
  case' pos =>
    have hl8 : l = 8 := by omega
    subst hl8
    subst hc8
    simp only [Nat.sub_self] at KC M1 M2
    go_region_held3 (fun w' => w'.cell? ⟨b, o, none⟩ = some (.int .u8 z0) ∧ w'.cell? ⟨b, o + 1, none⟩ = some (.int .u8 z1)) (first | assumption | (with_reducible exact PD.out) | (with_reducible exact PA.out _) | (with_reducible exact P5.out _)) (first
        | (go_at_call 29; (with_reducible refine (K4.out _ HBd.out).mono ?_); rintro e w' ⟨rfl, hw⟩; subst w')
        | (go_at_call 29; (with_reducible refine (K4.out _ (HBa.out _)).mono ?_); rintro e w' ⟨rfl, hw⟩; subst w')
        | (go_at_call 30; (with_reducible refine (KC.out _ _ (Or.inl trivial) HBd.out).mono ?_); rintro e w5 ⟨a5, c5, rfl, HAN⟩; obtain ⟨h6, h7, h8⟩ := M1.out _ _ _ HAN; have H6 := hid h6; have P5 := hid h8; clear HAN h6 h8)
        | (go_at_call 30; (with_reducible refine (KC.out _ _ (Or.inl trivial) (HBa.out _)).mono ?_); rintro e w5 ⟨a5, c5, rfl, HAN⟩; obtain ⟨hg5, h6, h7, h9⟩ := M2.out _ _ _ HAN; have H7 := hid h6; have q0 := cell_of_heap hg5 0; have q1 := cell_of_heap hg5 1; have q2 := cell_of_heap hg5 2; have q3 := cell_of_heap hg5 3; have f0 := frozen_of_heap hg5 0; have f1 := frozen_of_heap hg5 1; have f2 := frozen_of_heap hg5 2; have f3 := frozen_of_heap hg5 3; clear HAN h6 hg5)
        | fail)
    all_goals clear M1 M2 PD PA HBd HBa K4 KC g0 g1 H1
    all_goals first
        | (have HM := H6
           clear H6
           generalize w5.alloc (.cells #[.int .i64 z0, .int .i64 z1, .int .u32 N4, .slice a5 (0) c5] 26) = V at HM ⊢
           generalize w5.heap.size = gp at HM ⊢)
        | (have HM := H7
           clear H7 h7 h9 q0 q1 q2 q3 f0 f1 f2 f3
           generalize (((w5.setCell ⟨W.heap.size, 0, none⟩ (.int .i64 z0)).setCell ⟨W.heap.size, 1, none⟩ (.int .i64 z1)).setCell ⟨W.heap.size, 2, none⟩ (.int .u32 N4)).setCell ⟨W.heap.size, 3, none⟩ (.slice a5 (0) c5) = V at HM ⊢
           generalize W.heap.size = gp at HM ⊢)
  case' neg =>
    go_region_held3 (fun w' => w'.cell? ⟨b, o, none⟩ = some (.int .u8 z0) ∧ w'.cell? ⟨b, o + 1, none⟩ = some (.int .u8 z1)) (first | assumption | (with_reducible exact PD.out) | (with_reducible exact PA.out _) | (with_reducible exact P5.out _)) (first
        | (go_at_call 29; (with_reducible refine (K4.out _ HBd.out).mono ?_); rintro e w' ⟨rfl, hw⟩; subst w')
        | (go_at_call 29; (with_reducible refine (K4.out _ (HBa.out _)).mono ?_); rintro e w' ⟨rfl, hw⟩; subst w')
        | (go_at_call 30; (with_reducible refine (KC.out _ _ (Or.inr rfl) HBd.out).mono ?_); rintro e w5 ⟨a5, c5, rfl, HAN⟩; obtain ⟨h6, h7, h8⟩ := M1.out _ _ _ HAN; have H6 := hid h6; have P5 := hid h8; clear HAN h6 h8)
        | (go_at_call 30; (with_reducible refine (KC.out _ _ (Or.inr rfl) (HBa.out _)).mono ?_); rintro e w5 ⟨a5, c5, rfl, HAN⟩; obtain ⟨hg5, h6, h7, h9⟩ := M2.out _ _ _ HAN; have H7 := hid h6; have q0 := cell_of_heap hg5 0; have q1 := cell_of_heap hg5 1; have q2 := cell_of_heap hg5 2; have q3 := cell_of_heap hg5 3; have f0 := frozen_of_heap hg5 0; have f1 := frozen_of_heap hg5 1; have f2 := frozen_of_heap hg5 2; have f3 := frozen_of_heap hg5 3; clear HAN h6 hg5)
        | fail)
    all_goals clear M1 M2 PD PA HBd HBa K4 KC g0 g1 H1
    all_goals first
        | (have HM := H6
           clear H6
           generalize w5.alloc (.cells #[.int .i64 z0, .int .i64 z1, .int .u32 N4, .slice a5 (l - 8) c5] 26) = V at HM ⊢
           generalize w5.heap.size = gp at HM ⊢)
        | (have HM := H7
           clear H7 h7 h9 q0 q1 q2 q3 f0 f1 f2 f3
           generalize (((w5.setCell ⟨W.heap.size, 0, none⟩ (.int .i64 z0)).setCell ⟨W.heap.size, 1, none⟩ (.int .i64 z1)).setCell ⟨W.heap.size, 2, none⟩ (.int .u32 N4)).setCell ⟨W.heap.size, 3, none⟩ (.slice a5 (l - 8) c5) = V at HM ⊢
           generalize W.heap.size = gp at HM ⊢)
  all_goals
    have cg0 : V.cell? ⟨gp, 0, none⟩ = some (.int .i64 z0) := cell_of_heap HM.out.2.1 0
    go_wp2_with fail
    refine (P1.out _).mono ?_
    rintro e w1 ⟨rfl, hw⟩
    subst w1
    cases KB
    · simp only [if_true] at *
      go_wp2_with (first
        | (refine wpList_store_row rfl 26 _ _ rfl w.heap.size #[.int .i64 0, .int .i64 0, .int .u32 0, .slice none 0 0] rfl rfl 26 _ HM.out.1.1 (by kernel_rfl) rfl (by first | kernel_rfl | simp [Value.oneCell']) ?_) | fail)
      refine bodyPost_ret (v := .tuple #[.agg #[.int .i64 0, .int .i64 0, .int .u32 0, .slice none 0 0], .int .i64 140]) ?_ (by rfl) ⟨rfl, bbut HM.out.1.2 (But.setRow _ _ _) (Nat.le_refl _)⟩
      exact results_row2 Try.results16 _ _ w.heap.size 26 _ (0, 0) _ _ rfl rfl (setRow_heap _ _ _ _ _ _ HM.out.1.1) Try.underlying26 rfl (by kernel_rfl)
    · go_wp2_with (first
        | (refine wpList_load_row rfl 26 _ rfl gp rfl 26 _ (0, 0) _ (by exact HM.out.2.1) Try.underlying26 rfl (by kernel_rfl) ?_)
        | (refine wpList_store_row rfl 26 _ _ rfl w.heap.size _ rfl rfl 26 _ HM.out.1.1 (by kernel_rfl) rfl (by first | kernel_rfl | simp [Value.oneCell']) ?_)
        | fail)
      refine bodyPost_ret (v := .tuple #[.agg #[.int .i64 z0, .int .i64 z1, .int .u32 N4, .slice a5 _ c5], .int .i64 0]) ?_ (by rfl) ⟨a5, c5, rfl, HM.out.2.2.1.but (But.setRow w.heap.size _ _) (fun b hb => by have := HM.out.2.2.2 b hb; omega), fun b hb => by have := HM.out.2.2.2 b hb; omega, bbut HM.out.1.2 (But.setRow _ _ _) (Nat.le_refl _)⟩
      exact results_row2 Try.results16 _ _ w.heap.size 26 _ (0, 0) _ _ rfl rfl (setRow_heap _ _ _ _ _ _ HM.out.1.1) Try.underlying26 rfl (by kernel_rfl)

theorem decode_u (pt : Part) (w : World) (hok : pt.ok w) :
    Calls Try.prog 16 #[pt.val] w fun e w' => ∃ a n c, e = .returned (.tuple #[.agg #[.int .i64 (decK pt.zs), .int .i64 (decC pt.zs), .int .u32 (decR pt.zs), .slice a n c], .int .i64 (decE pt.zs)]) ∧ Ans w w' (decD pt.zs) a n c := by
  unfold decK decC decR decD decE
  by_cases h1 : pt.zs.length < 8
  · simp only [if_pos h1, if_neg (show ¬ (5 : Int) = 0 by decide)]
    exact (decode_short _ _ _ w h1).mono fun e w' h => ⟨_, _, _, h.1, ans_nil h.2⟩
  · simp only [if_neg h1]
    by_cases h2 : 1480 < pt.zs.length
    · simp only [if_pos h2, if_neg (show ¬ (2 : Int) = 0 by decide)]
      exact (decode_long _ _ _ w h2).mono fun e w' h => ⟨_, _, _, h.1, ans_nil h.2⟩
    · simp only [if_neg h2]
      obtain ⟨b, o, ha⟩ : ∃ b o, pt.a = some ⟨b, o, none⟩ := by
        rcases hok.2.2 with he | ⟨b, o, ha, _⟩
        · rw [he] at h1; simp at h1
        · exact ⟨b, o, ha⟩
      have K := dcK pt w hok (by omega) (by omega) b o ha
      have hv : pt.val = .slice (some ⟨b, o, none⟩) pt.zs.length pt.c := by unfold Part.val; rw [ha]
      rw [hv]
      by_cases h3 : numAt pt.zs 2 = isum pt.zs
      · rw [h3] at K
        simp only [h3, not_true_eq_false, if_false]
        have h := decode_end w b o pt.c pt.zs.length _ _ _ _ _ K (by omega) (by omega)
        by_cases h4 : kindB (pt.zs.getD 0 0) = false
        · simp only [if_pos h4, if_neg (show ¬ (140 : Int) = 0 by decide)] at h ⊢
          exact h.mono fun e w' h => ⟨_, _, _, h.1, ans_nil h.2⟩
        · simp only [if_neg h4, if_true] at h ⊢
          exact h.mono fun e w' ⟨a, c', he, h⟩ => ⟨_, _, _, he, h⟩
      · simp only [if_pos h3, if_neg (show ¬ (93 : Int) = 0 by decide)]
        exact (decode_sum w b o pt.c pt.zs.length _ _ _ _ _ _ K (by omega) (by omega) h3).mono fun e w' h => ⟨_, _, _, h.1, ans_nil h.2⟩
end Go.Proofs.Ythmfappindbjnaa
