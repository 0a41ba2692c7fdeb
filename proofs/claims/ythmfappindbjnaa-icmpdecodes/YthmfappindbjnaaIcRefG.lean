/-
  The document's Decode, Answer, Refuse, Same.
-/
import Derived.Test.YthmfappindbjnaaIcRefF
import Derived.Test.YthmfappindbjnaaIcDec
import Derived.Test.YthmfappindbjnaaBRefGet
namespace Go.Proofs.Ythmfappindbjnaa
open Go.RowKit
set_option linter.all false

set_option maxRecDepth 20000 in
set_option maxHeartbeats 1000000 in
theorem refDecode_short (a : Option Addr) (n c : Nat) (w : World) (h : n < 8) :
    Calls Try.prog 17 #[.slice a n c] w fun e w' => e = .returned (.tuple #[.agg #[.int .i64 0, .int .i64 0, .int .u32 0, .slice none 0 0], .int .i64 5]) ∧ Below w.heap.size w w' := by
  have h1 : (n : Int) < 8 := by omega
  have H0 := hid (DcI.first w)
  go_enter Try.func17, Try.ntmps17
  go_wp2_with (first
    | (refine wpList_store_row rfl 26 _ _ rfl w.heap.size #[.int .i64 0, .int .i64 0, .int .u32 0, .slice none 0 0] rfl rfl 26 _ H0.out.1 (by kernel_rfl) rfl (by first | kernel_rfl | simp [Value.oneCell']) ?_) | fail)
  refine bodyPost_ret (v := .tuple #[.agg #[.int .i64 0, .int .i64 0, .int .u32 0, .slice none 0 0], .int .i64 5]) ?_ (by rfl) ⟨rfl, bbut H0.out.2 (But.setRow _ _ _) (Nat.le_refl _)⟩
  exact results_row2 Try.results17 _ _ w.heap.size 26 _ (0, 0) _ _ rfl rfl (setRow_heap _ _ _ _ _ _ H0.out.1) Try.underlying26 rfl (by kernel_rfl)
set_option maxRecDepth 20000 in
set_option maxHeartbeats 1000000 in
theorem refDecode_long (a : Option Addr) (n c : Nat) (w : World) (h : 1480 < n) :
    Calls Try.prog 17 #[.slice a n c] w fun e w' => e = .returned (.tuple #[.agg #[.int .i64 0, .int .i64 0, .int .u32 0, .slice none 0 0], .int .i64 2]) ∧ Below w.heap.size w w' := by
  have h1 : ¬ (n : Int) < 8 := by omega
  have h2 : (1480 : Int) < (n : Int) := by omega
  have H0 := hid (DcI.first w)
  go_enter Try.func17, Try.ntmps17
  go_wp2_with (first
    | (refine wpList_store_row rfl 26 _ _ rfl w.heap.size #[.int .i64 0, .int .i64 0, .int .u32 0, .slice none 0 0] rfl rfl 26 _ H0.out.1 (by kernel_rfl) rfl (by first | kernel_rfl | simp [Value.oneCell']) ?_) | fail)
  refine bodyPost_ret (v := .tuple #[.agg #[.int .i64 0, .int .i64 0, .int .u32 0, .slice none 0 0], .int .i64 2]) ?_ (by rfl) ⟨rfl, bbut H0.out.2 (But.setRow _ _ _) (Nat.le_refl _)⟩
  exact results_row2 Try.results17 _ _ w.heap.size 26 _ (0, 0) _ _ rfl rfl (setRow_heap _ _ _ _ _ _ H0.out.1) Try.underlying26 rfl (by kernel_rfl)

theorem msg_back (zs : List Int) (h : ∀ z, z ∈ zs → 0 ≤ z ∧ z ≤ 255) (h8 : 8 ≤ zs.length) : zs = msgL (zs.getD 0 0) (zs.getD 1 0) (numAt zs 2) (num4 zs 4) (zs.drop 8) := by
  have hb := getD_mem_bd h
  obtain ⟨a, l, rfl⟩ : ∃ a l, zs = a :: l := by cases zs with | nil => simp at h8 | cons a l => exact ⟨a, l, rfl⟩
  obtain ⟨b, l, rfl⟩ : ∃ a l', l = a :: l' := by cases l with | nil => simp at h8 | cons a l => exact ⟨a, l, rfl⟩
  obtain ⟨c, l, rfl⟩ : ∃ a l', l = a :: l' := by cases l with | nil => simp at h8 | cons a l => exact ⟨a, l, rfl⟩
  obtain ⟨d, l, rfl⟩ : ∃ a l', l = a :: l' := by cases l with | nil => simp at h8 | cons a l => exact ⟨a, l, rfl⟩
  obtain ⟨e, l, rfl⟩ : ∃ a l', l = a :: l' := by cases l with | nil => simp at h8 | cons a l => exact ⟨a, l, rfl⟩
  obtain ⟨f, l, rfl⟩ : ∃ a l', l = a :: l' := by cases l with | nil => simp at h8 | cons a l => exact ⟨a, l, rfl⟩
  obtain ⟨g, l, rfl⟩ : ∃ a l', l = a :: l' := by cases l with | nil => simp at h8 | cons a l => exact ⟨a, l, rfl⟩
  obtain ⟨i, l, rfl⟩ : ∃ a l', l = a :: l' := by cases l with | nil => simp at h8 | cons a l => exact ⟨a, l, rfl⟩
  have b2 := hb 2
  have b3 := hb 3
  have b4 := hb 4
  have b5 := hb 5
  have b6 := hb 6
  have b7 := hb 7
  simp at b2 b3 b4 b5 b6 b7
  simp [msgL, op2, ip4, numAt, num4]
  omega
theorem encS_back (zs : List Int) (h : ∀ z, z ∈ zs → 0 ≤ z ∧ z ≤ 255) (h8 : 8 ≤ zs.length) : encS (zs.getD 0 0) (zs.getD 1 0) (num4 zs 4) (zs.drop 8) = isum zs := by
  have := msg_back zs h h8
  conv => rhs; rw [this]
  rfl
/-- the form's bytes, read back. -/
def frmL (zs : List Int) : List Int := msgL (zs.getD 0 0) (zs.getD 1 0) (isum zs) (num4 zs 4) (zs.drop 8)
theorem frm_iff (zs : List Int) (h : ∀ z, z ∈ zs → 0 ≤ z ∧ z ≤ 255) (h8 : 8 ≤ zs.length) : frmL zs = zs ↔ numAt zs 2 = isum zs := by
  have hb := msg_back zs h h8
  have i := isum_bd h
  have n := numAt_bd h 2
  constructor
  · intro e
    rw [hb] at e
    have e2 : op2 (isum zs) = op2 (numAt zs 2) := by
      have h1 := congrArg (fun l => (l.drop 2).take 2) e
      rw [← hb] at h1
      unfold frmL at h1
      conv at h1 => rhs; rw [hb]
      simpa [msgL, op2] using h1
    simp [op2] at e2
    omega
  · intro e
    unfold frmL
    rw [← e]
    exact hb.symm
theorem frm_bd (zs : List Int) (h : ∀ z, z ∈ zs → 0 ≤ z ∧ z ≤ 255) : ∀ z, z ∈ frmL zs → 0 ≤ z ∧ z ≤ 255 := msgL_bd _ _ (getD_mem_bd h 0) (getD_mem_bd h 1) (fun z hz => h z (List.mem_of_mem_drop hz))

/-- what the document's Decode reads and calls, once the length is known. -/
structure RdK (w : World) (b o c l : Nat) (N4 z0 z1 : Int) (D FL ZL : List Int) : Prop where
  bd : (0 ≤ z0 ∧ z0 ≤ 255) ∧ (0 ≤ z1 ∧ z1 ≤ 255) ∧ (0 ≤ N4 ∧ N4 ≤ 4294967295)
  cap : l ≤ c
  len : D.length = l - 8
  cells : ∀ W, Below w.heap.size w W → W.cell? ⟨b, o, none⟩ = some (.int .u8 z0) ∧ W.cell? ⟨b, o + 1, none⟩ = some (.int .u8 z1)
  k4 : ∀ W, Below w.heap.size w W → Calls Try.prog 31 #[.slice (some ⟨b, o, none⟩) l c, .int .i64 4, .int .i64 4] W fun e w' => e = .returned (.tuple #[.int .u64 N4, .int .i64 0]) ∧ w' = W
  kc : ∀ (W : World) (a : Option Addr), (l = 8 ∨ a = some ⟨b, o + 8, none⟩) → Below w.heap.size w W → Calls Try.prog 32 #[.slice none 0 0, .slice a (l - 8) (c - 8)] W fun e w' => ∃ a c', e = .returned (.slice a (l - 8) c') ∧ Hid (Ans W w' D a (l - 8) c')
  kv : ∀ W, Below w.heap.size w W → (convert 24 9 (.slice (some ⟨b, o, none⟩) l c)).run Try.prog W = .ok (.string (strOfNums ZL)) W
  kf : ∀ (W : World) (a : Option Addr) (c' : Nat), Row W 5 (.slice a (l - 8) c') (u8s D) → Calls Try.prog 27 #[.agg #[.int .i64 z0, .int .i64 z1, .int .u32 N4, .slice a (l - 8) c']] W fun e w' => ∃ a n c, e = .returned (.slice a n c) ∧ Below W.heap.size W w' ∧ (convert 24 9 (.slice a n c)).run Try.prog w' = .ok (.string (strOfNums FL)) w'
theorem rdK (pt : Part) (w : World) (hok : pt.ok w) (h8 : 8 ≤ pt.zs.length) (hl : pt.zs.length ≤ 1480) (b o : Nat) (ha : pt.a = some ⟨b, o, none⟩) :
    RdK w b o pt.c pt.zs.length (num4 pt.zs 4) (pt.zs.getD 0 0) (pt.zs.getD 1 0) (pt.zs.drop 8) (frmL pt.zs) pt.zs := by
  obtain ⟨pa, c, zs⟩ := pt
  simp only at *
  subst ha
  have hcap := hok.2.1
  simp only at hcap
  have hbd := getD_mem_bd hok.1
  have hc : ∀ j, j < zs.length → w.cell? ⟨b, o + j, none⟩ = some (.int .u8 (zs.getD j 0)) := by
    rcases hok.2.2 with he | ⟨b', o', ha', hc⟩
    · simp only at he; rw [he] at h8; simp at h8
    · simp only [Option.some.injEq, Addr.mk.injEq, and_true] at ha'
      obtain ⟨rfl, rfl⟩ := ha'
      exact hc
  have hcW : ∀ W, Below w.heap.size w W → ∀ j, j < 8 → W.cell? ⟨b, o + j, none⟩ = some (.int .u8 (zs.getD j 0)) := fun W hb j hj =>
    (hb.cell (p := ⟨b, o + j, none⟩) (World.block_lt_of_cell? w _ (hc j (by omega)))).trans (hc j (by omega))
  have hdl : (zs.drop 8).length = zs.length - 8 := by simp
  have hdz : ∀ z, z ∈ zs.drop 8 → 0 ≤ z ∧ z ≤ 255 := fun z hz => hok.1 z (List.mem_of_mem_drop hz)
  refine ⟨⟨hbd 0, hbd 1, num4_bd hok.1 4⟩, hcap, hdl, fun W hb => ⟨hcW W hb 0 (by omega), hcW W hb 1 (by omega)⟩, fun W hb => ?_, fun W a hca hb => ?_, fun W hb => ?_, fun W a c' hr => ?_⟩
  · have h := refGet_part ⟨some ⟨b, o, none⟩, c, zs⟩ 4 4 W (Part.ok_below hok hb) (by simp only; omega) (by omega)
    have e : getAns zs 4 4 = (num4 zs 4, 0) := by
      unfold getAns
      rw [if_neg (by omega), if_neg (by omega)]
      simp [num4, getTo, show (4 : Int).toNat = 4 from rfl]
    simp only [e] at h
    exact h
  · have hq : Part.ok W ⟨a, c - 8, zs.drop 8⟩ := by
      rcases hca with e | e2
      · have : zs.drop 8 = [] := List.eq_nil_of_length_eq_zero (by rw [hdl]; omega)
        rw [this]
        exact ⟨by simp, by simp, Or.inl rfl⟩
      · have := Part.sub_ok (Part.ok_below hok hb) 8 (zs.length - 8) (c - 8) (by omega) (by omega)
        rw [List.take_of_length_le (by rw [hdl]; omega)] at this
        rw [e2]
        exact this
    have h := refAdd_nil _ W hq (by simp only [hdl]; omega)
    simp only [Part.val, hdl] at h
    refine h.mono ?_
    rintro e w' ⟨a', n', c', rfl, an⟩
    obtain ⟨a'', c'', e, _⟩ := an.out.1.form
    simp only [Value.slice.injEq, u8s_len, hdl] at e
    obtain ⟨rfl, rfl, rfl⟩ := e
    exact ⟨_, _, rfl, an⟩
  · exact conv_part ⟨some ⟨b, o, none⟩, c, zs⟩ W (Part.ok_below hok hb)
  · obtain ⟨q, e1, e2, ok⟩ := hr.part hdz
    rw [e1]
    have h := refForm_any (zs.getD 0 0) (zs.getD 1 0) (num4 zs 4) q W (hbd 0) (hbd 1) (num4_bd hok.1 4) ok (by rw [e2, hdl]; omega)
    rw [e2, encS_back zs hok.1 h8] at h
    refine h.mono ?_
    rintro e w' ⟨a, n, c, rfl, an⟩
    exact ⟨a, n, c, rfl, an.2.2, an.1.conv0 (frm_bd zs hok.1)⟩

set_option maxRecDepth 20000 in
set_option maxHeartbeats 4000000 in
theorem refDecode_end (w : World) (b o c l : Nat) (N4 z0 z1 : Int) (D FL ZL : List Int) (K : RdK w b o c l N4 z0 z1 D FL ZL) (h8 : 8 ≤ l) (hl : l ≤ 1480) (EB : Bool) (hEB : (EB = true → strOfNums FL = strOfNums ZL) ∧ (EB = false → ¬ (strOfNums FL).toList = (strOfNums ZL).toList)) :
    Calls Try.prog 17 #[.slice (some ⟨b, o, none⟩) l c] w fun e w' => if EB = false then e = .returned (.tuple #[.agg #[.int .i64 0, .int .i64 0, .int .u32 0, .slice none 0 0], .int .i64 93]) ∧ Below w.heap.size w w' else if kindB z0 = false then e = .returned (.tuple #[.agg #[.int .i64 0, .int .i64 0, .int .u32 0, .slice none 0 0], .int .i64 140]) ∧ Below w.heap.size w w' else ∃ a c', e = .returned (.tuple #[.agg #[.int .i64 z0, .int .i64 z1, .int .u32 N4, .slice a (l - 8) c'], .int .i64 0]) ∧ Ans w w' D a (l - 8) c' := by
  have KK := hid K
  have hcap := K.cap
  obtain ⟨⟨b00, b01⟩, ⟨b10, b11⟩, ⟨b40, b41⟩⟩ := K.bd
  clear K
  have P1 : Hid (∀ w, _) := fun w => refKind_any z0 w
  generalize kindB z0 = KB at *
  have H0 := hid (DcI.first w)
  have h1 : ¬ (l : Int) < 8 := by omega
  have h2 : ¬ (1480 : Int) < (l : Int) := by omega
  have i0 : (0 : Int) < (l : Int) := by omega
  have i1 : (1 : Int) < (l : Int) := by omega
  have i0n : 0 < l := by omega
  have i1n : 1 < l := by omega
  have i8 : (8 : Int) ≤ (l : Int) := by omega
  have i9 : (l : Int) ≤ (c : Int) := by omega
  have kz0 : IntKind.i64.wrap z0 = z0 := by simp only [IntKind.wrap_i64]; omega
  have kz1 : IntKind.i64.wrap z1 = z1 := by simp only [IntKind.wrap_i64]; omega
  have k4 : IntKind.u32.wrap N4 = N4 := by simp only [IntKind.wrap_u32]; omega
  go_enter Try.func17, Try.ntmps17
  go_wp2_with fail
  refine (KK.out.k4 _ H0.out.2).mono ?_
  rintro e w1 ⟨rfl, hw⟩
  subst w1
  have H1 := H0
  clear H0
  go_wp2
  generalize w.alloc (.cells #[.int .i64 0, .int .i64 0, .int .u32 0, .slice none 0 0] 26) = W at *
  have KS : Hid (∀ V : World, DcI w V → V.cell? ⟨b, o, none⟩ = some (.int .u8 z0) ∧ V.cell? ⟨b, o + 1, none⟩ = some (.int .u8 z1)) := fun V h => KK.out.cells V h.2
  have HBd : Hid (Below w.heap.size w W.drew) := H1.out.2.drew
  have HBa : Hid (∀ ob : Obj, Below w.heap.size w (W.alloc ob).drew) := fun ob => (bpush H1.out.2 ob).drew
  have PD : Hid (W.drew.cell? ⟨b, o, none⟩ = some (.int .u8 z0) ∧ W.drew.cell? ⟨b, o + 1, none⟩ = some (.int .u8 z1)) := KS.out _ (H1.out.next (Below.refl _ _).drew)
  have PA : Hid (∀ ob : Obj, (W.alloc ob).drew.cell? ⟨b, o, none⟩ = some (.int .u8 z0) ∧ (W.alloc ob).drew.cell? ⟨b, o + 1, none⟩ = some (.int .u8 z1)) := fun ob => KS.out _ (H1.out.next (bpush (Below.refl _ _) _).drew)
  have KV := hid KK.out.kv
  have KF := hid KK.out.kf
  have KC : Hid (∀ (V : World) (a : Option Addr), (l = 8 ∨ a = some ⟨b, o + 8, none⟩) → Below w.heap.size w V → Calls Try.prog 32 #[.slice none 0 0, .slice a (l - 8) (c - 8)] V fun e w' => ∃ a c', e = .returned (.slice a (l - 8) c') ∧ Hid (Ans V w' D a (l - 8) c')) := KK.out.kc
  have M1 : Hid (∀ w5 (a5 : Option Addr) c5, Hid (Ans W.drew w5 D a5 (l - 8) c5) → DcM w l N4 z0 z1 D (w5.alloc (.cells #[.int .i64 z0, .int .i64 z1, .int .u32 N4, .slice a5 (l - 8) c5] 26)) w5.heap.size a5 c5 ∧ (w5.cell? ⟨b, o, none⟩ = some (.int .u8 z0) ∧ w5.cell? ⟨b, o + 1, none⟩ = some (.int .u8 z1)) ∧ (∀ ob : Obj, (w5.alloc ob).cell? ⟨b, o, none⟩ = some (.int .u8 z0) ∧ (w5.alloc ob).cell? ⟨b, o + 1, none⟩ = some (.int .u8 z1))) := fun w5 a5 c5 h => by
    have h5 := H1.out.next ((Below.refl _ _).drew.trans h.out.2.2)
    exact ⟨DcM.a (W := W.drew) (H1.out.next (Below.refl _ _).drew) h.out.2.2 h.out.1 h.out.2.1, KS.out _ h5, fun ob => KS.out _ (h5.next (bpush (Below.refl _ _) _))⟩
  have M2 : Hid (∀ w5 (a5 : Option Addr) c5, Hid (Ans (W.alloc (.cells #[.int .i64 0, .int .i64 0, .int .u32 0, .slice none 0 0] 26)).drew w5 D a5 (l - 8) c5) → w5.heap[W.heap.size]? = some (.cells #[.int .i64 0, .int .i64 0, .int .u32 0, .slice none 0 0] 26 (0, 0)) ∧ DcM w l N4 z0 z1 D ((((w5.setCell ⟨W.heap.size, 0, none⟩ (.int .i64 z0)).setCell ⟨W.heap.size, 1, none⟩ (.int .i64 z1)).setCell ⟨W.heap.size, 2, none⟩ (.int .u32 N4)).setCell ⟨W.heap.size, 3, none⟩ (.slice a5 (l - 8) c5)) W.heap.size a5 c5 ∧ (w5.cell? ⟨b, o, none⟩ = some (.int .u8 z0) ∧ w5.cell? ⟨b, o + 1, none⟩ = some (.int .u8 z1)) ∧ (((((w5.setCell ⟨W.heap.size, 0, none⟩ (.int .i64 z0)).setCell ⟨W.heap.size, 1, none⟩ (.int .i64 z1)).setCell ⟨W.heap.size, 2, none⟩ (.int .u32 N4)).setCell ⟨W.heap.size, 3, none⟩ (.slice a5 (l - 8) c5)).cell? ⟨b, o, none⟩ = some (.int .u8 z0) ∧ ((((w5.setCell ⟨W.heap.size, 0, none⟩ (.int .i64 z0)).setCell ⟨W.heap.size, 1, none⟩ (.int .i64 z1)).setCell ⟨W.heap.size, 2, none⟩ (.int .u32 N4)).setCell ⟨W.heap.size, 3, none⟩ (.slice a5 (l - 8) c5)).cell? ⟨b, o + 1, none⟩ = some (.int .u8 z1))) := fun w5 a5 c5 h => by
    have h6 := DcM.b (N4 := N4) (z0 := z0) (z1 := z1) H1.out h.out
    exact ⟨h6.2.1, h6.2.2, KS.out _ h6.1, KS.out _ h6.2.2.1⟩
  obtain ⟨g0, g1⟩ := KS.out _ H1.out
  clear KK KS
  by_cases hc8 : c = 8
  case' pos =>
    have hl8 : l = 8 := by omega
    subst hl8
    subst hc8
    simp only [Nat.sub_self] at KC M1 M2
    apply cut4 (H := fun V gp a cp => Hid (DcM w 8 N4 z0 z1 D V gp a cp))
    · intro hcut
      go_region_held3 (fun w' => w'.cell? ⟨b, o, none⟩ = some (.int .u8 z0) ∧ w'.cell? ⟨b, o + 1, none⟩ = some (.int .u8 z1)) (first | assumption | (with_reducible exact PD.out) | (with_reducible exact PA.out _) | (with_reducible exact P5.out _)) (first
        | (go_at_call 32; (with_reducible refine (KC.out _ _ (Or.inl trivial) HBd.out).mono ?_); rintro e w5 ⟨a5, c5, rfl, HAN⟩; obtain ⟨h6, h7, h8⟩ := M1.out _ _ _ HAN; have H6 := hid h6; have P5 := hid h8; clear HAN h6 h8)
        | (go_at_call 32; (with_reducible refine (KC.out _ _ (Or.inl trivial) (HBa.out _)).mono ?_); rintro e w5 ⟨a5, c5, rfl, HAN⟩; obtain ⟨hg5, h6, h7, h9⟩ := M2.out _ _ _ HAN; have H7 := hid h6; have q0 := cell_of_heap hg5 0; have q1 := cell_of_heap hg5 1; have q2 := cell_of_heap hg5 2; have q3 := cell_of_heap hg5 3; have f0 := frozen_of_heap hg5 0; have f1 := frozen_of_heap hg5 1; have f2 := frozen_of_heap hg5 2; have f3 := frozen_of_heap hg5 3; clear HAN h6 hg5)
        | fail)
      all_goals first
          | (have HM := H6
             clear H6
             generalize w5.alloc (.cells #[.int .i64 z0, .int .i64 z1, .int .u32 N4, .slice a5 (0) c5] 26) = V at HM ⊢
             generalize w5.heap.size = gp at HM ⊢
             exact hcut V gp a5 c5 HM)
          | (have HM := H7
             clear H7 h7 h9 q0 q1 q2 q3 f0 f1 f2 f3
             generalize (((w5.setCell ⟨W.heap.size, 0, none⟩ (.int .i64 z0)).setCell ⟨W.heap.size, 1, none⟩ (.int .i64 z1)).setCell ⟨W.heap.size, 2, none⟩ (.int .u32 N4)).setCell ⟨W.heap.size, 3, none⟩ (.slice a5 (0) c5) = V at HM ⊢
             generalize W.heap.size = gp at HM ⊢
             exact hcut V gp a5 c5 HM)
    intro V gp a5 c5 HM
    clear M1 M2 PD PA HBd HBa KC g0 g1 H1
  case' neg =>
    apply cut4 (H := fun V gp a cp => Hid (DcM w l N4 z0 z1 D V gp a cp))
    · intro hcut
      go_region_held3 (fun w' => w'.cell? ⟨b, o, none⟩ = some (.int .u8 z0) ∧ w'.cell? ⟨b, o + 1, none⟩ = some (.int .u8 z1)) (first | assumption | (with_reducible exact PD.out) | (with_reducible exact PA.out _) | (with_reducible exact P5.out _)) (first
        | (go_at_call 32; (with_reducible refine (KC.out _ _ (Or.inr rfl) HBd.out).mono ?_); rintro e w5 ⟨a5, c5, rfl, HAN⟩; obtain ⟨h6, h7, h8⟩ := M1.out _ _ _ HAN; have H6 := hid h6; have P5 := hid h8; clear HAN h6 h8)
        | (go_at_call 32; (with_reducible refine (KC.out _ _ (Or.inr rfl) (HBa.out _)).mono ?_); rintro e w5 ⟨a5, c5, rfl, HAN⟩; obtain ⟨hg5, h6, h7, h9⟩ := M2.out _ _ _ HAN; have H7 := hid h6; have q0 := cell_of_heap hg5 0; have q1 := cell_of_heap hg5 1; have q2 := cell_of_heap hg5 2; have q3 := cell_of_heap hg5 3; have f0 := frozen_of_heap hg5 0; have f1 := frozen_of_heap hg5 1; have f2 := frozen_of_heap hg5 2; have f3 := frozen_of_heap hg5 3; clear HAN h6 hg5)
        | fail)
      all_goals first
          | (have HM := H6
             clear H6
             generalize w5.alloc (.cells #[.int .i64 z0, .int .i64 z1, .int .u32 N4, .slice a5 (l - 8) c5] 26) = V at HM ⊢
             generalize w5.heap.size = gp at HM ⊢
             exact hcut V gp a5 c5 HM)
          | (have HM := H7
             clear H7 h7 h9 q0 q1 q2 q3 f0 f1 f2 f3
             generalize (((w5.setCell ⟨W.heap.size, 0, none⟩ (.int .i64 z0)).setCell ⟨W.heap.size, 1, none⟩ (.int .i64 z1)).setCell ⟨W.heap.size, 2, none⟩ (.int .u32 N4)).setCell ⟨W.heap.size, 3, none⟩ (.slice a5 (l - 8) c5) = V at HM ⊢
             generalize W.heap.size = gp at HM ⊢
             exact hcut V gp a5 c5 HM)
    intro V gp a5 c5 HM
    clear M1 M2 PD PA HBd HBa KC g0 g1 H1
  all_goals
    have cg0 : V.cell? ⟨gp, 0, none⟩ = some (.int .i64 z0) := cell_of_heap HM.out.2.1 0
    have cg1 : V.cell? ⟨gp, 1, none⟩ = some (.int .i64 z1) := cell_of_heap HM.out.2.1 1
    have cg2 : V.cell? ⟨gp, 2, none⟩ = some (.int .u32 N4) := cell_of_heap HM.out.2.1 2
    have cg3 := cell_of_heap HM.out.2.1 3
    try simp only [Nat.sub_self] at cg3
    have hvb := KV.out V.drew HM.out.1.2.drew
    have HF := hid (KF.out V.drew _ _ HM.out.2.2.1)
    have KV6 : Hid (∀ w6, Below V.drew.heap.size V.drew w6 → _) := fun w6 hb => KV.out w6 (bstep HM.out.1.2.drew hb)
    have HV6 : Hid (∀ w6, Below V.drew.heap.size V.drew w6 → DcM w _ N4 z0 z1 D w6 gp a5 c5) := fun w6 hb => ⟨(HM.out.1.next (Below.refl _ _).drew).next hb, kept (w := V.drew) HM.out.2.1 hb, Row.below (w := V.drew) HM.out.2.2.1 hb, HM.out.2.2.2⟩
    have HFL := hid hEB
    clear hEB
    generalize strOfNums FL = XF at *
    generalize strOfNums ZL = XZ at *
    try simp only [Nat.sub_self] at HF
    clear KV KF
    go_wp2
    apply cut4 (H := fun w6 (_ : Option Addr) (_ _ : Nat) => Hid (DcM w _ N4 z0 z1 D w6 gp a5 c5))
    · intro hcut
      first | go_region_with (first
        | (go_at_call 27; refine HF.out.mono ?_; rintro e w6 ⟨a6, n6, c6, rfl, hb6, hv6⟩; have hvb6 := KV6.out w6 hb6; have H6 := hid (HV6.out w6 hb6); clear hb6)
        | fail) | fail
      all_goals exact hcut w6 a6 n6 c6 H6
    intro w6 a6 n6 c6 H6
    clear HF HV6 KV6 hvb HM cg0 cg1 cg2 cg3
    have cg0 : w6.cell? ⟨gp, 0, none⟩ = some (.int .i64 z0) := cell_of_heap H6.out.2.1 0
    obtain rfl | rfl : EB = false ∨ EB = true := by cases EB <;> simp
    · have hne2 : ¬ XF.toList = XZ.toList := HFL.out.2 rfl
      clear HFL
      go_wp2_with (first
        | (refine wpList_store_row rfl 26 _ _ rfl w.heap.size #[.int .i64 0, .int .i64 0, .int .u32 0, .slice none 0 0] rfl rfl 26 _ H6.out.1.1 (by kernel_rfl) rfl (by first | kernel_rfl | simp [Value.oneCell']) ?_) | fail)
      all_goals first | (exfalso; rename (Bool.not _ = false) => h; simp at h; exact hne2 h) | (exfalso; rename (_ = false) => h; simp at h; exact hne2 h) | skip
      refine bodyPost_ret (v := .tuple #[.agg #[.int .i64 0, .int .i64 0, .int .u32 0, .slice none 0 0], .int .i64 93]) ?_ (by rfl) ⟨rfl, bbut H6.out.1.2 (But.setRow _ _ _) (Nat.le_refl _)⟩
      exact results_row2 Try.results17 _ _ w.heap.size 26 _ (0, 0) _ _ rfl rfl (setRow_heap _ _ _ _ _ _ H6.out.1.1) Try.underlying26 rfl (by kernel_rfl)
    · have hEq : XF = XZ := HFL.out.1 rfl
      clear HFL
      subst hEq
      have e3 : (XF.toList == XF.toList) = true := by simp
      go_wp2_with (first
        | (refine wpList_store_row rfl 26 _ _ rfl w.heap.size #[.int .i64 0, .int .i64 0, .int .u32 0, .slice none 0 0] rfl rfl 26 _ H6.out.1.1 (by kernel_rfl) rfl (by first | kernel_rfl | simp [Value.oneCell']) ?_) | fail)
      all_goals first | (exfalso; exact absurd ‹(!XF.toList == XF.toList) = true› (by simp)) | skip
      refine (P1.out _).mono ?_
      rintro e w1 ⟨rfl, hw⟩
      subst w1
      obtain rfl | rfl : KB = false ∨ KB = true := by cases KB <;> simp
      · go_wp2_with (first
          | (refine wpList_store_row rfl 26 _ _ rfl w.heap.size #[.int .i64 0, .int .i64 0, .int .u32 0, .slice none 0 0] rfl rfl 26 _ H6.out.1.1 (by kernel_rfl) rfl (by first | kernel_rfl | simp [Value.oneCell']) ?_) | fail)
        refine bodyPost_ret (v := .tuple #[.agg #[.int .i64 0, .int .i64 0, .int .u32 0, .slice none 0 0], .int .i64 140]) ?_ (by rfl) ⟨rfl, bbut H6.out.1.2 (But.setRow _ _ _) (Nat.le_refl _)⟩
        exact results_row2 Try.results17 _ _ w.heap.size 26 _ (0, 0) _ _ rfl rfl (setRow_heap _ _ _ _ _ _ H6.out.1.1) Try.underlying26 rfl (by kernel_rfl)
      · go_wp2_with (first
          | (refine wpList_load_row rfl 26 _ rfl gp rfl 26 _ (0, 0) _ (by exact H6.out.2.1) Try.underlying26 rfl (by kernel_rfl) ?_)
          | (refine wpList_store_row rfl 26 _ _ rfl w.heap.size _ rfl rfl 26 _ H6.out.1.1 (by kernel_rfl) rfl (by first | kernel_rfl | simp [Value.oneCell']) ?_)
          | fail)
        refine bodyPost_ret (v := .tuple #[.agg #[.int .i64 z0, .int .i64 z1, .int .u32 N4, .slice a5 _ c5], .int .i64 0]) ?_ (by rfl) ⟨a5, c5, rfl, H6.out.2.2.1.but (But.setRow w.heap.size _ _) (fun b hb => by have := H6.out.2.2.2 b hb; omega), fun b hb => by have := H6.out.2.2.2 b hb; omega, bbut H6.out.1.2 (But.setRow _ _ _) (Nat.le_refl _)⟩
        exact results_row2 Try.results17 _ _ w.heap.size 26 _ (0, 0) _ _ rfl rfl (setRow_heap _ _ _ _ _ _ H6.out.1.1) Try.underlying26 rfl (by kernel_rfl)

theorem str_ne {a b : List Int} (ha : ∀ z, z ∈ a → 0 ≤ z ∧ z ≤ 255) (hb : ∀ z, z ∈ b → 0 ≤ z ∧ z ≤ 255) (h : a ≠ b) : ¬ (strOfNums a).toList = (strOfNums b).toList := fun e => h (str_inj ha hb (by
  rw [ByteArray.toList_eq, ByteArray.toList_eq] at e
  generalize strOfNums a = x at *
  generalize strOfNums b = y at *
  cases x with | mk d => cases y with | mk d' =>
    simp only at e
    rw [Array.ext' e]))
theorem refDecode_u (pt : Part) (w : World) (hok : pt.ok w) :
    Calls Try.prog 17 #[pt.val] w fun e w' => ∃ a n c, e = .returned (.tuple #[.agg #[.int .i64 (decK pt.zs), .int .i64 (decC pt.zs), .int .u32 (decR pt.zs), .slice a n c], .int .i64 (decE pt.zs)]) ∧ Ans w w' (decD pt.zs) a n c := by
  unfold decK decC decR decD decE
  by_cases h1 : pt.zs.length < 8
  · simp only [if_pos h1, if_neg (show ¬ (5 : Int) = 0 by decide)]
    exact (refDecode_short _ _ _ w h1).mono fun e w' h => ⟨_, _, _, h.1, ans_nil h.2⟩
  · simp only [if_neg h1]
    by_cases h2 : 1480 < pt.zs.length
    · simp only [if_pos h2, if_neg (show ¬ (2 : Int) = 0 by decide)]
      exact (refDecode_long _ _ _ w h2).mono fun e w' h => ⟨_, _, _, h.1, ans_nil h.2⟩
    · simp only [if_neg h2]
      obtain ⟨b, o, ha⟩ : ∃ b o, pt.a = some ⟨b, o, none⟩ := by
        rcases hok.2.2 with he | ⟨b, o, ha, _⟩
        · rw [he] at h1; simp at h1
        · exact ⟨b, o, ha⟩
      have K := rdK pt w hok (by omega) (by omega) b o ha
      have hv : pt.val = .slice (some ⟨b, o, none⟩) pt.zs.length pt.c := by unfold Part.val; rw [ha]
      rw [hv]
      have hf := frm_iff pt.zs hok.1 (by omega)
      by_cases h3 : numAt pt.zs 2 = isum pt.zs
      · simp only [h3, not_true_eq_false, if_false]
        have h := refDecode_end w b o pt.c pt.zs.length _ _ _ _ _ _ K (by omega) (by omega) true ⟨fun _ => by rw [hf.2 h3], by simp⟩
        by_cases h4 : kindB (pt.zs.getD 0 0) = false
        · simp only [if_pos h4, if_neg (show ¬ (140 : Int) = 0 by decide), reduceCtorEq, if_false] at h ⊢
          exact h.mono fun e w' h => ⟨_, _, _, h.1, ans_nil h.2⟩
        · simp only [if_neg h4, if_true, reduceCtorEq, if_false] at h ⊢
          exact h.mono fun e w' ⟨a, c', he, h⟩ => ⟨_, _, _, he, h⟩
      · simp only [if_pos h3, if_neg (show ¬ (93 : Int) = 0 by decide)]
        have h := refDecode_end w b o pt.c pt.zs.length _ _ _ _ _ _ K (by omega) (by omega) false ⟨by simp, fun _ => str_ne (frm_bd _ hok.1) hok.1 (fun e => h3 (hf.1 e))⟩
        simp only [if_true] at h
        exact h.mono fun e w' h => ⟨_, _, _, h.1, ans_nil h.2⟩
end Go.Proofs.Ythmfappindbjnaa
