/-
  The document's Encode.
-/
import Derived.Test.YtccmkljbedddiaaILive
import Derived.Test.YtccmkljbedddiaaBRefPut
namespace Go.Proofs.Ytccmkljbedddiaa
open Go.RowKit
set_option linter.all false

theorem refPutM_any (n : Int) (m : Nat) (hm : m = 1 ∨ m = 2 ∨ m = 4) (w : World) (h3 : 0 ≤ n) (h4 : n ≤ 18446744073709551615) :
    Calls Try.prog 38 #[.int .u64 n, .int .i64 m] w fun e w' => e = .returned (.slice (some ⟨w.heap.size, 0, none⟩) m m) ∧ w' = w.alloc (.cells (u8s (bytesOf n m)).toArray 5) := by
  have h := refPut_yes n m w (by omega) (by omega) h3 (by omega)
  have e : putTo n m m = (u8s (bytesOf n m)).toArray := by
    rcases hm with rfl | rfl | rfl
    · exact putTo1 n
    · exact putTo2 n
    · exact putTo4 n
  rw [e] at h
  exact h
/-- bytes of a call's own, from block B on. -/
def OwnB (B : Nat) (zs : List Int) (a : Option Addr) (n c : Nat) (w : World) : Prop := Row w 5 (.slice a n c) (u8s zs) ∧ (∀ b, (Value.slice a n c).ownBlock = some b → B ≤ b) ∧ B ≤ w.heap.size
set_option maxRecDepth 20000 in
set_option maxHeartbeats 1000000 in
theorem refput_any (B : Nat) (zs : List Int) (a : Option Addr) (l c : Nat) (n : Int) (m : Nat) (w : World) (hm : m = 1 ∨ m = 2 ∨ m = 4) (h3 : 0 ≤ n) (h4 : n ≤ 9223372036854775807) (hl : zs.length ≤ 2000) (h : OwnB B zs a l c w) :
    Calls Try.prog 29 #[.slice a l c, .int .i64 n, .int .i64 m] w fun e w' => ∃ a' l' c', e = .returned (.slice a' l' c') ∧ OwnB B (zs ++ bytesOf n m) a' l' c' w' ∧ Below B w w' := by
  have HP : Hid (∀ w, Calls Try.prog 38 #[.int .u64 n, .int .i64 m] w fun e w' => e = .returned (.slice (some ⟨w.heap.size, 0, none⟩) m m) ∧ w' = w.alloc (.cells (u8s (bytesOf n m)).toArray 5)) := fun w => refPutM_any n m hm w h3 (by omega)
  have hk : IntKind.u64.wrap n = n := by simp only [IntKind.wrap_u64]; omega
  have bl := bpush (Below.refl w.heap.size w) (.cells (u8s (bytesOf n m)).toArray 5)
  obtain ⟨a', c', w', h1, h2, h5, h6⟩ := append_row_part (h.1.below bl) B (Nat.le_trans h.2.2 bl.size) h.2.1 ⟨some ⟨w.heap.size, 0, none⟩, m, bytesOf n m⟩ (Part.of_row (heap_new w _) (by rw [bytesOf_len n m hm]; omega) (bytesOf_bd n m)) (by simp only [bytesOf_len n m hm]; omega) 28
  simp only [Part.val, bytesOf_len n m hm] at h1 h2 h5 h6
  have HR := hid h1
  have HE : Hid (OwnB B (zs ++ bytesOf n m) a' (zs.length + m) c' w' ∧ Below B w w') := ⟨⟨h2, h6, Nat.le_trans (Nat.le_trans h.2.2 bl.size) h5.size⟩, (bl.mono h.2.2).trans h5⟩
  clear h1 h2 h5 h6 h bl hm
  generalize bytesOf n m = X at *
  go_enter Try.func29, Try.ntmps29
  go_wp2_with fail
  refine (HP.out _).mono ?_
  rintro e w1 ⟨rfl, hw⟩
  subst w1
  go_wp2_with (first | (at_builtin; refine wpList_append_run _ rfl _ _ 28 28 rfl _ _ rfl rfl HR.out ?_) | fail)
  go_ret
  exact ⟨_, _, _, rfl, HE.out.1, HE.out.2⟩

/-- a Head under way: the box, the bytes so far. -/
def HdI (w : World) (F : Array Value) (zs : List Int) (a : Option Addr) (l c : Nat) (w' : World) : Prop :=
  w'.heap[w.heap.size]? = some (.cells F 27 (0, 0)) ∧ OwnB (w.heap.size + 1) zs a l c w' ∧ Below w.heap.size w w'
theorem hdI_next {w W w' : World} {F : Array Value} {zs zs' : List Int} {a a' : Option Addr} {l c l' c' : Nat} (h : HdI w F zs a l c W) (ho : OwnB (w.heap.size + 1) zs' a' l' c' w') (hb : Below (w.heap.size + 1) W w') : HdI w F zs' a' l' c' w' :=
  ⟨(hb.block _ (by omega)).trans h.1, ho, h.2.2.trans (hb.mono (by omega))⟩
theorem hdI_first (w : World) (F : Array Value) (x y : Int) : HdI w F [x, y] (some ⟨w.heap.size + 1, 0, none⟩) 2 2 ((w.alloc (.cells F 27)).alloc (.cells #[.int .u8 x, .int .u8 y] 5)) := by
  have h := ((Holds.nil w).push (.cells F 27)).push (.cells #[.int .u8 x, .int .u8 y] 5)
  simp only [World.size_alloc] at h
  exact ⟨h.at 1 _ _ rfl, ⟨Row.of_heap (vs := u8s [x, y]) (h.at 0 _ _ rfl) (by show 2 ≤ maxLen; decide), fun b hb => by simp [Value.ownBlock] at hb; omega, by simp⟩, bpush (bpush (Below.refl _ _) _) _⟩
theorem hdI_two {w W : World} {F : Array Value} {zs : List Int} {a : Option Addr} {l c : Nat} (h : HdI w F zs a l c W) (x y : Int) (hx : 0 ≤ x ∧ x ≤ 255) (hy : 0 ≤ y ∧ y ≤ 255) (hl : zs.length ≤ 2000) :
    ∃ a' l' c' w', (Builtin.append_ #[28, 28] 28 #[.slice a l c, .slice (some ⟨W.heap.size, 0, none⟩) 2 2]).run Try.prog (W.alloc (.cells #[.int .u8 x, .int .u8 y] 5)) = .ok (.slice a' l' c') w' ∧ HdI w F (zs ++ [x, y]) a' l' c' w' := by
  have bl := bpush (Below.refl W.heap.size W) (.cells #[.int .u8 x, .int .u8 y] 5)
  obtain ⟨a', c', w', h1, h2, h5, h6⟩ := append_row_part (h.2.1.1.below bl) (w.heap.size + 1) (Nat.le_trans h.2.1.2.2 bl.size) h.2.1.2.1 ⟨some ⟨W.heap.size, 0, none⟩, 2, [x, y]⟩ (Part.of_row (zs := [x, y]) (heap_new W _) (by simp) (by simp; omega)) (by simp; omega) 28
  exact ⟨a', _, c', w', h1, hdI_next h ⟨h2, h6, Nat.le_trans (Nat.le_trans h.2.1.2.2 bl.size) h5.size⟩ ((bl.mono h.2.1.2.2).trans h5)⟩

set_option maxRecDepth 20000 in
set_option maxHeartbeats 2000000 in
theorem refHead_any (h : Ip) (n s : Int) (w : World) (hok : h.ok) (hh : layB h = true) (hn : 0 ≤ n ∧ n ≤ 65535) (hs : 0 ≤ s ∧ s ≤ 65535) :
    Calls Try.prog 17 #[h.val, .int .i64 n, .int .i64 s] w fun e w' => ∃ a l c, e = .returned (.slice a l c) ∧ Ans w w' (headL h n s) a l c := by
  have hbd : (0 ≤ h.tos ∧ h.tos ≤ 255) ∧ (0 ≤ h.proto ∧ h.proto ≤ 255) ∧ (0 ≤ h.id ∧ h.id ≤ 65535) ∧ (1 ≤ h.ttl ∧ h.ttl ≤ 255) := by simpa [layB, inB, and_assoc] using hh
  obtain ⟨-, -, -, -, ⟨s0, s1⟩, ⟨d0, d1⟩⟩ := hok
  have HF := hid (fl_bd h.keep)
  obtain ⟨ht, hi, hl, hp, hk, hsr, hd⟩ := h
  simp only [Ip.val] at *
  obtain ⟨⟨t0, t1⟩, ⟨p0, p1⟩, ⟨i0, i1⟩, ⟨l0, l1⟩⟩ := hbd
  obtain ⟨n0, n1⟩ := hn
  obtain ⟨z0, z1⟩ := hs
  have k1 : IntKind.u8.wrap ht = ht % 256 := IntKind.wrap_u8' _
  have k2 : IntKind.u8.wrap hl = hl % 256 := IntKind.wrap_u8' _
  have k3 : IntKind.u8.wrap hp = hp % 256 := IntKind.wrap_u8' _
  have k4 : IntKind.i64.wrap hsr = hsr := by simp only [IntKind.wrap_i64]; omega
  have k5 : IntKind.i64.wrap hd = hd := by simp only [IntKind.wrap_i64]; omega
  generalize hLL : headL _ n s = LL
  have HLL := hid hLL
  clear hh hLL
  have HP : Hid (∀ (w' : World) (zs : List Int) (a : Option Addr) (l c : Nat) (x : Int) (m : Nat), (m = 1 ∨ m = 2 ∨ m = 4) → 0 ≤ x → x ≤ 9223372036854775807 → zs.length ≤ 2000 → HdI w #[.int .i64 ht, .int .i64 hi, .int .i64 hl, .int .i64 hp, .bool hk, .int .u32 hsr, .int .u32 hd] zs a l c w' → Calls Try.prog 29 #[.slice a l c, .int .i64 x, .int .i64 m] w' fun e w'' => ∃ a' l' c', e = .returned (.slice a' l' c') ∧ HdI w #[.int .i64 ht, .int .i64 hi, .int .i64 hl, .int .i64 hp, .bool hk, .int .u32 hsr, .int .u32 hd] (zs ++ bytesOf x m) a' l' c' w'') := fun w' zs a l c x m hm h0 h1 hz h =>
    (refput_any (w.heap.size + 1) zs a l c x m w' hm h0 h1 hz h.2.1).mono fun e w'' ⟨a', l', c', he, ho, hb⟩ => ⟨a', l', c', he, hdI_next h ho hb⟩
  have CC : Hid (∀ (w' : World) (zs : List Int) (a : Option Addr) (l c : Nat), HdI w #[.int .i64 ht, .int .i64 hi, .int .i64 hl, .int .i64 hp, .bool hk, .int .u32 hsr, .int .u32 hd] zs a l c w' → ∀ q, w'.cell? ⟨w.heap.size, q, none⟩ = (#[.int .i64 ht, .int .i64 hi, .int .i64 hl, .int .i64 hp, .bool hk, .int .u32 hsr, .int .u32 hd] : Array Value)[q]?) := fun w' _ _ _ _ h q => cell_of_heap h.1 q
  have H0 := hid (hdI_first w #[.int .i64 ht, .int .i64 hi, .int .i64 hl, .int .i64 hp, .bool hk, .int .u32 hsr, .int .u32 hd] 69 (ht % 256))
  generalize hfl : fl hk = FL at *
  go_enter Try.func17, Try.ntmps17
  cases hk
  all_goals
    simp only [fl, Bool.false_eq_true, if_false, if_true] at hfl
    subst hfl
    go_wp2_with fail
    refine (HP.out _ _ _ _ _ n 2 (Or.inr (Or.inl rfl)) (by omega) (by omega) (by simp [bytesOf, op1, op2, ip4]) H0.out).mono ?_
    rintro e w1 ⟨a1, n1, c1, rfl, hx⟩
    have H1 := hid hx
    clear hx H0
    have cc := CC.out _ _ _ _ _ H1.out
    go_wp2_with fail
    refine (HP.out _ _ _ _ _ hi 2 (Or.inr (Or.inl rfl)) (by omega) (by omega) (by simp [bytesOf, op1, op2, ip4]) H1.out).mono ?_
    rintro e w2 ⟨a2, n2, c2, rfl, hx⟩
    have H2 := hid hx
    clear hx H1 cc
    have cc := CC.out _ _ _ _ _ H2.out
    go_wp2_with fail
    refine (HP.out _ _ _ _ _ _ 2 (Or.inr (Or.inl rfl)) (by omega) (by omega) (by simp [bytesOf, op1, op2, ip4]) H2.out).mono ?_
    rintro e w3 ⟨a3, n3, c3, rfl, hx⟩
    have H3 := hid hx
    clear hx H2 cc
    obtain ⟨a4, n4, c4, w4, hr4, hx⟩ := hdI_two H3.out (hl % 256) (hp % 256) (by omega) (by omega) (by simp [bytesOf, op1, op2, ip4])
    have HR4 := hid hr4
    have H4 := hid hx
    have cc := CC.out _ _ _ _ _ H3.out
    clear hr4 hx
    go_wp2_with (first | (at_builtin; refine wpList_append_run _ rfl _ _ 28 28 rfl _ _ rfl rfl HR4.out ?_) | fail)
    clear cc H3 HR4
    have cc := CC.out _ _ _ _ _ H4.out
    refine (HP.out _ _ _ _ _ s 2 (Or.inr (Or.inl rfl)) (by omega) (by omega) (by simp [bytesOf, op1, op2, ip4]) H4.out).mono ?_
    rintro e w5 ⟨a5, n5, c5, rfl, hx⟩
    have H5 := hid hx
    clear hx H4 cc
    have cc := CC.out _ _ _ _ _ H5.out
    go_wp2_with fail
    refine (HP.out _ _ _ _ _ hsr 4 (Or.inr (Or.inr rfl)) (by omega) (by omega) (by simp [bytesOf, op1, op2, ip4]) H5.out).mono ?_
    rintro e w6 ⟨a6, n6, c6, rfl, hx⟩
    have H6 := hid hx
    clear hx H5 cc
    have cc := CC.out _ _ _ _ _ H6.out
    go_wp2_with fail
    refine (HP.out _ _ _ _ _ hd 4 (Or.inr (Or.inr rfl)) (by omega) (by omega) (by simp [bytesOf, op1, op2, ip4]) H6.out).mono ?_
    rintro e w7 ⟨a7, n7, c7, rfl, hx⟩
    have H7 := hid hx
    clear hx H6 cc
    go_wp2
    go_ret
    exact ⟨_, _, _, rfl, by rw [← HLL.out]; exact ⟨H7.out.2.1.1, fun b hb => by have := H7.out.2.1.2.1 b hb; omega, H7.out.2.2⟩⟩
end Go.Proofs.Ytccmkljbedddiaa
