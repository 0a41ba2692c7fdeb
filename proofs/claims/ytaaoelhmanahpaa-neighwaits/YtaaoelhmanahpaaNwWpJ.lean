import Derived.Test.YtaaoelhmanahpaaBMem
import Derived.Test.YtaaoelhmanahpaaAAct
import Derived.Deep.RegionLaw
/-
  The contract of octet.isWidth. For every seat.
-/
namespace Go.Proofs.Ytaaoelhmanahpaa
open Go.RowKit
set_option linter.all false

set_option maxHeartbeats 400000 in
theorem isWidth_yes (n : Int) (w : World) (h1 : 1 ≤ n) (h2 : n ≤ 8) :
    Calls Try.prog 80 #[.int .i64 n] w fun e w' => e = .returned (.bool true) ∧ w' = w := by
  go_enter Try.func80, Try.ntmps80
  go_wp2
  go_ret
  exact ⟨rfl, rfl⟩

set_option maxHeartbeats 400000 in
theorem isWidth_no (n : Int) (w : World) (h : n < 1 ∨ 8 < n) :
    Calls Try.prog 80 #[.int .i64 n] w fun e w' => e = .returned (.bool false) ∧ w' = w := by
  by_cases h1 : 1 ≤ n
  · have h2 : ¬ n ≤ 8 := by omega
    clear h
    go_enter Try.func80, Try.ntmps80
    go_wp2
    go_ret
    exact ⟨rfl, rfl⟩
  · clear h
    go_enter Try.func80, Try.ntmps80
    go_wp2
    go_ret
    exact ⟨rfl, rfl⟩

end Go.Proofs.Ytaaoelhmanahpaa

/-
  A number's bytes, one laid behind the other. For every seat.
-/
namespace Go.Proofs.Ytaaoelhmanahpaa
open Go.RowKit
set_option linter.all false

def byteAt (n : Int) (k : Nat) : Int := n / 2 ^ (8 * k) % 256
def putTo (n : Int) (m : Nat) : Nat → Array Value
  | 0 => madeCells #[.int .u8 0] m
  | k + 1 => (putTo n m k).setIfInBounds (m - 1 - k) (.int .u8 (byteAt n k))

theorem putTo_size (n : Int) (m : Nat) : ∀ k, (putTo n m k).size = m
  | 0 => by simp [putTo, size_madeCells]
  | k + 1 => by simp [putTo, putTo_size n m k]
theorem putTo_get (n : Int) (m k j : Nat) (h : j < m) : ∃ v, (putTo n m k)[j]? = some v :=
  ⟨(putTo n m k)[j]'(by rw [putTo_size]; exact h), by simp [putTo_size, h]⟩

theorem putTo2 (n : Int) : putTo n 2 2 = (u8s [n / 256 % 256, n % 256]).toArray := by
  simp [putTo, made_eq, byteAt, u8s]
end Go.Proofs.Ytaaoelhmanahpaa

/-
  The contract of octet.Put: what a call leaves, for every number and width. For every seat.
-/
namespace Go.Proofs.Ytaaoelhmanahpaa
open Go.RowKit
set_option linter.all false

set_option maxHeartbeats 400000 in
theorem put_yes (n : Int) (m : Nat) (w : World) (h1 : 1 ≤ m) (h2 : m ≤ 8) (h3 : 0 ≤ n) (h4 : n ≤ 18446744073709551615) :
    Calls Try.prog 77 #[.int .u64 n, .int .i64 m] w fun e w' => e = .returned (.slice (some ⟨w.heap.size, 0, none⟩) m m) ∧ w' = w.alloc (.cells (putTo n m m) 5) := by
  have hmk := fun wx => Go.run_make_row' (P := Try.prog) 40 5 (.int .u8 0) 1 Try.underlying40 infoU8 rfl .i64 .i64 m (by omega) (by omega) wx
  go_enter Try.func77, Try.ntmps77
  go_wp2_with (go_at_call 80; refine (isWidth_yes _ _ (by omega) (by omega)).mono ?_; rintro e w' ⟨rfl, rfl⟩)
  go_loopw [14] (fun i wr => ∃ k : Nat, k ≤ m ∧ i = .int .i64 k ∧ wr = w'.alloc (.cells (putTo n m k) 5)) (fun i _ => m - (intOf i).toNat)
  case atStart => exact ⟨0, Nat.zero_le _, rfl, rfl⟩
  case round =>
    obtain ⟨k, hk, rfl, rfl⟩ := hrel
    by_cases hlt : k < m
    · obtain ⟨v, hv⟩ := putTo_get n m k (m - 1 - k) (by omega)
      go_wp2
      go_roundw
      case rel => exact ⟨k + 1, by omega, by go_num, rfl⟩
      case measure => simp [intOf]; omega
    · go_wp2
      go_ret
      have : k = m := by omega
      subst this
      exact ⟨rfl, rfl⟩

set_option maxHeartbeats 400000 in
theorem put_no (n width : Int) (w : World) (h : width < 1 ∨ 8 < width) :
    Calls Try.prog 77 #[.int .u64 n, .int .i64 width] w fun e w' => e = .returned (.slice none 0 0) ∧ w' = w := by
  have hh : Hid (width < 1 ∨ 8 < width) := h
  clear h
  go_enter Try.func77, Try.ntmps77
  go_wp2_with (go_at_call 80; refine (isWidth_no _ _ hh.out).mono ?_; rintro e w' ⟨rfl, rfl⟩)
  go_ret
  exact ⟨rfl, rfl⟩
end Go.Proofs.Ytaaoelhmanahpaa

/-
  arp.Encode.
-/
namespace Go.Proofs.Ytaaoelhmanahpaa
open Go.RowKit
set_option linter.all false

theorem putTo4 (n : Int) : putTo n 4 4 = (u8s [n / 16777216 % 256, n / 65536 % 256, n / 256 % 256, n % 256]).toArray := by
  simp [putTo, made_eq, byteAt, u8s]
/-- an address's bytes. -/
def ip4 (n : Int) : List Int := [n / 16777216 % 256, n / 65536 % 256, n / 256 % 256, n % 256]
theorem ip4_bd (n : Int) : ∀ z, z ∈ ip4 n → 0 ≤ z ∧ z ≤ 255 := fun z hz => by simp [ip4] at hz; omega
def op2 (n : Int) : List Int := [n / 256 % 256, n % 256]
theorem op2_bd (n : Int) : ∀ z, z ∈ op2 n → 0 ≤ z ∧ z ≤ 255 := fun z hz => by simp [op2] at hz; omega
theorem put2_any (n : Int) (w : World) (h3 : 0 ≤ n) (h4 : n ≤ 18446744073709551615) :
    Calls Try.prog 77 #[.int .u64 n, .int .i64 2] w fun e w' => e = .returned (.slice (some ⟨w.heap.size, 0, none⟩) 2 2) ∧ w' = w.alloc (.cells (u8s (op2 n)).toArray 5) := by
  have h := put_yes n 2 w (by omega) (by omega) h3 (by omega)
  rw [putTo2] at h
  exact h
theorem put4_any (n : Int) (w : World) (h3 : 0 ≤ n) (h4 : n ≤ 18446744073709551615) :
    Calls Try.prog 77 #[.int .u64 n, .int .i64 4] w fun e w' => e = .returned (.slice (some ⟨w.heap.size, 0, none⟩) 4 4) ∧ w' = w.alloc (.cells (u8s (ip4 n)).toArray 5) := by
  have h := put_yes n 4 w (by omega) (by omega) h3 (by omega)
  rw [putTo4] at h
  exact h

/-- a message's bytes. -/
def encL (p : Arp) : List Int := kindsM.zs ++ op2 p.op ++ p.s.zs ++ ip4 p.si ++ p.d.zs ++ ip4 p.di
theorem encL_len (p : Arp) : (encL p).length = 28 := by simp [encL, Mac.zs, op2, ip4]
theorem encL_bd (p : Arp) (h : p.ok) : ∀ z, z ∈ encL p → 0 ≤ z ∧ z ≤ 255 := fun z hz => by
  simp only [encL, List.mem_append] at hz
  rcases hz with ((((hz | hz) | hz) | hz) | hz) | hz
  · exact Mac.bytes kindsM_ok z hz
  · exact op2_bd _ z hz
  · exact Mac.bytes h.2.1 z hz
  · exact ip4_bd _ z hz
  · exact Mac.bytes h.2.2.2.1 z hz
  · exact ip4_bd _ z hz
theorem splice_app (A Z X : List Int) (n : Nat) (hn : A.length = n) : splice (A ++ Z) n X = (A ++ X) ++ Z.drop X.length := by
  subst hn
  simp [splice, List.drop_append]
theorem encL_splice (K O S I D J : List Int) (hK : K.length = 6) (hO : O.length = 2) (hS : S.length = 6) (hI : I.length = 4) (hD : D.length = 6) (hJ : J.length = 4) :
    splice (splice (splice (splice (splice (splice (List.replicate 28 0) 0 K) 6 O) 8 S) 14 I) 18 D) 24 J = K ++ O ++ S ++ I ++ D ++ J := by
  have e0 := splice_app [] (List.replicate 28 0) K 0 rfl
  rw [List.nil_append, List.nil_append] at e0
  rw [e0, splice_app _ _ _ 6 (by simp [hK, hO, hS, hI, hD, hJ]), splice_app _ _ _ 8 (by simp [hK, hO, hS, hI, hD, hJ]), splice_app _ _ _ 14 (by simp [hK, hO, hS, hI, hD, hJ]), splice_app _ _ _ 18 (by simp [hK, hO, hS, hI, hD, hJ]), splice_app _ _ _ 24 (by simp [hK, hO, hS, hI, hD, hJ])]
  simp [List.drop_replicate, hK, hO, hS, hI, hD, hJ]
theorem splice_28 (L X : List Int) (o : Nat) (h : L.length = 28) (hx : o + X.length ≤ 28) : (splice L o X).length = 28 := by
  rw [length_splice _ _ _ (by omega), h]

theorem cells_alloc {W : World} {g : Nat} {A : Array Value} {o : Obj} (hl : g < W.heap.size) (h : ∀ q, W.cell? ⟨g, q, none⟩ = A[q]?) : ∀ q, (W.alloc o).drew.cell? ⟨g, q, none⟩ = A[q]? := fun q => by
  have := ((Below.refl W.heap.size W).alloc (Nat.le_refl _) o).cell (p := ⟨g, q, none⟩) hl
  rw [← h q, ← this]
  rfl
set_option maxHeartbeats 400000 in
theorem encode_no (p : Arp) (w : World) (h : opB p.op = false) :
    Calls Try.prog 70 #[p.val] w fun e w' => e = .returned (.tuple #[.slice none 0 0, .int .i64 80]) ∧ Below w.heap.size w w' := by
  have HO : Hid (∀ w, Calls Try.prog 75 #[.int .i64 p.op] w fun e w' => e = .returned (.bool false) ∧ w' = w) := fun w => by have := isOp_any p.op w; rwa [h] at this
  clear h
  obtain ⟨o, ⟨s0, s1, s2, s3, s4, s5⟩, si, ⟨d0, d1, d2, d3, d4, d5⟩, di⟩ := p
  simp only [Arp.val] at *
  go_enter Try.func70, Try.ntmps70
  go_wp2_with (first | (go_at_call 75; refine (HO.out _).mono ?_; rintro e w1 ⟨rfl, hw⟩; subst w1) | fail)
  go_ret2
  exact ⟨rfl, bpush (Below.refl _ _) _⟩

/-- an Encode under way: the message's box, the head's box, the bytes so far. -/
def EncI (w : World) (gh : Nat) (F H : Array Value) (L : List Int) (w' : World) : Prop :=
  w'.heap[w.heap.size]? = some (.cells F 42 (0, 0)) ∧ w'.heap[w.heap.size + 1]? = some (.cells (u8s L).toArray 5 (0, 0)) ∧ w'.heap[gh]? = some (.cells H 23 (0, 0)) ∧ w.heap.size + 1 < gh ∧ Below w.heap.size w w'
theorem enc_next {w W W' w' : World} {gh : Nat} {F H : Array Value} {L L' : List Int} (h : EncI w gh F H L W) (hB : Below W.heap.size W W') (hg : w'.heap[w.heap.size + 1]? = some (.cells (u8s L').toArray 5 (0, 0))) (hb : But (w.heap.size + 1) W' w') : EncI w gh F H L' w' :=
  ⟨keptBut (kept h.1 hB) hb (by omega), hg, keptBut (kept h.2.2.1 hB) hb (by have := h.2.2.2.1; omega), h.2.2.2.1, bbut (bstep h.2.2.2.2 hB) hb (by omega)⟩

set_option maxRecDepth 20000 in
set_option maxHeartbeats 2000000 in
theorem encode_ok (p : Arp) (w : World) (hp : p.ok) (h : opB p.op = true) :
    Calls Try.prog 70 #[p.val] w fun e w' => ∃ g, e = .returned (.tuple #[.slice (some ⟨g, 0, none⟩) 28 28, .int .i64 0]) ∧ w.heap.size ≤ g ∧ w'.heap[g]? = some (.cells (u8s (encL p)).toArray 5 (0, 0)) ∧ Below w.heap.size w w' := by
  have HO : Hid (∀ w, Calls Try.prog 75 #[.int .i64 p.op] w fun e w' => e = .returned (.bool true) ∧ w' = w) := fun w => by have := isOp_any p.op w; rwa [h] at this
  have HK : Hid (∀ w, Calls Try.prog 76 #[] w fun e w' => e = .returned kindsM.val ∧ Below w.heap.size w w') := kinds_any
  have hop : 0 ≤ p.op ∧ p.op ≤ 2 := by simp [opB] at h; omega
  have hsi := hp.2.2.1
  have hdi := hp.2.2.2.2
  have HP2 : Hid (∀ w, Calls Try.prog 77 #[.int .u64 p.op, .int .i64 2] w fun e w' => e = .returned (.slice (some ⟨w.heap.size, 0, none⟩) 2 2) ∧ w' = w.alloc (.cells (u8s (op2 p.op)).toArray 5)) := fun w => put2_any _ w (by omega) (by omega)
  have HPS : Hid (∀ w, Calls Try.prog 77 #[.int .u64 p.si, .int .i64 4] w fun e w' => e = .returned (.slice (some ⟨w.heap.size, 0, none⟩) 4 4) ∧ w' = w.alloc (.cells (u8s (ip4 p.si)).toArray 5)) := fun w => put4_any _ w (by omega) (by omega)
  have HPD : Hid (∀ w, Calls Try.prog 77 #[.int .u64 p.di, .int .i64 4] w fun e w' => e = .returned (.slice (some ⟨w.heap.size, 0, none⟩) 4 4) ∧ w' = w.alloc (.cells (u8s (ip4 p.di)).toArray 5)) := fun w => put4_any _ w (by omega) (by omega)
  have hmk : ∀ wx : World, (Instr.makeSlice 40 (.int .i64 28) (.int .i64 28)).run Try.prog wx = .ok (.slice (some ⟨wx.heap.size, 0, none⟩) 28 28) (wx.alloc (.cells (u8s (List.replicate 28 0)).toArray 5)) := fun wx => by
    have := Go.run_make_row' (P := Try.prog) 40 5 (.int .u8 0) 1 Try.underlying40 infoU8 rfl .i64 .i64 28 (by omega) (by omega) wx
    rw [made_eq] at this
    exact this
  have HL := hid (encL_splice kindsM.zs (op2 p.op) p.s.zs (ip4 p.si) p.d.zs (ip4 p.di) rfl rfl rfl rfl rfl rfl)
  have HE : Hid (encL p = kindsM.zs ++ op2 p.op ++ p.s.zs ++ ip4 p.si ++ p.d.zs ++ ip4 p.di) := rfl
  generalize encL p = EL at *
  have HCP : Hid (∀ w' : World, w'.heap[w.heap.size]? = some (.cells p.cells 42 (0, 0)) → Part.ok w' ⟨some ⟨w.heap.size, 1, none⟩, 6, p.s.zs⟩ ∧ Part.ok w' ⟨some ⟨w.heap.size, 8, none⟩, 6, p.d.zs⟩) := fun w' hg =>
    ⟨Part.of_heap hg 1 (by simp [Mac.zs]) (fun j hj => by simp only [Mac.zs, List.length_cons, List.length_nil] at hj; rcases (show j = 0 ∨ j = 1 ∨ j = 2 ∨ j = 3 ∨ j = 4 ∨ j = 5 by omega) with rfl | rfl | rfl | rfl | rfl | rfl <;> rfl) (Mac.bytes hp.2.1),
     Part.of_heap hg 8 (by simp [Mac.zs]) (fun j hj => by simp only [Mac.zs, List.length_cons, List.length_nil] at hj; rcases (show j = 0 ∨ j = 1 ∨ j = 2 ∨ j = 3 ∨ j = 4 ∨ j = 5 by omega) with rfl | rfl | rfl | rfl | rfl | rfl <;> rfl) (Mac.bytes hp.2.2.2.1)⟩
  have HCK : Hid (∀ (w' : World) (gh : Nat), w'.heap[gh]? = some (.cells #[.int .u8 0, .int .u8 1, .int .u8 8, .int .u8 0, .int .u8 6, .int .u8 4] 23 (0, 0)) → Part.ok w' ⟨some ⟨gh, 0, none⟩, 6, kindsM.zs⟩) := fun w' gh hg =>
    Part.of_heap hg 0 (by simp [Mac.zs]) (fun j hj => by simp only [Mac.zs, List.length_cons, List.length_nil] at hj; rcases (show j = 0 ∨ j = 1 ∨ j = 2 ∨ j = 3 ∨ j = 4 ∨ j = 5 by omega) with rfl | rfl | rfl | rfl | rfl | rfl <;> rfl) (Mac.bytes kindsM_ok)
  have HB2 := hid (op2_bd p.op)
  have HBS := hid (ip4_bd p.si)
  have HBD := hid (ip4_bd p.di)
  have HN : Hid (kindsM.zs.length = 6 ∧ (op2 p.op).length = 2 ∧ p.s.zs.length = 6 ∧ (ip4 p.si).length = 4 ∧ p.d.zs.length = 6 ∧ (ip4 p.di).length = 4) := ⟨rfl, rfl, rfl, rfl, rfl, rfl⟩
  have hkw : IntKind.u64.wrap p.op = p.op := by simp only [IntKind.wrap_u64]; omega
  have hks : IntKind.u64.wrap p.si = p.si := by simp only [IntKind.wrap_u64]; omega
  have hkd : IntKind.u64.wrap p.di = p.di := by simp only [IntKind.wrap_u64]; omega
  obtain ⟨R, hR⟩ : ∃ R, R = List.replicate 28 (0 : Int) := ⟨_, rfl⟩
  have HRL : Hid (R.length = 28) := by unfold Hid; rw [hR]; simp
  rw [← hR] at hmk HL
  generalize hz1 : kindsM.zs = K at *
  generalize hz2 : op2 p.op = O at *
  generalize hz3 : p.s.zs = S at *
  generalize hz4 : ip4 p.si = I at *
  generalize hz5 : p.d.zs = D at *
  generalize hz6 : ip4 p.di = J at *
  clear hz1 hz2 hz3 hz4 hz5 hz6 hR hp h
  obtain ⟨o, ⟨s0, s1, s2, s3, s4, s5⟩, si, ⟨d0, d1, d2, d3, d4, d5⟩, di⟩ := p
  simp only [Arp.val, Arp.cells, Mac.val, kindsM] at *
  go_enter Try.func70, Try.ntmps70
  go_wp2_with (first | (go_at_call 75; refine (HO.out _).mono ?_; rintro e w1 ⟨rfl, hw⟩; subst w1) | fail)
  refine (HK.out _).mono ?_
  rintro e w1 ⟨rfl, hb1⟩
  have HH := hid (((((Holds.nil w).push (.cells #[.int .i64 o, .int .u8 s0, .int .u8 s1, .int .u8 s2, .int .u8 s3, .int .u8 s4, .int .u8 s5, .int .u32 si, .int .u8 d0, .int .u8 d1, .int .u8 d2, .int .u8 d3, .int .u8 d4, .int .u8 d5, .int .u32 di] 42)).push (.cells (u8s R).toArray 5)).below hb1).push (.cells #[.int .u8 0, .int .u8 1, .int .u8 8, .int .u8 0, .int .u8 6, .int .u8 4] 23))
  have hgh := (bpush (Below.refl w1.heap.size w1) (.cells #[.int .u8 0, .int .u8 1, .int .u8 8, .int .u8 0, .int .u8 6, .int .u8 4] 23))
  have H0 : Hid (EncI w w1.heap.size #[.int .i64 o, .int .u8 s0, .int .u8 s1, .int .u8 s2, .int .u8 s3, .int .u8 s4, .int .u8 s5, .int .u32 si, .int .u8 d0, .int .u8 d1, .int .u8 d2, .int .u8 d3, .int .u8 d4, .int .u8 d5, .int .u32 di] #[.int .u8 0, .int .u8 1, .int .u8 8, .int .u8 0, .int .u8 6, .int .u8 4] R (w1.alloc (.cells #[.int .u8 0, .int .u8 1, .int .u8 8, .int .u8 0, .int .u8 6, .int .u8 4] 23))) := by
    have h := HH.out
    simp only [World.size_alloc] at h
    exact ⟨h.at 2 _ _ rfl, h.at 1 _ _ rfl, h.at 0 _ _ rfl, by have := hb1.size; simp only [World.size_alloc] at this; omega, bpush (bstep (bpush (bpush (Below.refl _ _) _) _) hb1) _⟩
  clear HH hgh hb1
  go_wp2_with (first
    | (refine wpList_copy rfl _ _ rfl ⟨some ⟨w1.heap.size, 0, none⟩, 6, K⟩ (w.heap.size + 1) 0 28 28 R 5 rfl (by show _ = Value.slice _ _ _; rw [HN.out.1]; rfl) H0.out.2.1 (HCK.out _ _ H0.out.2.2.1) (by rw [HN.out.1]; omega) (by rw [HN.out.1, HRL.out]; omega) ?_; intro w2 hg2 hb2) | fail)
  have H2 : Hid (EncI w w1.heap.size #[.int .i64 o, .int .u8 s0, .int .u8 s1, .int .u8 s2, .int .u8 s3, .int .u8 s4, .int .u8 s5, .int .u32 si, .int .u8 d0, .int .u8 d1, .int .u8 d2, .int .u8 d3, .int .u8 d4, .int .u8 d5, .int .u32 di] #[.int .u8 0, .int .u8 1, .int .u8 8, .int .u8 0, .int .u8 6, .int .u8 4] (splice R 0 K) w2) := enc_next H0.out (Below.refl _ _) hg2.out hb2.out
  have L2 : Hid ((splice R 0 K).length = 28) := splice_28 _ _ _ HRL.out (by rw [HN.out.1]; omega)
  clear hg2 hb2 H0
  generalize splice R 0 K = R2 at *
  generalize w1.heap.size = gh at *
  have hcc3 : ∀ q, w2.cell? ⟨w.heap.size, q, none⟩ = (#[.int .i64 o, .int .u8 s0, .int .u8 s1, .int .u8 s2, .int .u8 s3, .int .u8 s4, .int .u8 s5, .int .u32 si, .int .u8 d0, .int .u8 d1, .int .u8 d2, .int .u8 d3, .int .u8 d4, .int .u8 d5, .int .u32 di] : Array Value)[q]? := fun q => cell_of_heap H2.out.1 q
  go_wp2
  go_region_held3 (fun w' => ∀ q, w'.cell? ⟨w.heap.size, q, none⟩ = (#[.int .i64 o, .int .u8 s0, .int .u8 s1, .int .u8 s2, .int .u8 s3, .int .u8 s4, .int .u8 s5, .int .u32 si, .int .u8 d0, .int .u8 d1, .int .u8 d2, .int .u8 d3, .int .u8 d4, .int .u8 d5, .int .u32 di] : Array Value)[q]?) (first | assumption | exact cells_alloc (heap_lt H2.out.1) hcc3 | go_keep) (first
    | (refine step_copy rfl _ _ rfl ⟨some ⟨w2.heap.size, 0, none⟩, 2, O⟩ (w.heap.size + 1) 6 _ _ R2 5 rfl (by show _ = Value.slice _ _ _; rw [HN.out.2.1]; rfl) (by exact (heap_old w2.drew _ (heap_lt (w := w2.drew) H2.out.2.1)).trans H2.out.2.1) (by exact Part.of_row (heap_new w2.drew _) (by rw [HN.out.2.1]; omega) HB2.out) (by rw [HN.out.2.1]; omega) (by rw [HN.out.2.1, L2.out]; omega) ?_; intro w3 hg3 hb3; have H3 : Hid (EncI w gh _ _ _ w3) := enc_next H2.out (((Below.refl _ _).drew).alloc (Nat.le_refl _) _) hg3.out hb3.out; have hc3 : ∀ q, w3.cell? ⟨w.heap.size, q, none⟩ = (#[.int .i64 o, .int .u8 s0, .int .u8 s1, .int .u8 s2, .int .u8 s3, .int .u8 s4, .int .u8 s5, .int .u32 si, .int .u8 d0, .int .u8 d1, .int .u8 d2, .int .u8 d3, .int .u8 d4, .int .u8 d5, .int .u32 di] : Array Value)[q]? := (fun q => cell_of_heap H3.out.1 q))
    | (go_at_call 77; refine (HP2.out _).mono ?_; rintro e w' ⟨rfl, hw⟩; subst w')
    | fail)
  have L3 : Hid ((splice R2 6 O).length = 28) := splice_28 _ _ _ L2.out (by rw [HN.out.2.1]; omega)
  clear hg3 hb3 H2 hcc3 hc3
  generalize splice R2 6 O = R3 at *
  have hcc4 : ∀ q, w3.cell? ⟨w.heap.size, q, none⟩ = (#[.int .i64 o, .int .u8 s0, .int .u8 s1, .int .u8 s2, .int .u8 s3, .int .u8 s4, .int .u8 s5, .int .u32 si, .int .u8 d0, .int .u8 d1, .int .u8 d2, .int .u8 d3, .int .u8 d4, .int .u8 d5, .int .u32 di] : Array Value)[q]? := fun q => cell_of_heap H3.out.1 q
  go_wp2
  go_region_held3 (fun w' => ∀ q, w'.cell? ⟨w.heap.size, q, none⟩ = (#[.int .i64 o, .int .u8 s0, .int .u8 s1, .int .u8 s2, .int .u8 s3, .int .u8 s4, .int .u8 s5, .int .u32 si, .int .u8 d0, .int .u8 d1, .int .u8 d2, .int .u8 d3, .int .u8 d4, .int .u8 d5, .int .u32 di] : Array Value)[q]?) (first | assumption | exact cells_alloc (heap_lt H3.out.1) hcc4 | go_keep) (first
    | (refine step_copy rfl _ _ rfl ⟨some ⟨w.heap.size, 1, none⟩, 6, S⟩ (w.heap.size + 1) 8 _ _ R3 5 rfl (by show _ = Value.slice _ _ _; rw [HN.out.2.2.1]; rfl) (by exact H3.out.2.1) (by exact (HCP.out _ H3.out.1).1) (by rw [HN.out.2.2.1]; omega) (by rw [HN.out.2.2.1, L3.out]; omega) ?_; intro w4 hg4 hb4; have H4 : Hid (EncI w gh _ _ _ w4) := enc_next H3.out (Below.refl _ _).drew hg4.out hb4.out; have hc4 : ∀ q, w4.cell? ⟨w.heap.size, q, none⟩ = (#[.int .i64 o, .int .u8 s0, .int .u8 s1, .int .u8 s2, .int .u8 s3, .int .u8 s4, .int .u8 s5, .int .u32 si, .int .u8 d0, .int .u8 d1, .int .u8 d2, .int .u8 d3, .int .u8 d4, .int .u8 d5, .int .u32 di] : Array Value)[q]? := (fun q => cell_of_heap H4.out.1 q))
    | fail)
  have L4 : Hid ((splice R3 8 S).length = 28) := splice_28 _ _ _ L3.out (by rw [HN.out.2.2.1]; omega)
  clear hg4 hb4 H3 hcc4 hc4
  generalize splice R3 8 S = R4 at *
  have hcc5 : ∀ q, w4.cell? ⟨w.heap.size, q, none⟩ = (#[.int .i64 o, .int .u8 s0, .int .u8 s1, .int .u8 s2, .int .u8 s3, .int .u8 s4, .int .u8 s5, .int .u32 si, .int .u8 d0, .int .u8 d1, .int .u8 d2, .int .u8 d3, .int .u8 d4, .int .u8 d5, .int .u32 di] : Array Value)[q]? := fun q => cell_of_heap H4.out.1 q
  go_wp2
  go_region_held3 (fun w' => ∀ q, w'.cell? ⟨w.heap.size, q, none⟩ = (#[.int .i64 o, .int .u8 s0, .int .u8 s1, .int .u8 s2, .int .u8 s3, .int .u8 s4, .int .u8 s5, .int .u32 si, .int .u8 d0, .int .u8 d1, .int .u8 d2, .int .u8 d3, .int .u8 d4, .int .u8 d5, .int .u32 di] : Array Value)[q]?) (first | assumption | exact cells_alloc (heap_lt H4.out.1) hcc5 | go_keep) (first
    | (refine step_copy rfl _ _ rfl ⟨some ⟨w4.heap.size, 0, none⟩, 4, I⟩ (w.heap.size + 1) 14 _ _ R4 5 rfl (by show _ = Value.slice _ _ _; rw [HN.out.2.2.2.1]; rfl) (by exact (heap_old w4.drew _ (heap_lt (w := w4.drew) H4.out.2.1)).trans H4.out.2.1) (by exact Part.of_row (heap_new w4.drew _) (by rw [HN.out.2.2.2.1]; omega) HBS.out) (by rw [HN.out.2.2.2.1]; omega) (by rw [HN.out.2.2.2.1, L4.out]; omega) ?_; intro w5 hg5 hb5; have H5 : Hid (EncI w gh _ _ _ w5) := enc_next H4.out (((Below.refl _ _).drew).alloc (Nat.le_refl _) _) hg5.out hb5.out; have hc5 : ∀ q, w5.cell? ⟨w.heap.size, q, none⟩ = (#[.int .i64 o, .int .u8 s0, .int .u8 s1, .int .u8 s2, .int .u8 s3, .int .u8 s4, .int .u8 s5, .int .u32 si, .int .u8 d0, .int .u8 d1, .int .u8 d2, .int .u8 d3, .int .u8 d4, .int .u8 d5, .int .u32 di] : Array Value)[q]? := (fun q => cell_of_heap H5.out.1 q))
    | (go_at_call 77; refine (HPS.out _).mono ?_; rintro e w' ⟨rfl, hw⟩; subst w')
    | fail)
  have L5 : Hid ((splice R4 14 I).length = 28) := splice_28 _ _ _ L4.out (by rw [HN.out.2.2.2.1]; omega)
  clear hg5 hb5 H4 hcc5 hc5
  generalize splice R4 14 I = R5 at *
  have hcc6 : ∀ q, w5.cell? ⟨w.heap.size, q, none⟩ = (#[.int .i64 o, .int .u8 s0, .int .u8 s1, .int .u8 s2, .int .u8 s3, .int .u8 s4, .int .u8 s5, .int .u32 si, .int .u8 d0, .int .u8 d1, .int .u8 d2, .int .u8 d3, .int .u8 d4, .int .u8 d5, .int .u32 di] : Array Value)[q]? := fun q => cell_of_heap H5.out.1 q
  go_wp2
  go_region_held3 (fun w' => ∀ q, w'.cell? ⟨w.heap.size, q, none⟩ = (#[.int .i64 o, .int .u8 s0, .int .u8 s1, .int .u8 s2, .int .u8 s3, .int .u8 s4, .int .u8 s5, .int .u32 si, .int .u8 d0, .int .u8 d1, .int .u8 d2, .int .u8 d3, .int .u8 d4, .int .u8 d5, .int .u32 di] : Array Value)[q]?) (first | assumption | exact cells_alloc (heap_lt H5.out.1) hcc6 | go_keep) (first
    | (refine step_copy rfl _ _ rfl ⟨some ⟨w.heap.size, 8, none⟩, 6, D⟩ (w.heap.size + 1) 18 _ _ R5 5 rfl (by show _ = Value.slice _ _ _; rw [HN.out.2.2.2.2.1]; rfl) (by exact H5.out.2.1) (by exact (HCP.out _ H5.out.1).2) (by rw [HN.out.2.2.2.2.1]; omega) (by rw [HN.out.2.2.2.2.1, L5.out]; omega) ?_; intro w6 hg6 hb6; have H6 : Hid (EncI w gh _ _ _ w6) := enc_next H5.out (Below.refl _ _).drew hg6.out hb6.out; have hc6 : ∀ q, w6.cell? ⟨w.heap.size, q, none⟩ = (#[.int .i64 o, .int .u8 s0, .int .u8 s1, .int .u8 s2, .int .u8 s3, .int .u8 s4, .int .u8 s5, .int .u32 si, .int .u8 d0, .int .u8 d1, .int .u8 d2, .int .u8 d3, .int .u8 d4, .int .u8 d5, .int .u32 di] : Array Value)[q]? := (fun q => cell_of_heap H6.out.1 q))
    | fail)
  have L6 : Hid ((splice R5 18 D).length = 28) := splice_28 _ _ _ L5.out (by rw [HN.out.2.2.2.2.1]; omega)
  clear hg6 hb6 H5 hcc6 hc6
  generalize splice R5 18 D = R6 at *
  have hcc7 : ∀ q, w6.cell? ⟨w.heap.size, q, none⟩ = (#[.int .i64 o, .int .u8 s0, .int .u8 s1, .int .u8 s2, .int .u8 s3, .int .u8 s4, .int .u8 s5, .int .u32 si, .int .u8 d0, .int .u8 d1, .int .u8 d2, .int .u8 d3, .int .u8 d4, .int .u8 d5, .int .u32 di] : Array Value)[q]? := fun q => cell_of_heap H6.out.1 q
  go_wp2
  go_region_held3 (fun w' => ∀ q, w'.cell? ⟨w.heap.size, q, none⟩ = (#[.int .i64 o, .int .u8 s0, .int .u8 s1, .int .u8 s2, .int .u8 s3, .int .u8 s4, .int .u8 s5, .int .u32 si, .int .u8 d0, .int .u8 d1, .int .u8 d2, .int .u8 d3, .int .u8 d4, .int .u8 d5, .int .u32 di] : Array Value)[q]?) (first | assumption | exact cells_alloc (heap_lt H6.out.1) hcc7 | go_keep) (first
    | (refine step_copy rfl _ _ rfl ⟨some ⟨w6.heap.size, 0, none⟩, 4, J⟩ (w.heap.size + 1) 24 _ _ R6 5 rfl (by show _ = Value.slice _ _ _; rw [HN.out.2.2.2.2.2]; rfl) (by exact (heap_old w6.drew _ (heap_lt (w := w6.drew) H6.out.2.1)).trans H6.out.2.1) (by exact Part.of_row (heap_new w6.drew _) (by rw [HN.out.2.2.2.2.2]; omega) HBD.out) (by rw [HN.out.2.2.2.2.2]; omega) (by rw [HN.out.2.2.2.2.2, L6.out]; omega) ?_; intro w7 hg7 hb7; have H7 : Hid (EncI w gh _ _ _ w7) := enc_next H6.out (((Below.refl _ _).drew).alloc (Nat.le_refl _) _) hg7.out hb7.out; have hc7 : ∀ q, w7.cell? ⟨w.heap.size, q, none⟩ = (#[.int .i64 o, .int .u8 s0, .int .u8 s1, .int .u8 s2, .int .u8 s3, .int .u8 s4, .int .u8 s5, .int .u32 si, .int .u8 d0, .int .u8 d1, .int .u8 d2, .int .u8 d3, .int .u8 d4, .int .u8 d5, .int .u32 di] : Array Value)[q]? := (fun q => cell_of_heap H7.out.1 q))
    | (go_at_call 77; refine (HPD.out _).mono ?_; rintro e w' ⟨rfl, hw⟩; subst w')
    | fail)
  have L7 : Hid ((splice R6 24 J).length = 28) := splice_28 _ _ _ L6.out (by rw [HN.out.2.2.2.2.2]; omega)
  clear hg7 hb7 H6 hcc7 hc7
  generalize splice R6 24 J = R7 at *
  go_wp2
  go_ret2
  exact ⟨w.heap.size + 1, rfl, by omega, by rw [HE.out, ← HL.out]; exact H7.out.2.1, H7.out.2.2.2.2⟩
end Go.Proofs.Ytaaoelhmanahpaa

/-
  Tell, Probe, Ask: the program's and the document's.
-/
namespace Go.Proofs.Ytaaoelhmanahpaa
open Go.RowKit
set_option linter.all false

def Z15 : Array Value := #[.int .i64 0, .int .u8 0, .int .u8 0, .int .u8 0, .int .u8 0, .int .u8 0, .int .u8 0, .int .u32 0, .int .u8 0, .int .u8 0, .int .u8 0, .int .u8 0, .int .u8 0, .int .u8 0, .int .u32 0]
def tellP (m : Mac) (p : Arp) : Arp := ⟨2, m, p.di, p.s, p.si⟩
set_option maxHeartbeats 400000 in
theorem refAsk_any (m : Mac) (src dst : Int) (w : World) : Calls Try.prog 24 #[m.val, .int .u32 src, .int .u32 dst] w fun e w' => e = .returned (askP m src dst).val ∧ Below w.heap.size w w' := by
  obtain ⟨s0, s1, s2, s3, s4, s5⟩ := m
  simp only [Arp.val, Mac.val, askP, zeroMac]
  go_enter Try.func24, Try.ntmps24
  go_wp2
  exact bodyPost_ret (v := .agg #[.int .i64 1, .int .u8 s0, .int .u8 s1, .int .u8 s2, .int .u8 s3, .int .u8 s4, .int .u8 s5, .int .u32 src, .int .u8 0, .int .u8 0, .int .u8 0, .int .u8 0, .int .u8 0, .int .u8 0, .int .u32 dst]) (by simp [results, Try.results24, go_sem]) rfl ⟨rfl, bpush (bpush (Below.refl _ _) _) _⟩

set_option maxHeartbeats 400000 in
theorem tell_any (m : Mac) (p : Arp) (w : World) : Calls Try.prog 49 #[m.val, p.val] w fun e w' => e = .returned (tellP m p).val ∧ Below w.heap.size w w' := by
  obtain ⟨m0, m1, m2, m3, m4, m5⟩ := m
  obtain ⟨o, ⟨s0, s1, s2, s3, s4, s5⟩, si, ⟨d0, d1, d2, d3, d4, d5⟩, di⟩ := p
  simp only [Arp.val, Mac.val, tellP]
  go_enter Try.func49, Try.ntmps49
  go_wp2
  exact bodyPost_ret (v := .agg #[.int .i64 2, .int .u8 m0, .int .u8 m1, .int .u8 m2, .int .u8 m3, .int .u8 m4, .int .u8 m5, .int .u32 di, .int .u8 s0, .int .u8 s1, .int .u8 s2, .int .u8 s3, .int .u8 s4, .int .u8 s5, .int .u32 si]) (by simp [results, Try.results49, go_sem]) rfl ⟨rfl, bpush (bpush (bpush (Below.refl _ _) _) _) _⟩

set_option maxHeartbeats 400000 in
theorem refTell_any (m : Mac) (p : Arp) (w : World) : Calls Try.prog 23 #[m.val, p.val] w fun e w' => e = .returned (tellP m p).val ∧ Below w.heap.size w w' := by
  obtain ⟨m0, m1, m2, m3, m4, m5⟩ := m
  obtain ⟨o, ⟨s0, s1, s2, s3, s4, s5⟩, si, ⟨d0, d1, d2, d3, d4, d5⟩, di⟩ := p
  simp only [Arp.val, Mac.val, tellP]
  go_enter Try.func23, Try.ntmps23
  go_wp2
  exact bodyPost_ret (v := .agg #[.int .i64 2, .int .u8 m0, .int .u8 m1, .int .u8 m2, .int .u8 m3, .int .u8 m4, .int .u8 m5, .int .u32 di, .int .u8 s0, .int .u8 s1, .int .u8 s2, .int .u8 s3, .int .u8 s4, .int .u8 s5, .int .u32 si]) (by simp [results, Try.results23, go_sem]) rfl ⟨rfl, bpush (bpush (bpush (Below.refl _ _) _) _) _⟩

set_option maxHeartbeats 400000 in
theorem refProbe_any (m : Mac) (ip : Int) (w : World) : Calls Try.prog 25 #[m.val, .int .u32 ip] w fun e w' => e = .returned (askP m 0 ip).val ∧ Below w.heap.size w w' := by
  have HA : Hid (∀ w, Calls Try.prog 24 #[m.val, .int .u32 0, .int .u32 ip] w fun e w' => e = .returned (askP m 0 ip).val ∧ Below w.heap.size w w') := fun w => refAsk_any m 0 ip w
  obtain ⟨s0, s1, s2, s3, s4, s5⟩ := m
  simp only [Arp.val, Mac.val, askP, zeroMac] at *
  go_enter Try.func25, Try.ntmps25
  go_wp2_with fail
  refine (HA.out _).mono ?_
  rintro e w1 ⟨rfl, hb1⟩
  have HB := hid (bstep (bpush (bpush (Below.refl _ _) (.cells #[.int .u8 s0, .int .u8 s1, .int .u8 s2, .int .u8 s3, .int .u8 s4, .int .u8 s5] 24)) (.cells Z15 42)) hb1)
  have HG := hid (kept (g := w.heap.size + 1) (by have := heap_new (w.alloc (.cells #[.int .u8 s0, .int .u8 s1, .int .u8 s2, .int .u8 s3, .int .u8 s4, .int .u8 s5] 24)) (.cells Z15 42); rwa [World.size_alloc] at this) hb1)
  clear hb1
  go_wp2_with (first
    | (refine wpList_store_row rfl 42 _ _ rfl (w.heap.size + 1) #[.int .i64 1, .int .u8 s0, .int .u8 s1, .int .u8 s2, .int .u8 s3, .int .u8 s4, .int .u8 s5, .int .u32 0, .int .u8 0, .int .u8 0, .int .u8 0, .int .u8 0, .int .u8 0, .int .u8 0, .int .u32 ip] rfl rfl 42 _ HG.out (by kernel_rfl) rfl (by first | kernel_rfl | simp [Value.oneCell']) ?_) | fail)
  refine bodyPost_ret (v := .agg #[.int .i64 1, .int .u8 s0, .int .u8 s1, .int .u8 s2, .int .u8 s3, .int .u8 s4, .int .u8 s5, .int .u32 0, .int .u8 0, .int .u8 0, .int .u8 0, .int .u8 0, .int .u8 0, .int .u8 0, .int .u32 ip]) ?_ (by rfl) ⟨rfl, bbut HB.out (But.setRow _ _ _) (by omega)⟩
  exact results_row1 Try.results25 _ _ (w.heap.size + 1) 42 _ (0, 0) _ rfl (setRow_heap w1 _ _ _ _ _ HG.out) Try.underlying42 rfl (by kernel_rfl)

end Go.Proofs.Ytaaoelhmanahpaa
