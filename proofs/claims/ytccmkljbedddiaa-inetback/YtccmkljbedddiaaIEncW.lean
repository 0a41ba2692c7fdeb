/-
  inet.Encode.
-/
import Derived.Test.YtccmkljbedddiaaILay
import Derived.Test.YtccmkljbedddiaaBSum
import Derived.Test.YtccmkljbedddiaaBAns
namespace Go.Proofs.Ytccmkljbedddiaa
open Go.RowKit
set_option linter.all false

/-- a head's bytes, with a length and a sum. -/
def headL (h : Ip) (n s : Int) : List Int := [69, h.tos % 256] ++ op2 n ++ op2 h.id ++ op2 (fl h.keep) ++ [h.ttl % 256, h.proto % 256] ++ op2 s ++ ip4 h.src ++ ip4 h.dst
theorem headL_len (h : Ip) (n s : Int) : (headL h n s).length = 20 := rfl
theorem headL_bd (h : Ip) (n s : Int) : ∀ z, z ∈ headL h n s → 0 ≤ z ∧ z ≤ 255 := fun z hz => by
  simp [headL, op2, ip4] at hz; omega
theorem layL_is (h : Ip) (len : Nat) (Z : List Int) : layL h len (List.replicate 20 0 ++ Z) = headL h len 0 ++ Z := rfl
theorem sum_laid (h : Ip) (n s : Int) (Z : List Int) : splice (headL h n 0 ++ Z) 10 (bytesOf s 2) = headL h n s ++ Z := rfl
theorem data_laid (h : Ip) (n s : Int) (Z X : List Int) (hX : X.length = Z.length) : splice (headL h n s ++ Z) 20 X = headL h n s ++ X := by
  unfold splice
  rw [List.take_append_of_le_length (by rw [headL_len]; omega), List.take_of_length_le (by rw [headL_len]; omega), List.drop_eq_nil_of_le (by simp [headL_len, hX]), List.append_nil]
/-- a head's sum. -/
def sumH (h : Ip) (n : Int) : Int := sumOf (headL h n 0)
theorem sumOf_bd (l : List Int) (hz : ∀ z, z ∈ l → 0 ≤ z ∧ z ≤ 255) : 0 ≤ sumOf l ∧ sumOf l ≤ 65535 := by
  have := cs_bd (run l).1 (run_bd l hz).1
  unfold sumOf; omega
/-- a packet's bytes. -/
def encL (h : Ip) (zs : List Int) : List Int := headL h (20 + zs.length : Int) (sumH h (20 + zs.length : Int)) ++ zs
theorem encL_len (h : Ip) (zs : List Int) : (encL h zs).length = 20 + zs.length := by rw [encL, List.length_append, headL_len]
theorem encL_bd (h : Ip) (zs : List Int) (hz : ∀ z, z ∈ zs → 0 ≤ z ∧ z ≤ 255) : ∀ z, z ∈ encL h zs → 0 ≤ z ∧ z ≤ 255 := fun z hm => by
  rcases List.mem_append.1 hm with hm | hm
  · exact headL_bd _ _ _ z hm
  · exact hz z hm

set_option maxHeartbeats 400000 in
theorem encode_arg (h : Ip) (v : Value) (w : World) (hh : layB h = false) :
    Calls Try.prog 11 #[h.val, v] w fun e w' => e = .returned (.tuple #[.slice none 0 0, .int .i64 1]) ∧ Below w.heap.size w w' := by
  have HC : Hid (∀ w, Calls Try.prog 19 #[h.val] w fun e w' => e = .returned (.bool false) ∧ Below w.heap.size w w') := fun w => by have := canBeLaid_any h w; rwa [hh] at this
  clear hh
  obtain ⟨ht, hi, hl, hp, hk, hs, hd⟩ := h
  simp only [Ip.val] at *
  go_enter Try.func11, Try.ntmps11
  go_wp2_with fail
  refine (HC.out _).mono ?_
  rintro e w1 ⟨rfl, hb1⟩
  have HB := hid (bstep (bpush (Below.refl _ w) _) hb1)
  clear hb1
  go_wp2
  go_ret2
  exact ⟨rfl, HB.out⟩
set_option maxHeartbeats 400000 in
theorem encode_long (h : Ip) (a : Option Addr) (l c : Nat) (w : World) (hh : layB h = true) (hl : 1480 < l) :
    Calls Try.prog 11 #[h.val, .slice a l c] w fun e w' => e = .returned (.tuple #[.slice none 0 0, .int .i64 2]) ∧ Below w.heap.size w w' := by
  have HC : Hid (∀ w, Calls Try.prog 19 #[h.val] w fun e w' => e = .returned (.bool true) ∧ Below w.heap.size w w') := fun w => by have := canBeLaid_any h w; rwa [hh] at this
  clear hh
  have h1 : (1480 : Int) < (l : Int) := by omega
  obtain ⟨ht, hi, hl, hp, hk, hs, hd⟩ := h
  simp only [Ip.val] at *
  go_enter Try.func11, Try.ntmps11
  go_wp2_with fail
  refine (HC.out _).mono ?_
  rintro e w1 ⟨rfl, hb1⟩
  have HB := hid (bstep (bpush (Below.refl _ w) _) hb1)
  clear hb1
  go_wp2
  go_ret2
  exact ⟨rfl, HB.out⟩

/-- an Encode under way: the head's box, the bytes so far, the data. -/
def EncI (w : World) (gb : Nat) (F : Array Value) (pt : Part) (L : List Int) (w' : World) : Prop :=
  w'.heap[w.heap.size]? = some (.cells F 27 (0, 0)) ∧ w'.heap[gb]? = some (.cells (u8s L).toArray 5 (0, 0)) ∧ pt.ok w' ∧ pt.off gb ∧ w.heap.size < gb ∧ Below w.heap.size w w'
theorem encI_first {w W : World} {F : Array Value} {pt : Part} {L : List Int} (hF : W.heap[w.heap.size]? = some (.cells F 27 (0, 0))) (hp : pt.ok W) (hb : Below w.heap.size w W) : EncI w W.heap.size F pt L (W.alloc (.cells (u8s L).toArray 5)) :=
  ⟨(heap_old W _ (heap_lt hF)).trans hF, heap_new W _, Part.ok_below hp ((Below.refl _ _).alloc (Nat.le_refl _) _), Part.ok_new hp _ (Nat.le_refl _), heap_lt hF, bpush hb _⟩
theorem encI_next {w W W' w' : World} {gb : Nat} {F : Array Value} {pt : Part} {L L' : List Int} (h : EncI w gb F pt L W) (hB : Below W.heap.size W W') (hg : w'.heap[gb]? = some (.cells (u8s L').toArray 5 (0, 0))) (hb : But gb W' w') : EncI w gb F pt L' w' :=
  ⟨keptBut (kept h.1 hB) hb (by have := h.2.2.2.2.1; omega), hg, Part.ok_but (Part.ok_below h.2.2.1 hB) h.2.2.2.1 hb, h.2.2.2.1, h.2.2.2.2.1, bbut (bstep h.2.2.2.2.2 hB) hb (by have := h.2.2.2.2.1; omega)⟩

set_option maxRecDepth 20000 in
set_option maxHeartbeats 2000000 in
theorem encode_ok (h : Ip) (pt : Part) (w : World) (hok : h.ok) (hh : layB h = true) (hp : pt.ok w) (hl : pt.zs.length ≤ 1480) :
    Calls Try.prog 11 #[h.val, pt.val] w fun e w' => ∃ g, e = .returned (.tuple #[.slice (some ⟨g, 0, none⟩) (20 + pt.zs.length) (20 + pt.zs.length), .int .i64 0]) ∧ w.heap.size ≤ g ∧ w'.heap[g]? = some (.cells (u8s (encL h pt.zs)).toArray 5 (0, 0)) ∧ Below w.heap.size w w' := by
  have HC : Hid (∀ w, Calls Try.prog 19 #[h.val] w fun e w' => e = .returned (.bool true) ∧ Below w.heap.size w w') := fun w => by have := canBeLaid_any h w; rwa [hh] at this
  have h1 : ¬ (1480 : Int) < (pt.zs.length : Int) := by omega
  obtain ⟨N, hN⟩ : ∃ N : Nat, N = 20 + pt.zs.length := ⟨_, rfl⟩
  have hNi : ((N : Nat) : Int) = 20 + (pt.zs.length : Int) := by omega
  have HN := hid hN
  have hmk : ∀ wx : World, (Instr.makeSlice 28 (.int .i64 (20 + (pt.zs.length : Int))) (.int .i64 (20 + (pt.zs.length : Int)))).run Try.prog wx = .ok (.slice (some ⟨wx.heap.size, 0, none⟩) N N) (wx.alloc (.cells (u8s (List.replicate 20 0 ++ List.replicate pt.zs.length 0)).toArray 5)) := fun wx => by
    have := Go.run_make_row' (P := Try.prog) 28 5 (.int .u8 0) 1 Try.underlying28 infoU8 rfl .i64 .i64 N (by omega) (by omega) wx
    rw [made_eq, hNi] at this
    rw [List.replicate_append_replicate, ← hN]
    exact this
  have HLF : Hid (∀ (w' : World) (gb : Nat), w'.heap[gb]? = some (.cells (u8s (List.replicate 20 0 ++ List.replicate pt.zs.length 0)).toArray 5 (0, 0)) → Calls Try.prog 20 #[.slice (some ⟨gb, 0, none⟩) N N, h.val] w' fun e w'' => e = .returned (.tuple #[]) ∧ w''.heap[gb]? = some (.cells (u8s (headL h (20 + pt.zs.length : Int) 0 ++ List.replicate pt.zs.length 0)).toArray 5 (0, 0)) ∧ But gb w' w'') := fun w' gb hg => by
    have := layFields_any gb N _ h w' hok hh (by simp; omega) (by omega) (by omega) hg
    rw [layL_is, hNi] at this
    exact this
  have HSU : Hid (∀ (w' : World) (gb g : Nat), w'.heap[gb]? = some (.cells (u8s (headL h (20 + pt.zs.length : Int) 0 ++ List.replicate pt.zs.length 0)).toArray 5 (0, 0)) → w'.cell? ⟨g, 0, none⟩ = some (.slice (some ⟨gb, 0, none⟩) 20 N) → Calls Try.prog 22 #[.slice (some ⟨g, 0, none⟩) 1 1] w' fun e w'' => e = .returned (.int .u16 (sumH h (20 + pt.zs.length : Int))) ∧ w'' = w') := fun w' gb g hg hc => by
    refine sum_one g ⟨some ⟨gb, 0, none⟩, N, headL h (20 + pt.zs.length : Int) 0⟩ w' hc (Part.of_heap hg 0 (by simp only [headL_len]; omega) (fun j hj => ?_) (headL_bd _ _ _)) (by simp only [headL_len]; omega)
    have hj' : j < 20 := hj
    rw [Nat.zero_add, u8s_at _ _ (by simp [headL_len]; omega)]
    congr 2
    simp only [List.getD_eq_getElem?_getD]
    rw [List.getElem?_append_left (by rw [headL_len]; omega)]
  have hsb := sumOf_bd (headL h (20 + pt.zs.length : Int) 0) (headL_bd _ _ _)
  have HLY : Hid (∀ (w' : World) (gb : Nat), w'.heap[gb]? = some (.cells (u8s (headL h (20 + pt.zs.length : Int) 0 ++ List.replicate pt.zs.length 0)).toArray 5 (0, 0)) → Calls Try.prog 21 #[.slice (some ⟨gb, 0, none⟩) N N, .int .i64 10, .int .i64 12, .int .u64 (sumH h (20 + pt.zs.length : Int))] w' fun e w'' => e = .returned (.tuple #[]) ∧ w''.heap[gb]? = some (.cells (u8s (headL h (20 + pt.zs.length : Int) (sumH h (20 + pt.zs.length : Int)) ++ List.replicate pt.zs.length 0)).toArray 5 (0, 0)) ∧ But gb w' w'') := fun w' gb hg =>
    lay_any gb N _ 10 12 2 _ w' (Or.inr (Or.inl rfl)) rfl (by simp [headL_len]; omega) (by omega) (by omega) hsb.1 (by have := hsb.2; omega) hg
  have hsw : IntKind.u64.wrap (sumH h (20 + pt.zs.length : Int)) = sumH h (20 + pt.zs.length : Int) := by unfold sumH; simp only [IntKind.wrap_u64]; omega
  have HEND : Hid (splice (headL h (20 + pt.zs.length : Int) (sumH h (20 + pt.zs.length : Int)) ++ List.replicate pt.zs.length 0) 20 pt.zs = encL h pt.zs) := data_laid _ _ _ _ _ (by simp)
  have HLEN : Hid ((headL h (20 + pt.zs.length : Int) (sumH h (20 + pt.zs.length : Int)) ++ List.replicate pt.zs.length 0).length = N) := by unfold Hid; simp [headL_len]; omega
  have hN20 : (20 : Int) ≤ (N : Int) := by omega
  have HPO := hid hp
  have HF0 : Hid (∀ w' : World, Below (w.heap.size + 1) (w.alloc (.cells h.cells 27)) w' → w'.heap[w.heap.size]? = some (.cells h.cells 27 (0, 0))) := fun w' hb => (hb.block _ (by omega)).trans (heap_new w _)
  rw [← hN]
  clear hh hok hp hsb hN
  generalize encL h pt.zs = EL at *
  generalize sumH h _ = SH at *
  generalize headL h _ SH ++ List.replicate pt.zs.length (0 : Int) = L2 at *
  generalize headL h _ 0 ++ List.replicate pt.zs.length (0 : Int) = L1 at *
  generalize List.replicate 20 (0 : Int) ++ List.replicate pt.zs.length (0 : Int) = L0 at *
  obtain ⟨ht, hi, hl', hp, hk, hs, hd⟩ := h
  simp only [Ip.val, Ip.cells] at *
  have HV : Hid (pt.val = .slice pt.a pt.zs.length pt.c) := rfl
  rw [HV.out]
  obtain ⟨dl, Hdl⟩ : ∃ dl, Hid (pt.zs.length = dl) := ⟨_, rfl⟩
  rw [Hdl.out] at h1 hNi hmk hl ⊢
  clear hNi
  go_enter Try.func11, Try.ntmps11
  go_wp2_with fail
  refine (HC.out _).mono ?_
  rintro e w1 ⟨rfl, hb1⟩
  have HB1 := hid (bstep (bpush (Below.refl _ w) _) hb1)
  have HF1 := hid (HF0.out _ (by simpa using hb1))
  have HP1 := hid (Part.ok_below HPO.out HB1.out)
  clear hb1
  have cc : ∀ q, w1.cell? ⟨w.heap.size, q, none⟩ = (#[.int .i64 ht, .int .i64 hi, .int .i64 hl', .int .i64 hp, .bool hk, .int .u32 hs, .int .u32 hd] : Array Value)[q]? := fun q => cell_of_heap HF1.out q
  have hlt := heap_lt HF1.out
  go_wp2_with fail
  refine (HLF.out _ _ (heap_new _ _)).mono ?_
  rintro e w2 ⟨rfl, hg2, hb2⟩
  have H2 := hid (encI_next (encI_first (L := L0) HF1.out HP1.out HB1.out) (Below.refl _ _) hg2 hb2)
  clear hg2 hb2 cc HF1 HP1 HB1 hlt
  generalize w1.heap.size = gb at *
  go_wp2_with fail
  refine (HSU.out _ gb _ ((heap_old w2 _ (heap_lt H2.out.2.1)).trans H2.out.2.1) (by simp [go_sem])).mono ?_
  rintro e w3 ⟨rfl, hw3⟩
  subst w3
  go_wp2_with fail
  refine (HLY.out _ gb ((heap_old w2 _ (heap_lt H2.out.2.1)).trans H2.out.2.1)).mono ?_
  rintro e w3 ⟨rfl, hg3, hb3⟩
  have H3 := hid (encI_next H2.out (bpush (Below.refl _ _) _) hg3 hb3)
  clear hg3 hb3 H2
  by_cases hz : N = 20
  · subst hz
    have hcp : ∀ (wx : World) (ty : TypeId), (Builtin.copy_ #[28, 28] ty #[.slice (some ⟨gb, 0, none⟩) 0 0, .slice pt.a dl pt.c]).run Try.prog wx = .ok (goInt 0) wx := fun wx ty => run_copy_none wx _ _ _ 5 _ _ _ _ _ _ Try.underlying28 sizeU8 (by simp)
    have HE2 : Hid (L2 = EL) := by
      have h0 : pt.zs = [] := List.eq_nil_of_length_eq_zero (by have := HN.out; have := Hdl.out; omega)
      have := HEND.out
      rw [h0] at this
      unfold Hid
      rw [← this]
      simp [splice]
    go_wp2
    go_ret2
    exact ⟨gb, rfl, by have := H3.out.2.2.2.2.1; omega, by rw [← HE2.out]; exact H3.out.2.1, H3.out.2.2.2.2.2⟩
  · go_wp2_with (first
      | (refine wpList_copy rfl _ _ rfl pt gb 20 (N - 20) (N - 20) L2 5 rfl (by show _ = Value.slice _ _ _; rw [Hdl.out]; rfl) H3.out.2.1 H3.out.2.2.1 (by have := HN.out; omega) (by have := HN.out; rw [HLEN.out]; omega) ?_; intro w4 hg4 hb4) | fail)
    rw [HEND.out] at hg4
    have H4 := hid (encI_next H3.out (Below.refl _ _) hg4.out hb4.out)
    clear hg4 hb4 H3
    go_wp2
    go_ret2
    exact ⟨gb, rfl, by have := H4.out.2.2.2.2.1; omega, H4.out.2.1, H4.out.2.2.2.2.2⟩
end Go.Proofs.Ytccmkljbedddiaa
