/-
  inet.layFields.
-/
import Derived.Test.YtccmkljbedddiaaIEnc
namespace Go.Proofs.Ytccmkljbedddiaa
open Go.RowKit
set_option linter.all false

/-- the flags. -/
def fl (k : Bool) : Int := if k then 16384 else 0
theorem fl_bd (k : Bool) : 0 ≤ fl k ∧ fl k ≤ 16384 := by cases k <;> simp [fl]
/-- what layFields lays. -/
def layL (h : Ip) (len : Nat) (L : List Int) : List Int :=
  splice (splice (splice (splice (splice (splice (splice (splice (splice L 0 (bytesOf 69 1)) 1 (bytesOf h.tos 1)) 2 (bytesOf (len : Int) 2)) 4 (bytesOf h.id 2)) 6 (bytesOf (fl h.keep) 2)) 8 (bytesOf h.ttl 1)) 9 (bytesOf h.proto 1)) 12 (bytesOf h.src 4)) 16 (bytesOf h.dst 4)
theorem splice_same (L X : List Int) (o n : Nat) (h : L.length = n) (hx : o + X.length ≤ n) : (splice L o X).length = n := by
  rw [length_splice _ _ _ (by omega), h]
/-- a layFields under way: the head's box, the bytes so far. -/
def LayI (w : World) (g : Nat) (F : Array Value) (len : Nat) (L : List Int) (w' : World) : Prop :=
  w'.heap[w.heap.size]? = some (.cells F 27 (0, 0)) ∧ w'.heap[g]? = some (.cells (u8s L).toArray 5 (0, 0)) ∧ L.length = len ∧ g < w.heap.size ∧ But g w w'
theorem layI_next {w W w' : World} {g : Nat} {F : Array Value} {len : Nat} {L X : List Int} {o : Nat} (h : LayI w g F len L W) (hx : o + X.length ≤ len) (hg : w'.heap[g]? = some (.cells (u8s (splice L o X)).toArray 5 (0, 0))) (hb : But g W w') : LayI w g F len (splice L o X) w' :=
  ⟨keptBut h.1 hb (by have := h.2.2.2.1; omega), hg, splice_same _ _ _ _ h.2.2.1 hx, h.2.2.2.1, h.2.2.2.2.trans hb⟩
theorem layI_first {w : World} {g : Nat} {F : Array Value} {len : Nat} {L : List Int} (hg : w.heap[g]? = some (.cells (u8s L).toArray 5 (0, 0))) (hL : L.length = len) : LayI w g F len L (w.alloc (.cells F 27)) :=
  ⟨heap_new w _, (heap_old w _ (heap_lt hg)).trans hg, hL, heap_lt hg, But.alloc g w _⟩

set_option maxRecDepth 20000 in
set_option maxHeartbeats 2000000 in
theorem layFields_any (g len : Nat) (L : List Int) (h : Ip) (w : World) (hok : h.ok) (hh : layB h = true) (hL : L.length = len) (hl : 20 ≤ len) (hl2 : len ≤ 65535)
    (hg : w.heap[g]? = some (.cells (u8s L).toArray 5 (0, 0))) :
    Calls Try.prog 20 #[.slice (some ⟨g, 0, none⟩) len len, h.val] w fun e w' =>
      e = .returned (.tuple #[]) ∧ w'.heap[g]? = some (.cells (u8s (layL h len L)).toArray 5 (0, 0)) ∧ But g w w' := by
  have hbd : (0 ≤ h.tos ∧ h.tos ≤ 255) ∧ (0 ≤ h.proto ∧ h.proto ≤ 255) ∧ (0 ≤ h.id ∧ h.id ≤ 65535) ∧ (1 ≤ h.ttl ∧ h.ttl ≤ 255) := by simpa [layB, inB, and_assoc] using hh
  obtain ⟨-, -, -, -, ⟨s0, s1⟩, ⟨d0, d1⟩⟩ := hok
  have HF := hid (fl_bd h.keep)
  have HFk : Hid (fl h.keep = if h.keep then 16384 else 0) := rfl
  obtain ⟨ht, hi, hl', hp, hk, hs, hd⟩ := h
  simp only [Ip.val] at *
  obtain ⟨⟨t0, t1⟩, ⟨p0, p1⟩, ⟨i0, i1⟩, ⟨l0, l1⟩⟩ := hbd
  have k_ht : IntKind.u64.wrap ht = ht := by simp only [IntKind.wrap_u64]; omega
  have k_hi : IntKind.u64.wrap hi = hi := by simp only [IntKind.wrap_u64]; omega
  have k_hl_ : IntKind.u64.wrap hl' = hl' := by simp only [IntKind.wrap_u64]; omega
  have k_hp : IntKind.u64.wrap hp = hp := by simp only [IntKind.wrap_u64]; omega
  have k_hs : IntKind.u64.wrap hs = hs := by simp only [IntKind.wrap_u64]; omega
  have k_hd : IntKind.u64.wrap hd = hd := by simp only [IntKind.wrap_u64]; omega
  have k_len : IntKind.u64.wrap (len : Int) = (len : Int) := by simp only [IntKind.wrap_u64]; omega
  have C0 : Hid (∀ (w' : World) (L : List Int), LayI w g #[.int .i64 ht, .int .i64 hi, .int .i64 hl', .int .i64 hp, .bool hk, .int .u32 hs, .int .u32 hd] len L w' → Calls Try.prog 21 #[.slice (some ⟨g, 0, none⟩) len len, .int .i64 0, .int .i64 1, .int .u64 69] w' fun e w'' => e = .returned (.tuple #[]) ∧ LayI w g #[.int .i64 ht, .int .i64 hi, .int .i64 hl', .int .i64 hp, .bool hk, .int .u32 hs, .int .u32 hd] len (splice L 0 (bytesOf 69 1)) w'') := fun w' L h => (lay_any g len L 0 1 1 69 w' (Or.inl rfl) rfl h.2.2.1 (by omega) (by omega) (by omega) (by omega) h.2.1).mono fun e w'' ⟨he, hg, hb⟩ => ⟨he, layI_next h (by rw [bytesOf_len _ _ (Or.inl rfl)]; omega) hg hb⟩
  have C1 : Hid (∀ (w' : World) (L : List Int), LayI w g #[.int .i64 ht, .int .i64 hi, .int .i64 hl', .int .i64 hp, .bool hk, .int .u32 hs, .int .u32 hd] len L w' → Calls Try.prog 21 #[.slice (some ⟨g, 0, none⟩) len len, .int .i64 1, .int .i64 2, .int .u64 ht] w' fun e w'' => e = .returned (.tuple #[]) ∧ LayI w g #[.int .i64 ht, .int .i64 hi, .int .i64 hl', .int .i64 hp, .bool hk, .int .u32 hs, .int .u32 hd] len (splice L 1 (bytesOf ht 1)) w'') := fun w' L h => (lay_any g len L 1 2 1 ht w' (Or.inl rfl) rfl h.2.2.1 (by omega) (by omega) (by omega) (by omega) h.2.1).mono fun e w'' ⟨he, hg, hb⟩ => ⟨he, layI_next h (by rw [bytesOf_len _ _ (Or.inl rfl)]; omega) hg hb⟩
  have C2 : Hid (∀ (w' : World) (L : List Int), LayI w g #[.int .i64 ht, .int .i64 hi, .int .i64 hl', .int .i64 hp, .bool hk, .int .u32 hs, .int .u32 hd] len L w' → Calls Try.prog 21 #[.slice (some ⟨g, 0, none⟩) len len, .int .i64 2, .int .i64 4, .int .u64 ((len : Int))] w' fun e w'' => e = .returned (.tuple #[]) ∧ LayI w g #[.int .i64 ht, .int .i64 hi, .int .i64 hl', .int .i64 hp, .bool hk, .int .u32 hs, .int .u32 hd] len (splice L 2 (bytesOf ((len : Int)) 2)) w'') := fun w' L h => (lay_any g len L 2 4 2 ((len : Int)) w' (Or.inr (Or.inl rfl)) rfl h.2.2.1 (by omega) (by omega) (by omega) (by omega) h.2.1).mono fun e w'' ⟨he, hg, hb⟩ => ⟨he, layI_next h (by rw [bytesOf_len _ _ (Or.inr (Or.inl rfl))]; omega) hg hb⟩
  have C3 : Hid (∀ (w' : World) (L : List Int), LayI w g #[.int .i64 ht, .int .i64 hi, .int .i64 hl', .int .i64 hp, .bool hk, .int .u32 hs, .int .u32 hd] len L w' → Calls Try.prog 21 #[.slice (some ⟨g, 0, none⟩) len len, .int .i64 4, .int .i64 6, .int .u64 hi] w' fun e w'' => e = .returned (.tuple #[]) ∧ LayI w g #[.int .i64 ht, .int .i64 hi, .int .i64 hl', .int .i64 hp, .bool hk, .int .u32 hs, .int .u32 hd] len (splice L 4 (bytesOf hi 2)) w'') := fun w' L h => (lay_any g len L 4 6 2 hi w' (Or.inr (Or.inl rfl)) rfl h.2.2.1 (by omega) (by omega) (by omega) (by omega) h.2.1).mono fun e w'' ⟨he, hg, hb⟩ => ⟨he, layI_next h (by rw [bytesOf_len _ _ (Or.inr (Or.inl rfl))]; omega) hg hb⟩
  have C4 : Hid (∀ (w' : World) (L : List Int), LayI w g #[.int .i64 ht, .int .i64 hi, .int .i64 hl', .int .i64 hp, .bool hk, .int .u32 hs, .int .u32 hd] len L w' → Calls Try.prog 21 #[.slice (some ⟨g, 0, none⟩) len len, .int .i64 6, .int .i64 8, .int .u64 (fl hk)] w' fun e w'' => e = .returned (.tuple #[]) ∧ LayI w g #[.int .i64 ht, .int .i64 hi, .int .i64 hl', .int .i64 hp, .bool hk, .int .u32 hs, .int .u32 hd] len (splice L 6 (bytesOf (fl hk) 2)) w'') := fun w' L h => (lay_any g len L 6 8 2 (fl hk) w' (Or.inr (Or.inl rfl)) rfl h.2.2.1 (by omega) (by omega) (HF.out.1) (by have := HF.out.2; omega) h.2.1).mono fun e w'' ⟨he, hg, hb⟩ => ⟨he, layI_next h (by rw [bytesOf_len _ _ (Or.inr (Or.inl rfl))]; omega) hg hb⟩
  have C5 : Hid (∀ (w' : World) (L : List Int), LayI w g #[.int .i64 ht, .int .i64 hi, .int .i64 hl', .int .i64 hp, .bool hk, .int .u32 hs, .int .u32 hd] len L w' → Calls Try.prog 21 #[.slice (some ⟨g, 0, none⟩) len len, .int .i64 8, .int .i64 9, .int .u64 hl'] w' fun e w'' => e = .returned (.tuple #[]) ∧ LayI w g #[.int .i64 ht, .int .i64 hi, .int .i64 hl', .int .i64 hp, .bool hk, .int .u32 hs, .int .u32 hd] len (splice L 8 (bytesOf hl' 1)) w'') := fun w' L h => (lay_any g len L 8 9 1 hl' w' (Or.inl rfl) rfl h.2.2.1 (by omega) (by omega) (by omega) (by omega) h.2.1).mono fun e w'' ⟨he, hg, hb⟩ => ⟨he, layI_next h (by rw [bytesOf_len _ _ (Or.inl rfl)]; omega) hg hb⟩
  have C6 : Hid (∀ (w' : World) (L : List Int), LayI w g #[.int .i64 ht, .int .i64 hi, .int .i64 hl', .int .i64 hp, .bool hk, .int .u32 hs, .int .u32 hd] len L w' → Calls Try.prog 21 #[.slice (some ⟨g, 0, none⟩) len len, .int .i64 9, .int .i64 10, .int .u64 hp] w' fun e w'' => e = .returned (.tuple #[]) ∧ LayI w g #[.int .i64 ht, .int .i64 hi, .int .i64 hl', .int .i64 hp, .bool hk, .int .u32 hs, .int .u32 hd] len (splice L 9 (bytesOf hp 1)) w'') := fun w' L h => (lay_any g len L 9 10 1 hp w' (Or.inl rfl) rfl h.2.2.1 (by omega) (by omega) (by omega) (by omega) h.2.1).mono fun e w'' ⟨he, hg, hb⟩ => ⟨he, layI_next h (by rw [bytesOf_len _ _ (Or.inl rfl)]; omega) hg hb⟩
  have C7 : Hid (∀ (w' : World) (L : List Int), LayI w g #[.int .i64 ht, .int .i64 hi, .int .i64 hl', .int .i64 hp, .bool hk, .int .u32 hs, .int .u32 hd] len L w' → Calls Try.prog 21 #[.slice (some ⟨g, 0, none⟩) len len, .int .i64 12, .int .i64 16, .int .u64 hs] w' fun e w'' => e = .returned (.tuple #[]) ∧ LayI w g #[.int .i64 ht, .int .i64 hi, .int .i64 hl', .int .i64 hp, .bool hk, .int .u32 hs, .int .u32 hd] len (splice L 12 (bytesOf hs 4)) w'') := fun w' L h => (lay_any g len L 12 16 4 hs w' (Or.inr (Or.inr rfl)) rfl h.2.2.1 (by omega) (by omega) (by omega) (by omega) h.2.1).mono fun e w'' ⟨he, hg, hb⟩ => ⟨he, layI_next h (by rw [bytesOf_len _ _ (Or.inr (Or.inr rfl))]; omega) hg hb⟩
  have C8 : Hid (∀ (w' : World) (L : List Int), LayI w g #[.int .i64 ht, .int .i64 hi, .int .i64 hl', .int .i64 hp, .bool hk, .int .u32 hs, .int .u32 hd] len L w' → Calls Try.prog 21 #[.slice (some ⟨g, 0, none⟩) len len, .int .i64 16, .int .i64 20, .int .u64 hd] w' fun e w'' => e = .returned (.tuple #[]) ∧ LayI w g #[.int .i64 ht, .int .i64 hi, .int .i64 hl', .int .i64 hp, .bool hk, .int .u32 hs, .int .u32 hd] len (splice L 16 (bytesOf hd 4)) w'') := fun w' L h => (lay_any g len L 16 20 4 hd w' (Or.inr (Or.inr rfl)) rfl h.2.2.1 (by omega) (by omega) (by omega) (by omega) h.2.1).mono fun e w'' ⟨he, hg, hb⟩ => ⟨he, layI_next h (by rw [bytesOf_len _ _ (Or.inr (Or.inr rfl))]; omega) hg hb⟩
  have H0 := hid (layI_first (F := #[.int .i64 ht, .int .i64 hi, .int .i64 hl', .int .i64 hp, .bool hk, .int .u32 hs, .int .u32 hd]) hg hL)
  have CC : Hid (∀ (w' : World) (L : List Int), LayI w g #[.int .i64 ht, .int .i64 hi, .int .i64 hl', .int .i64 hp, .bool hk, .int .u32 hs, .int .u32 hd] len L w' → ∀ q, w'.cell? ⟨w.heap.size, q, none⟩ = (#[.int .i64 ht, .int .i64 hi, .int .i64 hl', .int .i64 hp, .bool hk, .int .u32 hs, .int .u32 hd] : Array Value)[q]?) := fun w' L h q => cell_of_heap h.1 q
  generalize hLL : layL _ _ _ = LL
  have HLL := hid hLL
  clear hg hL hh hLL HF
  generalize hfl : fl hk = FL at *
  go_enter Try.func20, Try.ntmps20
  cases hk
  all_goals
    simp only [fl, Bool.false_eq_true, if_false, if_true] at hfl
    subst hfl
    go_wp2_with fail
    refine (C0.out _ _ H0.out).mono ?_
    rintro e w1 ⟨rfl, hx⟩
    have H1 := hid hx
    clear hx H0
    have cc := CC.out _ _ H1.out
    go_wp2_with fail
    refine (C1.out _ _ H1.out).mono ?_
    rintro e w2 ⟨rfl, hx⟩
    have H2 := hid hx
    clear hx H1 cc
    have cc := CC.out _ _ H2.out
    go_wp2_with fail
    refine (C2.out _ _ H2.out).mono ?_
    rintro e w3 ⟨rfl, hx⟩
    have H3 := hid hx
    clear hx H2 cc
    have cc := CC.out _ _ H3.out
    go_wp2_with fail
    refine (C3.out _ _ H3.out).mono ?_
    rintro e w4 ⟨rfl, hx⟩
    have H4 := hid hx
    clear hx H3 cc
    have cc := CC.out _ _ H4.out
    go_wp2_with fail
    refine (C4.out _ _ H4.out).mono ?_
    rintro e w5 ⟨rfl, hx⟩
    have H5 := hid hx
    clear hx H4 cc
    have cc := CC.out _ _ H5.out
    go_wp2_with fail
    refine (C5.out _ _ H5.out).mono ?_
    rintro e w6 ⟨rfl, hx⟩
    have H6 := hid hx
    clear hx H5 cc
    have cc := CC.out _ _ H6.out
    go_wp2_with fail
    refine (C6.out _ _ H6.out).mono ?_
    rintro e w7 ⟨rfl, hx⟩
    have H7 := hid hx
    clear hx H6 cc
    have cc := CC.out _ _ H7.out
    go_wp2_with fail
    refine (C7.out _ _ H7.out).mono ?_
    rintro e w8 ⟨rfl, hx⟩
    have H8 := hid hx
    clear hx H7 cc
    have cc := CC.out _ _ H8.out
    go_wp2_with fail
    refine (C8.out _ _ H8.out).mono ?_
    rintro e w9 ⟨rfl, hx⟩
    have H9 := hid hx
    clear hx H8 cc
    go_wp2
    go_end0
    exact ⟨rfl, by rw [← HLL.out]; exact H9.out.2.1, H9.out.2.2.2.2⟩
end Go.Proofs.Ytccmkljbedddiaa
