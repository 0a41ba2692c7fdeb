/-
  inet.canBeLaid, inet.lay.
-/
import Derived.Test.YtccmkljbedddiaaIAct
import Derived.Test.YtccmkljbedddiaaBPut
import Derived.Deep.RegionLaw
namespace Go.Proofs.Ytccmkljbedddiaa
open Go.RowKit
set_option linter.all false

/-- may the head be laid? -/
def layB (h : Ip) : Bool := inB h.tos 0 255 && inB h.proto 0 255 && inB h.id 0 65535 && inB h.ttl 1 255
set_option maxHeartbeats 1000000 in
theorem canBeLaid_any (h : Ip) (w : World) :
    Calls Try.prog 19 #[h.val] w fun e w' => e = .returned (.bool (layB h)) ∧ Below w.heap.size w w' := by
  have H1 : Hid (∀ w, Calls Try.prog 31 #[.int .i64 h.tos, .int .i64 0, .int .i64 255] w fun e w' => e = .returned (.bool (inB h.tos 0 255)) ∧ w' = w) := fun w => within_any _ _ _ w
  have H2 : Hid (∀ w, Calls Try.prog 31 #[.int .i64 h.proto, .int .i64 0, .int .i64 255] w fun e w' => e = .returned (.bool (inB h.proto 0 255)) ∧ w' = w) := fun w => within_any _ _ _ w
  have H3 : Hid (∀ w, Calls Try.prog 31 #[.int .i64 h.id, .int .i64 0, .int .i64 65535] w fun e w' => e = .returned (.bool (inB h.id 0 65535)) ∧ w' = w) := fun w => within_any _ _ _ w
  have H4 : Hid (∀ w, Calls Try.prog 31 #[.int .i64 h.ttl, .int .i64 1, .int .i64 255] w fun e w' => e = .returned (.bool (inB h.ttl 1 255)) ∧ w' = w) := fun w => within_any _ _ _ w
  unfold layB
  generalize inB h.tos 0 255 = b1 at *
  generalize inB h.proto 0 255 = b2 at *
  generalize inB h.id 0 65535 = b3 at *
  generalize inB h.ttl 1 255 = b4 at *
  obtain ⟨t, i, l, p, k, s, d⟩ := h
  simp only [Ip.val] at *
  cases b1 <;> cases b2 <;> cases b3 <;> cases b4
  all_goals
    go_enter Try.func19, Try.ntmps19
    go_wp2_with (first
      | (go_at_call 31; (with_reducible refine (H1.out _).mono ?_); rintro e w1 ⟨rfl, hw⟩; subst w1)
      | (go_at_call 31; (with_reducible refine (H2.out _).mono ?_); rintro e w1 ⟨rfl, hw⟩; subst w1)
      | (go_at_call 31; (with_reducible refine (H3.out _).mono ?_); rintro e w1 ⟨rfl, hw⟩; subst w1)
      | (go_at_call 31; (with_reducible refine (H4.out _).mono ?_); rintro e w1 ⟨rfl, hw⟩; subst w1)
      | fail)
    go_ret
    exact ⟨rfl, bpush (Below.refl _ _) _⟩

theorem putTo1 (n : Int) : putTo n 1 1 = (u8s [n % 256]).toArray := by
  simp [putTo, made_eq, byteAt, u8s]
theorem putTo4 (n : Int) : putTo n 4 4 = (u8s [n / 16777216 % 256, n / 65536 % 256, n / 256 % 256, n % 256]).toArray := by
  simp [putTo, made_eq, byteAt, u8s]
/-- a number's bytes. -/
def op1 (n : Int) : List Int := [n % 256]
def op2 (n : Int) : List Int := [n / 256 % 256, n % 256]
def ip4 (n : Int) : List Int := [n / 16777216 % 256, n / 65536 % 256, n / 256 % 256, n % 256]
theorem op1_bd (n : Int) : ∀ z, z ∈ op1 n → 0 ≤ z ∧ z ≤ 255 := fun z hz => by simp [op1] at hz; omega
theorem op2_bd (n : Int) : ∀ z, z ∈ op2 n → 0 ≤ z ∧ z ≤ 255 := fun z hz => by simp [op2] at hz; omega
theorem ip4_bd (n : Int) : ∀ z, z ∈ ip4 n → 0 ≤ z ∧ z ≤ 255 := fun z hz => by simp [ip4] at hz; omega
/-- the bytes that a width takes. -/
def bytesOf (n : Int) (m : Nat) : List Int := if m = 1 then op1 n else if m = 2 then op2 n else ip4 n
theorem bytesOf_bd (n : Int) (m : Nat) : ∀ z, z ∈ bytesOf n m → 0 ≤ z ∧ z ≤ 255 := by
  unfold bytesOf
  split
  · exact op1_bd n
  · split
    · exact op2_bd n
    · exact ip4_bd n
theorem bytesOf_len (n : Int) (m : Nat) (hm : m = 1 ∨ m = 2 ∨ m = 4) : (bytesOf n m).length = m := by
  rcases hm with rfl | rfl | rfl <;> rfl
theorem putM_any (n : Int) (m : Nat) (hm : m = 1 ∨ m = 2 ∨ m = 4) (w : World) (h3 : 0 ≤ n) (h4 : n ≤ 18446744073709551615) :
    Calls Try.prog 32 #[.int .u64 n, .int .i64 m] w fun e w' => e = .returned (.slice (some ⟨w.heap.size, 0, none⟩) m m) ∧ w' = w.alloc (.cells (u8s (bytesOf n m)).toArray 5) := by
  have h := put_yes n m w (by omega) (by omega) h3 (by omega)
  have e : putTo n m m = (u8s (bytesOf n m)).toArray := by
    rcases hm with rfl | rfl | rfl
    · exact putTo1 n
    · exact putTo2 n
    · exact putTo4 n
  rw [e] at h
  exact h

set_option maxRecDepth 20000 in
set_option maxHeartbeats 1000000 in
/-- lay: a number's bytes into b[a:a+m]. -/
theorem lay_any (g len : Nat) (L : List Int) (a t m : Nat) (n : Int) (w : World) (hm : m = 1 ∨ m = 2 ∨ m = 4) (ht : t = a + m) (hL : L.length = len) (hl : t ≤ len) (hl2 : len ≤ 140737488355328) (h3 : 0 ≤ n) (h4 : n ≤ 18446744073709551615)
    (hg : w.heap[g]? = some (.cells (u8s L).toArray 5 (0, 0))) :
    Calls Try.prog 21 #[.slice (some ⟨g, 0, none⟩) len len, .int .i64 a, .int .i64 t, .int .u64 n] w fun e w' =>
      e = .returned (.tuple #[]) ∧ w'.heap[g]? = some (.cells (u8s (splice L a (bytesOf n m))).toArray 5 (0, 0)) ∧ But g w w' := by
  have HP : Hid (∀ w, Calls Try.prog 32 #[.int .u64 n, .int .i64 m] w fun e w' => e = .returned (.slice (some ⟨w.heap.size, 0, none⟩) m m) ∧ w' = w.alloc (.cells (u8s (bytesOf n m)).toArray 5)) := fun w => putM_any n m hm w h3 h4
  have HB := hid (bytesOf_bd n m)
  have HN := hid (bytesOf_len n m hm)
  have HG := hid hg
  have HL := hid hL
  have hs : IntKind.i64.wrap ((t : Int) - (a : Int)) = (m : Int) := by simp only [IntKind.wrap_i64]; omega
  have q1 : (a : Int) ≤ (t : Int) := by omega
  have q2 : (t : Int) ≤ (len : Int) := by omega
  have q3 : 1 ≤ m := by omega
  have q4 : t - a = m := by omega
  have q5 : ¬ len = a := by omega
  have HT := hid ht
  clear hg hL ht hm
  generalize bytesOf n m = X at *
  go_enter Try.func21, Try.ntmps21
  go_wp2
  go_region_held3 (fun w' => True) (exact trivial) (first
    | (refine step_copy rfl _ _ rfl ⟨some ⟨w.heap.size, 0, none⟩, m, X⟩ g a _ _ L 5 rfl (by show _ = Value.slice _ _ _; rw [HN.out]; rfl) (by exact (heap_old w.drew _ (heap_lt (w := w.drew) HG.out)).trans HG.out) (by exact Part.of_row (heap_new w.drew _) (by rw [HN.out]; omega) HB.out) (by rw [HN.out]; omega) (by have := HT.out; rw [HN.out, HL.out]; omega) ?_; intro w3 hg3 hb3)
    | (go_at_call 32; refine (HP.out _).mono ?_; rintro e w' ⟨rfl, hw⟩; subst w')
    | fail)
  go_wp2
  go_end0
  exact ⟨rfl, hg3.out, (((But.refl g w).trans (But.drew g w)).trans (But.alloc g _ _)).trans hb3.out⟩
end Go.Proofs.Ytccmkljbedddiaa
