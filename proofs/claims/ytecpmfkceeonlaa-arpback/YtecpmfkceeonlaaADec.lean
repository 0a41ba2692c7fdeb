/-
  arp.Decode of what it does not take; what it answers.
-/
import Derived.Test.YtecpmfkceeonlaaAAct
import Derived.Test.YtecpmfkceeonlaaBGet
import Derived.Deep.RegionLaw
namespace Go.Proofs.Ytecpmfkceeonlaa
open Go.RowKit
set_option linter.all false

/-- 'copy(d, s)' where s has more than d has room for. -/
theorem copy_long (pt : Part) (w : World) (hok : pt.ok w) (hne : 0 < pt.zs.length) (sl sc : Nat) (hl : pt.zs.length ≤ sl) (g o cap : Nat) (cur : Array Value) (t : TypeId) (hg : w.heap[g]? = some (.cells cur t (0, 0))) (hsz : o + pt.zs.length ≤ cur.size) (ty : TypeId) :
    (Builtin.copy_ #[28, 28] ty #[.slice (some ⟨g, o, none⟩) pt.zs.length cap, .slice pt.a sl sc]).run Try.prog w = .ok (goInt pt.zs.length) (w.setRow g (splice cur.toList o (u8s pt.zs)).toArray) := by
  obtain ⟨a, c, zs⟩ := pt
  simp only at *
  rcases hok.2.2 with h | ⟨b, o', ha, hc⟩
  · simp only at h
    subst h
    simp at hne
  · simp only at ha hc
    subst ha
    rw [run_copy_row (P := Try.prog) _ _ _ _ 5 g o _ _ _ _ _ cur t (u8s zs) Try.underlying28 sizeU8 hg (by rw [u8s_len]; exact (Nat.min_eq_right hl).symm) (part_news (pt := ⟨some ⟨b, o', none⟩, c, zs⟩) hc) (by simpa [u8s] using hsz) (u8s_one zs)]
    simp only [u8s_len, splice, List.append_assoc]
theorem wpList_copyL {ops : Array Oper} {rest : List Oper} {o : Oper} {a : Act} {w : World} {Q : Exit → Act → World → Prop} (hgd : o.guard = none) (d s : Operand)
    (ho : o.op = .call { callee := .builtin .copy, args := #[d, s], argTypes := #[28, 28] }) (pt : Part) (sl sc g off n cap : Nat) (cur : Array Value) (t : TypeId) (hd : a.eval d = .slice (some ⟨g, off, none⟩) n cap) (hs : a.eval s = .slice pt.a sl sc)
    (hg : w.heap[g]? = some (.cells cur t (0, 0))) (hok : pt.ok w) (hne : 0 < pt.zs.length) (hn : pt.zs.length = n) (hl : pt.zs.length ≤ sl) (hsz : off + pt.zs.length ≤ cur.size)
    (h : ∀ w', Hid (w'.heap[g]? = some (.cells (splice cur.toList off (u8s pt.zs)).toArray t (0, 0))) → Hid (But g w w') → wpList Try.prog ops Q rest (a.put o.dst (goInt pt.zs.length)) w') : wpList Try.prog ops Q (o :: rest) a w := by
  subst hn
  refine wpList_plain hgd fun K hK => ?_
  unfold Oper.wp
  simp only [execOp, ho, resolve, invoke, builtin, Sem.run_bind, Sem.run_pure, Result.andThen_ok, List.map_toArray, List.map_cons, List.map_nil, hd, hs, copy_long pt w hok hne sl sc hl g off cap cur t hg hsz]
  exact hK _ _ (h _ (setRow_heap w g _ _ t _ hg) (But.setRow g w _))

/-- the number at a place. -/
def numAt (zs : List Int) (a m : Nat) : Int := getTo zs a m
theorem numAt_bd {zs : List Int} (h : ∀ z, z ∈ zs → 0 ≤ z ∧ z ≤ 255) (a : Nat) : (0 ≤ numAt zs a 2 ∧ numAt zs a 2 ≤ 65535) ∧ (0 ≤ numAt zs a 4 ∧ numAt zs a 4 ≤ 4294967295) := by
  have h2 := getTo_bd zs (getD_mem_bd h) a 2
  have h4 := getTo_bd zs (getD_mem_bd h) a 4
  simp only [numAt]
  omega
set_option maxHeartbeats 400000 in
theorem number_any (pt : Part) (a m : Nat) (w : World) (hok : pt.ok w) (hl : pt.zs.length ≤ 281474976710656) (ha : a + m ≤ pt.zs.length) (hm : m = 2 ∨ m = 4) :
    Calls Try.prog 33 #[pt.val, .int .i64 a, .int .i64 m] w fun e w' => e = .returned (.int .u32 (numAt pt.zs a m)) ∧ w' = w := by
  have HG : Hid (∀ w', Below w.heap.size w w' → Calls Try.prog 38 #[pt.val, .int .i64 a, .int .i64 m] w' fun e w'' => e = .returned (.tuple #[.int .u64 (numAt pt.zs a m), .int .i64 0]) ∧ w'' = w') := fun w' hb => by
    have h := get_part pt a m w' (Part.ok_below hok hb) hl
    have e : getAns pt.zs a m = (numAt pt.zs a m, 0) := by
      unfold getAns
      rw [if_neg (by omega), if_neg (by omega)]
      simp [numAt]
    rw [e] at h
    exact h
  have hb := numAt_bd hok.1 a
  have hw : IntKind.u32.wrap (numAt pt.zs a m) = numAt pt.zs a m := by
    simp only [IntKind.wrap_u32]
    rcases hm with rfl | rfl <;> omega
  clear hok hb hm
  generalize numAt pt.zs a m = N at *
  unfold Part.val at *
  generalize pt.zs.length = l at *
  go_enter Try.func33, Try.ntmps33
  go_wp2_with (first | (go_at_call 38; refine (HG.out _ (Below.refl _ _)).mono ?_; rintro e w1 ⟨rfl, hw1⟩; subst w1) | fail)
  go_ret
  exact ⟨rfl, rfl⟩

/-- what Decode answers. -/
def decP (zs : List Int) : Arp := ⟨numAt zs 6 2, macAt zs 8, numAt zs 14 4, macAt zs 18, numAt zs 24 4⟩
theorem decP_ok {zs : List Int} (h : ∀ z, z ∈ zs → 0 ≤ z ∧ z ≤ 255) : (decP zs).ok := by
  have h6 := numAt_bd h 6
  have h14 := numAt_bd h 14
  have h24 := numAt_bd h 24
  exact ⟨by simp only [decP]; omega, macAt_ok h 8, h14.2, macAt_ok h 18, h24.2⟩
def decGood (zs : List Int) : Prop := macAt zs 0 = kindsM ∧ opB (numAt zs 6 2) = true
instance (zs : List Int) : Decidable (decGood zs) := by unfold decGood; exact inferInstance
def decE (zs : List Int) : Int := if zs.length < 28 then 5 else if decGood zs then 0 else 80
def decA (zs : List Int) : Arp := if zs.length < 28 then zeroArp else if decGood zs then decP zs else zeroArp

set_option maxHeartbeats 1000000 in
theorem decode_short (a : Option Addr) (l c : Nat) (w : World) (h : l < 28) :
    Calls Try.prog 14 #[.slice a l c] w fun e w' => e = .returned (.tuple #[zeroArp.val, .int .i64 5]) ∧ Below w.heap.size w w' := by
  have h1 : (l : Int) < 28 := by omega
  go_enter Try.func14, Try.ntmps14
  go_wp2
  exact bodyPost_ret (v := .tuple #[zeroArp.val, .int .i64 5]) (by simp [results, Try.results14, go_sem, Arp.val, zeroArp, zeroMac]) rfl ⟨rfl, bpush (Below.refl _ _) _⟩
end Go.Proofs.Ytecpmfkceeonlaa
