/-
  arp.Decode of what it does not take; what it answers.
-/
import Derived.Test.YtaaoelhmanahpaaAAct
import Derived.Test.YtaaoelhmanahpaaBGet
import Derived.Deep.RegionLaw
namespace Go.Proofs.Ytaaoelhmanahpaa
open Go.RowKit
set_option linter.all false

/-- 'copy(d, s)' where s has more than d has room for. -/
theorem copy_long (pt : Part) (w : World) (hok : pt.ok w) (hne : 0 < pt.zs.length) (sl sc : Nat) (hl : pt.zs.length ≤ sl) (g o cap : Nat) (cur : Array Value) (t : TypeId) (hg : w.heap[g]? = some (.cells cur t (0, 0))) (hsz : o + pt.zs.length ≤ cur.size) (ty : TypeId) :
    (Builtin.copy_ #[40, 40] ty #[.slice (some ⟨g, o, none⟩) pt.zs.length cap, .slice pt.a sl sc]).run Try.prog w = .ok (goInt pt.zs.length) (w.setRow g (splice cur.toList o (u8s pt.zs)).toArray) := by
  obtain ⟨a, c, zs⟩ := pt
  simp only at *
  rcases hok.2.2 with h | ⟨b, o', ha, hc⟩
  · simp only at h
    subst h
    simp at hne
  · simp only at ha hc
    subst ha
    rw [run_copy_row (P := Try.prog) _ _ _ _ 5 g o _ _ _ _ _ cur t (u8s zs) Try.underlying40 sizeU8 hg (by rw [u8s_len]; exact (Nat.min_eq_right hl).symm) (part_news (pt := ⟨some ⟨b, o', none⟩, c, zs⟩) hc) (by simpa [u8s] using hsz) (u8s_one zs)]
    simp only [u8s_len, splice, List.append_assoc]
theorem wpList_copyL {ops : Array Oper} {rest : List Oper} {o : Oper} {a : Act} {w : World} {Q : Exit → Act → World → Prop} (hgd : o.guard = none) (d s : Operand)
    (ho : o.op = .call { callee := .builtin .copy, args := #[d, s], argTypes := #[40, 40] }) (pt : Part) (sl sc g off n cap : Nat) (cur : Array Value) (t : TypeId) (hd : a.eval d = .slice (some ⟨g, off, none⟩) n cap) (hs : a.eval s = .slice pt.a sl sc)
    (hg : w.heap[g]? = some (.cells cur t (0, 0))) (hok : pt.ok w) (hne : 0 < pt.zs.length) (hn : pt.zs.length = n) (hl : pt.zs.length ≤ sl) (hsz : off + pt.zs.length ≤ cur.size)
    (h : ∀ w', Hid (w'.heap[g]? = some (.cells (splice cur.toList off (u8s pt.zs)).toArray t (0, 0))) → Hid (But g w w') → wpList Try.prog ops Q rest (a.put o.dst (goInt pt.zs.length)) w') : wpList Try.prog ops Q (o :: rest) a w := by
  subst hn
  refine wpList_plain hgd fun K hK => ?_
  unfold Oper.wp
  simp only [execOp, ho, resolve, invoke, builtin, Sem.run_bind, Sem.run_pure, Result.andThen_ok, List.map_toArray, List.map_cons, List.map_nil, hd, hs, copy_long pt w hok hne sl sc hl g off cap cur t hg hsz]
  exact hK _ _ (h _ (setRow_heap w g _ _ t _ hg) (But.setRow g w _))

/-- the number at a place. -/
def numAt (zs : List Int) (a m : Nat) : Int := getTo zs a m
theorem numAt_bd {zs : List Int} (h : ∀ z, z ∈ zs → 0 ≤ z ∧ z ≤ 255) (a : Nat) : (0 ≤ numAt zs a 2 ∧ numAt zs a 2 ≤ 65535) ∧ (0 ≤ numAt zs a 4 ∧ numAt zs a 4 ≤ 4294967295) := by
  have h2 := getTo_bd zs (getD_mem_bd h) a 2
  have h4 := getTo_bd zs (getD_mem_bd h) a 4
  simp only [numAt]
  omega
/-- what Decode answers. -/
def decP (zs : List Int) : Arp := ⟨numAt zs 6 2, macAt zs 8, numAt zs 14 4, macAt zs 18, numAt zs 24 4⟩
theorem decP_ok {zs : List Int} (h : ∀ z, z ∈ zs → 0 ≤ z ∧ z ≤ 255) : (decP zs).ok := by
  have h6 := numAt_bd h 6
  have h14 := numAt_bd h 14
  have h24 := numAt_bd h 24
  exact ⟨by simp only [decP]; omega, macAt_ok h 8, h14.2, macAt_ok h 18, h24.2⟩
def decGood (zs : List Int) : Prop := macAt zs 0 = kindsM ∧ opB (numAt zs 6 2) = true
instance (zs : List Int) : Decidable (decGood zs) := by unfold decGood; exact inferInstance
def decE (zs : List Int) : Int := if zs.length < 28 then 5 else if decGood zs then 0 else 80
def decA (zs : List Int) : Arp := if zs.length < 28 then zeroArp else if decGood zs then decP zs else zeroArp

end Go.Proofs.Ytaaoelhmanahpaa
