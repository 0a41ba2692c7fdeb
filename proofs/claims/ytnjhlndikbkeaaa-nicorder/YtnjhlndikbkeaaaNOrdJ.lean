import Derived.Test.YtnjhlndikbkeaaaNLiveJ
import Derived.Test.YtnjhlndikbkeaaaNOrdW
import Derived.Test.YtnjhlndikbkeaaaNOpenO
/-
  The walk of the statement NicOrder, whole.
-/
namespace Go.Proofs.Ytnjhlndikbkeaaa
open Go.RowKit
set_option linter.all false

theorem nicOrder_walk (rx tx : Int) (own : Mac) (xs : List OpN) (a : Option Addr) (cc : Nat) (w : World) (b1 : -9223372036854775808 ≤ rx ∧ rx ≤ 9223372036854775807) (b2 : -9223372036854775808 ≤ tx ∧ tx ≤ 9223372036854775807) (ho : own.ok) (hops : OpsN w a xs) (hsz : xs.length * 80 ≤ 140737488351232 ∧ ∀ i, i < xs.length → (xs.getD i OpN.nil).pt.zs.length ≤ 140737488351232 ∧ (xs.getD i OpN.nil).sp.zs.length ≤ 140737488351232) :
    Calls Try.prog 5 #[.int .i64 rx, .int .i64 tx, own.val, .slice a xs.length cc] w fun e w' => e = .returned (.bool true) ∧ Below w.heap.size w w' := by
  by_cases h : fitsB rx = false ∨ fitsB tx = false
  · exact order_no rx tx own _ w h
  · obtain ⟨n, rfl, hn1, hn⟩ : ∃ n : Nat, rx = n ∧ 1 ≤ n ∧ n ≤ 64 := ⟨rx.toNat, by simp [fitsB] at h; omega, by simp [fitsB] at h; omega, by simp [fitsB] at h; omega⟩
    obtain ⟨m, rfl, hm1, hm⟩ : ∃ m : Nat, tx = m ∧ 1 ≤ m ∧ m ≤ 64 := ⟨tx.toNat, by simp [fitsB] at h; omega, by simp [fitsB] at h; omega, by simp [fitsB] at h; omega⟩
    exact order_yes n m own a cc xs w ho hn1 hn hm1 hm hops hsz
end Go.Proofs.Ytnjhlndikbkeaaa

/-
  Proved: slipwaylaw05.NicOrder, called with any arguments in any memory, returns true and leaves what was there as it was. Its conditions: those of the row alone (none).
-/
namespace Go.Proofs.Ytnjhlndikbkeaaa
set_option linter.unusedVariables false
open Go.ChangeShapes Go.WideShapes Go.ChangeAt Go.RowKit
open Go.ChangeMaps (open_string shut_string)

set_option maxRecDepth 100000 in
theorem nicOrder_lifted (os : Os) (started : os.Started) (H : Type) (enc : TypeId × Value → H) :
    ReturnsInHanded {} Try.checked os 5 .any (Rows.nicOrderSpec.pre6 enc Try.prog Try.f5 Rows.nicOrderRow.domain false) (Rows.nicOrderSpec.post enc Try.prog Try.f5 false true false false) := by
  refine returnsInHanded_of_change_sized (C := Try.checked) own started (by kernel_rfl) Try.func5
    (ChangeSpec.witness6 (enc := enc) (C := Try.checked) false ⟨#[], #[.int .i64 0, .int .i64 0, .agg #[.int .u8 0, .int .u8 0, .int .u8 0, .int .u8 0, .int .u8 0, .int .u8 0], .slice none 0 0], []⟩ 8 (by kernel_rfl) (by kernel_rfl) (by kernel_rfl) (by kernel_rfl)) ?_
  intro W base args ds gs before hval0 hW _ hsz0 _
  have hsz : (DataW.weightsEach Try.prog (Try.f5.params.toList ++ []) (ds ++ gs)).all (· ≤ reachBytes) = true := hsz0
  have hval : ∀ (j : Nat) t v, Try.f5.params[j]? = some t → args[j]? = some v → Value.okWide Try.prog W .any base t v := hval0
  have hW' := hW
  obtain ⟨p, q, hA0, hV, rfl, hfz, hnd⟩ := hW
  have hA : DataW.TrodAll enc Try.prog W 0 (fun _ => true) true Try.f5.params.toList args.toList ds p := hA0
  rw [Try.params5] at hA hval hsz
  have hA2 := hA
  have hlt : ∀ x, x ∈ p → x.block < W.heap.size := fun x hx => hW'.lt x (by simp [hx])
  obtain ⟨rfl, rfl⟩ := trodVars_none hV
  simp only [List.append_nil] at hsz hW'
  obtain ⟨v0, vs0, d0, ds0, p0, q0, hargs, rfl, rfl, h0, r0⟩ := trodAll_cons hA
  obtain ⟨v1, vs1, d1, ds1, p1, q1, rfl, rfl, rfl, h1, r1⟩ := trodAll_cons r0
  obtain ⟨v2, vs2, d2, ds2, p2, q2, rfl, rfl, rfl, h2, r2⟩ := trodAll_cons r1
  obtain ⟨v3, vs3, d3, ds3, p3, q3, rfl, rfl, rfl, h3, r3⟩ := trodAll_cons r2
  obtain ⟨rfl, rfl, rfl⟩ := trodAll_nil r3
  obtain rfl : args = #[v0, v1, v2, v3] := by cases args; simp_all
  obtain ⟨x0, rfl, rfl, rfl, wf0⟩ := open_int Try.underlying3 (hval 0 3 v0 rfl rfl) h0
  have bd0 := bounds_i64 wf0
  obtain ⟨x1, rfl, rfl, rfl, wf1⟩ := open_int Try.underlying3 (hval 1 3 v1 rfl rfl) h1
  have bd1 := bounds_i64 wf1
  obtain ⟨m2, rfl, mk2⟩ := open_mac (hval 2 24 v2 rfl rfl) h2
  obtain ⟨xs3, ao3, co3, rfl, ok3, dd3⟩ := open_ops (fun _ => rfl) (hval 3 25 v3 rfl rfl) h3
  have sz3 := ops_sized hsz (j := 3) rfl rfl dd3
  clear hA0 hval0
  refine (nicOrder_walk x0 x1 m2 xs3 ao3 co3 W bd0 bd1 mk2 ok3 sz3).mono fun e W' ⟨he, hb⟩ => ?_
  subst he
  exact ⟨_, rfl, _, _, _, [], _, [], hW', trodAll_mk1 (shut_bool Try.underlying4 _), trodAll_below (fun t ht => by
    have hall : ([3, 3, 24, 25].all fun u => Try.prog.readableRec u && decide (u < Try.prog.types.size)) = true := by kernel_rfl
    have := List.all_eq_true.1 hall t ht
    simpa using this) hA2 hb hlt, rfl, hb.frame _, fun h => by cases h⟩

theorem nicOrder_holds : Rows.NicOrderSaid :=
  OpenClaim.holds_of_wide 5 Try.f5 rfl rfl rfl rfl rfl rfl rfl ⟨rfl, rfl, rfl, rfl, rfl⟩ rfl rfl rfl rfl rfl (by kernel_rfl) Try.func5 (by kernel_rfl)
    (of_decide_eq_true (by kernel_rfl)) (by unfold Func.isWrapper; first | (rw [if_pos (by decide +kernel)]; kernel_rfl) | (rw [if_neg (by decide +kernel)]; exact ⟨rfl, rfl⟩))
    (fun os started H enc _ => nicOrder_lifted os started H enc)
end Go.Proofs.Ytnjhlndikbkeaaa
