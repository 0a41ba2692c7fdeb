import Derived.Test.YtdcppiknomoigaaDoorTgBaJ1
import Derived.Test.YtdcppiknomoigaaDoorTgBaJ3
import Derived.Test.YtdcppiknomoigaaDoorTgBaJ5
import Derived.Test.YtdcppiknomoigaaDoorTgQJ
import Derived.Test.YtdcppiknomoigaaDoorCards
/-
  The walk of the statement TftpBack.
-/
namespace Go.Proofs.YtdcppiknomoigaaDoor
open Go.RowKit
set_option linter.all false

theorem tftpBack_walk (t : Tp) (ca : Option Addr) (cc : Nat) (da : Option Addr) (dc : Nat) (pt : Part) (ob ow os om : Int) (on : ByteArray) (w : World) (hE : Env w) (hx : TpS t ca cc da dc w) (hy : pt.ok w) (hyl : pt.zs.length ≤ 140737488351232) :
    Calls Tryd.prog 7 #[.agg (tpC t ca cc da dc), pt.val, .agg #[.int .i64 ob, .int .i64 ow, .int .i64 os, .int .i64 om, .string on]] w fun e w' => e = .returned (.bool true) ∧ Below w.heap.size w w' := by
  by_cases hm : t.may = 0
  · have ho := may_ops hm
    obtain ⟨op, fl, md, ch, bk, dl, cd, tx⟩ := t
    simp only at ho
    rcases ho with rfl | rfl | rfl | rfl | rfl
    · exact tftpBack_1 fl md ch bk dl cd tx ca cc da dc pt ob ow os om on w hE hx hy hyl hm
    · exact tftpBack_3 fl md ch bk dl cd tx ca cc da dc pt ob ow os om on w hE hx hy hyl hm
    · exact tftpBack_4 fl md ch bk dl cd tx ca cc da dc pt ob ow os om on w hE hx hy hyl hm
    · exact tftpBack_5 fl md ch bk dl cd tx ca cc da dc pt ob ow os om on w hE hx hy hyl hm
    · exact tftpBack_6 fl md ch bk dl cd tx ca cc da dc pt ob ow os om on w hE hx hy hyl hm
  · obtain ⟨op, fl, md, ch, bk, dl, cd, tx⟩ := t
    exact tftpBack_skip op fl md ch bk dl cd tx ca cc da dc pt ob ow os om on w hE hx hy hyl hm
end Go.Proofs.YtdcppiknomoigaaDoor

/-
  Proved: slipwaylaw17.TftpBack, called with any arguments in any memory in which the listed tables and errors read as the program's text lays them, returns true and leaves what was there as it was. Its conditions: those of the row alone.
-/
namespace Go.Proofs.YtdcppiknomoigaaDoor
set_option linter.unusedVariables false
open Go.ChangeShapes Go.WideShapes Go.ChangeAt Go.RowKit

set_option maxRecDepth 100000 in
theorem tftpBack_lifted (os : Os) (started : os.Started) (H : Type) (enc : TypeId × Value → H) :
    ReturnsInHanded {} Tryd.checked os 7 .any (fun w args => (Rows.tftpBackSpec.pre enc Tryd.prog Tryd.f7 [] false w args ∧ laidMetH Tryd.prog laid5 w) ∧ sizedMet enc Tryd.prog Tryd.f7 (OpenSpec.ofChange Rows.tftpBackSpec) false w args)
      (Rows.tftpBackSpec.post enc Tryd.prog Tryd.f7 false true false false) := by
  refine returnsInHanded_of_change_and (C := Tryd.checked) (X := fun w _ => laidMetH Tryd.prog laid5 w) (fun _ _ _ hh h => h.of_heap hh) own started (by kernel_rfl) Tryd.func7
    (ChangeSpec.witness_shaped (enc := enc) (C := Tryd.checked) (os := os) (X := fun w _ => laidMetH Tryd.prog laid5 w) false (World.doorLaid Tryd.prog 400 os) #[.agg #[.int .i64 0, .string ⟨#[]⟩, .string ⟨#[]⟩, .slice none 0 0, .int .i64 0, .slice none 0 0, .int .i64 0, .string ⟨#[]⟩], .slice none 0 0, .agg #[.int .i64 0, .int .i64 0, .int .i64 0, .int .i64 0, .string ⟨#[]⟩]] 8 rfl (World.shaped_of_RefB (by kernel_rfl) (by kernel_rfl)) (by kernel_rfl) (by kernel_rfl) (by kernel_rfl) (door_met os _)) ?_
  intro W base args ds gs before hval0 hW _ hsz0 hL _
  have hsz : (DataW.weightsEach Tryd.prog (Tryd.f7.params.toList ++ []) (ds ++ gs)).all (· ≤ reachBytes) = true := hsz0
  have hval : ∀ (j : Nat) t v, Tryd.f7.params[j]? = some t → args[j]? = some v → Value.okWide Tryd.prog W .any base t v := hval0
  have hW' := hW
  obtain ⟨p, q, hA0, hV, rfl, hfz, hnd⟩ := hW
  have hA : DataW.TrodAll enc Tryd.prog W 0 (fun _ => true) true Tryd.f7.params.toList args.toList ds p := hA0
  rw [Tryd.params7] at hA hval hsz
  have hA2 := hA
  have hlt : ∀ x, x ∈ p → x.block < W.heap.size := fun x hx => hW'.lt x (by simp [hx])
  obtain ⟨rfl, rfl⟩ := trodVars_none hV
  simp only [List.append_nil] at hsz hW'
  obtain ⟨v0, vs0, d0, ds0, p0, q0, hargs, rfl, rfl, h0, r0⟩ := trodAll_cons hA
  obtain ⟨v1, vs1, d1, ds1, p1, q1, rfl, rfl, rfl, h1, r1⟩ := trodAll_cons r0
  obtain ⟨v2, vs2, d2, ds2, p2, q2, rfl, rfl, rfl, h2, r2⟩ := trodAll_cons r1
  obtain ⟨rfl, rfl, rfl⟩ := trodAll_nil r2
  obtain rfl : args = #[v0, v1, v2] := by cases args; simp_all
  obtain ⟨t0, ca0, cc0, da0, dc0, rfl, hcc0, hcv0, okp0, x00, x01, x02, x03, x04, x05, x06, x07, rfl, g01, g02, g03, g05, g07⟩ := opened_tp (fun _ => rfl) (hval 0 26 v0 rfl rfl) h0
  have ok0 := tp_sized hsz (j := 0) rfl rfl hcc0 hcv0 okp0 g01 g02 g03 g05 g07
  obtain ⟨pt1, rfl, ok1, dd1⟩ := open_bytes (fun _ => rfl) (hval 1 24 v1 rfl rfl) h1
  have sz1 := bytes_sized hsz (j := 1) rfl rfl dd1
  obtain ⟨ob2, ow2, os2, om2, on2, rfl⟩ := open_offer (hval 2 46 v2 rfl rfl) h2
  clear hA0 hval0
  refine (tftpBack_walk t0 ca0 cc0 da0 dc0 pt1 ob2 ow2 os2 om2 on2 W (env_of_laid hL) ok0 ok1 sz1).mono fun e W' ⟨he, hb⟩ => ?_
  subst he
  exact ⟨_, rfl, _, _, _, [], _, [], hW', trodAll_mk1 (shut_bool Tryd.underlying4 _), trodAll_below (fun t ht => by
    have hall : ([26, 24, 46].all fun u => Tryd.prog.readableRec u && decide (u < Tryd.prog.types.size)) = true := by kernel_rfl
    have := List.all_eq_true.1 hall t ht
    simpa using this) hA2 hb hlt, rfl, hb.frame _, fun h => by cases h⟩

theorem tftpBack_holds : Rows.TftpBackSaid :=
  OpenClaim.holds_of_wide 7 Tryd.f7 rfl rfl rfl rfl rfl rfl rfl ⟨rfl, rfl, rfl, rfl, rfl⟩ rfl rfl rfl rfl rfl (by kernel_rfl) Tryd.func7 (by kernel_rfl)
    (of_decide_eq_true (by kernel_rfl)) (by unfold Func.isWrapper; first | (rw [if_pos (by decide +kernel)]; kernel_rfl) | (rw [if_neg (by decide +kernel)]; exact ⟨rfl, rfl⟩))
    (fun os started H enc _ => tftpBack_lifted os started H enc)

theorem tftpBack_card : Rows.TftpBackCardSaid :=
  Claim7.holds_tied_plain_at .later [] [.data, .data, .data, .sentinel, .sentinel] true (true, "57917abc3043b30326b73d3c41ae8754757e9b53f33011c05b618fb3e5176772") true
    tftpBack_holds (fun _ h => by cases h) (by kernel_rfl) (fun _ h => by cases h) tftpBack_row_tie rfl ⟨rfl, rfl⟩ (by kernel_rfl) rfl
    (fun f fn hf hfn => by
      obtain rfl : f = 7 := Option.some.inj ((show Tryd.prog.funcNamed Rows.tftpBackRow.func = some 7 by kernel_rfl).symm.trans hf) |>.symm
      obtain rfl : fn = Tryd.f7 := (Option.some.inj (Tryd.func7.symm.trans hfn)).symm
      exact ⟨by kernel_rfl, fun j t ht => by
        rw [Tryd.params7] at ht
        have hm : t ∈ [26, 24, 46] := by simpa using Array.mem_of_getElem? ht
        have hall : ([26, 24, 46].all fun u => !Tryd.prog.wantsStandIn u) = true := by kernel_rfl
        exact (show Tryd.prog.wantsStandIn t = false by simpa using List.all_eq_true.1 hall t hm)⟩)
    (by kernel_rfl)
end Go.Proofs.YtdcppiknomoigaaDoor
