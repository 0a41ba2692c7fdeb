/-
  The document's Encode: bytes behind bytes.
-/
import Derived.Test.YtaaoelhmanahpaaAEnc
import Derived.Test.YtaaoelhmanahpaaBOwnP
import Derived.Test.YtaaoelhmanahpaaBRefPut
namespace Go.Proofs.Ytaaoelhmanahpaa
open Go.RowKit
set_option linter.all false

theorem take_succ_getD (L : List Int) (q : Nat) (h : q < L.length) : L.take (q + 1) = L.take q ++ [L.getD q 0] := by
  rw [List.take_succ_eq_append_getElem h]; simp [List.getD_eq_getElem?_getD, h]
/-- bytes of a call's own, laid from block B on, beside a part that is read. -/
structure Own (B : Nat) (w : World) (pt : Part) (zs : List Int) (v : Value) (wr : World) : Prop where
  row : Row wr 5 v (u8s zs)
  from' : ∀ b, v.ownBlock = some b → B ≤ b
  off : ∀ b, v.ownBlock = some b → pt.off b
  part : pt.ok wr
  below : Below B w wr
theorem Own.one {B : Nat} {w wr : World} {pt : Part} {L : List Int} {v : Value} (h : Own B w pt L v wr) (hB : B ≤ w.heap.size) (x : Int) (hl : L.length ≤ 2000) :
    ∃ gg nn cc w', (Builtin.append_ #[40, 40] 40 #[v, .slice (some ⟨wr.heap.size, 0, none⟩) 1 1]).run Try.prog (wr.alloc (.cells #[.int .u8 x] 5)) = .ok (.slice (some ⟨gg, 0, none⟩) nn cc) w' ∧ Own B w pt (L ++ [x]) (.slice (some ⟨gg, 0, none⟩) nn cc) w' := by
  have hwr : B ≤ wr.heap.size := Nat.le_trans hB h.below.size
  have bl := (Below.refl wr.heap.size wr).alloc (Nat.le_refl _) (.cells #[.int .u8 x] 5)
  have ra := h.row.below bl
  have po := Part.ok_below h.part bl
  obtain ⟨g', w', hrun, row', hgr', hcase⟩ := append_one 40 40 5 _ 1 Try.underlying40 infoU8 rfl ra (.int .u8 x) rfl wr.heap.size _ (heap_new _ _) (by rw [u8s_len]; unfold maxLen; omega) (by rw [u8s_len]; omega)
  have erow : u8s L ++ [Value.int .u8 x] = u8s (L ++ [x]) := by rw [u8s_app]; rfl
  rw [erow] at row'
  have hpo : pt.ok w' := by
    cases hv : v.ownBlock with
    | none =>
      rw [hv] at hgr'
      exact Part.ok_below po ⟨hgr'.os, hgr'.tape, hgr'.output, hgr'.size, fun k hk => hgr'.block k hk (by simp)⟩
    | some b =>
      rw [hv] at hgr'
      exact Part.ok_but po (h.off b hv) ⟨hgr'.os, hgr'.tape, hgr'.output, hgr'.size, fun k hk hl => hgr'.block k hl (fun e => hk (by simpa using e))⟩
  have hbel : Below B w w' := ((h.below.alloc (by omega) _)).grown hgr' (by simp; omega) (fun k hk => h.from' k hk)
  rcases hcase with ⟨g0, cap, e1, e2⟩ | ⟨g0, cap, e2, hnew, _⟩
  · subst e2
    exact ⟨g0, _, cap, w', hrun, row', fun b hb => h.from' b (by rw [e1]; exact hb), fun b hb => h.off b (by rw [e1]; exact hb), hpo, hbel⟩
  · subst e2
    refine ⟨g0, _, cap, w', hrun, row', fun b hb => ?_, fun b hb => ?_, hpo, hbel⟩
    · simp [Value.ownBlock] at hb; simp at hnew; omega
    · simp [Value.ownBlock] at hb
      subst hb
      exact Part.ok_new po _ hnew

set_option maxRecDepth 20000 in
set_option maxHeartbeats 1000000 in
theorem refAdd_any (B : Nat) (pt : Part) (zs : List Int) (a : Option Addr) (n c : Nat) (w : World) (hB : B ≤ w.heap.size) (h : Own B w pt zs (.slice a n c) w) (hl : zs.length + pt.zs.length ≤ 2000) :
    Calls Try.prog 73 #[.slice a n c, pt.val] w fun e w' => ∃ a' n' c', e = .returned (.slice a' n' c') ∧ Own B w pt (zs ++ pt.zs) (.slice a' n' c') w' := by
  have H0 := hid h
  have HV : Hid (pt.val = .slice pt.a pt.zs.length pt.c) := rfl
  rw [HV.out]
  obtain ⟨l, Hl⟩ : ∃ l, Hid (pt.zs.length = l) := ⟨_, rfl⟩
  rw [Hl.out] at hl
  rw [Hl.out]
  clear h
  go_enter Try.func73, Try.ntmps73
  go_wp2
  go_loopw [0, 5] (fun v i wr => ∃ q : Nat, q ≤ l ∧ i = .int .i64 q ∧ Own B w pt (zs ++ pt.zs.take q) v wr) (fun _ i _ => l - (intOf i).toNat)
  case atStart => exact ⟨0, by omega, rfl, by rw [List.take_zero, List.append_nil]; exact H0.out⟩
  case round =>
    obtain ⟨q, hq, rfl, hr⟩ := hrel
    have HR := hid hr
    obtain ⟨a4, c4, e4, hj⟩ := hr.row.form
    rw [u8s_len] at e4
    clear hr hj
    subst e4
    by_cases hql : q < l
    · obtain ⟨gg, nn, cc, w', hrun, hr'⟩ := HR.out.one hB (pt.zs.getD q 0) (by have := Hl.out; simp; omega)
      rw [List.append_assoc, ← take_succ_getD pt.zs q (by rw [Hl.out]; exact hql)] at hr'
      have HRUN := hid hrun
      have HR' := hid hr'
      clear hrun hr'
      obtain ⟨b, o, hpa, hc⟩ : ∃ b o, pt.a = some ⟨b, o, none⟩ ∧ wr.cell? ⟨b, o + q, none⟩ = some (.int .u8 (pt.zs.getD q 0)) := by
        rcases HR.out.part.2.2 with he | ⟨b, o, ha, hc⟩
        · have := Hl.out; rw [he] at this; simp at this; omega
        · exact ⟨b, o, ha, hc q (by rw [Hl.out]; exact hql)⟩
      rw [hpa]
      clear hpa
      generalize pt.zs.getD q 0 = z at *
      generalize (zs ++ pt.zs.take q).length = n4 at *
      go_wp2_with (first | (at_builtin; refine wpList_append_run _ rfl _ _ 40 40 rfl _ _ rfl rfl HRUN.out ?_) | fail)
      go_roundw
      case rel => exact ⟨q + 1, by omega, by go_num, HR'.out⟩
      case measure => simp [intOf]; omega
    · have e : pt.zs.take q = pt.zs := List.take_of_length_le (by rw [Hl.out]; omega)
      rw [e] at HR ⊢
      generalize (zs ++ pt.zs).length = n4 at *
      go_wp2
      go_ret
      exact ⟨_, _, _, rfl, HR.out⟩
end Go.Proofs.Ytaaoelhmanahpaa
