/-
  Tftp: the document's hasZero, add (out of bootp's and icmp's texts), word, text.
-/
import Derived.Test.YtdcppiknomoigaaDoorTfAg
import Derived.Test.YtdcppiknomoigaaDoorTfD
import Derived.Test.YtdcppiknomoigaaDoorBPutJ
import Derived.Test.YtdcppiknomoigaaDoorBOwnP
namespace Go.Proofs.YtdcppiknomoigaaDoor
open Go.RowKit
set_option linter.all false

def nums (s : ByteArray) : List Int := s.data.toList.map fun x => (x.toNat : Int)
theorem nums_len (s : ByteArray) : (nums s).length = s.size := by unfold nums; rw [List.length_map]; rfl
theorem nums_bd (s : ByteArray) : ∀ z, z ∈ nums s → 0 ≤ z ∧ z ≤ 255 := fun z hz => by
  simp only [nums, List.mem_map] at hz
  obtain ⟨x, _, rfl⟩ := hz
  have := x.toNat_lt
  omega
theorem str_nums (s : ByteArray) : strOfNums (nums s) = s := by
  unfold strOfNums nums
  rw [List.map_map]
  have : ((fun n : Int => UInt8.ofNat n.toNat) ∘ fun x : UInt8 => (x.toNat : Int)) = id := by
    funext x
    simp
  rw [this]
  simp
theorem nums_str {zs : List Int} (h : ∀ z, z ∈ zs → 0 ≤ z ∧ z ≤ 255) : nums (strOfNums zs) = zs := by
  unfold strOfNums nums
  rw [List.map_map]
  conv => rhs; rw [← List.map_id zs]
  apply List.map_congr_left
  intro z hz
  have := h z hz
  simp only [Function.comp, id]
  rw [UInt8.toNat_ofNat_of_lt' (by show z.toNat < 256; omega)]
  omega
def zeroIn (s : ByteArray) : Bool := decide ((0 : Int) ∈ nums s)
theorem zero_at {s : ByteArray} {k : Nat} (hk : k < s.size) : (nums s)[k]? = some (s[k].toNat : Int) := by
  unfold nums
  rw [List.getElem?_map]
  have : s.data.toList[k]? = some s[k] := by
    have hk' : k < s.data.toList.length := by rw [Array.length_toList]; exact hk
    rw [List.getElem?_eq_getElem hk']
    rfl
  rw [this]
  rfl
set_option maxHeartbeats 1000000 in
theorem refZero_any (s : ByteArray) (w : World) (hs : s.size ≤ 140737488353280) :
    Calls Tryd.prog 63 #[.string s] w fun e w' => e = .returned (.bool (zeroIn s)) ∧ w' = w := by
  go_enter Tryd.func63, Tryd.ntmps63
  go_wp2
  go_loop [3] (fun i => ∃ k : Nat, k ≤ s.size ∧ i = .int .i64 k ∧ Hid (∀ (j : Nat), j < k → (nums s)[j]? ≠ some 0)) (fun i => s.size - (intOfT i).toNat)
  case atStart => exact ⟨0, Nat.zero_le _, rfl, fun j hj => by omega⟩
  case round =>
    obtain ⟨k, hk, rfl, HJ⟩ := hrel
    by_cases hlt : k < s.size
    · have hlt' : (k : Int) < s.size := by omega
      have HA := hid (zero_at hlt)
      obtain ⟨z, hz⟩ : ∃ z : Int, z = (s[k].toNat : Int) := ⟨_, rfl⟩
      have HIX : ∀ wx, (Instr.index 9 (.string s) (.int .i64 k)).run Tryd.prog wx = .ok (.int .u8 z) wx := fun wx => by
        rw [hz]
        simp [Instr.index, Tryd.underlying9, go_sem, hlt]
      rw [← hz] at HA
      clear hz
      by_cases h0 : z = 0
      · subst h0
        have HR : Hid (zeroIn s = true) := hid (by
          unfold zeroIn
          simp only [decide_eq_true_eq]
          exact List.mem_of_getElem? HA.out)
        go_wp2
        go_ret
        exact ⟨by rw [HR.out]; rfl, rfl⟩
      · have h0' : (z == 0) = false := by simpa using h0
        have HN : Hid (∀ (j : Nat), j < k + 1 → (nums s)[j]? ≠ some 0) := fun j hj => by
          rcases Nat.lt_or_ge j k with h | h
          · exact HJ.out j h
          · have : j = k := by omega
            subst this
            rw [HA.out]
            simpa using h0
        clear h0
        go_wp2
        go_round
        case rel => exact ⟨k + 1, by omega, by go_num, HN⟩
        case measure => simp [intOfT]; omega
    · have hge : ¬ (k : Int) < s.size := by omega
      have hkn : k = s.size := by omega
      have HR : Hid (zeroIn s = false) := hid (by
        unfold zeroIn
        simp only [decide_eq_false_iff_not]
        intro hm
        obtain ⟨j, hj⟩ := List.getElem?_of_mem hm
        have := (List.getElem?_eq_some_iff.1 hj).1
        rw [nums_len] at this
        exact HJ.out j (by omega) hj)
      go_wp2
      go_ret
      exact ⟨by rw [HR.out]; rfl, rfl⟩
theorem take_succ_getD (L : List Int) (q : Nat) (h : q < L.length) : L.take (q + 1) = L.take q ++ [L.getD q 0] := by
  rw [List.take_succ_eq_append_getElem h]; simp [List.getD_eq_getElem?_getD, h]
/-- bytes of a call's own, laid behind those of block g, beside a part that is read. -/
structure Own (g : Option Nat) (w : World) (pt : Part) (zs : List Int) (v : Value) (wr : World) : Prop where
  row : Row wr 5 v (u8s zs)
  loc : v.ownBlock = g ∨ ∀ b, v.ownBlock = some b → w.heap.size ≤ b
  off : ∀ b, v.ownBlock = some b → pt.off b
  part : pt.ok wr
  grown : w.grownBy wr g
theorem Own.one {g : Option Nat} {w wr : World} {pt : Part} {L : List Int} {v : Value} (h : Own g w pt L v wr) (x : Int) (hl : L.length + 1 ≤ 140737488355328) :
    ∃ gg nn cc w', (Builtin.append_ #[24, 24] 24 #[v, .slice (some ⟨wr.heap.size, 0, none⟩) 1 1]).run Tryd.prog (wr.alloc (.cells #[.int .u8 x] 5)) = .ok (.slice (some ⟨gg, 0, none⟩) nn cc) w' ∧ Own g w pt (L ++ [x]) (.slice (some ⟨gg, 0, none⟩) nn cc) w' := by
  have bl := (Below.refl wr.heap.size wr).alloc (Nat.le_refl _) (.cells #[.int .u8 x] 5)
  have ra := h.row.below bl
  have po := Part.ok_below h.part bl
  have hsz := h.grown.size
  obtain ⟨g', w', hrun, row', hgr', hcase⟩ := append_one 24 24 5 _ 1 Tryd.underlying24 infoU8 rfl ra (.int .u8 x) rfl wr.heap.size _ (heap_new _ _) (by rw [u8s_len]; unfold maxLen; omega) (by rw [u8s_len]; omega)
  have erow : u8s L ++ [Value.int .u8 x] = u8s (L ++ [x]) := by rw [u8s_app]; rfl
  rw [erow] at row'
  have hpo : pt.ok w' := by
    cases hv : v.ownBlock with
    | none =>
      rw [hv] at hgr'
      exact Part.ok_below po ⟨hgr'.os, hgr'.tape, hgr'.output, hgr'.size, fun k hk => hgr'.block k hk (by simp)⟩
    | some b =>
      rw [hv] at hgr'
      exact Part.ok_but po (h.off b hv) ⟨hgr'.os, hgr'.tape, hgr'.output, hgr'.size, fun k hk hl => hgr'.block k hl (fun e => hk (by simpa using e))⟩
  have hbel : w.grownBy w' g := grown_trans (grown_trans h.grown (grown_alloc wr _ g) (Or.inl rfl)) hgr' h.loc
  rcases hcase with ⟨g0, cap, e1, e2⟩ | ⟨g0, cap, e2, hnew, _⟩
  · subst e2
    refine ⟨g0, _, cap, w', hrun, row', ?_, fun b hb => h.off b (by rw [e1]; exact hb), hpo, hbel⟩
    have := h.loc
    rw [e1] at this
    exact this
  · subst e2
    simp at hnew
    refine ⟨g0, _, cap, w', hrun, row', Or.inr fun b hb => ?_, fun b hb => ?_, hpo, hbel⟩
    · simp [Value.ownBlock] at hb; omega
    · simp [Value.ownBlock] at hb
      subst hb
      exact Part.ok_new po _ (by simp; exact hnew)

set_option maxRecDepth 20000 in
set_option maxHeartbeats 1000000 in
theorem refAdd_any (B : Option Nat) (pt : Part) (zs : List Int) (a : Option Addr) (n c : Nat) (w : World) (h : Own B w pt zs (.slice a n c) w) (hl : zs.length + pt.zs.length ≤ 140737488355328) :
    Calls Tryd.prog 36 #[.slice a n c, pt.val] w fun e w' => ∃ a' n' c', e = .returned (.slice a' n' c') ∧ Own B w pt (zs ++ pt.zs) (.slice a' n' c') w' := by
  have H0 := hid h
  have HV : Hid (pt.val = .slice pt.a pt.zs.length pt.c) := rfl
  rw [HV.out]
  obtain ⟨l, Hl⟩ : ∃ l, Hid (pt.zs.length = l) := ⟨_, rfl⟩
  rw [Hl.out] at hl
  rw [Hl.out]
  clear h
  go_enter Tryd.func36, Tryd.ntmps36
  go_wp2
  go_loopw [0, 5] (fun v i wr => ∃ q : Nat, q ≤ l ∧ i = .int .i64 q ∧ Own B w pt (zs ++ pt.zs.take q) v wr) (fun _ i _ => l - (intOfT i).toNat)
  case atStart => exact ⟨0, by omega, rfl, by rw [List.take_zero, List.append_nil]; exact H0.out⟩
  case round =>
    obtain ⟨q, hq, rfl, hr⟩ := hrel
    have HR := hid hr
    obtain ⟨a4, c4, e4, hj⟩ := hr.row.form
    rw [u8s_len] at e4
    clear hr hj
    subst e4
    by_cases hql : q < l
    · obtain ⟨gg, nn, cc, w', hrun, hr'⟩ := HR.out.one (pt.zs.getD q 0) (by have := Hl.out; simp; omega)
      rw [List.append_assoc, ← take_succ_getD pt.zs q (by rw [Hl.out]; exact hql)] at hr'
      have HRUN := hid hrun
      have HR' := hid hr'
      clear hrun hr'
      obtain ⟨b, o, hpa, hc⟩ : ∃ b o, pt.a = some ⟨b, o, none⟩ ∧ wr.cell? ⟨b, o + q, none⟩ = some (.int .u8 (pt.zs.getD q 0)) := by
        rcases HR.out.part.2.2 with he | ⟨b, o, ha, hc⟩
        · have := Hl.out; rw [he] at this; simp at this; omega
        · exact ⟨b, o, ha, hc q (by rw [Hl.out]; exact hql)⟩
      rw [hpa]
      clear hpa
      generalize pt.zs.getD q 0 = z at *
      generalize (zs ++ pt.zs.take q).length = n4 at *
      go_wp2_with (first | (at_builtin; refine wpList_append_run _ rfl _ _ 24 24 rfl _ _ rfl rfl HRUN.out ?_) | fail)
      go_roundw
      case rel => exact ⟨q + 1, by omega, by go_num, HR'.out⟩
      case measure => simp [intOfT]; omega
    · have e : pt.zs.take q = pt.zs := List.take_of_length_le (by rw [Hl.out]; omega)
      rw [e] at HR ⊢
      generalize (zs ++ pt.zs).length = n4 at *
      go_wp2
      go_ret
      exact ⟨_, _, _, rfl, HR.out⟩
/-- add behind nothing. -/
theorem refAdd_nil (pt : Part) (w : World) (hok : pt.ok w) (hl : pt.zs.length ≤ 140737488355328) :
    Calls Tryd.prog 36 #[.slice none 0 0, pt.val] w fun e w' => ∃ a n c, e = .returned (.slice a n c) ∧ Hid (Ans w w' pt.zs a n c) := by
  have h := refAdd_any none pt [] none 0 0 w ⟨Row.nil _ _, Or.inl rfl, by simp [Value.ownBlock], hok, grown_refl _ _⟩ (by simpa using hl)
  refine h.mono ?_
  rintro e w' ⟨a, n, c, rfl, ho⟩
  rw [List.nil_append] at ho
  refine ⟨a, n, c, rfl, ho.row, fun b hb => ?_, ⟨ho.grown.os, ho.grown.tape, ho.grown.output, ho.grown.size, fun k hk => ho.grown.block k hk (by simp)⟩⟩
  rcases ho.loc with h | h
  · rw [h] at hb; cases hb
  · exact h b hb
/-- add behind bytes of the caller's own. -/
theorem refAdd_own (pt : Part) (zs : List Int) (g n c : Nat) (w : World) (hr : Row w 5 (.slice (some ⟨g, 0, none⟩) n c) (u8s zs)) (ho : pt.off g) (hok : pt.ok w) (hl : zs.length + pt.zs.length ≤ 140737488355328) :
    Calls Tryd.prog 36 #[.slice (some ⟨g, 0, none⟩) n c, pt.val] w fun e w' => ∃ a' n' c', e = .returned (.slice a' n' c') ∧ Hid (Row w' 5 (.slice a' n' c') (u8s (zs ++ pt.zs)) ∧ (∀ b, (Value.slice a' n' c').ownBlock = some b → b = g ∨ w.heap.size ≤ b) ∧ But g w w') := by
  refine (refAdd_any (some g) pt zs (some ⟨g, 0, none⟩) n c w ⟨hr, Or.inl rfl, fun b hb => by simp [Value.ownBlock] at hb; subst hb; exact ho, hok, grown_refl _ _⟩ hl).mono ?_
  rintro e w' ⟨a, n, c, rfl, h⟩
  refine ⟨a, n, c, rfl, h.row, fun b hb => ?_, ⟨h.grown.os, h.grown.tape, h.grown.output, h.grown.size, fun k hk hl => h.grown.block k hl (fun e => hk (by simpa using e))⟩⟩
  rcases h.loc with h' | h'
  · rw [h'] at hb; left; simpa using hb.symm
  · exact Or.inr (h' b hb)
end Go.Proofs.YtdcppiknomoigaaDoor
