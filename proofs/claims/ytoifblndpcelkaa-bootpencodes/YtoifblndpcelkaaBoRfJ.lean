import Derived.Test.YtoifblndpcelkaaBoRmJ
import Derived.Test.YtoifblndpcelkaaBNumJ
/-
  The document's Encode of bootp: zero, add, number.
-/
namespace Go.Proofs.Ytoifblndpcelkaa
open Go.RowKit
set_option linter.all false

theorem zero_at {s : ByteArray} {k : Nat} (hk : k < s.size) : (nums s)[k]? = some (s[k].toNat : Int) := by
  unfold nums
  rw [List.getElem?_map]
  have : s.data.toList[k]? = some s[k] := by
    have hk' : k < s.data.toList.length := by rw [Array.length_toList]; exact hk
    rw [List.getElem?_eq_getElem hk']
    rfl
  rw [this]
  rfl
set_option maxHeartbeats 1000000 in
theorem refZero_any (s : ByteArray) (w : World) (hs : s.size ≤ 140737488353280) :
    Calls Try.prog 67 #[.string s] w fun e w' => e = .returned (.bool (zeroIn s)) ∧ w' = w := by
  go_enter Try.func67, Try.ntmps67
  go_wp2
  go_loop [3] (fun i => ∃ k : Nat, k ≤ s.size ∧ i = .int .i64 k ∧ Hid (∀ (j : Nat), j < k → (nums s)[j]? ≠ some 0)) (fun i => s.size - (intOf i).toNat)
  case atStart => exact ⟨0, Nat.zero_le _, rfl, fun j hj => by omega⟩
  case round =>
    obtain ⟨k, hk, rfl, HJ⟩ := hrel
    by_cases hlt : k < s.size
    · have hlt' : (k : Int) < s.size := by omega
      have HA := hid (zero_at hlt)
      obtain ⟨z, hz⟩ : ∃ z : Int, z = (s[k].toNat : Int) := ⟨_, rfl⟩
      have HIX : ∀ wx, (Instr.index 9 (.string s) (.int .i64 k)).run Try.prog wx = .ok (.int .u8 z) wx := fun wx => by
        rw [hz]
        simp [Instr.index, Try.underlying9, go_sem, hlt]
      rw [← hz] at HA
      clear hz
      by_cases h0 : z = 0
      · subst h0
        have HR : Hid (zeroIn s = true) := hid (by
          unfold zeroIn
          simp only [decide_eq_true_eq]
          exact List.mem_of_getElem? HA.out)
        go_wp2
        go_ret
        exact ⟨by rw [HR.out]; rfl, rfl⟩
      · have h0' : (z == 0) = false := by simpa using h0
        have HN : Hid (∀ (j : Nat), j < k + 1 → (nums s)[j]? ≠ some 0) := fun j hj => by
          rcases Nat.lt_or_ge j k with h | h
          · exact HJ.out j h
          · have : j = k := by omega
            subst this
            rw [HA.out]
            simpa using h0
        clear h0
        go_wp2
        go_round
        case rel => exact ⟨k + 1, by omega, by go_num, HN⟩
        case measure => simp [intOf]; omega
    · have hge : ¬ (k : Int) < s.size := by omega
      have hkn : k = s.size := by omega
      have HR : Hid (zeroIn s = false) := hid (by
        unfold zeroIn
        simp only [decide_eq_false_iff_not]
        intro hm
        obtain ⟨j, hj⟩ := List.getElem?_of_mem hm
        have := (List.getElem?_eq_some_iff.1 hj).1
        rw [nums_len] at this
        exact HJ.out j (by omega) hj)
      go_wp2
      go_ret
      exact ⟨by rw [HR.out]; rfl, rfl⟩
theorem take_succ_getD (L : List Int) (q : Nat) (h : q < L.length) : L.take (q + 1) = L.take q ++ [L.getD q 0] := by
  rw [List.take_succ_eq_append_getElem h]; simp [List.getD_eq_getElem?_getD, h]
/-- bytes of a call's own, laid behind those of block g, beside a part that is read. -/
structure Own (g : Option Nat) (w : World) (pt : Part) (zs : List Int) (v : Value) (wr : World) : Prop where
  row : Row wr 5 v (u8s zs)
  loc : v.ownBlock = g ∨ ∀ b, v.ownBlock = some b → w.heap.size ≤ b
  off : ∀ b, v.ownBlock = some b → pt.off b
  part : pt.ok wr
  grown : w.grownBy wr g
theorem Own.one {g : Option Nat} {w wr : World} {pt : Part} {L : List Int} {v : Value} (h : Own g w pt L v wr) (x : Int) (hl : L.length + 1 ≤ 140737488355328) :
    ∃ gg nn cc w', (Builtin.append_ #[33, 33] 33 #[v, .slice (some ⟨wr.heap.size, 0, none⟩) 1 1]).run Try.prog (wr.alloc (.cells #[.int .u8 x] 5)) = .ok (.slice (some ⟨gg, 0, none⟩) nn cc) w' ∧ Own g w pt (L ++ [x]) (.slice (some ⟨gg, 0, none⟩) nn cc) w' := by
  have bl := (Below.refl wr.heap.size wr).alloc (Nat.le_refl _) (.cells #[.int .u8 x] 5)
  have ra := h.row.below bl
  have po := Part.ok_below h.part bl
  have hsz := h.grown.size
  obtain ⟨g', w', hrun, row', hgr', hcase⟩ := append_one 33 33 5 _ 1 Try.underlying33 infoU8 rfl ra (.int .u8 x) rfl wr.heap.size _ (heap_new _ _) (by rw [u8s_len]; unfold maxLen; omega) (by rw [u8s_len]; omega)
  have erow : u8s L ++ [Value.int .u8 x] = u8s (L ++ [x]) := by rw [u8s_app]; rfl
  rw [erow] at row'
  have hpo : pt.ok w' := by
    cases hv : v.ownBlock with
    | none =>
      rw [hv] at hgr'
      exact Part.ok_below po ⟨hgr'.os, hgr'.tape, hgr'.output, hgr'.size, fun k hk => hgr'.block k hk (by simp)⟩
    | some b =>
      rw [hv] at hgr'
      exact Part.ok_but po (h.off b hv) ⟨hgr'.os, hgr'.tape, hgr'.output, hgr'.size, fun k hk hl => hgr'.block k hl (fun e => hk (by simpa using e))⟩
  have hbel : w.grownBy w' g := grown_trans (grown_trans h.grown (grown_alloc wr _ g) (Or.inl rfl)) hgr' h.loc
  rcases hcase with ⟨g0, cap, e1, e2⟩ | ⟨g0, cap, e2, hnew, _⟩
  · subst e2
    refine ⟨g0, _, cap, w', hrun, row', ?_, fun b hb => h.off b (by rw [e1]; exact hb), hpo, hbel⟩
    have := h.loc
    rw [e1] at this
    exact this
  · subst e2
    simp at hnew
    refine ⟨g0, _, cap, w', hrun, row', Or.inr fun b hb => ?_, fun b hb => ?_, hpo, hbel⟩
    · simp [Value.ownBlock] at hb; omega
    · simp [Value.ownBlock] at hb
      subst hb
      exact Part.ok_new po _ (by simp; exact hnew)

theorem zs0_succ (n : Nat) : zs0 (n + 1) = zs0 n ++ [0] := by rw [zs0_add]; rfl
set_option maxRecDepth 20000 in
set_option maxHeartbeats 2000000 in
theorem refAdd_any (B : Option Nat) (pt : Part) (zs : List Int) (a : Option Addr) (n c : Nat) (w : World) (many : Nat) (h : Own B w pt zs (.slice a n c) w) (hl : zs.length + pt.zs.length + many ≤ 140737488355328) :
    Calls Try.prog 40 #[.slice a n c, pt.val, .int .i64 many] w fun e w' => ∃ a' n' c', e = .returned (.slice a' n' c') ∧ Own B w pt (zs ++ pt.zs ++ zs0 (many - pt.zs.length)) (.slice a' n' c') w' := by
  have H0 := hid h
  have HV : Hid (pt.val = .slice pt.a pt.zs.length pt.c) := rfl
  rw [HV.out]
  obtain ⟨l, Hl⟩ : ∃ l, Hid (pt.zs.length = l) := ⟨_, rfl⟩
  rw [Hl.out] at hl
  rw [Hl.out]
  clear h
  go_enter Try.func40, Try.ntmps40
  go_wp2
  go_loopw [0, 7] (fun v i wr => ∃ q : Nat, q ≤ l ∧ i = .int .i64 q ∧ Hid (Own B w pt (zs ++ pt.zs.take q) v wr)) (fun _ i _ => l - (intOf i).toNat)
  case atStart => exact ⟨0, by omega, rfl, by rw [List.take_zero, List.append_nil]; exact H0.out⟩
  case round =>
    obtain ⟨q, hq, rfl, HR⟩ := hrel
    obtain ⟨a4, c4, e4, hj⟩ := HR.out.row.form
    rw [u8s_len] at e4
    clear hj
    subst e4
    by_cases hql : q < l
    · obtain ⟨gg, nn, cc, w', hrun, hr'⟩ := HR.out.one (pt.zs.getD q 0) (by have := Hl.out; simp; omega)
      rw [List.append_assoc, ← take_succ_getD pt.zs q (by rw [Hl.out]; exact hql)] at hr'
      have HRUN := hid hrun
      have HR' := hid hr'
      clear hrun hr'
      obtain ⟨b, o, hpa, hc⟩ : ∃ b o, pt.a = some ⟨b, o, none⟩ ∧ wr.cell? ⟨b, o + q, none⟩ = some (.int .u8 (pt.zs.getD q 0)) := by
        rcases HR.out.part.2.2 with he | ⟨b, o, ha, hc⟩
        · have := Hl.out; rw [he] at this; simp at this; omega
        · exact ⟨b, o, ha, hc q (by rw [Hl.out]; exact hql)⟩
      rw [hpa]
      clear hpa
      generalize pt.zs.getD q 0 = z at *
      generalize (zs ++ pt.zs.take q).length = n4 at *
      go_wp2_with (first | (at_builtin; refine wpList_append_run _ rfl _ _ 33 33 rfl _ _ rfl rfl HRUN.out ?_) | fail)
      go_roundw
      case rel => exact ⟨q + 1, by omega, by go_num, HR'⟩
      case measure => simp [intOf]; omega
    · have e : pt.zs.take q = pt.zs := List.take_of_length_le (by rw [Hl.out]; omega)
      have hqq : ¬ (q : Int) < (l : Int) := by omega
      rw [e] at HR ⊢
      generalize (zs ++ pt.zs).length = n4 at *
      go_wp2
      go_loopw [0, 8] (fun v i wr => ∃ r : Nat, l ≤ r ∧ (r ≤ many ∨ r = l) ∧ i = .int .i64 r ∧ Hid (Own B w pt (zs ++ pt.zs ++ zs0 (r - l)) v wr)) (fun _ i _ => many - (intOf i).toNat)
      case atStart => exact ⟨l, Nat.le_refl _, Or.inr rfl, rfl, by rw [Nat.sub_self]; simpa [zs0] using HR⟩
      case round =>
        obtain ⟨r, hr1, hr2, rfl, HS⟩ := hrel
        obtain ⟨a5, c5, e5, hj⟩ := HS.out.row.form
        rw [u8s_len] at e5
        clear hj
        subst e5
        by_cases hrl : r < many
        · have hrl' : (r : Int) < (many : Int) := by omega
          obtain ⟨gg, nn, cc, w', hrun, hr'⟩ := HS.out.one 0 (by have := Hl.out; simp [zs0_len]; omega)
          rw [List.append_assoc (zs ++ pt.zs), ← zs0_succ, show r - l + 1 = r + 1 - l by omega] at hr'
          have HRUN := hid hrun
          have HR' := hid hr'
          clear hrun hr'
          generalize (zs ++ pt.zs ++ zs0 (r - l)).length = n5 at *
          go_wp2_with (first | (at_builtin; refine wpList_append_run _ rfl _ _ 33 33 rfl _ _ rfl rfl HRUN.out ?_) | fail)
          go_roundw
          case rel => exact ⟨r + 1, by omega, by omega, by go_num, HR'⟩
          case measure => simp [intOf]; omega
        · have hrl' : ¬ (r : Int) < (many : Int) := by omega
          have e6 : r - l = many - l := by omega
          rw [e6] at HS ⊢
          generalize (zs ++ pt.zs ++ zs0 (many - l)).length = n5 at *
          go_wp2
          go_ret
          have hs := HS.out
          first
            | exact ⟨_, _, _, rfl, hs⟩
            | (rw [List.append_assoc] at hs; exact ⟨_, _, _, rfl, hs⟩)
/-- what is laid by the document's Encode: from block B on; what lies below it stays. -/
structure OutE (B : Nat) (w : World) (zs : List Int) (v : Value) (W : World) : Prop where
  row : Row W 5 v (u8s zs)
  low : ∀ b, v.ownBlock = some b → B ≤ b
  below : Below B w W
theorem OutE.keep {B : Nat} {w W W' : World} {zs : List Int} {v : Value} (h : OutE B w zs v W) (hB : B ≤ W.heap.size) (hb : Below W.heap.size W W') : OutE B w zs v W' := ⟨h.row.below hb, h.low, h.below.trans (hb.mono hB)⟩
theorem OutE.own {B : Nat} {w W : World} {zs : List Int} {a : Option Addr} {n c : Nat} {pt : Part} (h : OutE B w zs (.slice a n c) W) (hok : pt.ok W) (ho : ∀ b, (Value.slice a n c).ownBlock = some b → pt.off b) : Own (Value.slice a n c).ownBlock W pt zs (.slice a n c) W := ⟨h.row, Or.inl rfl, ho, hok, grown_refl _ _⟩
theorem OutE.of {B : Nat} {w W W' : World} {zs zs' : List Int} {v v' : Value} {pt : Part} (h : OutE B w zs v W) (hB : B ≤ W.heap.size) (h' : Own v.ownBlock W pt zs' v' W') : OutE B w zs' v' W' := by
  refine ⟨h'.row, fun b hb => ?_, h.below.trans (grown_from h'.grown h.low hB)⟩
  rcases h'.loc with e | e
  · rw [e] at hb
    exact h.low b hb
  · exact Nat.le_trans hB (e b hb)
theorem outAdd_any {B : Nat} {w W : World} {zs : List Int} {a : Option Addr} {n c : Nat} (pt : Part) (many : Nat) (h : OutE B w zs (.slice a n c) W) (hB : B ≤ W.heap.size) (hok : pt.ok W) (ho : ∀ b, (Value.slice a n c).ownBlock = some b → pt.off b) (hl : zs.length + pt.zs.length + many ≤ 140737488355328) :
    Calls Try.prog 40 #[.slice a n c, pt.val, .int .i64 many] W fun e w' => ∃ a' n' c', e = .returned (.slice a' n' c') ∧ Hid (OutE B w (zs ++ pt.zs ++ zs0 (many - pt.zs.length)) (.slice a' n' c') w' ∧ B ≤ w'.heap.size) := by
  refine (refAdd_any _ pt zs a n c W many (h.own hok ho) hl).mono ?_
  rintro e w' ⟨a', n', c', rfl, h'⟩
  exact ⟨a', n', c', rfl, h.of hB h', Nat.le_trans hB h'.grown.size⟩
set_option maxHeartbeats 1000000 in
/-- a number behind them. -/
theorem outNum_any {B : Nat} {w W : World} {zs : List Int} {a : Option Addr} {n c : Nat} (x : Int) (m : Nat) (hm : m = 2 ∨ m = 4) (hx : 0 ≤ x ∧ x ≤ 18446744073709551615) (h : OutE B w zs (.slice a n c) W) (hB : B ≤ W.heap.size) (hl : zs.length ≤ 100000) :
    Calls Try.prog 39 #[.slice a n c, .int .u64 x, .int .i64 m] W fun e w' => ∃ a' n' c', e = .returned (.slice a' n' c') ∧ Hid (OutE B w (zs ++ byN x m) (.slice a' n' c') w' ∧ B ≤ w'.heap.size) := by
  have HP : Hid (Calls Try.prog 68 #[.int .u64 x, .int .i64 m] W fun e w' => e = .returned (.slice (some ⟨W.heap.size, 0, none⟩) m m) ∧ w' = W.alloc (.cells (u8s (byN x m)).toArray 5)) := by
    rcases hm with rfl | rfl
    · exact refPut2_any x W hx.1 hx.2
    · exact refPut4_any x W hx.1 hx.2
  have hlen := byN_len x m (by omega)
  obtain ⟨w1, hw1⟩ : ∃ w1, w1 = W.alloc (.cells (u8s (byN x m)).toArray 5) := ⟨_, rfl⟩
  have hb1 : Below W.heap.size W w1 := by rw [hw1]; exact bpush (Below.refl _ _) _
  have hr1 : w1.heap[W.heap.size]? = some (.cells (u8s (byN x m)).toArray 5 (0, 0)) := by rw [hw1]; exact heap_new _ _
  have hp1 : Part.ok w1 ⟨some ⟨W.heap.size, 0, none⟩, m, byN x m⟩ := Part.of_row hr1 (by omega) (byN_bd x m)
  have HA := hid (outAdd_any ⟨some ⟨W.heap.size, 0, none⟩, m, byN x m⟩ 0 (h.keep hB hb1) (Nat.le_trans hB hb1.size) hp1 (fun b hb => Or.inr fun b' o e => by
    simp only [Option.some.injEq, Addr.mk.injEq] at e
    have := h.row.lt hb
    omega) (by simp only; omega))
  simp only [Part.val, hlen, Nat.zero_sub] at HA
  rw [← hw1] at HP
  clear hw1 hb1 hr1 hp1
  go_enter Try.func39, Try.ntmps39
  go_wp2_with (first
    | (go_at_call 68; refine HP.out.mono ?_; rintro e w2 ⟨rfl, rfl⟩)
    | (go_at_call 40; refine HA.out.mono ?_; rintro e w3 ⟨a', n', c', rfl, HO⟩)
    | fail)
  go_ret
  refine ⟨a', n', c', rfl, ?_⟩
  have := HO.out
  simp only [zs0, List.replicate_zero, List.append_nil] at this
  exact this
end Go.Proofs.Ytoifblndpcelkaa

/-
  The document's Encode of bootp: refused. Written by mkborfr.py.
-/
namespace Go.Proofs.Ytoifblndpcelkaa
open Go.RowKit
set_option linter.all false

set_option maxRecDepth 20000 in
set_option maxHeartbeats 4000000 in
theorem refused_bad (op hops xid secs : Int) (all : Bool) (ci yi si gi b0 b1 b2 b3 b4 b5 : Int) (sname file : ByteArray) (a : Option Addr) (n c : Nat) (w : World) (z1 z2 : Bool)
    (HZ1 : Hid (Calls Try.prog 67 #[.string sname] (w.alloc (.cells #[.int .i64 op, .int .i64 hops, .int .u32 xid, .int .i64 secs, .bool all, .int .u32 ci, .int .u32 yi, .int .u32 si, .int .u32 gi, .int .u8 b0, .int .u8 b1, .int .u8 b2, .int .u8 b3, .int .u8 b4, .int .u8 b5, .string sname, .string file, .slice a n c] 28)) fun e w' => e = .returned (.bool z1) ∧ w' = (w.alloc (.cells #[.int .i64 op, .int .i64 hops, .int .u32 xid, .int .i64 secs, .bool all, .int .u32 ci, .int .u32 yi, .int .u32 si, .int .u32 gi, .int .u8 b0, .int .u8 b1, .int .u8 b2, .int .u8 b3, .int .u8 b4, .int .u8 b5, .string sname, .string file, .slice a n c] 28))))
    (HZ2 : Hid (Calls Try.prog 67 #[.string file] (w.alloc (.cells #[.int .i64 op, .int .i64 hops, .int .u32 xid, .int .i64 secs, .bool all, .int .u32 ci, .int .u32 yi, .int .u32 si, .int .u32 gi, .int .u8 b0, .int .u8 b1, .int .u8 b2, .int .u8 b3, .int .u8 b4, .int .u8 b5, .string sname, .string file, .slice a n c] 28)) fun e w' => e = .returned (.bool z2) ∧ w' = (w.alloc (.cells #[.int .i64 op, .int .i64 hops, .int .u32 xid, .int .i64 secs, .bool all, .int .u32 ci, .int .u32 yi, .int .u32 si, .int .u32 gi, .int .u8 b0, .int .u8 b1, .int .u8 b2, .int .u8 b3, .int .u8 b4, .int .u8 b5, .string sname, .string file, .slice a n c] 28))))
    (hbad : (!(decide (op = 1) || decide (op = 2)) || !(decide (0 ≤ hops) && decide (hops ≤ 255)) || !(decide (0 ≤ secs) && decide (secs ≤ 65535)) || z1 || z2) = true) :
    Calls Try.prog 38 #[.agg #[.int .i64 op, .int .i64 hops, .int .u32 xid, .int .i64 secs, .bool all, .int .u32 ci, .int .u32 yi, .int .u32 si, .int .u32 gi, .int .u8 b0, .int .u8 b1, .int .u8 b2, .int .u8 b3, .int .u8 b4, .int .u8 b5, .string sname, .string file, .slice a n c]] w fun e w' => e = .returned (.int .i64 160) ∧ Hid (Below w.heap.size w w') := by
  have HB := hid (bpush (Below.refl _ w) (.cells #[.int .i64 op, .int .i64 hops, .int .u32 xid, .int .i64 secs, .bool all, .int .u32 ci, .int .u32 yi, .int .u32 si, .int .u32 gi, .int .u8 b0, .int .u8 b1, .int .u8 b2, .int .u8 b3, .int .u8 b4, .int .u8 b5, .string sname, .string file, .slice a n c] 28))
  by_cases ho : op = 1 ∨ op = 2
  · skip
    by_cases h1 : hops < 0
    · have h1d : decide (hops < 0) = true := by simpa using h1
      clear hbad
      rcases ho with rfl | rfl
      · go_enter Try.func38, Try.ntmps38
        go_wp2_with (first
            | (go_at_call_of 67 (Value.string sname); refine HZ1.out.mono ?_; rintro e w1 ⟨rfl, hw⟩; subst w1)
            | (go_at_call_of 67 (Value.string file); refine HZ2.out.mono ?_; rintro e w1 ⟨rfl, hw⟩; subst w1)
            | fail)
        go_ret
        exact ⟨rfl, HB.out⟩
      · go_enter Try.func38, Try.ntmps38
        go_wp2_with (first
            | (go_at_call_of 67 (Value.string sname); refine HZ1.out.mono ?_; rintro e w1 ⟨rfl, hw⟩; subst w1)
            | (go_at_call_of 67 (Value.string file); refine HZ2.out.mono ?_; rintro e w1 ⟨rfl, hw⟩; subst w1)
            | fail)
        go_ret
        exact ⟨rfl, HB.out⟩
    · have h1d : decide (hops < 0) = false := by simpa using h1
      by_cases h2 : 255 < hops
      · have h2d : decide (255 < hops) = true := by simpa using h2
        clear hbad
        rcases ho with rfl | rfl
        · go_enter Try.func38, Try.ntmps38
          go_wp2_with (first
              | (go_at_call_of 67 (Value.string sname); refine HZ1.out.mono ?_; rintro e w1 ⟨rfl, hw⟩; subst w1)
              | (go_at_call_of 67 (Value.string file); refine HZ2.out.mono ?_; rintro e w1 ⟨rfl, hw⟩; subst w1)
              | fail)
          go_ret
          exact ⟨rfl, HB.out⟩
        · go_enter Try.func38, Try.ntmps38
          go_wp2_with (first
              | (go_at_call_of 67 (Value.string sname); refine HZ1.out.mono ?_; rintro e w1 ⟨rfl, hw⟩; subst w1)
              | (go_at_call_of 67 (Value.string file); refine HZ2.out.mono ?_; rintro e w1 ⟨rfl, hw⟩; subst w1)
              | fail)
          go_ret
          exact ⟨rfl, HB.out⟩
      · have h2d : decide (255 < hops) = false := by simpa using h2
        by_cases h3 : secs < 0
        · have h3d : decide (secs < 0) = true := by simpa using h3
          clear hbad
          rcases ho with rfl | rfl
          · go_enter Try.func38, Try.ntmps38
            go_wp2_with (first
                | (go_at_call_of 67 (Value.string sname); refine HZ1.out.mono ?_; rintro e w1 ⟨rfl, hw⟩; subst w1)
                | (go_at_call_of 67 (Value.string file); refine HZ2.out.mono ?_; rintro e w1 ⟨rfl, hw⟩; subst w1)
                | fail)
            go_ret
            exact ⟨rfl, HB.out⟩
          · go_enter Try.func38, Try.ntmps38
            go_wp2_with (first
                | (go_at_call_of 67 (Value.string sname); refine HZ1.out.mono ?_; rintro e w1 ⟨rfl, hw⟩; subst w1)
                | (go_at_call_of 67 (Value.string file); refine HZ2.out.mono ?_; rintro e w1 ⟨rfl, hw⟩; subst w1)
                | fail)
            go_ret
            exact ⟨rfl, HB.out⟩
        · have h3d : decide (secs < 0) = false := by simpa using h3
          by_cases h4 : 65535 < secs
          · have h4d : decide (65535 < secs) = true := by simpa using h4
            clear hbad
            rcases ho with rfl | rfl
            · go_enter Try.func38, Try.ntmps38
              go_wp2_with (first
                  | (go_at_call_of 67 (Value.string sname); refine HZ1.out.mono ?_; rintro e w1 ⟨rfl, hw⟩; subst w1)
                  | (go_at_call_of 67 (Value.string file); refine HZ2.out.mono ?_; rintro e w1 ⟨rfl, hw⟩; subst w1)
                  | fail)
              go_ret
              exact ⟨rfl, HB.out⟩
            · go_enter Try.func38, Try.ntmps38
              go_wp2_with (first
                  | (go_at_call_of 67 (Value.string sname); refine HZ1.out.mono ?_; rintro e w1 ⟨rfl, hw⟩; subst w1)
                  | (go_at_call_of 67 (Value.string file); refine HZ2.out.mono ?_; rintro e w1 ⟨rfl, hw⟩; subst w1)
                  | fail)
              go_ret
              exact ⟨rfl, HB.out⟩
          · have h4d : decide (65535 < secs) = false := by simpa using h4
            cases z1
            · cases z2
              · exfalso
                simp at hbad
                omega
              · clear hbad
                rcases ho with rfl | rfl
                · go_enter Try.func38, Try.ntmps38
                  go_wp2_with (first
                      | (go_at_call_of 67 (Value.string sname); refine HZ1.out.mono ?_; rintro e w1 ⟨rfl, hw⟩; subst w1)
                      | (go_at_call_of 67 (Value.string file); refine HZ2.out.mono ?_; rintro e w1 ⟨rfl, hw⟩; subst w1)
                      | fail)
                  go_ret
                  exact ⟨rfl, HB.out⟩
                · go_enter Try.func38, Try.ntmps38
                  go_wp2_with (first
                      | (go_at_call_of 67 (Value.string sname); refine HZ1.out.mono ?_; rintro e w1 ⟨rfl, hw⟩; subst w1)
                      | (go_at_call_of 67 (Value.string file); refine HZ2.out.mono ?_; rintro e w1 ⟨rfl, hw⟩; subst w1)
                      | fail)
                  go_ret
                  exact ⟨rfl, HB.out⟩
            · clear hbad
              rcases ho with rfl | rfl
              · go_enter Try.func38, Try.ntmps38
                go_wp2_with (first
                    | (go_at_call_of 67 (Value.string sname); refine HZ1.out.mono ?_; rintro e w1 ⟨rfl, hw⟩; subst w1)
                    | (go_at_call_of 67 (Value.string file); refine HZ2.out.mono ?_; rintro e w1 ⟨rfl, hw⟩; subst w1)
                    | fail)
                go_ret
                exact ⟨rfl, HB.out⟩
              · go_enter Try.func38, Try.ntmps38
                go_wp2_with (first
                    | (go_at_call_of 67 (Value.string sname); refine HZ1.out.mono ?_; rintro e w1 ⟨rfl, hw⟩; subst w1)
                    | (go_at_call_of 67 (Value.string file); refine HZ2.out.mono ?_; rintro e w1 ⟨rfl, hw⟩; subst w1)
                    | fail)
                go_ret
                exact ⟨rfl, HB.out⟩
  · simp only [not_or] at ho
    have q1 : (op != 1) = true := by simpa using ho.1
    have q2 : (op != 2) = true := by simpa using ho.2
    clear hbad
    go_enter Try.func38, Try.ntmps38
    go_wp2_with (first
      | (go_at_call_of 67 (Value.string sname); refine HZ1.out.mono ?_; rintro e w1 ⟨rfl, hw⟩; subst w1)
      | (go_at_call_of 67 (Value.string file); refine HZ2.out.mono ?_; rintro e w1 ⟨rfl, hw⟩; subst w1)
      | fail)
    go_ret
    exact ⟨rfl, HB.out⟩
set_option maxRecDepth 20000 in
set_option maxHeartbeats 4000000 in
theorem refused_good (op hops xid secs : Int) (all : Bool) (ci yi si gi b0 b1 b2 b3 b4 b5 : Int) (sname file : ByteArray) (a : Option Addr) (c : Nat) (os : List OP) (w : World) (h : OV w a os) (hsn : sname.size ≤ 140737488353280) (hfl : file.size ≤ 140737488353280) (n : Nat) (hn : n = os.length)
    (HZ1 : Hid (Calls Try.prog 67 #[.string sname] (w.alloc (.cells #[.int .i64 op, .int .i64 hops, .int .u32 xid, .int .i64 secs, .bool all, .int .u32 ci, .int .u32 yi, .int .u32 si, .int .u32 gi, .int .u8 b0, .int .u8 b1, .int .u8 b2, .int .u8 b3, .int .u8 b4, .int .u8 b5, .string sname, .string file, .slice a n c] 28)) fun e w' => e = .returned (.bool false) ∧ w' = (w.alloc (.cells #[.int .i64 op, .int .i64 hops, .int .u32 xid, .int .i64 secs, .bool all, .int .u32 ci, .int .u32 yi, .int .u32 si, .int .u32 gi, .int .u8 b0, .int .u8 b1, .int .u8 b2, .int .u8 b3, .int .u8 b4, .int .u8 b5, .string sname, .string file, .slice a n c] 28))))
    (HZ2 : Hid (Calls Try.prog 67 #[.string file] (w.alloc (.cells #[.int .i64 op, .int .i64 hops, .int .u32 xid, .int .i64 secs, .bool all, .int .u32 ci, .int .u32 yi, .int .u32 si, .int .u32 gi, .int .u8 b0, .int .u8 b1, .int .u8 b2, .int .u8 b3, .int .u8 b4, .int .u8 b5, .string sname, .string file, .slice a n c] 28)) fun e w' => e = .returned (.bool false) ∧ w' = (w.alloc (.cells #[.int .i64 op, .int .i64 hops, .int .u32 xid, .int .i64 secs, .bool all, .int .u32 ci, .int .u32 yi, .int .u32 si, .int .u32 gi, .int .u8 b0, .int .u8 b1, .int .u8 b2, .int .u8 b3, .int .u8 b4, .int .u8 b5, .string sname, .string file, .slice a n c] 28))))
    (ho : op = 1 ∨ op = 2) (h1 : 0 ≤ hops ∧ hops ≤ 255) (h3 : 0 ≤ secs ∧ secs ≤ 65535) :
    Calls Try.prog 38 #[.agg #[.int .i64 op, .int .i64 hops, .int .u32 xid, .int .i64 secs, .bool all, .int .u32 ci, .int .u32 yi, .int .u32 si, .int .u32 gi, .int .u8 b0, .int .u8 b1, .int .u8 b2, .int .u8 b3, .int .u8 b4, .int .u8 b5, .string sname, .string file, .slice a n c]] w fun e w' => e = .returned (.int .i64 (if decide (63 < sname.size) || decide (127 < file.size) then 2 else if ovB os then 162 else 0)) ∧ Hid (Below w.heap.size w w') := by
  have HB := hid (bpush (Below.refl _ w) (.cells #[.int .i64 op, .int .i64 hops, .int .u32 xid, .int .i64 secs, .bool all, .int .u32 ci, .int .u32 yi, .int .u32 si, .int .u32 gi, .int .u8 b0, .int .u8 b1, .int .u8 b2, .int .u8 b3, .int .u8 b4, .int .u8 b5, .string sname, .string file, .slice a n c] 28))
  have d1 : decide (hops < 0) = false := by simp; omega
  have d2 : decide (255 < hops) = false := by simp; omega
  have d3 : decide (secs < 0) = false := by simp; omega
  have d4 : decide (65535 < secs) = false := by simp; omega
  obtain ⟨S, hS⟩ : ∃ S, S = sname.size := ⟨_, rfl⟩
  obtain ⟨F, hF⟩ : ∃ F, F = file.size := ⟨_, rfl⟩
  have HSN : Hid (S = sname.size) := hS
  have HFN : Hid (F = file.size) := hF
  rw [← hS, ← hF]
  rw [← hS] at hsn
  rw [← hF] at hfl
  have HOV := hid (h.below HB.out)
  have HX := hid (heap_new w (.cells #[.int .i64 op, .int .i64 hops, .int .u32 xid, .int .i64 secs, .bool all, .int .u32 ci, .int .u32 yi, .int .u32 si, .int .u32 gi, .int .u8 b0, .int .u8 b1, .int .u8 b2, .int .u8 b3, .int .u8 b4, .int .u8 b5, .string sname, .string file, .slice a n c] 28))
  have cc := fun q => cell_of_heap HX.out q
  have HN := hid hn
  have hfew : n ≤ 4398046511104 := by rw [hn]; exact h.few
  clear hn h
  have key : (∃ B : Bool, (decide (63 < S) || decide (127 < F)) = B) := ⟨_, rfl⟩
  have sz1 : sname.size = S := hS.symm
  have sz2 : file.size = F := hF.symm
  clear hS hF
  by_cases hl1 : 63 < S
  · have q1 : decide ((63 : Int) < (S : Int)) = true := by simp; omega
    have e1 : (decide (63 < S) || decide (127 < F)) = true := by simp [hl1]
    rw [e1]
    rcases ho with rfl | rfl
    · go_enter Try.func38, Try.ntmps38
      go_wp2_with (first
        | (go_at_call_of 67 (Value.string sname); refine HZ1.out.mono ?_; rintro e w1 ⟨rfl, hw⟩; subst w1)
        | (go_at_call_of 67 (Value.string file); refine HZ2.out.mono ?_; rintro e w1 ⟨rfl, hw⟩; subst w1)
        | fail)
      go_ret
      exact ⟨rfl, HB.out⟩
    · go_enter Try.func38, Try.ntmps38
      go_wp2_with (first
        | (go_at_call_of 67 (Value.string sname); refine HZ1.out.mono ?_; rintro e w1 ⟨rfl, hw⟩; subst w1)
        | (go_at_call_of 67 (Value.string file); refine HZ2.out.mono ?_; rintro e w1 ⟨rfl, hw⟩; subst w1)
        | fail)
      go_ret
      exact ⟨rfl, HB.out⟩
  · have q1 : decide ((63 : Int) < (S : Int)) = false := by simp; omega
    by_cases hl2 : 127 < F
    · have q2 : decide ((127 : Int) < (F : Int)) = true := by simp; omega
      have e1 : (decide (63 < S) || decide (127 < F)) = true := by simp [hl2]
      rw [e1]
      rcases ho with rfl | rfl
      · go_enter Try.func38, Try.ntmps38
        go_wp2_with (first
          | (go_at_call_of 67 (Value.string sname); refine HZ1.out.mono ?_; rintro e w1 ⟨rfl, hw⟩; subst w1)
          | (go_at_call_of 67 (Value.string file); refine HZ2.out.mono ?_; rintro e w1 ⟨rfl, hw⟩; subst w1)
          | fail)
        go_ret
        exact ⟨rfl, HB.out⟩
      · go_enter Try.func38, Try.ntmps38
        go_wp2_with (first
          | (go_at_call_of 67 (Value.string sname); refine HZ1.out.mono ?_; rintro e w1 ⟨rfl, hw⟩; subst w1)
          | (go_at_call_of 67 (Value.string file); refine HZ2.out.mono ?_; rintro e w1 ⟨rfl, hw⟩; subst w1)
          | fail)
        go_ret
        exact ⟨rfl, HB.out⟩
    · have q2 : decide ((127 : Int) < (F : Int)) = false := by simp; omega
      have e1 : (decide (63 < S) || decide (127 < F)) = false := by simp [hl1, hl2]
      rw [e1]
      simp only [Bool.false_eq_true, if_false]
      clear hl1 hl2 e1 key
      obtain ⟨R, hR⟩ : ∃ R : Int, R = (if ovB os = true then 162 else 0) := ⟨_, rfl⟩
      have HRD := hid hR
      rw [← hR]
      clear hR
      rcases ho with rfl | rfl
      · go_enter Try.func38, Try.ntmps38
        go_wp2_with (first
          | (go_at_call_of 67 (Value.string sname); refine HZ1.out.mono ?_; rintro e w1 ⟨rfl, hw⟩; subst w1)
          | (go_at_call_of 67 (Value.string file); refine HZ2.out.mono ?_; rintro e w1 ⟨rfl, hw⟩; subst w1)
          | fail)
        generalize w.alloc (.cells #[.int .i64 1, .int .i64 hops, .int .u32 xid, .int .i64 secs, .bool all, .int .u32 ci, .int .u32 yi, .int .u32 si, .int .u32 gi, .int .u8 b0, .int .u8 b1, .int .u8 b2, .int .u8 b3, .int .u8 b4, .int .u8 b5, .string sname, .string file, .slice a n c] 28) = W at *
        obtain ⟨g, hg⟩ : ∃ g, g = w.heap.size := ⟨_, rfl⟩
        rw [← hg] at HX cc ⊢
        clear hg
        go_loopw [5] (fun i wr => ∃ k : Nat, k ≤ n ∧ i = .int .i64 k ∧ wr = W ∧ Hid (∀ (j : Nat), j < k → ∀ o, os[j]? = some o → o.1 ≠ 52)) (fun i _ => n - (intOf i).toNat)
        case atStart => exact ⟨0, Nat.zero_le _, rfl, rfl, fun j hj => by omega⟩
        case round =>
          obtain ⟨k, hk, rfl, rfl, HJ⟩ := hrel
          by_cases hlt : k < n
          · have hlt' : (k : Int) < n := by omega
            obtain ⟨⟨cd, ad, cp, zs⟩, hos⟩ : ∃ o, os[k]? = some o := ⟨os[k]'(by rw [← HN.out]; exact hlt), List.getElem?_eq_getElem _⟩
            obtain ⟨b, off, ea, c0, c1⟩ := HOV.out.cell k _ hos
            simp only [Part.val] at c0 c1
            subst ea
            have HXO := hid hos
            clear hos
            by_cases he : cd = 52
            · have he' : (cd == 52) = true := by simpa using he
              have HR : Hid (ovB os = true) := hid (by
                unfold ovB
                rw [List.any_eq_true]
                exact ⟨_, List.mem_of_getElem? HXO.out, he'⟩)
              clear he
              go_wp2
              go_ret
              exact ⟨by rw [HRD.out, HR.out]; rfl, HB.out⟩
            · have he' : (cd == 52) = false := by simpa using he
              have HE := hid he
              clear he
              go_wp2
              go_roundw
              case rel =>
                refine ⟨k + 1, by omega, by go_num, (by first | exact rfl | trivial), fun j hj o ho' => ?_⟩
                rcases Nat.lt_or_ge j k with h5 | h5
                · exact HJ.out j h5 o ho'
                · have : j = k := by omega
                  subst this
                  rw [HXO.out] at ho'
                  simp only [Option.some.injEq] at ho'
                  subst ho'
                  exact HE.out
              case measure => simp [intOf]; omega
          · have hge : ¬ (k : Int) < n := by omega
            have hkn : k = n := by omega
            have HR : Hid (ovB os = false) := hid (by
              unfold ovB
              rw [List.any_eq_false]
              intro o ho'
              obtain ⟨j, hj⟩ := List.getElem?_of_mem ho'
              have h5 := HJ.out j (by have := (List.getElem?_eq_some_iff.1 hj).1; have := HN.out; omega) o hj
              simpa using h5)
            go_wp2
            go_ret
            exact ⟨by rw [HRD.out, HR.out]; rfl, HB.out⟩
      · go_enter Try.func38, Try.ntmps38
        go_wp2_with (first
          | (go_at_call_of 67 (Value.string sname); refine HZ1.out.mono ?_; rintro e w1 ⟨rfl, hw⟩; subst w1)
          | (go_at_call_of 67 (Value.string file); refine HZ2.out.mono ?_; rintro e w1 ⟨rfl, hw⟩; subst w1)
          | fail)
        generalize w.alloc (.cells #[.int .i64 2, .int .i64 hops, .int .u32 xid, .int .i64 secs, .bool all, .int .u32 ci, .int .u32 yi, .int .u32 si, .int .u32 gi, .int .u8 b0, .int .u8 b1, .int .u8 b2, .int .u8 b3, .int .u8 b4, .int .u8 b5, .string sname, .string file, .slice a n c] 28) = W at *
        obtain ⟨g, hg⟩ : ∃ g, g = w.heap.size := ⟨_, rfl⟩
        rw [← hg] at HX cc ⊢
        clear hg
        go_loopw [5] (fun i wr => ∃ k : Nat, k ≤ n ∧ i = .int .i64 k ∧ wr = W ∧ Hid (∀ (j : Nat), j < k → ∀ o, os[j]? = some o → o.1 ≠ 52)) (fun i _ => n - (intOf i).toNat)
        case atStart => exact ⟨0, Nat.zero_le _, rfl, rfl, fun j hj => by omega⟩
        case round =>
          obtain ⟨k, hk, rfl, rfl, HJ⟩ := hrel
          by_cases hlt : k < n
          · have hlt' : (k : Int) < n := by omega
            obtain ⟨⟨cd, ad, cp, zs⟩, hos⟩ : ∃ o, os[k]? = some o := ⟨os[k]'(by rw [← HN.out]; exact hlt), List.getElem?_eq_getElem _⟩
            obtain ⟨b, off, ea, c0, c1⟩ := HOV.out.cell k _ hos
            simp only [Part.val] at c0 c1
            subst ea
            have HXO := hid hos
            clear hos
            by_cases he : cd = 52
            · have he' : (cd == 52) = true := by simpa using he
              have HR : Hid (ovB os = true) := hid (by
                unfold ovB
                rw [List.any_eq_true]
                exact ⟨_, List.mem_of_getElem? HXO.out, he'⟩)
              clear he
              go_wp2
              go_ret
              exact ⟨by rw [HRD.out, HR.out]; rfl, HB.out⟩
            · have he' : (cd == 52) = false := by simpa using he
              have HE := hid he
              clear he
              go_wp2
              go_roundw
              case rel =>
                refine ⟨k + 1, by omega, by go_num, (by first | exact rfl | trivial), fun j hj o ho' => ?_⟩
                rcases Nat.lt_or_ge j k with h5 | h5
                · exact HJ.out j h5 o ho'
                · have : j = k := by omega
                  subst this
                  rw [HXO.out] at ho'
                  simp only [Option.some.injEq] at ho'
                  subst ho'
                  exact HE.out
              case measure => simp [intOf]; omega
          · have hge : ¬ (k : Int) < n := by omega
            have hkn : k = n := by omega
            have HR : Hid (ovB os = false) := hid (by
              unfold ovB
              rw [List.any_eq_false]
              intro o ho'
              obtain ⟨j, hj⟩ := List.getElem?_of_mem ho'
              have h5 := HJ.out j (by have := (List.getElem?_eq_some_iff.1 hj).1; have := HN.out; omega) o hj
              simpa using h5)
            go_wp2
            go_ret
            exact ⟨by rw [HRD.out, HR.out]; rfl, HB.out⟩
theorem refused_any (m : Bp) (hm : m.ok) (a : Option Addr) (c : Nat) (os : List OP) (w : World) (h : OV w a os) :
    Calls Try.prog 38 #[m.val (.slice a os.length c)] w fun e w' => e = .returned (.int .i64 (unE m (ovB os))) ∧ Hid (Below w.heap.size w w') := by
  have hsn := hm.sname
  have hfl := hm.file
  obtain ⟨op, hops, xid, secs, all, ci, yi, si, gi, ⟨b0, b1, b2, b3, b4, b5⟩, sname, file⟩ := m
  simp only [Bp.val, Bp.cells] at *
  have HZ1 := fun W => hid (refZero_any sname W hsn)
  have HZ2 := fun W => hid (refZero_any file W hfl)
  unfold unE
  by_cases hb : badB ⟨op, hops, xid, secs, all, ci, yi, si, gi, ⟨b0, b1, b2, b3, b4, b5⟩, sname, file⟩ = true
  · rw [if_pos hb]
    exact refused_bad op hops xid secs all ci yi si gi b0 b1 b2 b3 b4 b5 sname file a os.length c w (zeroIn sname) (zeroIn file) (HZ1 _) (HZ2 _) hb
  · rw [if_neg hb]
    have hb' : badB ⟨op, hops, xid, secs, all, ci, yi, si, gi, ⟨b0, b1, b2, b3, b4, b5⟩, sname, file⟩ = false := by simpa using hb
    simp only [badB, Bool.or_eq_false_iff, Bool.not_eq_false', Bool.or_eq_true, Bool.and_eq_true, decide_eq_true_eq] at hb'
    obtain ⟨⟨⟨⟨a1, a2⟩, a3⟩, a4⟩, a5⟩ := hb'
    have k1 := HZ1 (w.alloc (.cells #[.int .i64 op, .int .i64 hops, .int .u32 xid, .int .i64 secs, .bool all, .int .u32 ci, .int .u32 yi, .int .u32 si, .int .u32 gi, .int .u8 b0, .int .u8 b1, .int .u8 b2, .int .u8 b3, .int .u8 b4, .int .u8 b5, .string sname, .string file, .slice a os.length c] 28))
    have k2 := HZ2 (w.alloc (.cells #[.int .i64 op, .int .i64 hops, .int .u32 xid, .int .i64 secs, .bool all, .int .u32 ci, .int .u32 yi, .int .u32 si, .int .u32 gi, .int .u8 b0, .int .u8 b1, .int .u8 b2, .int .u8 b3, .int .u8 b4, .int .u8 b5, .string sname, .string file, .slice a os.length c] 28))
    rw [a4] at k1
    rw [a5] at k2
    exact refused_good op hops xid secs all ci yi si gi b0 b1 b2 b3 b4 b5 sname file a c os w h hsn hfl os.length rfl k1 k2 a1 a2 a3
end Go.Proofs.Ytoifblndpcelkaa
