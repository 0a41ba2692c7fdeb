/-
  The document's Seal.
-/
import Derived.Test.YtnjhlndikbkeaaaFSealW
import Derived.Test.YtnjhlndikbkeaaaBOwnP
import Derived.Test.YtnjhlndikbkeaaaBRefPut
namespace Go.Proofs.Ytnjhlndikbkeaaa
open Go.RowKit
set_option linter.all false

/-- what Seal answers: bytes, an error's number. -/
def sealB (d s : Mac) (k : Int) (zs : List Int) : List Int := if k < 1536 ∨ 65535 < k then [] else if 1500 < zs.length then [] else sealL d s k zs
def sealE (k : Int) (zs : List Int) : Int := if k < 1536 ∨ 65535 < k then 30 else if 1500 < zs.length then 2 else 0
theorem refPut2_any (n : Int) (w : World) (h3 : 0 ≤ n) (h4 : n ≤ 65535) :
    Calls Try.prog 51 #[.int .u64 n, .int .i64 2] w fun e w' => e = .returned (.slice (some ⟨w.heap.size, 0, none⟩) 2 2) ∧ w' = w.alloc (.cells (u8s [n / 256, n % 256]).toArray 5) := by
  have h := refPut_yes n 2 w (by omega) (by omega) h3 (by omega)
  rw [putTo2, Int.emod_eq_of_lt (by omega) (by omega)] at h
  exact h
set_option maxHeartbeats 400000 in
theorem refSeal_kind (d s : Mac) (k : Int) (v : Value) (w : World) (h : k < 1536 ∨ 65535 < k) :
    Calls Try.prog 19 #[frameV d s k v] w fun e w' => e = .returned (.tuple #[.slice none 0 0, .int .i64 30]) ∧ Below w.heap.size w w' := by
  obtain ⟨d0, d1, d2, d3, d4, d5⟩ := d
  obtain ⟨s0, s1, s2, s3, s4, s5⟩ := s
  simp only [frameV]
  by_cases h1 : k < 1536
  · clear h
    go_enter Try.func19, Try.ntmps19
    go_wp2
    go_ret2
    exact ⟨rfl, bpush (Below.refl _ _) _⟩
  · have h2 : 65535 < k := by omega
    clear h
    go_enter Try.func19, Try.ntmps19
    go_wp2
    go_ret2
    exact ⟨rfl, bpush (Below.refl _ _) _⟩
set_option maxHeartbeats 400000 in
theorem refSeal_long (d s : Mac) (k : Int) (a : Option Addr) (l c : Nat) (w : World) (h1 : 1536 ≤ k) (h2 : k ≤ 65535) (h3 : 1500 < l) (h4 : l ≤ 9223372036854775807) :
    Calls Try.prog 19 #[frameV d s k (.slice a l c)] w fun e w' => e = .returned (.tuple #[.slice none 0 0, .int .i64 2]) ∧ Below w.heap.size w w' := by
  obtain ⟨d0, d1, d2, d3, d4, d5⟩ := d
  obtain ⟨s0, s1, s2, s3, s4, s5⟩ := s
  simp only [frameV]
  have h5 : (1500 : Int) < (l : Int) := by omega
  go_enter Try.func19, Try.ntmps19
  go_wp2
  go_ret2
  exact ⟨rfl, bpush (Below.refl _ _) _⟩

theorem take_succ_getD (L : List Int) (q : Nat) (h : q < L.length) : L.take (q + 1) = L.take q ++ [L.getD q 0] := by
  rw [List.take_succ_eq_append_getElem h]; simp [List.getD_eq_getElem?_getD, h]
/-- the document's Seal under way: the frame's box, the bytes so far. -/
def RefS (w : World) (F : Array Value) (L : List Int) (v : Value) (wr : World) : Prop :=
  wr.heap[w.heap.size]? = some (.cells F 51 (0, 0)) ∧ Row wr 5 v (u8s L) ∧ (∀ b, v.ownBlock = some b → w.heap.size + 1 ≤ b) ∧ Below w.heap.size w wr
theorem RefS.one {w wr : World} {F : Array Value} {L : List Int} {v : Value} (h : RefS w F L v wr) (x : Int) (hl : L.length ≤ 2000) :
    ∃ gg nn cc w', (Builtin.append_ #[43, 43] 43 #[v, .slice (some ⟨wr.heap.size, 0, none⟩) 1 1]).run Try.prog (wr.alloc (.cells #[.int .u8 x] 5)) = .ok (.slice (some ⟨gg, 0, none⟩) nn cc) w' ∧ RefS w F (L ++ [x]) (.slice (some ⟨gg, 0, none⟩) nn cc) w' := by
  obtain ⟨h1, h2, h3, h4⟩ := h
  have hlt := heap_lt h1
  have ra := h2.below (w' := wr.alloc (.cells #[.int .u8 x] 5)) ((Below.refl _ _).alloc (Nat.le_refl _) _)
  obtain ⟨g', w', hrun, row', hgr', hcase⟩ := append_one 43 43 5 _ 1 Try.underlying43 infoU8 rfl ra (.int .u8 x) rfl wr.heap.size _ (heap_new _ _) (by rw [u8s_len]; unfold maxLen; omega) (by rw [u8s_len]; omega)
  have hbox : w'.heap[w.heap.size]? = some (.cells F 51 (0, 0)) := (hgr'.block _ (by simp; omega) (fun e => by have := h3 _ e.symm; omega)).trans ((heap_old wr _ hlt).trans h1)
  have hbel : Below w.heap.size w w' := ((h4.alloc (by omega) _)).grown hgr' (by simp; omega) (fun k hk => by have := h3 k hk; omega)
  have erow : u8s L ++ [Value.int .u8 x] = u8s (L ++ [x]) := by rw [u8s_app]; rfl
  rw [erow] at row'
  rcases hcase with ⟨g0, cap, e1, e2⟩ | ⟨g0, cap, e2, hnew, _⟩
  · subst e2
    exact ⟨g0, _, cap, w', hrun, hbox, row', fun b hb => h3 b (by rw [e1]; exact hb), hbel⟩
  · subst e2
    exact ⟨g0, _, cap, w', hrun, hbox, row', fun b hb => by simp [Value.ownBlock] at hb; simp at hnew; omega, hbel⟩
theorem RefS.part {w wr : World} {F : Array Value} {L : List Int} {v : Value} (h : RefS w F L v wr) (pt : Part) (hok : pt.ok wr) (hl : L.length + pt.zs.length ≤ 2000) :
    ∃ a n c w', (Builtin.append_ #[43, 43] 43 #[v, pt.val]).run Try.prog wr = .ok (.slice a n c) w' ∧ RefS w F (L ++ pt.zs) (.slice a n c) w' := by
  obtain ⟨h1, h2, h3, h4⟩ := h
  have hlt := heap_lt h1
  obtain ⟨v', w', hrun, row', hgr', hcase⟩ := append_part h2 pt hok (by omega) 43
  obtain ⟨a, c, e, _⟩ := row'.form
  subst e
  refine ⟨a, _, c, w', hrun, (hgr'.block _ hlt (fun e => by have := h3 _ e.symm; omega)).trans h1, row', fun b hb => ?_, h4.grown hgr' (by omega) (fun k hk => by have := h3 k hk; omega)⟩
  rcases hcase with hc | hc
  · exact h3 b (by rw [← hc]; exact hb)
  · have := hc b hb; omega
theorem RefS.below {w wr w' : World} {F : Array Value} {L : List Int} {v : Value} (h : RefS w F L v wr) (hb : Below wr.heap.size wr w') : RefS w F L v w' :=
  ⟨kept h.1 hb, h.2.1.below hb, h.2.2.1, bstep h.2.2.2 hb⟩
theorem RefS.len {w wr : World} {F : Array Value} {L : List Int} {a : Option Addr} {n c : Nat} (h : RefS w F L (.slice a n c) wr) : n = L.length := by
  rcases h.2.1 with ⟨h1, h2⟩ | ⟨g, cap, cur, lo, hi, hv, _⟩
  · simp only [Value.slice.injEq] at h1
    have : L = [] := by simpa [u8s] using h2
    simp [h1.2.1, this]
  · simp only [Value.slice.injEq, u8s_len] at hv
    exact hv.2.1

def lenV : Value → Nat
  | .slice _ n _ => n
  | _ => 0
set_option maxRecDepth 20000 in
set_option maxHeartbeats 2000000 in
theorem refSeal_ok (d s : Mac) (k : Int) (pt : Part) (w : World) (hd : d.ok) (hs : s.ok) (h1 : 1536 ≤ k) (h2 : k ≤ 65535) (h3 : pt.zs.length ≤ 1500) (hok : pt.ok w) :
    Calls Try.prog 19 #[frameV d s k pt.val] w fun e w' => ∃ v, e = .returned (.tuple #[v, .int .i64 0]) ∧ Row w' 5 v (u8s (sealL d s k pt.zs)) ∧ (∀ b, v.ownBlock = some b → w.heap.size ≤ b) ∧ Below w.heap.size w w' := by
  have HP := hid hok
  have HV : Hid (pt.val = .slice pt.a pt.zs.length pt.c) := rfl
  rw [HV.out]
  have Hl : Hid (pt.zs.length = pt.zs.length) := rfl
  generalize hl : pt.zs.length = l at *
  have b1 : ¬ (1500 : Int) < (l : Int) := by omega
  have b2 : ¬ k < 1536 := by omega
  have b3 : ¬ 65535 < k := by omega
  have hkw : IntKind.u64.wrap k = k := by simp only [IntKind.wrap_u64]; omega
  have HLN := hid hl
  clear hok hl
  have HF : Hid (∀ wr : World, wr.heap[w.heap.size]? = some (.cells (frameC d s k (.slice pt.a l pt.c)) 51 (0, 0)) → (∀ q, q < 6 → wr.cell? ⟨w.heap.size, q, none⟩ = some (.int .u8 (d.zs.getD q 0))) ∧ (∀ q, q < 6 → wr.cell? ⟨w.heap.size, 6 + q, none⟩ = some (.int .u8 (s.zs.getD q 0))) ∧ wr.cell? ⟨w.heap.size, 12, none⟩ = some (.int .i64 k) ∧ wr.cell? ⟨w.heap.size, 13, none⟩ = some (.slice pt.a l pt.c)) := fun wr hg =>
    ⟨fun q hq => by rw [cell_of_heap hg]; rcases (show q = 0 ∨ q = 1 ∨ q = 2 ∨ q = 3 ∨ q = 4 ∨ q = 5 by omega) with rfl | rfl | rfl | rfl | rfl | rfl <;> rfl,
     fun q hq => by rw [cell_of_heap hg]; rcases (show q = 0 ∨ q = 1 ∨ q = 2 ∨ q = 3 ∨ q = 4 ∨ q = 5 by omega) with rfl | rfl | rfl | rfl | rfl | rfl <;> rfl,
     by rw [cell_of_heap hg]; rfl, by rw [cell_of_heap hg]; rfl⟩
  have H6 : Hid (d.zs.length = 6 ∧ s.zs.length = 6) := ⟨rfl, rfl⟩
  have HSL : Hid (sealL d s k pt.zs = d.zs ++ s.zs ++ [k / 256, k % 256] ++ pt.zs ++ List.replicate (46 - pt.zs.length) 0) := rfl
  generalize hD : d.zs = D at *
  generalize hS : s.zs = S at *
  generalize hFC : frameC d s k (.slice pt.a l pt.c) = FC at *
  have HFC := hid hFC
  clear hD hS hFC
  generalize sealL d s k pt.zs = SL at *
  obtain ⟨d0, d1, d2, d3, d4, d5⟩ := d
  obtain ⟨s0, s1, s2, s3, s4, s5⟩ := s
  simp only [frameV, frameC] at *
  go_enter Try.func19, Try.ntmps19
  go_wp2
  rw [HFC.out]
  go_loopw [4, 5] (fun v i wr => ∃ q : Nat, q ≤ 6 ∧ i = .int .i64 q ∧ RefS w FC (D.take q) v wr) (fun _ i _ => 6 - (intOf i).toNat)
  case atStart => exact ⟨0, by omega, rfl, heap_new _ _, Row.nil _ _, by simp [Value.ownBlock], bpush (Below.refl _ _) _⟩
  case round =>
    obtain ⟨q, hq, rfl, hr⟩ := hrel
    have HR := hid hr
    obtain ⟨a4, c4, e4, hj⟩ := hr.2.1.form
    rw [u8s_len] at e4
    clear hr hj
    subst e4
    by_cases hq6 : q < 6
    · obtain ⟨gg, nn, cc, w', hrun, hr'⟩ := HR.out.one (D.getD q 0) (by simp; omega)
      rw [← take_succ_getD D q (by rw [H6.out.1]; exact hq6)] at hr'
      have HRUN := hid hrun
      have HR' := hid hr'
      have hc := (HF.out wr HR.out.1).1 q hq6
      have hq6' : (q : Int) < 6 := by omega
      clear hrun hr'
      generalize D.getD q 0 = z at *
      generalize (D.take q).length = n4 at *
      go_wp2_with (first | (at_builtin; refine wpList_append_run _ rfl (.tmp 24) (.tmp 29) 43 43 rfl _ _ rfl rfl HRUN.out ?_))
      go_roundw
      case rel => exact ⟨q + 1, by omega, by go_num, HR'.out⟩
      case measure => simp [intOf]; omega
    · have HRD : Hid (RefS w FC (D ++ S.take 0) (.slice a4 (D.take q).length c4) wr) := by
        have := HR.out
        have e : D.take q = D := List.take_of_length_le (by rw [H6.out.1]; omega)
        unfold Hid
        rw [e] at this
        rw [e, List.take_zero, List.append_nil]
        exact this
      generalize (D.take q).length = n4 at *
      obtain ⟨W1, rfl⟩ : ∃ W1, W1 = wr := ⟨_, rfl⟩
      clear HR
      go_wp2
      go_loopw [4, 6] (fun v i wr => ∃ q : Nat, q ≤ 6 ∧ i = .int .i64 q ∧ RefS w FC (D ++ S.take q) v wr) (fun _ i _ => 6 - (intOf i).toNat)
      case atStart => exact ⟨0, by omega, rfl, HRD.out⟩
      case round =>
        obtain ⟨q, hq, rfl, hr⟩ := hrel
        have HR := hid hr
        obtain ⟨a5, c5, e5, hj⟩ := hr.2.1.form
        rw [u8s_len] at e5
        clear hr hj
        subst e5
        by_cases hq6 : q < 6
        · obtain ⟨gg, nn, cc, w', hrun, hr'⟩ := HR.out.one (S.getD q 0) (by simp [H6.out.1]; omega)
          rw [List.append_assoc, ← take_succ_getD S q (by rw [H6.out.2]; exact hq6)] at hr'
          have HRUN := hid hrun
          have HR' := hid hr'
          have hc := (HF.out wr HR.out.1).2.1 q hq6
          have hq6' : (q : Int) < 6 := by omega
          clear hrun hr'
          generalize S.getD q 0 = z at *
          generalize (D ++ S.take q).length = n5 at *
          go_wp2_with (first | (at_builtin; refine wpList_append_run _ rfl (.tmp 35) (.tmp 40) 43 43 rfl _ _ rfl rfl HRUN.out ?_))
          go_roundw
          case rel => exact ⟨q + 1, by omega, by go_num, HR'.out⟩
          case measure => simp [intOf]; omega
        · have HR2 : Hid (RefS w FC (D ++ S) (.slice a5 (D ++ S.take q).length c5) wr) := by
            have := HR.out
            have e : S.take q = S := List.take_of_length_le (by rw [H6.out.2]; omega)
            unfold Hid
            rw [e] at this ⊢
            exact this
          clear HR
          generalize (D ++ S.take q).length = n5 at *
          obtain ⟨W2, rfl⟩ : ∃ W2, W2 = wr := ⟨_, rfl⟩
          -- the kind
          have hck := (HF.out W2 HR2.out.1).2.2.1
          have HRK := hid (HR2.out.below (w' := W2.alloc (.cells (u8s [k / 256, k % 256]).toArray 5)) ((Below.refl _ _).alloc (Nat.le_refl _) _))
          obtain ⟨a6, n6, c6, w3, hrun3, hr3⟩ := HRK.out.part ⟨some ⟨W2.heap.size, 0, none⟩, 2, [k / 256, k % 256]⟩ (Part.of_row (heap_new _ _) (by simp) (fun z hz => by simp at hz; omega)) (by simp [H6.out.1, H6.out.2])
          have HRUN3 := hid hrun3
          have HR3 := hid hr3
          clear hrun3 hr3
          -- Data
          have hcd := (HF.out w3 HR3.out.1).2.2.2
          obtain ⟨a7, n7, c7, w4, hrun4, hr4⟩ := HR3.out.part pt (Part.ok_below HP.out HR3.out.2.2.2) (by simp [H6.out.1, H6.out.2, HLN.out]; omega)
          rw [HV.out] at hrun4
          have HRUN4 := hid hrun4
          have HR4 := hid hr4
          clear hrun4 hr4
          go_wp2_with (first
            | (go_at_call 51; refine (refPut2_any _ _ (by omega) (by omega)).mono ?_; rintro e w' ⟨rfl, rfl⟩)
            | (at_builtin; refine wpList_append_run _ rfl (.tmp 46) (.tmp 47) 43 43 rfl _ _ rfl rfl HRUN3.out ?_)
            | (at_builtin; refine wpList_append_run _ rfl (.tmp 49) (.tmp 51) 43 43 rfl _ _ rfl rfl HRUN4.out ?_))
          have HL4 : Hid (n7 = (D ++ S ++ [k / 256, k % 256] ++ pt.zs).length) := HR4.out.len
          have hn7 : n7 = 14 + l := by rw [HL4.out]; simp [H6.out.1, H6.out.2, HLN.out]; omega
          have Hn7 := hid hn7
          clear hn7 hck hcd
          go_loopw [4] (fun v wr => ∃ q : Nat, q ≤ 46 - l ∧ RefS w FC (D ++ S ++ [k / 256, k % 256] ++ pt.zs ++ List.replicate q 0) v wr) (fun v _ => 60 - (lenV v))
          case atStart => exact ⟨0, by omega, by simpa using HR4.out⟩
          case round =>
            obtain ⟨r, hr46, hr⟩ := hrel
            have HRL := hid hr
            obtain ⟨a8, c8, e8, hj⟩ := hr.2.1.form
            rw [u8s_len] at e8
            have hln : (D ++ S ++ [k / 256, k % 256] ++ pt.zs ++ List.replicate r 0).length = 14 + l + r := by simp [H6.out.1, H6.out.2, HLN.out]; omega
            rw [hln] at e8
            clear hr hj
            subst e8
            by_cases hr2 : 14 + l + r < 60
            · obtain ⟨gg, nn, cc, w', hrun, hr'⟩ := HRL.out.one 0 (by rw [hln]; omega)
              have hnn : nn = 14 + l + r + 1 := by
                rw [hr'.len, List.length_append, hln]; rfl
              have HNN := hid hnn
              rw [List.append_assoc, ← List.replicate_succ'] at hr'
              have HRUN := hid hrun
              have HR' := hid hr'
              have hr2' : ((14 : Int) + l + r) < 60 := by omega
              clear hrun hr' hln hnn
              generalize D ++ S ++ [k / 256, k % 256] ++ pt.zs = PRE at *
              go_wp2_with (first | (at_builtin; refine wpList_append_run _ rfl (.tmp 56) (.tmp 57) 43 43 rfl _ _ rfl rfl HRUN.out ?_))
              go_roundw
              case rel => exact ⟨r + 1, by omega, HR'.out⟩
              case measure => have := HNN.out; simp [lenV]; omega
            · have hre : r = 46 - l := by omega
              have HFIN : Hid (RefS w FC SL (.slice a8 (14 + l + r) c8) wr) := by
                have := HRL.out
                unfold Hid
                rw [HSL.out, HLN.out, ← hre]
                exact this
              have hr2' : ¬ ((14 : Int) + l + r) < 60 := by omega
              clear hre hln HRL
              go_wp2
              go_ret2
              exact ⟨_, rfl, HFIN.out.2.1, fun b hb => by have := HFIN.out.2.2.1 b hb; omega, HFIN.out.2.2.2⟩
end Go.Proofs.Ytnjhlndikbkeaaa
