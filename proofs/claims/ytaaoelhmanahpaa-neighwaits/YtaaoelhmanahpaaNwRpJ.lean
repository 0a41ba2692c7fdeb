import Derived.Test.YtaaoelhmanahpaaNwWpJ
import Derived.Test.YtaaoelhmanahpaaNwBkJ
import Derived.Deep.RegionLaw
/-
  The contract of slipwayref01.Put: the same bytes as octet.Put's. For every seat.
-/
namespace Go.Proofs.Ytaaoelhmanahpaa
open Go.RowKit
set_option linter.all false

theorem shr_next (n : Int) (k : Nat) (hk : k < 8) : n / 2 ^ (8 * k) / 256 = n / 2 ^ (8 * (k + 1)) := by
  have hc : k = 0 ∨ k = 1 ∨ k = 2 ∨ k = 3 ∨ k = 4 ∨ k = 5 ∨ k = 6 ∨ k = 7 := by omega
  rcases hc with rfl | rfl | rfl | rfl | rfl | rfl | rfl | rfl <;> simp only [Nat.reduceMul, Nat.reduceAdd, Int.reducePow] <;> omega
theorem shr_bd (n : Int) (k : Nat) (hk : k ≤ 8) (h0 : 0 ≤ n) (h1 : n ≤ 18446744073709551615) : 0 ≤ n / 2 ^ (8 * k) ∧ n / 2 ^ (8 * k) ≤ 18446744073709551615 := by
  have hc : k = 0 ∨ k = 1 ∨ k = 2 ∨ k = 3 ∨ k = 4 ∨ k = 5 ∨ k = 6 ∨ k = 7 ∨ k = 8 := by omega
  rcases hc with rfl | rfl | rfl | rfl | rfl | rfl | rfl | rfl | rfl <;> simp only [Nat.reduceMul, Int.reducePow] <;> omega

set_option maxHeartbeats 400000 in
theorem refPut_yes (n : Int) (m : Nat) (w : World) (h1 : 1 ≤ m) (h2 : m ≤ 8) (h3 : 0 ≤ n) (h4 : n ≤ 18446744073709551615) :
    Calls Try.prog 13 #[.int .u64 n, .int .i64 m] w fun e w' => e = .returned (.slice (some ⟨w.heap.size, 0, none⟩) m m) ∧ w' = w.alloc (.cells (putTo n m m) 5) := by
  have hmk := fun wx => Go.run_make_row' (P := Try.prog) 40 5 (.int .u8 0) 1 Try.underlying40 infoU8 rfl .i64 .i64 m (by omega) (by omega) wx
  have n1 : ¬ (m : Int) < 1 := by omega
  have n2 : ¬ (8 : Int) < m := by omega
  go_enter Try.func13, Try.ntmps13
  go_wp2
  go_loopw [0, 6] (fun nn i wr => ∃ k : Nat, k ≤ m ∧ i = .int .i64 k ∧ nn = .int .u64 (n / 2 ^ (8 * k)) ∧ wr = w.alloc (.cells (putTo n m k) 5)) (fun _ i _ => m - (intOf i).toNat)
  case atStart => exact ⟨0, Nat.zero_le _, rfl, by simp, rfl⟩
  case round =>
    obtain ⟨k, hk, rfl, rfl, rfl⟩ := hrel
    have hbd := shr_bd n k (by omega) h3 h4
    by_cases hlt : k < m
    · obtain ⟨v, hv⟩ := putTo_get n m k (m - 1 - k) (by omega)
      have HX : Hid (n / 2 ^ (8 * (k + 1)) = n / 2 ^ (8 * k) / 256) := (shr_next n k (by omega)).symm
      have HB : Hid (putTo n m (k + 1) = (putTo n m k).setIfInBounds (m - 1 - k) (.int .u8 (n / 2 ^ (8 * k) % 256))) := rfl
      generalize n / 2 ^ (8 * k) = x at *
      go_wp2
      go_roundw
      case rel => exact ⟨k + 1, by omega, by go_num, by rw [HX.out], by rw [HB.out]⟩
      case measure => simp [intOf]; omega
    · go_wp2
      go_ret
      have : k = m := by omega
      subst this
      exact ⟨rfl, rfl⟩

set_option maxHeartbeats 400000 in
theorem refPut_no (n width : Int) (w : World) (h : width < 1 ∨ 8 < width) :
    Calls Try.prog 13 #[.int .u64 n, .int .i64 width] w fun e w' => e = .returned (.slice none 0 0) ∧ w' = w := by
  by_cases h1 : width < 1
  · clear h
    go_enter Try.func13, Try.ntmps13
    go_wp2
    go_ret
    exact ⟨rfl, rfl⟩
  · have h2 : 8 < width := by omega
    clear h
    go_enter Try.func13, Try.ntmps13
    go_wp2
    go_ret
    exact ⟨rfl, rfl⟩
end Go.Proofs.Ytaaoelhmanahpaa

/-
  The document's Encode: bytes behind bytes.
-/
namespace Go.Proofs.Ytaaoelhmanahpaa
open Go.RowKit
set_option linter.all false

theorem take_succ_getD (L : List Int) (q : Nat) (h : q < L.length) : L.take (q + 1) = L.take q ++ [L.getD q 0] := by
  rw [List.take_succ_eq_append_getElem h]; simp [List.getD_eq_getElem?_getD, h]
/-- bytes of a call's own, laid from block B on, beside a part that is read. -/
structure Own (B : Nat) (w : World) (pt : Part) (zs : List Int) (v : Value) (wr : World) : Prop where
  row : Row wr 5 v (u8s zs)
  from' : ∀ b, v.ownBlock = some b → B ≤ b
  off : ∀ b, v.ownBlock = some b → pt.off b
  part : pt.ok wr
  below : Below B w wr
theorem Own.one {B : Nat} {w wr : World} {pt : Part} {L : List Int} {v : Value} (h : Own B w pt L v wr) (hB : B ≤ w.heap.size) (x : Int) (hl : L.length ≤ 2000) :
    ∃ gg nn cc w', (Builtin.append_ #[40, 40] 40 #[v, .slice (some ⟨wr.heap.size, 0, none⟩) 1 1]).run Try.prog (wr.alloc (.cells #[.int .u8 x] 5)) = .ok (.slice (some ⟨gg, 0, none⟩) nn cc) w' ∧ Own B w pt (L ++ [x]) (.slice (some ⟨gg, 0, none⟩) nn cc) w' := by
  have hwr : B ≤ wr.heap.size := Nat.le_trans hB h.below.size
  have bl := (Below.refl wr.heap.size wr).alloc (Nat.le_refl _) (.cells #[.int .u8 x] 5)
  have ra := h.row.below bl
  have po := Part.ok_below h.part bl
  obtain ⟨g', w', hrun, row', hgr', hcase⟩ := append_one 40 40 5 _ 1 Try.underlying40 infoU8 rfl ra (.int .u8 x) rfl wr.heap.size _ (heap_new _ _) (by rw [u8s_len]; unfold maxLen; omega) (by rw [u8s_len]; omega)
  have erow : u8s L ++ [Value.int .u8 x] = u8s (L ++ [x]) := by rw [u8s_app]; rfl
  rw [erow] at row'
  have hpo : pt.ok w' := by
    cases hv : v.ownBlock with
    | none =>
      rw [hv] at hgr'
      exact Part.ok_below po ⟨hgr'.os, hgr'.tape, hgr'.output, hgr'.size, fun k hk => hgr'.block k hk (by simp)⟩
    | some b =>
      rw [hv] at hgr'
      exact Part.ok_but po (h.off b hv) ⟨hgr'.os, hgr'.tape, hgr'.output, hgr'.size, fun k hk hl => hgr'.block k hl (fun e => hk (by simpa using e))⟩
  have hbel : Below B w w' := ((h.below.alloc (by omega) _)).grown hgr' (by simp; omega) (fun k hk => h.from' k hk)
  rcases hcase with ⟨g0, cap, e1, e2⟩ | ⟨g0, cap, e2, hnew, _⟩
  · subst e2
    exact ⟨g0, _, cap, w', hrun, row', fun b hb => h.from' b (by rw [e1]; exact hb), fun b hb => h.off b (by rw [e1]; exact hb), hpo, hbel⟩
  · subst e2
    refine ⟨g0, _, cap, w', hrun, row', fun b hb => ?_, fun b hb => ?_, hpo, hbel⟩
    · simp [Value.ownBlock] at hb; simp at hnew; omega
    · simp [Value.ownBlock] at hb
      subst hb
      exact Part.ok_new po _ hnew

set_option maxRecDepth 20000 in
set_option maxHeartbeats 1000000 in
theorem refAdd_any (B : Nat) (pt : Part) (zs : List Int) (a : Option Addr) (n c : Nat) (w : World) (hB : B ≤ w.heap.size) (h : Own B w pt zs (.slice a n c) w) (hl : zs.length + pt.zs.length ≤ 2000) :
    Calls Try.prog 73 #[.slice a n c, pt.val] w fun e w' => ∃ a' n' c', e = .returned (.slice a' n' c') ∧ Own B w pt (zs ++ pt.zs) (.slice a' n' c') w' := by
  have H0 := hid h
  have HV : Hid (pt.val = .slice pt.a pt.zs.length pt.c) := rfl
  rw [HV.out]
  obtain ⟨l, Hl⟩ : ∃ l, Hid (pt.zs.length = l) := ⟨_, rfl⟩
  rw [Hl.out] at hl
  rw [Hl.out]
  clear h
  go_enter Try.func73, Try.ntmps73
  go_wp2
  go_loopw [0, 5] (fun v i wr => ∃ q : Nat, q ≤ l ∧ i = .int .i64 q ∧ Own B w pt (zs ++ pt.zs.take q) v wr) (fun _ i _ => l - (intOf i).toNat)
  case atStart => exact ⟨0, by omega, rfl, by rw [List.take_zero, List.append_nil]; exact H0.out⟩
  case round =>
    obtain ⟨q, hq, rfl, hr⟩ := hrel
    have HR := hid hr
    obtain ⟨a4, c4, e4, hj⟩ := hr.row.form
    rw [u8s_len] at e4
    clear hr hj
    subst e4
    by_cases hql : q < l
    · obtain ⟨gg, nn, cc, w', hrun, hr'⟩ := HR.out.one hB (pt.zs.getD q 0) (by have := Hl.out; simp; omega)
      rw [List.append_assoc, ← take_succ_getD pt.zs q (by rw [Hl.out]; exact hql)] at hr'
      have HRUN := hid hrun
      have HR' := hid hr'
      clear hrun hr'
      obtain ⟨b, o, hpa, hc⟩ : ∃ b o, pt.a = some ⟨b, o, none⟩ ∧ wr.cell? ⟨b, o + q, none⟩ = some (.int .u8 (pt.zs.getD q 0)) := by
        rcases HR.out.part.2.2 with he | ⟨b, o, ha, hc⟩
        · have := Hl.out; rw [he] at this; simp at this; omega
        · exact ⟨b, o, ha, hc q (by rw [Hl.out]; exact hql)⟩
      rw [hpa]
      clear hpa
      generalize pt.zs.getD q 0 = z at *
      generalize (zs ++ pt.zs.take q).length = n4 at *
      go_wp2_with (first | (at_builtin; refine wpList_append_run _ rfl _ _ 40 40 rfl _ _ rfl rfl HRUN.out ?_) | fail)
      go_roundw
      case rel => exact ⟨q + 1, by omega, by go_num, HR'.out⟩
      case measure => simp [intOf]; omega
    · have e : pt.zs.take q = pt.zs := List.take_of_length_le (by rw [Hl.out]; omega)
      rw [e] at HR ⊢
      generalize (zs ++ pt.zs).length = n4 at *
      go_wp2
      go_ret
      exact ⟨_, _, _, rfl, HR.out⟩
end Go.Proofs.Ytaaoelhmanahpaa

/-
  The document's Encode.
-/
namespace Go.Proofs.Ytaaoelhmanahpaa
open Go.RowKit
set_option linter.all false

theorem head_any (w : World) : Calls Try.prog 67 #[] w fun e w' => e = .returned (.slice (some ⟨w.heap.size, 0, none⟩) 6 6) ∧ w' = w.alloc (.cells (u8s kindsM.zs).toArray 5) := by
  go_enter Try.func67, Try.ntmps67
  go_wp2
  go_ret
  exact ⟨rfl, rfl⟩
set_option maxHeartbeats 400000 in
theorem refMac_any (m : Mac) (w : World) : Calls Try.prog 74 #[m.val] w fun e w' => ∃ g, e = .returned (.slice (some ⟨g, 0, none⟩) 6 6) ∧ w.heap.size ≤ g ∧ w'.heap[g]? = some (.cells (u8s m.zs).toArray 5 (0, 0)) ∧ Below w.heap.size w w' := by
  obtain ⟨m0, m1, m2, m3, m4, m5⟩ := m
  simp only [Mac.val, Mac.zs]
  go_enter Try.func74, Try.ntmps74
  go_wp2
  go_ret
  exact ⟨w.heap.size + 1, rfl, by omega, by have := heap_new (w.alloc (.cells #[.int .u8 m0, .int .u8 m1, .int .u8 m2, .int .u8 m3, .int .u8 m4, .int .u8 m5] 24)) (.cells #[.int .u8 m0, .int .u8 m1, .int .u8 m2, .int .u8 m3, .int .u8 m4, .int .u8 m5] 5); rwa [World.size_alloc] at this, bpush (bpush (Below.refl _ _) _) _⟩
theorem refPut4_any (n : Int) (w : World) (h3 : 0 ≤ n) (h4 : n ≤ 18446744073709551615) :
    Calls Try.prog 13 #[.int .u64 n, .int .i64 4] w fun e w' => e = .returned (.slice (some ⟨w.heap.size, 0, none⟩) 4 4) ∧ w' = w.alloc (.cells (u8s (ip4 n)).toArray 5) := by
  have h := refPut_yes n 4 w (by omega) (by omega) h3 (by omega)
  rw [putTo4] at h
  exact h
/-- the document's Encode under way: the message's box, the bytes so far. -/
def RefE (w : World) (F : Array Value) (L : List Int) (v : Value) (wr : World) : Prop :=
  wr.heap[w.heap.size]? = some (.cells F 42 (0, 0)) ∧ Row wr 5 v (u8s L) ∧ (∀ b, v.ownBlock = some b → w.heap.size + 1 ≤ b) ∧ Below w.heap.size w wr
theorem RefE.below {w wr w' : World} {F : Array Value} {L : List Int} {v : Value} (h : RefE w F L v wr) (hb : Below wr.heap.size wr w') : RefE w F L v w' :=
  ⟨kept h.1 hb, h.2.1.below hb, h.2.2.1, bstep h.2.2.2 hb⟩
theorem refAdd_off {w W : World} {F : Array Value} {L : List Int} {a : Option Addr} {n c : Nat} (h : RefE w F L (.slice a n c) W) (pt : Part) (hp : pt.ok W) (hoff : ∀ b, (Value.slice a n c).ownBlock = some b → pt.off b) (hl : L.length + pt.zs.length ≤ 2000) :
    Calls Try.prog 73 #[.slice a n c, pt.val] W fun e w' => ∃ a' n' c', e = .returned (.slice a' n' c') ∧ RefE w F (L ++ pt.zs) (.slice a' n' c') w' := by
  have hs : w.heap.size + 1 ≤ W.heap.size := heap_lt h.1
  refine (refAdd_any (w.heap.size + 1) pt L a n c W hs ⟨h.2.1, h.2.2.1, hoff, hp, Below.refl _ _⟩ hl).mono ?_
  rintro e w' ⟨a', n', c', he, ho⟩
  exact ⟨a', n', c', he, (ho.below.block _ (by omega)).trans h.1, ho.row, ho.from', h.2.2.2.trans (ho.below.mono (by omega))⟩
/-- bytes that were laid behind all else. -/
theorem refAdd_new {w wr W : World} {F : Array Value} {L : List Int} {a : Option Addr} {n c : Nat} (h : RefE w F L (.slice a n c) wr) (hb : Below wr.heap.size wr W) (g m : Nat) (ys : List Int) (hm : ys.length = m) (hg : W.heap[g]? = some (.cells (u8s ys).toArray 5 (0, 0))) (hnew : wr.heap.size ≤ g) (hy : ∀ z, z ∈ ys → 0 ≤ z ∧ z ≤ 255) (hl : L.length + m ≤ 2000) :
    Calls Try.prog 73 #[.slice a n c, .slice (some ⟨g, 0, none⟩) m m] W fun e w' => ∃ a' n' c', e = .returned (.slice a' n' c') ∧ RefE w F (L ++ ys) (.slice a' n' c') w' := by
  subst hm
  exact refAdd_off (h.below hb) ⟨some ⟨g, 0, none⟩, ys.length, ys⟩ (Part.of_row hg (Nat.le_refl _) hy) (fun b hv => Or.inr fun b' o' e => by
    simp only [Option.some.injEq, Addr.mk.injEq] at e
    have := h.2.1.lt hv
    omega) hl

set_option maxHeartbeats 400000 in
theorem refEncode_no (p : Arp) (w : World) (h : opB p.op = false) :
    Calls Try.prog 62 #[p.val] w fun e w' => e = .returned (.tuple #[.slice none 0 0, .int .i64 80]) ∧ Below w.heap.size w w' := by
  obtain ⟨o, ⟨s0, s1, s2, s3, s4, s5⟩, si, ⟨d0, d1, d2, d3, d4, d5⟩, di⟩ := p
  have h1 : (o != 1) = true := by simp [opB] at h ⊢; exact h.1
  have h2 : (o != 2) = true := by simp [opB] at h ⊢; exact h.2
  clear h
  simp only [Arp.val] at *
  go_enter Try.func62, Try.ntmps62
  go_wp2
  go_ret2
  exact ⟨rfl, bpush (Below.refl _ _) _⟩

set_option maxRecDepth 20000 in
set_option maxHeartbeats 2000000 in
theorem refEncode_ok (p : Arp) (w : World) (hp : p.ok) (h : opB p.op = true) :
    Calls Try.prog 62 #[p.val] w fun e w' => ∃ a n c, e = .returned (.tuple #[.slice a n c, .int .i64 0]) ∧ Row w' 5 (.slice a n c) (u8s (encL p)) ∧ (∀ b, (Value.slice a n c).ownBlock = some b → w.heap.size ≤ b) ∧ Below w.heap.size w w' := by
  have hop : p.op = 1 ∨ p.op = 2 := by simp [opB] at h; omega
  have HH : Hid (∀ w, Calls Try.prog 67 #[] w fun e w' => e = .returned (.slice (some ⟨w.heap.size, 0, none⟩) 6 6) ∧ w' = w.alloc (.cells (u8s kindsM.zs).toArray 5)) := head_any
  have hsi := hp.2.2.1
  have hdi := hp.2.2.2.2
  have HMS : Hid (∀ w, _) := fun w => refMac_any p.s w
  have HMD : Hid (∀ w, _) := fun w => refMac_any p.d w
  have HPS : Hid (∀ w, Calls Try.prog 13 #[.int .u64 p.si, .int .i64 4] w fun e w' => e = .returned (.slice (some ⟨w.heap.size, 0, none⟩) 4 4) ∧ w' = w.alloc (.cells (u8s (ip4 p.si)).toArray 5)) := fun w => refPut4_any _ w (by omega) (by omega)
  have HPD : Hid (∀ w, Calls Try.prog 13 #[.int .u64 p.di, .int .i64 4] w fun e w' => e = .returned (.slice (some ⟨w.heap.size, 0, none⟩) 4 4) ∧ w' = w.alloc (.cells (u8s (ip4 p.di)).toArray 5)) := fun w => refPut4_any _ w (by omega) (by omega)
  have HE : Hid (encL p = kindsM.zs ++ [0, p.op] ++ p.s.zs ++ ip4 p.si ++ p.d.zs ++ ip4 p.di) := by
    unfold Hid encL op2
    rcases hop with h | h <;> rw [h] <;> rfl
  generalize encL p = EL at *
  have HBS := hid (Mac.bytes hp.2.1)
  have HBD := hid (Mac.bytes hp.2.2.2.1)
  have HIS := hid (ip4_bd p.si)
  have HID := hid (ip4_bd p.di)
  have HBK := hid (Mac.bytes kindsM_ok)
  have HBO : Hid (∀ z, z ∈ [0, p.op] → 0 ≤ z ∧ z ≤ 255) := fun z hz => by simp at hz; omega
  have HN : Hid (kindsM.zs.length = 6 ∧ p.s.zs.length = 6 ∧ (ip4 p.si).length = 4 ∧ p.d.zs.length = 6 ∧ (ip4 p.di).length = 4) := ⟨rfl, rfl, rfl, rfl, rfl⟩
  have hw8 : IntKind.u8.wrap p.op = p.op := by simp only [IntKind.wrap_u8]; omega
  have hks : IntKind.u64.wrap p.si = p.si := by simp only [IntKind.wrap_u64]; omega
  have hkd : IntKind.u64.wrap p.di = p.di := by simp only [IntKind.wrap_u64]; omega
  have n1 : (p.op != 1) = false ∨ ((p.op != 1) = true ∧ (p.op != 2) = false) := by rcases hop with h | h <;> rw [h] <;> simp
  generalize hz1 : kindsM.zs = K at *
  generalize hz3 : p.s.zs = S at *
  generalize hz4 : ip4 p.si = I at *
  generalize hz5 : p.d.zs = D at *
  generalize hz6 : ip4 p.di = J at *
  clear hz1 hz3 hz4 hz5 hz6 hp h hop hsi hdi
  obtain ⟨o, ⟨s0, s1, s2, s3, s4, s5⟩, si, ⟨d0, d1, d2, d3, d4, d5⟩, di⟩ := p
  simp only [Arp.val, Mac.val] at *
  have HR0 : Hid (∀ W, Below (w.alloc (.cells #[.int .i64 o, .int .u8 s0, .int .u8 s1, .int .u8 s2, .int .u8 s3, .int .u8 s4, .int .u8 s5, .int .u32 si, .int .u8 d0, .int .u8 d1, .int .u8 d2, .int .u8 d3, .int .u8 d4, .int .u8 d5, .int .u32 di] 42)).heap.size (w.alloc (.cells #[.int .i64 o, .int .u8 s0, .int .u8 s1, .int .u8 s2, .int .u8 s3, .int .u8 s4, .int .u8 s5, .int .u32 si, .int .u8 d0, .int .u8 d1, .int .u8 d2, .int .u8 d3, .int .u8 d4, .int .u8 d5, .int .u32 di] 42)) W → W.heap[w.heap.size]? = some (.cells #[.int .i64 o, .int .u8 s0, .int .u8 s1, .int .u8 s2, .int .u8 s3, .int .u8 s4, .int .u8 s5, .int .u32 si, .int .u8 d0, .int .u8 d1, .int .u8 d2, .int .u8 d3, .int .u8 d4, .int .u8 d5, .int .u32 di] 42 (0, 0)) ∧ Below w.heap.size w W) := fun W hb => ⟨kept (heap_new _ _) hb, bstep (bpush (Below.refl _ _) _) hb⟩
  have HRA : Hid (∀ W (g t : Nat), Below (w.alloc (.cells #[.int .i64 o, .int .u8 s0, .int .u8 s1, .int .u8 s2, .int .u8 s3, .int .u8 s4, .int .u8 s5, .int .u32 si, .int .u8 d0, .int .u8 d1, .int .u8 d2, .int .u8 d3, .int .u8 d4, .int .u8 d5, .int .u32 di] 42)).heap.size (w.alloc (.cells #[.int .i64 o, .int .u8 s0, .int .u8 s1, .int .u8 s2, .int .u8 s3, .int .u8 s4, .int .u8 s5, .int .u32 si, .int .u8 d0, .int .u8 d1, .int .u8 d2, .int .u8 d3, .int .u8 d4, .int .u8 d5, .int .u32 di] 42)) W → w.heap.size + 1 ≤ g → g ≠ t → W.heap[g]? = some (.cells (u8s K).toArray 5 (0, 0)) → W.heap[t]? = some (.cells #[.int .u8 0, .int .u8 o] 5 (0, 0)) → Calls Try.prog 73 #[.slice (some ⟨g, 0, none⟩) 6 6, .slice (some ⟨t, 0, none⟩) 2 2] W fun e w' => ∃ a' n' c', e = .returned (.slice a' n' c') ∧ RefE w #[.int .i64 o, .int .u8 s0, .int .u8 s1, .int .u8 s2, .int .u8 s3, .int .u8 s4, .int .u8 s5, .int .u32 si, .int .u8 d0, .int .u8 d1, .int .u8 d2, .int .u8 d3, .int .u8 d4, .int .u8 d5, .int .u32 di] (K ++ [0, o]) (.slice a' n' c') w') := fun W g t hb hg hne h1 h2 => by
    have hr := Row.of_heap h1 (by rw [u8s_len, HN.out.1]; decide)
    rw [u8s_len, HN.out.1] at hr
    exact refAdd_off ⟨(HR0.out W hb).1, hr, fun b e => by simp [Value.ownBlock] at e; omega, (HR0.out W hb).2⟩ ⟨some ⟨t, 0, none⟩, 2, [0, o]⟩ (Part.of_row (zs := [0, o]) h2 (by simp) HBO.out) (fun b e => Or.inr fun b' o' e' => by simp [Value.ownBlock] at e; simp at e'; omega) (by simp [HN.out.1])
  have HQ1 := hid ((((Holds.nil (w.alloc (.cells #[.int .i64 o, .int .u8 s0, .int .u8 s1, .int .u8 s2, .int .u8 s3, .int .u8 s4, .int .u8 s5, .int .u32 si, .int .u8 d0, .int .u8 d1, .int .u8 d2, .int .u8 d3, .int .u8 d4, .int .u8 d5, .int .u32 di] 42))).push (.cells (u8s K).toArray 5)).push (.cells #[.int .u8 0, .int .u8 o] 5)))
  have HQ2 := hid ((((Holds.nil (w.alloc (.cells #[.int .i64 o, .int .u8 s0, .int .u8 s1, .int .u8 s2, .int .u8 s3, .int .u8 s4, .int .u8 s5, .int .u32 si, .int .u8 d0, .int .u8 d1, .int .u8 d2, .int .u8 d3, .int .u8 d4, .int .u8 d5, .int .u32 di] 42))).push (.cells #[.int .u8 0, .int .u8 o] 5)).push (.cells (u8s K).toArray 5)))
  simp only [World.size_alloc] at HQ1 HQ2
  have HA1 : Hid (Calls Try.prog 73 #[.slice (some ⟨w.heap.size + 1, 0, none⟩) 6 6, .slice (some ⟨w.heap.size + 1 + 1, 0, none⟩) 2 2] ((((w.alloc (.cells #[.int .i64 o, .int .u8 s0, .int .u8 s1, .int .u8 s2, .int .u8 s3, .int .u8 s4, .int .u8 s5, .int .u32 si, .int .u8 d0, .int .u8 d1, .int .u8 d2, .int .u8 d3, .int .u8 d4, .int .u8 d5, .int .u32 di] 42)).alloc (.cells (u8s K).toArray 5)).alloc (.cells #[.int .u8 0, .int .u8 o] 5)).drew) fun e w' => ∃ a' n' c', e = .returned (.slice a' n' c') ∧ RefE w #[.int .i64 o, .int .u8 s0, .int .u8 s1, .int .u8 s2, .int .u8 s3, .int .u8 s4, .int .u8 s5, .int .u32 si, .int .u8 d0, .int .u8 d1, .int .u8 d2, .int .u8 d3, .int .u8 d4, .int .u8 d5, .int .u32 di] (K ++ [0, o]) (.slice a' n' c') w') := by
    refine HRA.out _ _ _ ?_ ?_ ?_ ?_ ?_
    · exact (((Below.refl _ _).alloc (Nat.le_refl _) _).alloc (by simp) _).drew
    · omega
    · omega
    · exact HQ1.out.at 1 _ _ rfl
    · exact HQ1.out.at 0 _ _ rfl
  have HA2 : Hid (Calls Try.prog 73 #[.slice (some ⟨w.heap.size + 1 + 1, 0, none⟩) 6 6, .slice (some ⟨w.heap.size + 1, 0, none⟩) 2 2] ((((w.alloc (.cells #[.int .i64 o, .int .u8 s0, .int .u8 s1, .int .u8 s2, .int .u8 s3, .int .u8 s4, .int .u8 s5, .int .u32 si, .int .u8 d0, .int .u8 d1, .int .u8 d2, .int .u8 d3, .int .u8 d4, .int .u8 d5, .int .u32 di] 42)).alloc (.cells #[.int .u8 0, .int .u8 o] 5)).alloc (.cells (u8s K).toArray 5)).drew) fun e w' => ∃ a' n' c', e = .returned (.slice a' n' c') ∧ RefE w #[.int .i64 o, .int .u8 s0, .int .u8 s1, .int .u8 s2, .int .u8 s3, .int .u8 s4, .int .u8 s5, .int .u32 si, .int .u8 d0, .int .u8 d1, .int .u8 d2, .int .u8 d3, .int .u8 d4, .int .u8 d5, .int .u32 di] (K ++ [0, o]) (.slice a' n' c') w') := by
    refine HRA.out _ _ _ ?_ ?_ ?_ ?_ ?_
    · exact (((Below.refl _ _).alloc (Nat.le_refl _) _).alloc (by simp) _).drew
    · omega
    · omega
    · exact HQ2.out.at 0 _ _ rfl
    · exact HQ2.out.at 1 _ _ rfl
  clear HQ1 HQ2 HRA HR0
  rcases n1 with n1 | ⟨n1, n2⟩
  all_goals
    go_enter Try.func62, Try.ntmps62
    go_wp2
    go_region_with (first
      | (go_at_call 67; refine (HH.out _).mono ?_; rintro e w1 ⟨rfl, hw⟩; subst w1)
      | (go_at_call 73; (first | (with_reducible refine HA1.out.mono ?_) | (with_reducible refine HA2.out.mono ?_) | fail); rintro e w2 ⟨a2, m2, k2, rfl, hr2⟩; have H2 := hid hr2; have hcc : ∀ q, w2.cell? ⟨w.heap.size, q, none⟩ = (#[.int .i64 o, .int .u8 s0, .int .u8 s1, .int .u8 s2, .int .u8 s3, .int .u8 s4, .int .u8 s5, .int .u32 si, .int .u8 d0, .int .u8 d1, .int .u8 d2, .int .u8 d3, .int .u8 d4, .int .u8 d5, .int .u32 di] : Array Value)[q]? := (fun q => cell_of_heap H2.out.1 q); clear hr2) | fail)
    all_goals
      as_aux_lemma =>
        clear hcc
        have hcc : ∀ q, w2.cell? ⟨w.heap.size, q, none⟩ = (#[.int .i64 o, .int .u8 s0, .int .u8 s1, .int .u8 s2, .int .u8 s3, .int .u8 s4, .int .u8 s5, .int .u32 si, .int .u8 d0, .int .u8 d1, .int .u8 d2, .int .u8 d3, .int .u8 d4, .int .u8 d5, .int .u32 di] : Array Value)[q]? := fun q => cell_of_heap H2.out.1 q
        go_wp2_with fail
        refine (HMS.out _).mono ?_
        rintro e w3 ⟨g3, rfl, hg3, hh3, hb3⟩
        go_wp2_with fail
        refine (refAdd_new H2.out hb3 g3 6 S HN.out.2.1 hh3 hg3 HBS.out (by simp [HN.out.1, HN.out.2.1, HN.out.2.2.1, HN.out.2.2.2.1, HN.out.2.2.2.2])).mono ?_
        rintro e w4 ⟨a4, m4, k4, rfl, hr4⟩
        have H4 := hid hr4
        clear hr4 H2 hcc hg3 hh3 hb3
        have hcc : ∀ q, w4.cell? ⟨w.heap.size, q, none⟩ = (#[.int .i64 o, .int .u8 s0, .int .u8 s1, .int .u8 s2, .int .u8 s3, .int .u8 s4, .int .u8 s5, .int .u32 si, .int .u8 d0, .int .u8 d1, .int .u8 d2, .int .u8 d3, .int .u8 d4, .int .u8 d5, .int .u32 di] : Array Value)[q]? := fun q => cell_of_heap H4.out.1 q
        go_wp2_with fail
        refine (HPS.out _).mono ?_
        rintro e w5 ⟨rfl, hw⟩
        subst w5
        go_wp2_with fail
        refine (refAdd_new H4.out ((Below.refl _ _).alloc (Nat.le_refl _) _) w4.heap.size 4 I HN.out.2.2.1 (heap_new _ _) (Nat.le_refl _) HIS.out (by simp [HN.out.1, HN.out.2.1, HN.out.2.2.1, HN.out.2.2.2.1, HN.out.2.2.2.2])).mono ?_
        rintro e w6 ⟨a6, m6, k6, rfl, hr6⟩
        have H6 := hid hr6
        clear hr6 H4 hcc
        have hcc : ∀ q, w6.cell? ⟨w.heap.size, q, none⟩ = (#[.int .i64 o, .int .u8 s0, .int .u8 s1, .int .u8 s2, .int .u8 s3, .int .u8 s4, .int .u8 s5, .int .u32 si, .int .u8 d0, .int .u8 d1, .int .u8 d2, .int .u8 d3, .int .u8 d4, .int .u8 d5, .int .u32 di] : Array Value)[q]? := fun q => cell_of_heap H6.out.1 q
        go_wp2_with fail
        refine (HMD.out _).mono ?_
        rintro e w7 ⟨g7, rfl, hg7, hh7, hb7⟩
        go_wp2_with fail
        refine (refAdd_new H6.out hb7 g7 6 D HN.out.2.2.2.1 hh7 hg7 HBD.out (by simp [HN.out.1, HN.out.2.1, HN.out.2.2.1, HN.out.2.2.2.1, HN.out.2.2.2.2])).mono ?_
        rintro e w8 ⟨a8, m8, k8, rfl, hr8⟩
        have H8 := hid hr8
        clear hr8 H6 hcc hg7 hh7 hb7
        have hcc : ∀ q, w8.cell? ⟨w.heap.size, q, none⟩ = (#[.int .i64 o, .int .u8 s0, .int .u8 s1, .int .u8 s2, .int .u8 s3, .int .u8 s4, .int .u8 s5, .int .u32 si, .int .u8 d0, .int .u8 d1, .int .u8 d2, .int .u8 d3, .int .u8 d4, .int .u8 d5, .int .u32 di] : Array Value)[q]? := fun q => cell_of_heap H8.out.1 q
        go_wp2_with fail
        refine (HPD.out _).mono ?_
        rintro e w9 ⟨rfl, hw⟩
        subst w9
        go_wp2_with fail
        refine (refAdd_new H8.out ((Below.refl _ _).alloc (Nat.le_refl _) _) w8.heap.size 4 J HN.out.2.2.2.2 (heap_new _ _) (Nat.le_refl _) HID.out (by simp [HN.out.1, HN.out.2.1, HN.out.2.2.1, HN.out.2.2.2.1, HN.out.2.2.2.2])).mono ?_
        rintro e w10 ⟨a10, m10, k10, rfl, hr10⟩
        have H10 := hid hr10
        clear hr10 H8 hcc
        go_wp2
        go_ret2
        exact ⟨_, _, _, rfl, by rw [HE.out]; exact H10.out.2.1, fun b hb => by have := H10.out.2.2.1 b hb; omega, H10.out.2.2.2⟩
/-- what Encode answers. -/
def encB (p : Arp) : List Int := if opB p.op then encL p else []
def encE (p : Arp) : Int := if opB p.op then 0 else 80
end Go.Proofs.Ytaaoelhmanahpaa
