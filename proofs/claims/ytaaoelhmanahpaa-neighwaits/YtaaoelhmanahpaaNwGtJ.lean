import Derived.Test.YtaaoelhmanahpaaNwWpJ
import Derived.Laws.BitsAllLaws
import Derived.Test.YtaaoelhmanahpaaAAct
import Derived.Deep.RegionLaw
/-
  The contract of octet.Get. For every seat.
-/
namespace Go.Proofs.Ytaaoelhmanahpaa
open Go.RowKit
set_option linter.all false

/-- the number that some bytes make, the highest first. -/
def getTo (zs : List Int) (a : Nat) : Nat → Int
  | 0 => 0
  | k + 1 => getTo zs a k * 256 + zs.getD (a + k) 0

theorem getTo_bd (zs : List Int) (hz : ∀ j, 0 ≤ zs.getD j 0 ∧ zs.getD j 0 ≤ 255) (a : Nat) : ∀ k, 0 ≤ getTo zs a k ∧ getTo zs a k < 256 ^ k
  | 0 => by simp [getTo]
  | k + 1 => by
    have h := getTo_bd zs hz a k
    have := hz (a + k)
    simp only [getTo, Int.pow_succ]
    omega

theorem or_join (x y : Int) (h0 : 0 ≤ x) (h1 : x < 72057594037927936) (h2 : 0 ≤ y) (h3 : y ≤ 255) :
    bits BinOp.or IntKind.u64 (x * 256) (IntKind.u64.wrap y) = x * 256 + y := by
  rw [IntKind.wrap_u64, Int.emod_eq_of_lt (by omega) (by omega)]
  rw [u64_or _ _ (by omega) (by omega) (by omega) (by omega), nat_join 8 _ _ (by omega) (by omega)]
  omega

theorem pow_le56 (k : Nat) (h : k ≤ 7) : (256 : Int) ^ k ≤ 72057594037927936 := by
  match k, h with
  | 0, _ => decide
  | 1, _ => decide
  | 2, _ => decide
  | 3, _ => decide
  | 4, _ => decide
  | 5, _ => decide
  | 6, _ => decide
  | 7, _ => decide

/-- what Get answers. -/
def getAns (zs : List Int) (a m : Int) : Int × Int := if m < 1 ∨ 8 < m ∨ a < 0 then (0, 1) else if (zs.length : Int) - m < a then (0, 5) else (getTo zs a.toNat m.toNat, 0)

end Go.Proofs.Ytaaoelhmanahpaa

/-
  arp.Decode of what it does not take; what it answers.
-/
namespace Go.Proofs.Ytaaoelhmanahpaa
open Go.RowKit
set_option linter.all false

/-- 'copy(d, s)' where s has more than d has room for. -/
theorem copy_long (pt : Part) (w : World) (hok : pt.ok w) (hne : 0 < pt.zs.length) (sl sc : Nat) (hl : pt.zs.length ≤ sl) (g o cap : Nat) (cur : Array Value) (t : TypeId) (hg : w.heap[g]? = some (.cells cur t (0, 0))) (hsz : o + pt.zs.length ≤ cur.size) (ty : TypeId) :
    (Builtin.copy_ #[40, 40] ty #[.slice (some ⟨g, o, none⟩) pt.zs.length cap, .slice pt.a sl sc]).run Try.prog w = .ok (goInt pt.zs.length) (w.setRow g (splice cur.toList o (u8s pt.zs)).toArray) := by
  obtain ⟨a, c, zs⟩ := pt
  simp only at *
  rcases hok.2.2 with h | ⟨b, o', ha, hc⟩
  · simp only at h
    subst h
    simp at hne
  · simp only at ha hc
    subst ha
    rw [run_copy_row (P := Try.prog) _ _ _ _ 5 g o _ _ _ _ _ cur t (u8s zs) Try.underlying40 sizeU8 hg (by rw [u8s_len]; exact (Nat.min_eq_right hl).symm) (part_news (pt := ⟨some ⟨b, o', none⟩, c, zs⟩) hc) (by simpa [u8s] using hsz) (u8s_one zs)]
    simp only [u8s_len, splice, List.append_assoc]
theorem wpList_copyL {ops : Array Oper} {rest : List Oper} {o : Oper} {a : Act} {w : World} {Q : Exit → Act → World → Prop} (hgd : o.guard = none) (d s : Operand)
    (ho : o.op = .call { callee := .builtin .copy, args := #[d, s], argTypes := #[40, 40] }) (pt : Part) (sl sc g off n cap : Nat) (cur : Array Value) (t : TypeId) (hd : a.eval d = .slice (some ⟨g, off, none⟩) n cap) (hs : a.eval s = .slice pt.a sl sc)
    (hg : w.heap[g]? = some (.cells cur t (0, 0))) (hok : pt.ok w) (hne : 0 < pt.zs.length) (hn : pt.zs.length = n) (hl : pt.zs.length ≤ sl) (hsz : off + pt.zs.length ≤ cur.size)
    (h : ∀ w', Hid (w'.heap[g]? = some (.cells (splice cur.toList off (u8s pt.zs)).toArray t (0, 0))) → Hid (But g w w') → wpList Try.prog ops Q rest (a.put o.dst (goInt pt.zs.length)) w') : wpList Try.prog ops Q (o :: rest) a w := by
  subst hn
  refine wpList_plain hgd fun K hK => ?_
  unfold Oper.wp
  simp only [execOp, ho, resolve, invoke, builtin, Sem.run_bind, Sem.run_pure, Result.andThen_ok, List.map_toArray, List.map_cons, List.map_nil, hd, hs, copy_long pt w hok hne sl sc hl g off cap cur t hg hsz]
  exact hK _ _ (h _ (setRow_heap w g _ _ t _ hg) (But.setRow g w _))

/-- the number at a place. -/
def numAt (zs : List Int) (a m : Nat) : Int := getTo zs a m
theorem numAt_bd {zs : List Int} (h : ∀ z, z ∈ zs → 0 ≤ z ∧ z ≤ 255) (a : Nat) : (0 ≤ numAt zs a 2 ∧ numAt zs a 2 ≤ 65535) ∧ (0 ≤ numAt zs a 4 ∧ numAt zs a 4 ≤ 4294967295) := by
  have h2 := getTo_bd zs (getD_mem_bd h) a 2
  have h4 := getTo_bd zs (getD_mem_bd h) a 4
  simp only [numAt]
  omega
/-- what Decode answers. -/
def decP (zs : List Int) : Arp := ⟨numAt zs 6 2, macAt zs 8, numAt zs 14 4, macAt zs 18, numAt zs 24 4⟩
theorem decP_ok {zs : List Int} (h : ∀ z, z ∈ zs → 0 ≤ z ∧ z ≤ 255) : (decP zs).ok := by
  have h6 := numAt_bd h 6
  have h14 := numAt_bd h 14
  have h24 := numAt_bd h 24
  exact ⟨by simp only [decP]; omega, macAt_ok h 8, h14.2, macAt_ok h 18, h24.2⟩
def decGood (zs : List Int) : Prop := macAt zs 0 = kindsM ∧ opB (numAt zs 6 2) = true
instance (zs : List Int) : Decidable (decGood zs) := by unfold decGood; exact inferInstance
def decE (zs : List Int) : Int := if zs.length < 28 then 5 else if decGood zs then 0 else 80
def decA (zs : List Int) : Arp := if zs.length < 28 then zeroArp else if decGood zs then decP zs else zeroArp

end Go.Proofs.Ytaaoelhmanahpaa

/-
  The contract of slipwayref01.Get: the same number as octet.Get's. For every seat.
-/
namespace Go.Proofs.Ytaaoelhmanahpaa
open Go.RowKit
set_option linter.all false

theorem mul_add_byte (x y : Int) (h0 : 0 ≤ x) (h1 : x < 72057594037927936) (h2 : 0 ≤ y) (h3 : y ≤ 255) :
    IntKind.u64.wrap (IntKind.u64.wrap (x * 256) + IntKind.u64.wrap y) = x * 256 + y := by
  simp only [IntKind.wrap_u64]; omega

set_option maxHeartbeats 400000 in
theorem refGet_ok (b off len cap : Nat) (zs : List Int) (a m : Nat) (w : World) (h1 : 1 ≤ m) (h2 : m ≤ 8) (h3 : a + m ≤ len) (h4 : len ≤ 9223372036854775807)
    (hc : ∀ j, j < len → w.cell? ⟨b, off + j, none⟩ = some (.int .u8 (zs.getD j 0))) (hz : ∀ j, 0 ≤ zs.getD j 0 ∧ zs.getD j 0 ≤ 255) :
    Calls Try.prog 43 #[.slice (some ⟨b, off, none⟩) len cap, .int .i64 a, .int .i64 m] w fun e w' => e = .returned (.tuple #[.int .u64 (getTo zs a m), .int .i64 0]) ∧ w' = w := by
  have n1 : decide ((a : Int) < 0) = false := by simp
  have n2 : decide ((len : Int) < a) = false := by simp; omega
  have n3 : decide ((len : Int) - a < m) = false := by simp; omega
  go_enter Try.func43, Try.ntmps43
  go_wp2
  go_loop [8, 9] (fun n i => ∃ k : Nat, k ≤ m ∧ i = .int .i64 k ∧ n = .int .u64 (getTo zs a k)) (fun _ i => m - (intOf i).toNat)
  case atStart => exact ⟨0, Nat.zero_le _, rfl, rfl⟩
  case round =>
    obtain ⟨k, hk, rfl, rfl⟩ := hrel
    have hg := getTo_bd zs hz a k
    by_cases hlt : k < m
    · have hcell := hc (a + k) (by omega)
      have hzz := hz (a + k)
      have hp := pow_le56 k (by omega)
      have HG : Hid (getTo zs a (k + 1) = getTo zs a k * 256 + zs.getD (a + k) 0) := rfl
      have hg1 : getTo zs a k < 72057594037927936 := by omega
      obtain ⟨y, hy⟩ : ∃ y, y = zs.getD (a + k) 0 := ⟨_, rfl⟩
      obtain ⟨x, hx⟩ : ∃ x, x = getTo zs a k := ⟨_, rfl⟩
      rw [← hy] at hcell hzz HG
      rw [← hx] at hg hg1 HG ⊢
      have hg0 := hg.1
      clear hy hx hp hc hz hg
      go_wp2
      go_round
      case rel => exact ⟨k + 1, by omega, by go_num, by rw [HG.out]⟩
      case measure => simp [intOf]; omega
    · have : k = m := by omega
      subst this
      go_wp2
      go_ret2
      exact ⟨rfl, rfl⟩

set_option maxHeartbeats 400000 in
theorem refGet_arg (v : Value) (a m : Int) (w : World) (h : m < 1 ∨ 8 < m ∨ a < 0) :
    Calls Try.prog 43 #[v, .int .i64 a, .int .i64 m] w fun e w' => e = .returned (.tuple #[.int .u64 0, .int .i64 1]) ∧ w' = w := by
  by_cases h1 : m < 1
  · clear h
    go_enter Try.func43, Try.ntmps43
    go_wp2
    go_ret2
    exact ⟨rfl, rfl⟩
  · by_cases h2 : 8 < m
    · clear h
      go_enter Try.func43, Try.ntmps43
      go_wp2
      go_ret2
      exact ⟨rfl, rfl⟩
    · have h3 : a < 0 := by omega
      clear h
      go_enter Try.func43, Try.ntmps43
      go_wp2
      go_ret2
      exact ⟨rfl, rfl⟩

set_option maxHeartbeats 400000 in
theorem refGet_short (x : Option Addr) (len cap : Nat) (a m : Int) (w : World) (h1 : 1 ≤ m) (h2 : m ≤ 8) (h3 : 0 ≤ a) (h4 : (len : Int) - m < a) (h5 : len ≤ 9223372036854775807) (h6 : a ≤ 9223372036854775807) :
    Calls Try.prog 43 #[.slice x len cap, .int .i64 a, .int .i64 m] w fun e w' => e = .returned (.tuple #[.int .u64 0, .int .i64 5]) ∧ w' = w := by
  have n1 : ¬ m < 1 := by omega
  have n2 : ¬ 8 < m := by omega
  have n3 : ¬ a < 0 := by omega
  by_cases h7 : (len : Int) < a
  · go_enter Try.func43, Try.ntmps43
    go_wp2
    go_ret2
    exact ⟨rfl, rfl⟩
  · have h8 : (len : Int) - a < m := by omega
    go_enter Try.func43, Try.ntmps43
    go_wp2
    go_ret2
    exact ⟨rfl, rfl⟩

theorem refGet_part (pt : Part) (a m : Int) (w : World) (hok : pt.ok w) (hl : pt.zs.length ≤ 140737488353280) (ha6 : a ≤ 9223372036854775807) :
    Calls Try.prog 43 #[pt.val, .int .i64 a, .int .i64 m] w fun e w' => e = .returned (.tuple #[.int .u64 (getAns pt.zs a m).1, .int .i64 (getAns pt.zs a m).2]) ∧ w' = w := by
  unfold getAns
  by_cases h1 : m < 1 ∨ 8 < m ∨ a < 0
  · rw [if_pos h1]
    exact refGet_arg _ a m w h1
  · rw [if_neg h1]
    by_cases h2 : (pt.zs.length : Int) - m < a
    · rw [if_pos h2]
      exact refGet_short _ _ _ a m w (by omega) (by omega) (by omega) h2 (by omega) ha6
    · rw [if_neg h2]
      have hbd := getD_mem_bd hok.1
      obtain ⟨x, c, zs⟩ := pt
      simp only [Part.val] at *
      rcases hok.2.2 with h | ⟨b, o, ha, hc⟩
      · simp only at h; subst h; simp at h2; omega
      · simp only at ha hc
        subst ha
        obtain ⟨A, hA⟩ := Int.eq_ofNat_of_zero_le (show 0 ≤ a by omega)
        obtain ⟨M, hM⟩ := Int.eq_ofNat_of_zero_le (show 0 ≤ m by omega)
        rw [hA, hM, Int.toNat_natCast, Int.toNat_natCast]
        exact refGet_ok b o zs.length c zs A M w (by omega) (by omega) (by omega) (by omega) hc hbd

end Go.Proofs.Ytaaoelhmanahpaa

/-
  The document's Decode: its parts.
-/
namespace Go.Proofs.Ytaaoelhmanahpaa
open Go.RowKit
set_option linter.all false

/-- a whole struct stored, as a step of a region that draws. -/
theorem step_store_row {ops : Array Oper} {o : Oper} {a : Act} {w : World} {K : Act → World → Prop} {Q : Exit → Act → World → Prop} {E : Prop} (hgd : o.guard = none) (ty : TypeId) (x y : Operand) (ho : o.op = .store ty x y)
    (g : Nat) (cells : Array Value) (hx : a.eval x = .pointer (some ⟨g, 0, none⟩)) (hy : a.eval y = .agg cells)
    (t : TypeId) (old : Array Value) (hg : w.heap[g]? = some (.cells old t (0, 0))) (hi : (Try.prog.info? ty).map (·.size) = some cells.size)
    (hold : old.size = cells.size) (h1 : cells.all (·.oneCell') = true)
    (h : ∀ w', Hid (w'.heap[g]? = some (.cells cells t (0, 0))) → Hid (But g w w') → K (a.put o.dst undef) w') :
    if Region.wanted o (yielded ops a.tmps) = true then Oper.wp Try.prog o a w K Q else E := by
  have hw : Region.wanted o (yielded ops a.tmps) = true := by simp [Region.wanted, hgd]
  rw [if_pos hw]
  exact wp_store_row ty x y ho g cells hx hy t old hg hi hold h1 (h _ (setRow_heap w g _ _ t _ hg) (But.setRow g w _))
set_option maxHeartbeats 400000 in
theorem refIpAt_any (pt : Part) (a : Nat) (w : World) (hok : pt.ok w) (hl : pt.zs.length ≤ 140737488351232) (ha : a + 4 ≤ pt.zs.length) :
    Calls Try.prog 69 #[pt.val, .int .i64 a] w fun e w' => e = .returned (.int .u32 (numAt pt.zs a 4)) ∧ w' = w := by
  have HG : Hid (∀ w', Below w.heap.size w w' → Calls Try.prog 43 #[pt.val, .int .i64 a, .int .i64 4] w' fun e w'' => e = .returned (.tuple #[.int .u64 (numAt pt.zs a 4), .int .i64 0]) ∧ w'' = w') := fun w' hb => by
    have h := refGet_part pt a 4 w' (Part.ok_below hok hb) (by omega) (by omega)
    have e : getAns pt.zs a 4 = (numAt pt.zs a 4, 0) := by
      unfold getAns
      rw [if_neg (by omega), if_neg (by omega)]
      simp [numAt]
    rw [e] at h
    exact h
  have hb := numAt_bd hok.1 a
  have hw : IntKind.u32.wrap (numAt pt.zs a 4) = numAt pt.zs a 4 := by
    simp only [IntKind.wrap_u32]
    omega
  clear hok hb
  generalize numAt pt.zs a 4 = N at *
  unfold Part.val at *
  generalize pt.zs.length = l at *
  go_enter Try.func69, Try.ntmps69
  go_wp2_with (first | (go_at_call 43; refine (HG.out _ (Below.refl _ _)).mono ?_; rintro e w1 ⟨rfl, hw1⟩; subst w1) | fail)
  go_ret
  exact ⟨rfl, rfl⟩
set_option maxRecDepth 20000 in
set_option maxHeartbeats 2000000 in
theorem refMacAt8 (pt : Part) (w : World) (hok : pt.ok w) (hl : pt.zs.length ≤ 140737488351232) (ha : 14 ≤ pt.zs.length) :
    Calls Try.prog 68 #[pt.val, .int .i64 8] w fun e w' => e = .returned (macAt pt.zs 8).val ∧ Below w.heap.size w w' := by
  obtain ⟨b, o, hpa, hc⟩ : ∃ b o, pt.a = some ⟨b, o, none⟩ ∧ ∀ j, j < pt.zs.length → w.cell? ⟨b, o + j, none⟩ = some (.int .u8 (pt.zs.getD j 0)) := by
    rcases hok.2.2 with he | ⟨b, o, ha', hc⟩
    · rw [he] at ha; simp at ha
    · exact ⟨b, o, ha', hc⟩
  have c0 := hc 8 (by omega)
  have c1 := hc 9 (by omega)
  have c2 := hc 10 (by omega)
  have c3 := hc 11 (by omega)
  have c4 := hc 12 (by omega)
  have c5 := hc 13 (by omega)
  have hbl : b < w.heap.size := World.block_lt_of_cell? w _ c0
  simp only [macAt, Mac.val]
  unfold Part.val
  rw [hpa]
  clear hok hc hpa
  generalize pt.zs.getD 8 0 = z0 at *
  generalize pt.zs.getD 9 0 = z1 at *
  generalize pt.zs.getD 10 0 = z2 at *
  generalize pt.zs.getD 11 0 = z3 at *
  generalize pt.zs.getD 12 0 = z4 at *
  generalize pt.zs.getD 13 0 = z5 at *
  generalize pt.zs.length = l at *
  have l0 : (8 : Int) < (l : Int) := by omega
  have l1 : (9 : Int) < (l : Int) := by omega
  have l2 : (10 : Int) < (l : Int) := by omega
  have l3 : (11 : Int) < (l : Int) := by omega
  have l4 : (12 : Int) < (l : Int) := by omega
  have l5 : (13 : Int) < (l : Int) := by omega
  have w1 : IntKind.i64.wrap 9 = 9 := by decide
  have y1 : IntKind.i64.wrap (8 + 1) = 9 := by decide
  have w2 : IntKind.i64.wrap 10 = 10 := by decide
  have y2 : IntKind.i64.wrap (8 + 2) = 10 := by decide
  have w3 : IntKind.i64.wrap 11 = 11 := by decide
  have y3 : IntKind.i64.wrap (8 + 3) = 11 := by decide
  have w4 : IntKind.i64.wrap 12 = 12 := by decide
  have y4 : IntKind.i64.wrap (8 + 4) = 12 := by decide
  have w5 : IntKind.i64.wrap 13 = 13 := by decide
  have y5 : IntKind.i64.wrap (8 + 5) = 13 := by decide
  go_enter Try.func68, Try.ntmps68
  go_wp2
  have HG : Hid ((w.alloc (.cells #[.int .u8 0, .int .u8 0, .int .u8 0, .int .u8 0, .int .u8 0, .int .u8 0] 24)).heap[w.heap.size]? = some (.cells #[.int .u8 0, .int .u8 0, .int .u8 0, .int .u8 0, .int .u8 0, .int .u8 0] 24 (0, 0))) := heap_new _ _
  have HB : Hid (Below w.heap.size w (w.alloc (.cells #[.int .u8 0, .int .u8 0, .int .u8 0, .int .u8 0, .int .u8 0, .int .u8 0] 24))) := bpush (Below.refl _ _) _
  have HC : Hid (∀ w' : World, Below w.heap.size w w' → w'.cell? ⟨b, o + 8, none⟩ = some (.int .u8 z0) ∧ w'.cell? ⟨b, o + 9, none⟩ = some (.int .u8 z1) ∧ w'.cell? ⟨b, o + 10, none⟩ = some (.int .u8 z2) ∧ w'.cell? ⟨b, o + 11, none⟩ = some (.int .u8 z3) ∧ w'.cell? ⟨b, o + 12, none⟩ = some (.int .u8 z4) ∧ w'.cell? ⟨b, o + 13, none⟩ = some (.int .u8 z5)) := fun w' hb =>
    ⟨(hb.cell (p := ⟨b, o + 8, none⟩) hbl).trans c0, (hb.cell (p := ⟨b, o + 9, none⟩) hbl).trans c1, (hb.cell (p := ⟨b, o + 10, none⟩) hbl).trans c2, (hb.cell (p := ⟨b, o + 11, none⟩) hbl).trans c3, (hb.cell (p := ⟨b, o + 12, none⟩) hbl).trans c4, (hb.cell (p := ⟨b, o + 13, none⟩) hbl).trans c5⟩
  clear c0 c1 c2 c3 c4 c5
  go_region_held3 (fun w' => w'.cell? ⟨b, o + 8, none⟩ = some (.int .u8 z0) ∧ w'.cell? ⟨b, o + 9, none⟩ = some (.int .u8 z1) ∧ w'.cell? ⟨b, o + 10, none⟩ = some (.int .u8 z2) ∧ w'.cell? ⟨b, o + 11, none⟩ = some (.int .u8 z3) ∧ w'.cell? ⟨b, o + 12, none⟩ = some (.int .u8 z4) ∧ w'.cell? ⟨b, o + 13, none⟩ = some (.int .u8 z5)) (first | assumption | exact HC.out _ (bpush (Below.refl _ _) _).drew | go_keep) (fail)
  go_wp2
  exact bodyPost_ret (v := .agg #[.int .u8 z0, .int .u8 z1, .int .u8 z2, .int .u8 z3, .int .u8 z4, .int .u8 z5]) (by simp [results, Try.results68, go_sem]) rfl ⟨rfl, (bpush (Below.refl _ _) _).drew⟩
set_option maxRecDepth 20000 in
set_option maxHeartbeats 2000000 in
theorem refMacAt18 (pt : Part) (w : World) (hok : pt.ok w) (hl : pt.zs.length ≤ 140737488351232) (ha : 24 ≤ pt.zs.length) :
    Calls Try.prog 68 #[pt.val, .int .i64 18] w fun e w' => e = .returned (macAt pt.zs 18).val ∧ Below w.heap.size w w' := by
  obtain ⟨b, o, hpa, hc⟩ : ∃ b o, pt.a = some ⟨b, o, none⟩ ∧ ∀ j, j < pt.zs.length → w.cell? ⟨b, o + j, none⟩ = some (.int .u8 (pt.zs.getD j 0)) := by
    rcases hok.2.2 with he | ⟨b, o, ha', hc⟩
    · rw [he] at ha; simp at ha
    · exact ⟨b, o, ha', hc⟩
  have c0 := hc 18 (by omega)
  have c1 := hc 19 (by omega)
  have c2 := hc 20 (by omega)
  have c3 := hc 21 (by omega)
  have c4 := hc 22 (by omega)
  have c5 := hc 23 (by omega)
  have hbl : b < w.heap.size := World.block_lt_of_cell? w _ c0
  simp only [macAt, Mac.val]
  unfold Part.val
  rw [hpa]
  clear hok hc hpa
  generalize pt.zs.getD 18 0 = z0 at *
  generalize pt.zs.getD 19 0 = z1 at *
  generalize pt.zs.getD 20 0 = z2 at *
  generalize pt.zs.getD 21 0 = z3 at *
  generalize pt.zs.getD 22 0 = z4 at *
  generalize pt.zs.getD 23 0 = z5 at *
  generalize pt.zs.length = l at *
  have l0 : (18 : Int) < (l : Int) := by omega
  have l1 : (19 : Int) < (l : Int) := by omega
  have l2 : (20 : Int) < (l : Int) := by omega
  have l3 : (21 : Int) < (l : Int) := by omega
  have l4 : (22 : Int) < (l : Int) := by omega
  have l5 : (23 : Int) < (l : Int) := by omega
  have w1 : IntKind.i64.wrap 19 = 19 := by decide
  have y1 : IntKind.i64.wrap (18 + 1) = 19 := by decide
  have w2 : IntKind.i64.wrap 20 = 20 := by decide
  have y2 : IntKind.i64.wrap (18 + 2) = 20 := by decide
  have w3 : IntKind.i64.wrap 21 = 21 := by decide
  have y3 : IntKind.i64.wrap (18 + 3) = 21 := by decide
  have w4 : IntKind.i64.wrap 22 = 22 := by decide
  have y4 : IntKind.i64.wrap (18 + 4) = 22 := by decide
  have w5 : IntKind.i64.wrap 23 = 23 := by decide
  have y5 : IntKind.i64.wrap (18 + 5) = 23 := by decide
  go_enter Try.func68, Try.ntmps68
  go_wp2
  have HG : Hid ((w.alloc (.cells #[.int .u8 0, .int .u8 0, .int .u8 0, .int .u8 0, .int .u8 0, .int .u8 0] 24)).heap[w.heap.size]? = some (.cells #[.int .u8 0, .int .u8 0, .int .u8 0, .int .u8 0, .int .u8 0, .int .u8 0] 24 (0, 0))) := heap_new _ _
  have HB : Hid (Below w.heap.size w (w.alloc (.cells #[.int .u8 0, .int .u8 0, .int .u8 0, .int .u8 0, .int .u8 0, .int .u8 0] 24))) := bpush (Below.refl _ _) _
  have HC : Hid (∀ w' : World, Below w.heap.size w w' → w'.cell? ⟨b, o + 18, none⟩ = some (.int .u8 z0) ∧ w'.cell? ⟨b, o + 19, none⟩ = some (.int .u8 z1) ∧ w'.cell? ⟨b, o + 20, none⟩ = some (.int .u8 z2) ∧ w'.cell? ⟨b, o + 21, none⟩ = some (.int .u8 z3) ∧ w'.cell? ⟨b, o + 22, none⟩ = some (.int .u8 z4) ∧ w'.cell? ⟨b, o + 23, none⟩ = some (.int .u8 z5)) := fun w' hb =>
    ⟨(hb.cell (p := ⟨b, o + 18, none⟩) hbl).trans c0, (hb.cell (p := ⟨b, o + 19, none⟩) hbl).trans c1, (hb.cell (p := ⟨b, o + 20, none⟩) hbl).trans c2, (hb.cell (p := ⟨b, o + 21, none⟩) hbl).trans c3, (hb.cell (p := ⟨b, o + 22, none⟩) hbl).trans c4, (hb.cell (p := ⟨b, o + 23, none⟩) hbl).trans c5⟩
  clear c0 c1 c2 c3 c4 c5
  go_region_held3 (fun w' => w'.cell? ⟨b, o + 18, none⟩ = some (.int .u8 z0) ∧ w'.cell? ⟨b, o + 19, none⟩ = some (.int .u8 z1) ∧ w'.cell? ⟨b, o + 20, none⟩ = some (.int .u8 z2) ∧ w'.cell? ⟨b, o + 21, none⟩ = some (.int .u8 z3) ∧ w'.cell? ⟨b, o + 22, none⟩ = some (.int .u8 z4) ∧ w'.cell? ⟨b, o + 23, none⟩ = some (.int .u8 z5)) (first | assumption | exact HC.out _ (bpush (Below.refl _ _) _).drew | go_keep) (fail)
  go_wp2
  exact bodyPost_ret (v := .agg #[.int .u8 z0, .int .u8 z1, .int .u8 z2, .int .u8 z3, .int .u8 z4, .int .u8 z5]) (by simp [results, Try.results68, go_sem]) rfl ⟨rfl, (bpush (Below.refl _ _) _).drew⟩
set_option maxHeartbeats 1000000 in
theorem refDecode_short (a : Option Addr) (l c : Nat) (w : World) (h : l < 28) :
    Calls Try.prog 42 #[.slice a l c] w fun e w' => e = .returned (.tuple #[zeroArp.val, .int .i64 5]) ∧ Below w.heap.size w w' := by
  have h1 : (l : Int) < 28 := by omega
  go_enter Try.func42, Try.ntmps42
  go_wp2
  exact bodyPost_ret (v := .tuple #[zeroArp.val, .int .i64 5]) (by simp [results, Try.results42, go_sem, Arp.val, zeroArp, zeroMac]) rfl ⟨rfl, bpush (Below.refl _ _) _⟩
end Go.Proofs.Ytaaoelhmanahpaa
