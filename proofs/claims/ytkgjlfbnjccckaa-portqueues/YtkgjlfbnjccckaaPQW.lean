/-
  Port: PortQueues, walked. Written by mkpqw.py.
-/
import Derived.Test.YtkgjlfbnjccckaaPQS3
import Derived.Test.YtkgjlfbnjccckaaPNumW
namespace Go.Proofs.Ytkgjlfbnjccckaa
open Go.RowKit
set_option linter.all false

theorem wpList_store_rowH {ops : Array Oper} {rest : List Oper} {o : Oper} {a : Act} {w : World} {Q : Exit → Act → World → Prop} (hgd : o.guard = none) (ty : TypeId) (x y : Operand) (ho : o.op = .store ty x y)
    (g : Nat) (cells : Array Value) (hx : a.eval x = .pointer (some ⟨g, 0, none⟩)) (hy : a.eval y = .agg cells)
    (t : TypeId) (old : Array Value) (hg : w.heap[g]? = some (.cells old t (0, 0))) (hi : (Try.prog.info? ty).map (·.size) = some cells.size)
    (hold : old.size = cells.size) (h1 : cells.all (·.oneCell') = true)
    (h : ∀ w', Hid (w'.heap[g]? = some (.cells cells t (0, 0))) → Hid (But g w w') → wpList Try.prog ops Q rest (a.put o.dst undef) w') : wpList Try.prog ops Q (o :: rest) a w :=
  wpList_store_row hgd ty x y ho g cells hx hy t old hg hi hold h1 (h _ (setRow_heap w g _ _ t _ hg) (But.setRow g w _))
theorem put_row {W : World} {g : Nat} {si di s0 d0 n : Int} {v : Value} (h : W.heap[g]? = some (.cells #[.int .u32 si, .int .u32 di, .int .i64 s0, .int .i64 d0, v] 53 (0, 0))) : (W.setCell ⟨g, 3, none⟩ (.int .i64 n)).heap[g]? = some (.cells #[.int .u32 si, .int .u32 di, .int .i64 s0, .int .i64 n, v] 53 (0, 0)) := by
  have := heap_setCell (j := 3) (v := .int .i64 n) h
  simpa using this
set_option maxRecDepth 40000 in
set_option maxHeartbeats 2000000 in
theorem queues_no (D : Int) (da : Option Addr) (dc : Nat) (zs : List Int) (v : Value) (w : World) (hD : ¬ (1 ≤ D ∧ D ≤ 32)) (hp : PartU w da dc zs) (hz : zs.length * 4 ≤ 140737488355328) :
    Calls Try.prog 6 #[.int .i64 D, .slice da zs.length dc, v] w fun e w' => e = .returned (.bool true) ∧ Below w.heap.size w w' := by
  have HL := hid (live_any w)
  have HN : Hid (∀ w1 : World, Calls Try.prog 8 #[.int .i64 8, .int .i64 D] w1 fun e w' => e = .returned (.pointer none) ∧ w' = w1) := fun w1 => pnew_no 8 D w1 (by omega)
  have HD : Hid (∀ w1 : World, Below w.heap.size w w1 → Calls Try.prog 12 #[.slice da zs.length dc] w1 fun e w' => ∃ p a' c', e = .returned (.pointer (some ⟨p, 0, none⟩)) ∧ Hid (MadeI 92 w1 w' p a' c' zs)) := fun w1 hb => new_any da dc zs w1 (hp.below hb) hz
  clear hp hz
  generalize zs.length = zl at *
  go_enter Try.func6, Try.ntmps6
  go_wp2_with (first
    | (go_at_call 7; refine HL.out.mono ?_; rintro e w1 ⟨rfl, HB⟩)
    | (go_at_call 8; refine (HN.out w1).mono ?_; rintro e w2 ⟨rfl, rfl⟩)
    | (go_at_call 12; refine (HD.out _ HB.out).mono ?_; rintro e w3 ⟨p, a', c', rfl, HM⟩))
  all_goals first
    | (exfalso; omega)
    | (go_ret; exact ⟨rfl, bstep HB.out HM.out.bel⟩)
    | (go_ret; exact ⟨ret_bool (by simp; omega), bstep HB.out HM.out.bel⟩)
def q3 : List Pa := [⟨100, 0, []⟩, ⟨101, 0, []⟩, ⟨102, 0, []⟩]
theorem q3_open : ∀ k : Nat, k < 3 → openE 8 (q3.take k) (100 + k) = 0 ∧ openF 8 (q3.take k) (100 + k) = q3.take (k + 1)
  | 0, _ => by decide
  | 1, _ => by decide
  | 2, _ => by decide
theorem infoSl43 : (Try.prog.info? 43).map (fun i => (i.zero, i.size, i.bytes)) = some (some (.slice none 0 0), 1, 24) := by kernel_rfl
theorem infoI : (Try.prog.info? 3).map (fun i => (i.zero, i.size, i.bytes)) = some (some (.int .i64 0), 1, 8) := by kernel_rfl
theorem made43 : madeCells #[Value.slice none 0 0] 3 = #[.slice none 0 0, .slice none 0 0, .slice none 0 0] := by kernel_rfl
theorem made3 : madeCells #[Value.int .i64 0] 3 = #[.int .i64 0, .int .i64 0, .int .i64 0] := by kernel_rfl
/-- how it begins. -/
theorem qs_start {w0 w : World} {c m : Nat} {D : Int} {p : Nat} {zs : List Int} (h : LT w0 w c m 8 D q3 p zs) (hz : zs.length ≤ maxLen) :
    QS w0 ((w.alloc (.cells #[.slice none 0 0, .slice none 0 0, .slice none 0 0] 43)).alloc (.cells #[.int .i64 0, .int .i64 0, .int .i64 0] 3)) c m D q3 p zs w.heap.size (w.heap.size + 1) (fun _ => .slice none 0 0) (fun i => ⟨100 + i, 0, []⟩) 0 := by
  have hb : Below w.heap.size w ((w.alloc (.cells #[.slice none 0 0, .slice none 0 0, .slice none 0 0] 43)).alloc (.cells #[.int .i64 0, .int .i64 0, .int .i64 0] 3)) := bpush (balloc w _) _
  have hs := h.bel.size
  refine ⟨h.below hb, by rw [heap_old _ _ (by simp)]; exact heap_new _ _, ?_, fun i hi => RowO.nil _ _, fun i hi => ?_, fun i hi d hd => by simp at hd, fun i j hi hj hne b hb => by simp [Value.ownBlock] at hb, by omega, by omega, fun i b hi hb => by simp [Value.ownBlock] at hb, fun y hy => ?_, hz⟩
  · have := heap_new (w.alloc (.cells #[.slice none 0 0, .slice none 0 0, .slice none 0 0] 43)) (.cells #[.int .i64 0, .int .i64 0, .int .i64 0] 3)
    rw [World.size_alloc] at this
    exact this
  · rcases i with _ | _ | _ | i
    · rfl
    · rfl
    · rfl
    · omega
  · simp [q3] at hy
    rcases hy with rfl | rfl | rfl <;> simp
theorem part_parts {w : World} {a : Option Addr} {c : Nat} {zs : List Int} (h : Part.ok w ⟨a, c, zs⟩) : ∀ z, z ∈ zs → 0 ≤ z ∧ z ≤ 255 := h.1
set_option maxRecDepth 40000 in
set_option maxHeartbeats 16000000 in
theorem queues_yes (D : Int) (da : Option Addr) (dc : Nat) (zs : List Int) (xs : List OpP) (oa : Option Addr) (oc : Nat) (w : World) (h1 : 1 ≤ D) (h2 : D ≤ 32) (hp : PartU w da dc zs) (hz : zs.length * 4 ≤ 140737488355328) (hops : OpsP w oa xs) (hsz : xs.length * 64 ≤ 140737488351232 ∧ ∀ i, i < xs.length → (xs.getD i OpP.nil).pt.zs.length ≤ 140737488351232) :
    Calls Try.prog 6 #[.int .i64 D, .slice da zs.length dc, .slice oa xs.length oc] w fun e w' => e = .returned (.bool true) ∧ Below w.heap.size w w' := by
  have HL := hid (live_any w)
  have HN : Hid (∀ w1 : World, Calls Try.prog 8 #[.int .i64 8, .int .i64 D] w1 fun e w' => ∃ c m, e = .returned (.pointer (some ⟨c, 0, none⟩)) ∧ Hid (PMade w1 w' c m 8 D)) := fun w1 => pnew_yes 8 D w1 (by omega)
  have HD : Hid (∀ w1 : World, Below w.heap.size w w1 → Calls Try.prog 12 #[.slice da zs.length dc] w1 fun e w' => ∃ p a' c', e = .returned (.pointer (some ⟨p, 0, none⟩)) ∧ Hid (MadeI 92 w1 w' p a' c' zs)) := fun w1 hb => new_any da dc zs w1 (hp.below hb) hz
  have HZ : Hid (zs.length ≤ maxLen) := by unfold Hid maxLen; omega
  have HOP := hid hops
  have HSZ := hid hsz.2
  have hs1 : xs.length < 2199023255552 := by have := hsz.1; omega
  clear hp hz hops hsz
  have hmk1 : ∀ wx : World, (Instr.makeSlice 60 (.int .i64 3) (.int .i64 3)).run Try.prog wx = .ok (.slice (some ⟨wx.heap.size, 0, none⟩) 3 3) (wx.alloc (.cells #[.slice none 0 0, .slice none 0 0, .slice none 0 0] 43)) := fun wx => by
    have := Go.run_make_row' (P := Try.prog) 60 43 (.slice none 0 0) 24 Try.underlying60 infoSl43 rfl .i64 .i64 3 (by omega) (by omega) wx
    rw [made43] at this
    exact this
  have hmk2 : ∀ wx : World, (Instr.makeSlice 61 (.int .i64 3) (.int .i64 3)).run Try.prog wx = .ok (.slice (some ⟨wx.heap.size, 0, none⟩) 3 3) (wx.alloc (.cells #[.int .i64 0, .int .i64 0, .int .i64 0] 3)) := fun wx => by
    have := Go.run_make_row' (P := Try.prog) 61 3 (.int .i64 0) 8 Try.underlying61 infoI rfl .i64 .i64 3 (by omega) (by omega) wx
    rw [made3] at this
    exact this
  obtain ⟨zl, hzl⟩ : ∃ n, n = zs.length := ⟨_, rfl⟩
  rw [← hzl] at HD ⊢
  clear hzl
  obtain ⟨XL, hXL⟩ : ∃ n, n = xs.length := ⟨_, rfl⟩
  rw [← hXL] at HSZ hs1 ⊢
  have HXL := hid hXL
  clear hXL
  go_enter Try.func6, Try.ntmps6
  go_wp2_with (first
    | (go_at_call 7; refine HL.out.mono ?_; rintro e w1 ⟨rfl, HB⟩; clear HL)
    | (go_at_call 8; refine (HN.out w1).mono ?_; rintro e w2 ⟨c, m, rfl, HP⟩; clear HN)
    | (go_at_call 12; refine (HD.out _ (bstep HB.out HP.out.bel)).mono ?_; rintro e w3 ⟨p, a', c', rfl, HM⟩; clear HD))
  have HT : Hid (LT w1 w3 c m 8 D [] p zs) := lt_made HP.out (Below.refl _ _) HM.out
  have HT0 : Hid (LT w w3 c m 8 D [] p zs) := by
    obtain ⟨L, a, cp, h, e⟩ := HT.out
    exact ⟨L, a, cp, ⟨h.tab, fun k hk => Nat.le_trans HB.out.size (h.low k hk), h.dice, fun k hk => Nat.le_trans HB.out.size (h.dlow k hk), bstep HB.out h.bel⟩, e⟩
  clear HT HM HP HB
  go_loopw [10] (fun vi wr => ∃ k : Nat, k ≤ 3 ∧ vi = .int .i64 (100 + (k : Int)) ∧ Hid (LT w wr c m 8 D (q3.take k) p zs)) (fun vi _ => (103 - intOf3 vi).toNat)
  case atStart => exact ⟨0, by omega, rfl, HT0⟩
  case round =>
    obtain ⟨k, hk, rfl, HT⟩ := hrel
    clear HT0
    by_cases hk3 : k < 3
    · have HO : Hid (Calls Try.prog 17 #[.pointer (some ⟨c, 0, none⟩), .int .i64 (100 + (k : Int))] wr fun e w' => e = .returned (.int .i64 0) ∧ Hid (LT w w' c m 8 D (q3.take (k + 1)) p zs)) := by
        have := lt_open HT.out (100 + (k : Int)) (by unfold ipOk; omega)
        rwa [(q3_open k hk3).1, (q3_open k hk3).2] at this
      have l1 : (100 : Int) + (k : Int) < 103 := by omega
      have e1 : IntKind.i64.wrap ((100 : Int) + (k : Int) + 1) = 100 + (k : Int) + 1 := by simp only [IntKind.wrap_i64]; omega
      go_wp2_with (first
        | (go_at_call 17; refine HO.out.mono ?_; rintro e w5 ⟨rfl, HT5⟩))
      go_roundw
      case rel => exact ⟨k + 1, by omega, by first | rfl | (congr 1; omega), HT5⟩
      case measure => simp only [intOf3]; omega
    · have hk4 : k = 3 := by omega
      rw [hk4] at HT
      have HQ0 := hid (qs_start HT.out HZ.out)
      rw [show (100 : Int) + (k : Int) = 103 from by omega]
      clear HT hk3 HZ hk4 hk
      go_wp2_with fail
      generalize wr.heap.size = gw at HQ0 ⊢
      generalize gw + 1 = gd at HQ0 ⊢
      generalize (wr.alloc (.cells #[.slice none 0 0, .slice none 0 0, .slice none 0 0] 43)).alloc (.cells #[.int .i64 0, .int .i64 0, .int .i64 0] 3) = wq at HQ0 ⊢
      clear hmk1 hmk2
      go_loopw [14] (fun vi wx => ∃ (k : Nat) (S : List Pa) (zt : List Int) (V : Nat → Value) (X : Nat → Pa), k ≤ XL ∧ vi = .int .i64 k ∧ Hid (QS w wx c m D S p zt gw gd V X k)) (fun vi _ => XL - (intOf3 vi).toNat)
      case atStart => exact ⟨0, _, _, _, _, Nat.zero_le _, rfl, HQ0⟩
      case round =>
        obtain ⟨k, S, zt, V, X, hk, rfl, HQ⟩ := hrel
        clear HQ0
        by_cases hkX : k < XL
        · obtain ⟨ob, oo, hoa, hcs, hok⟩ := HOP.out k (by have := HXL.out; omega)
          subst hoa
          have hbw := HQ.out.lt.bel
          have hle := HSZ.out k hkX
          clear HOP HSZ HXL
          generalize xs.getD k OpP.nil = y at *
          obtain ⟨K, N, si, di, s0, d0, ⟨pa, pc, pz⟩⟩ := y
          obtain ⟨okK, okN, oks, okd, oksp, okdp, okp⟩ := hok
          simp only at okK okN oks okd oksp okdp hle
          have i0 : wr.cell? ⟨ob, oo + k * 7, none⟩ = some (.int .i64 K) := cell_later hbw (hcs 0 _ rfl)
          have i1 : wr.cell? ⟨ob, oo + k * 7 + 1, none⟩ = some (.int .i64 N) := cell_later hbw (hcs 1 _ rfl)
          have i2 : wr.cell? ⟨ob, oo + k * 7 + 2, none⟩ = some (.int .u32 si) := cell_later hbw (hcs 2 _ rfl)
          have i3 : wr.cell? ⟨ob, oo + k * 7 + 3, none⟩ = some (.int .u32 di) := cell_later hbw (hcs 3 _ rfl)
          have i4 : wr.cell? ⟨ob, oo + k * 7 + 4, none⟩ = some (.int .i64 s0) := cell_later hbw (hcs 4 _ rfl)
          have i5 : wr.cell? ⟨ob, oo + k * 7 + 5, none⟩ = some (.int .i64 d0) := cell_later hbw (hcs 5 _ rfl)
          have i6 : wr.cell? ⟨ob, oo + k * 7 + 6, none⟩ = some (.slice pa pz.length pc) := cell_later hbw (hcs 6 _ rfl)
          have HOKP : Hid (Part.ok w ⟨pa, pc, pz⟩) := okp
          have HDG : Hid (∀ n, ipOk n → Dg.ok ⟨si, di, s0, n, pz⟩) := fun n hn => ⟨oks, okd, oksp, hn, okp.1⟩
          have HN := hid okN
          clear hcs hbw okp oks okd oksp okdp okK
          obtain ⟨pl, hpl⟩ : ∃ n, n = pz.length := ⟨_, rfl⟩
          rw [← hpl] at i6 hle
          have HPL := hid hpl
          clear hpl
          have hk0 : (0 : Int) ≤ (k : Int) := by omega
          have hkm : (k : Int) < (XL : Int) := by omega
          have e9 : IntKind.i64.wrap ((k : Int) + 1) = (k : Int) + 1 := by simp only [IntKind.wrap_i64]; omega
          have HA : Hid (¬ (100 ≤ N ∧ N < 103) → ¬ (0 ≤ wrap64 (N - 100) ∧ wrap64 (N - 100) < 3)) := fun h => by
            have := okN
            unfold ipOk at this
            unfold wrap64
            omega
          clear okN
          by_cases k2 : K = 2
          · obtain rfl := k2
            as_aux_lemma =>
              go_wp2_with (first
                | (refine wpList_store_rowH rfl 55 _ _ rfl wr.heap.size #[.int .i64 2, .int .i64 N, .int .u32 si, .int .u32 di, .int .i64 s0, .int .i64 d0, .slice pa pl pc] rfl rfl 55 _ (heap_new wr _) (by kernel_rfl) rfl (by first | kernel_rfl | simp [Value.oneCell']) ?_; intro W1 HG1 HB1; have fC := fun j => cell_of_heap HG1.out j; have HQ1 := hid (HQ.out.below (bbut (balloc wr _) HB1.out (Nat.le_refl _))))
                | (go_at_call 18; refine HQ1.out.pick.mono ?_; go_loud (rintro e w5 ⟨n5, x5, rfl, S5, z5, HQ5⟩; have HQQ := hid (HQ5.out.more (k' := k + 1) (by omega)))))
              all_goals
                skip
                go_roundw
                case rel => exact ⟨k + 1, _, _, _, _, by omega, by first | rfl | (congr 1; omega), HQQ⟩
                case measure => simp only [intOf3]; omega
          · by_cases k1 : K = 1
            · obtain rfl := k1
              as_aux_lemma =>
                go_wp2_with (first
                  | (refine wpList_store_rowH rfl 55 _ _ rfl wr.heap.size #[.int .i64 1, .int .i64 N, .int .u32 si, .int .u32 di, .int .i64 s0, .int .i64 d0, .slice pa pl pc] rfl rfl 55 _ (heap_new wr _) (by kernel_rfl) rfl (by first | kernel_rfl | simp [Value.oneCell']) ?_; intro W1 HG1 HB1; have fC := fun j => cell_of_heap HG1.out j; have HQ1 := hid (HQ.out.below (bbut (balloc wr _) HB1.out (Nat.le_refl _))))
                  | (go_at_call 17; refine (HQ1.out.open N HN.out).mono ?_; rintro e w5 ⟨x5, rfl, S5, HQ5⟩; have HQQ := hid (HQ5.out.more (k' := k + 1) (by omega))))
                all_goals
                  skip
                  go_roundw
                  case rel => exact ⟨k + 1, _, _, _, _, by omega, by first | rfl | (congr 1; omega), HQQ⟩
                  case measure => simp only [intOf3]; omega
            · by_cases k4 : K = 4
              · obtain rfl := k4
                have HOKW := HOKP
                by_cases hin : 100 ≤ N ∧ N < 103
                · obtain ⟨j, hj, rfl⟩ : ∃ j : Nat, j < 3 ∧ N = 100 + (j : Int) := ⟨(N - 100).toNat, by omega, by omega⟩
                  have a2 : (0 : Int) ≤ (j : Int) := by omega
                  have a3 : (j : Int) < 3 := by omega
                  have p3 : (100 : Int) + (j : Int) - 100 = (j : Int) := by omega
                  obtain ⟨va, vc, hvj, hvl⟩ := HQ.out.vform j hj
                  have HHQ := HQ
                  have r0 := HQ.out.lt.aok.dr _ (alook_mem (HQ.out.look j hj)).1
                  have r1 := HQ.out.drs _ (alook_mem (HQ.out.look j hj)).1
                  have hdeep := HQ.out.lt.aok.deep _ (alook_mem (HQ.out.look j hj)).1
                  by_cases hf : ((X j).ds.length : Int) = D
                  · have HPUT : Hid (∀ W3, Below wr.heap.size wr W3 → Calls Try.prog 19 #[.pointer (some ⟨c, 0, none⟩), .agg #[.int .u32 si, .int .u32 di, .int .i64 s0, .int .i64 (100 + (j : Int)), .slice pa pl pc]] W3 fun e w' => e = .returned (.int .i64 3) ∧ w'.cell? ⟨gw, j, none⟩ = some (.slice va (X j).ds.length vc) ∧ w'.cell? ⟨gd, j, none⟩ = some (.int .i64 (X j).dr) ∧ w'.frozen? ⟨gd, j, none⟩ = false ∧ Hid (∃ S' V' X', QS w (w'.setCell ⟨gd, j, none⟩ (.int .i64 ((X j).dr + 1))) c m D S' p zt gw gd V' X' (k + 1))) := fun W3 hb => by
                      have := HQ.out.putFull hb j hj si di s0 pa pc pz (HDG.out _ HN.out) HOKW.out (by have := HPL.out; omega) (by omega) hf
                      rw [← HPL.out, hvj] at this
                      exact this
                    have hfd : ¬ (((X j).ds.length : Int) < D) := by omega
                    clear HDG HA hin hvj hdeep
                    generalize (X j).ds.length = nn at *
                    generalize (X j).dr = xdr at *
                    have e7 : IntKind.i64.wrap (xdr + 1) = xdr + 1 := by simp only [IntKind.wrap_i64]; omega
                    as_aux_lemma =>
                      go_wp2_with (first
                        | (refine wpList_store_rowH rfl 55 _ _ rfl wr.heap.size #[.int .i64 4, .int .i64 (100 + (j : Int)), .int .u32 si, .int .u32 di, .int .i64 s0, .int .i64 d0, .slice pa pl pc] rfl rfl 55 _ (heap_new wr _) (by kernel_rfl) rfl (by first | kernel_rfl | simp [Value.oneCell']) ?_; intro W1 HG1 HB1; have fC := fun j => cell_of_heap HG1.out j; have HQ1 := hid (HQ.out.below (bbut (balloc wr _) HB1.out (Nat.le_refl _))))
                        | (refine wpList_store_rowH rfl 53 _ _ rfl W1.heap.size #[.int .u32 si, .int .u32 di, .int .i64 s0, .int .i64 d0, .slice pa pl pc] rfl rfl 53 _ (heap_new W1 _) (by kernel_rfl) rfl (by first | kernel_rfl | simp [Value.oneCell']) ?_; intro W2 HG2 HB2; have HB12 := hid (bbut (balloc W1 _) HB2.out (Nat.le_refl _)); have g3 : W2.cell? ⟨W1.heap.size, 3, none⟩ = some (.int .i64 d0) := cell_of_heap HG2.out 3; have g4 := frozen_of_heap HG2.out 3; have HG3 : Hid ((W2.setCell ⟨W1.heap.size, 3, none⟩ (.int .i64 (100 + (j : Int)))).heap[W1.heap.size]? = some (.cells #[.int .u32 si, .int .u32 di, .int .i64 s0, .int .i64 (100 + (j : Int)), .slice pa pl pc] 53 (0, 0))) := put_row HG2.out; have g5 := fun j => cell_of_heap HG3.out j; have g6 := fun j => cell_of_heap (kept HG1.out HB12.out) j; have HB13 := hid (bbut HB12.out (But.setCell W1.heap.size W2 3 (.int .i64 (100 + (j : Int)))) (Nat.le_refl _)); clear HG2 HB2 HB12)
                        | (go_at_call 19; refine (HPUT.out _ (bstep (bbut (balloc wr _) HB1.out (Nat.le_refl _)) HB13.out)).mono ?_; go_loud (rintro e w5 ⟨rfl, b1, b2, b3, HQQ⟩)))
                      all_goals
                        skip
                        go_roundw
                        case rel =>
                          obtain ⟨S5, V5, X5, h5⟩ := HQQ.out
                          exact ⟨k + 1, S5, zt, V5, X5, by omega, by first | rfl | (congr 1; omega), h5⟩
                        case measure => simp only [intOf3]; omega
                  · have HPUT : Hid (∀ (W3 : World) (gx : Nat), Below wr.heap.size wr W3 → wr.heap.size ≤ gx → W3.heap[gx]? = some (.cells #[.int .u32 si, .int .u32 di, .int .i64 s0, .int .i64 (100 + (j : Int)), .slice pa pl pc] 53 (0, 0)) → Calls Try.prog 19 #[.pointer (some ⟨c, 0, none⟩), .agg #[.int .u32 si, .int .u32 di, .int .i64 s0, .int .i64 (100 + (j : Int)), .slice pa pl pc]] W3 fun e w' => e = .returned (.int .i64 0) ∧ w'.cell? ⟨gw, j, none⟩ = some (.slice va (X j).ds.length vc) ∧ w'.cell? ⟨gx, 4, none⟩ = some (.slice pa pl pc) ∧
                        (convert 51 9 (.slice pa pl pc)).run Try.prog w'.drew = .ok (.string (strOfNums pz)) w'.drew ∧ ∃ (g off cp : Nat) (w7 : World), Hid ((Builtin.append_ #[43, 43] 43 #[.slice va (X j).ds.length vc, .slice (some ⟨w'.heap.size, 0, none⟩) 1 1]).run Try.prog (w'.alloc (.cells #[.string (strOfNums pz)] 9)).drew = .ok (.slice (some ⟨g, off, none⟩) ((X j).ds.length + 1) cp) w7) ∧
                        w7.cell? ⟨gw, j, none⟩ = some (.slice va (X j).ds.length vc) ∧ w7.frozen? ⟨gw, j, none⟩ = false ∧ Hid (∃ S' V' X', QS w (w7.setCell ⟨gw, j, none⟩ (.slice (some ⟨g, off, none⟩) ((X j).ds.length + 1) cp)) c m D S' p zt gw gd V' X' (k + 1))) := fun W3 gx hb hgx hC => by
                      have := HQ.out.putRoom hb j hj si di s0 pa pc pz (HDG.out _ HN.out) HOKW.out (by have := HPL.out; omega) (by omega) hf h2 gx hgx _ hC (by rw [← HPL.out]; rfl)
                      rw [← HPL.out, hvj] at this
                      exact this
                    have hfd : ((X j).ds.length : Int) < D := by omega
                    clear HDG HA hin hvj hdeep
                    generalize (X j).ds.length = nn at *
                    generalize strOfNums pz = SX at *
                    as_aux_lemma =>
                      go_wp2_with (first
                        | (refine wpList_store_rowH rfl 55 _ _ rfl wr.heap.size #[.int .i64 4, .int .i64 (100 + (j : Int)), .int .u32 si, .int .u32 di, .int .i64 s0, .int .i64 d0, .slice pa pl pc] rfl rfl 55 _ (heap_new wr _) (by kernel_rfl) rfl (by first | kernel_rfl | simp [Value.oneCell']) ?_; intro W1 HG1 HB1; have fC := fun j => cell_of_heap HG1.out j; have HQ1 := hid (HQ.out.below (bbut (balloc wr _) HB1.out (Nat.le_refl _))))
                        | (refine wpList_store_rowH rfl 53 _ _ rfl W1.heap.size #[.int .u32 si, .int .u32 di, .int .i64 s0, .int .i64 d0, .slice pa pl pc] rfl rfl 53 _ (heap_new W1 _) (by kernel_rfl) rfl (by first | kernel_rfl | simp [Value.oneCell']) ?_; intro W2 HG2 HB2; have HB12 := hid (bbut (balloc W1 _) HB2.out (Nat.le_refl _)); have g3 : W2.cell? ⟨W1.heap.size, 3, none⟩ = some (.int .i64 d0) := cell_of_heap HG2.out 3; have g4 := frozen_of_heap HG2.out 3; have HG3 : Hid ((W2.setCell ⟨W1.heap.size, 3, none⟩ (.int .i64 (100 + (j : Int)))).heap[W1.heap.size]? = some (.cells #[.int .u32 si, .int .u32 di, .int .i64 s0, .int .i64 (100 + (j : Int)), .slice pa pl pc] 53 (0, 0))) := put_row HG2.out; have g5 := fun j => cell_of_heap HG3.out j; have g6 := fun j => cell_of_heap (kept HG1.out HB12.out) j; have HB13 := hid (bbut HB12.out (But.setCell W1.heap.size W2 3 (.int .i64 (100 + (j : Int)))) (Nat.le_refl _)); clear HG2 HB2 HB12)
                        | (go_at_call 19; refine (HPUT.out _ W1.heap.size (bstep (bbut (balloc wr _) HB1.out (Nat.le_refl _)) HB13.out) (bbut (balloc wr _) HB1.out (Nat.le_refl _)).size HG3.out).mono ?_; go_loud (rintro e w5 ⟨rfl, b1, b2, b3, g7, off7, cp7, w7, HRUN, b4, b5, HQQ⟩)))
                      skip
                      have b1' : w5.drew.cell? ⟨gw, j, none⟩ = some (.slice va nn vc) := b1
                      have b2' : w5.drew.cell? ⟨W1.heap.size, 4, none⟩ = some (.slice pa pl pc) := b2
                      have b8 : (w5.alloc (.cells #[.string SX] 9)).cell? ⟨gw, j, none⟩ = some (.slice va nn vc) := cell_later (balloc _ _) b1
                      have b9 : (w5.alloc (.cells #[.string SX] 9)).drew.cell? ⟨gw, j, none⟩ = some (.slice va nn vc) := b8
                      go_region_law (refine step_append_run rfl (.tmp 138) (.tmp 142) 43 43 rfl (.slice va nn vc) (.slice (some ⟨w5.heap.size, 0, none⟩) 1 1) (by simp [Act.put, Act.eval]) (by simp [Act.put, Act.eval]) HRUN.out ?_)
                      all_goals go_wp2_with fail
                      all_goals
                        go_roundw
                        case rel =>
                          obtain ⟨S5, V5, X5, h5⟩ := HQQ.out
                          exact ⟨k + 1, S5, zt, V5, X5, by omega, by first | rfl | (congr 1; omega), h5⟩
                        case measure => simp only [intOf3]; omega
                · have HIN := hid hin
                  have hA := HA.out hin
                  have HPUT : Hid (∀ W3, QS w W3 c m D S p zt gw gd V X k → Calls Try.prog 19 #[.pointer (some ⟨c, 0, none⟩), .agg #[.int .u32 si, .int .u32 di, .int .i64 s0, .int .i64 N, .slice pa pl pc]] W3 fun e w' => ∃ x, e = .returned (.int .i64 x) ∧ ∃ S', Hid (QS w w' c m D S' p zt gw gd V X (k + 1))) := fun W3 h3 => by
                    have := h3.putO ⟨si, di, s0, N, pz⟩ pa pc (HDG.out N HN.out) (Part.ok_below HOKW.out h3.lt.bel) (by have := HPL.out; simp only; omega) (by omega) HIN.out
                    rw [HPL.out]
                    exact this
                  clear HDG hin HA
                  by_cases hA0 : 0 ≤ wrap64 (N - 100)
                  · have hA3 : ¬ wrap64 (N - 100) < 3 := by omega
                    as_aux_lemma =>
                      go_wp2_with (first
                        | (refine wpList_store_rowH rfl 55 _ _ rfl wr.heap.size #[.int .i64 4, .int .i64 N, .int .u32 si, .int .u32 di, .int .i64 s0, .int .i64 d0, .slice pa pl pc] rfl rfl 55 _ (heap_new wr _) (by kernel_rfl) rfl (by first | kernel_rfl | simp [Value.oneCell']) ?_; intro W1 HG1 HB1; have fC := fun j => cell_of_heap HG1.out j; have HQ1 := hid (HQ.out.below (bbut (balloc wr _) HB1.out (Nat.le_refl _))))
                        | (refine wpList_store_rowH rfl 53 _ _ rfl W1.heap.size #[.int .u32 si, .int .u32 di, .int .i64 s0, .int .i64 d0, .slice pa pl pc] rfl rfl 53 _ (heap_new W1 _) (by kernel_rfl) rfl (by first | kernel_rfl | simp [Value.oneCell']) ?_; intro W2 HG2 HB2; have HB12 := hid (bbut (balloc W1 _) HB2.out (Nat.le_refl _)); have g3 : W2.cell? ⟨W1.heap.size, 3, none⟩ = some (.int .i64 d0) := cell_of_heap HG2.out 3; have g4 := frozen_of_heap HG2.out 3; have HG3 : Hid ((W2.setCell ⟨W1.heap.size, 3, none⟩ (.int .i64 N)).heap[W1.heap.size]? = some (.cells #[.int .u32 si, .int .u32 di, .int .i64 s0, .int .i64 N, .slice pa pl pc] 53 (0, 0))) := put_row HG2.out; have g5 := fun j => cell_of_heap HG3.out j; have g6 := fun j => cell_of_heap (kept HG1.out HB12.out) j; have HB13 := hid (bbut HB12.out (But.setCell W1.heap.size W2 3 (.int .i64 N)) (Nat.le_refl _)); clear HG2 HB2 HB12)
                        | (go_at_call 19; refine (HPUT.out _ (HQ1.out.below HB13.out)).mono ?_; go_loud (rintro e w5 ⟨x5, rfl, S5, HQQ⟩)))
                      all_goals
                        skip
                        go_roundw
                        case rel => exact ⟨k + 1, _, _, _, _, by omega, by first | rfl | (congr 1; omega), HQQ⟩
                        case measure => simp only [intOf3]; omega
                  · clear hA
                    as_aux_lemma =>
                      go_wp2_with (first
                        | (refine wpList_store_rowH rfl 55 _ _ rfl wr.heap.size #[.int .i64 4, .int .i64 N, .int .u32 si, .int .u32 di, .int .i64 s0, .int .i64 d0, .slice pa pl pc] rfl rfl 55 _ (heap_new wr _) (by kernel_rfl) rfl (by first | kernel_rfl | simp [Value.oneCell']) ?_; intro W1 HG1 HB1; have fC := fun j => cell_of_heap HG1.out j; have HQ1 := hid (HQ.out.below (bbut (balloc wr _) HB1.out (Nat.le_refl _))))
                        | (refine wpList_store_rowH rfl 53 _ _ rfl W1.heap.size #[.int .u32 si, .int .u32 di, .int .i64 s0, .int .i64 d0, .slice pa pl pc] rfl rfl 53 _ (heap_new W1 _) (by kernel_rfl) rfl (by first | kernel_rfl | simp [Value.oneCell']) ?_; intro W2 HG2 HB2; have HB12 := hid (bbut (balloc W1 _) HB2.out (Nat.le_refl _)); have g3 : W2.cell? ⟨W1.heap.size, 3, none⟩ = some (.int .i64 d0) := cell_of_heap HG2.out 3; have g4 := frozen_of_heap HG2.out 3; have HG3 : Hid ((W2.setCell ⟨W1.heap.size, 3, none⟩ (.int .i64 N)).heap[W1.heap.size]? = some (.cells #[.int .u32 si, .int .u32 di, .int .i64 s0, .int .i64 N, .slice pa pl pc] 53 (0, 0))) := put_row HG2.out; have g5 := fun j => cell_of_heap HG3.out j; have g6 := fun j => cell_of_heap (kept HG1.out HB12.out) j; have HB13 := hid (bbut HB12.out (But.setCell W1.heap.size W2 3 (.int .i64 N)) (Nat.le_refl _)); clear HG2 HB2 HB12)
                        | (go_at_call 19; refine (HPUT.out _ (HQ1.out.below HB13.out)).mono ?_; go_loud (rintro e w5 ⟨x5, rfl, S5, HQQ⟩)))
                      all_goals
                        skip
                        go_roundw
                        case rel => exact ⟨k + 1, _, _, _, _, by omega, by first | rfl | (congr 1; omega), HQQ⟩
                        case measure => simp only [intOf3]; omega
              · by_cases k3 : K = 3
                · obtain rfl := k3
                  by_cases hin : 100 ≤ N ∧ N < 103
                  · have a1 : wrap64 (N - 100) = N - 100 := by unfold wrap64; omega
                    have a2 : (0 : Int) ≤ N - 100 := by omega
                    have a3 : N - 100 < 3 := by omega
                    clear hin
                    as_aux_lemma =>
                      go_wp2_with (first
                        | ((refine wpList_store_rowH rfl 55 _ _ rfl wr.heap.size #[.int .i64 3, .int .i64 N, .int .u32 si, .int .u32 di, .int .i64 s0, .int .i64 d0, .slice pa pl pc] rfl rfl 55 _ (heap_new wr _) (by kernel_rfl) rfl (by first | kernel_rfl | simp [Value.oneCell']) ?_; intro W1 HG1 HB1; have fC := fun j => cell_of_heap HG1.out j; have HQ1 := hid (HQ.out.below (bbut (balloc wr _) HB1.out (Nat.le_refl _)))); have HQQ := hid (HQ1.out.more (k' := k + 1) (by omega))))
                      all_goals
                        skip
                        go_roundw
                        case rel => exact ⟨k + 1, _, _, _, _, by omega, by first | rfl | (congr 1; omega), HQQ⟩
                        case measure => simp only [intOf3]; omega
                  · have hA := HA.out hin
                    have HIN := hid hin
                    clear hin
                    by_cases hA0 : 0 ≤ wrap64 (N - 100)
                    · have hA3 : ¬ wrap64 (N - 100) < 3 := by omega
                      as_aux_lemma =>
                        go_wp2_with (first
                          | (refine wpList_store_rowH rfl 55 _ _ rfl wr.heap.size #[.int .i64 3, .int .i64 N, .int .u32 si, .int .u32 di, .int .i64 s0, .int .i64 d0, .slice pa pl pc] rfl rfl 55 _ (heap_new wr _) (by kernel_rfl) rfl (by first | kernel_rfl | simp [Value.oneCell']) ?_; intro W1 HG1 HB1; have fC := fun j => cell_of_heap HG1.out j; have HQ1 := hid (HQ.out.below (bbut (balloc wr _) HB1.out (Nat.le_refl _))))
                          | (go_at_call 20; refine (HQ1.out.close N HN.out HIN.out).mono ?_; rintro e w5 ⟨x5, rfl, S5, HQ5⟩; have HQQ := hid (HQ5.out.more (k' := k + 1) (by omega))))
                        all_goals
                          skip
                          go_roundw
                          case rel => exact ⟨k + 1, _, _, _, _, by omega, by first | rfl | (congr 1; omega), HQQ⟩
                          case measure => simp only [intOf3]; omega
                    · go_wp2_with (first
                        | (refine wpList_store_rowH rfl 55 _ _ rfl wr.heap.size #[.int .i64 3, .int .i64 N, .int .u32 si, .int .u32 di, .int .i64 s0, .int .i64 d0, .slice pa pl pc] rfl rfl 55 _ (heap_new wr _) (by kernel_rfl) rfl (by first | kernel_rfl | simp [Value.oneCell']) ?_; intro W1 HG1 HB1; have fC := fun j => cell_of_heap HG1.out j; have HQ1 := hid (HQ.out.below (bbut (balloc wr _) HB1.out (Nat.le_refl _))))
                        | (go_at_call 20; refine (HQ1.out.close N HN.out HIN.out).mono ?_; rintro e w5 ⟨x5, rfl, S5, HQ5⟩; have HQQ := hid (HQ5.out.more (k' := k + 1) (by omega))))
                      all_goals
                        skip
                        go_roundw
                        case rel => exact ⟨k + 1, _, _, _, _, by omega, by first | rfl | (congr 1; omega), HQQ⟩
                        case measure => simp only [intOf3]; omega
                · by_cases k5 : K = 5
                  · obtain rfl := k5
                    by_cases hin : 100 ≤ N ∧ N < 103
                    · obtain ⟨j, hj, rfl⟩ : ∃ j : Nat, j < 3 ∧ N = 100 + (j : Int) := ⟨(N - 100).toNat, by omega, by omega⟩
                      have a2 : (0 : Int) ≤ (j : Int) := by omega
                      have a3 : (j : Int) < 3 := by omega
                      have p3 : (100 : Int) + (j : Int) - 100 = (j : Int) := by omega
                      clear hin HA
                      cases hds : (X j).ds with
                      | nil =>
                        obtain ⟨va, vc, hvj, hvl⟩ := HQ.out.vform j hj
                        rw [hds] at hvj
                        simp only [List.length_nil] at hvj
                        clear hvl
                        as_aux_lemma =>
                          go_wp2_with (first
                            | (refine wpList_store_rowH rfl 55 _ _ rfl wr.heap.size #[.int .i64 5, .int .i64 (100 + (j : Int)), .int .u32 si, .int .u32 di, .int .i64 s0, .int .i64 d0, .slice pa pl pc] rfl rfl 55 _ (heap_new wr _) (by kernel_rfl) rfl (by first | kernel_rfl | simp [Value.oneCell']) ?_; intro W1 HG1 HB1; have fC := fun j => cell_of_heap HG1.out j; have HQ1 := hid (HQ.out.below (bbut (balloc wr _) HB1.out (Nat.le_refl _))))
                            | (go_at_call 21; refine (HQ1.out.takeN j hj hds).mono ?_; go_loud (rintro e w5 ⟨rfl, HQ5⟩))
                            | (refine wpList_store_rowH rfl 53 _ _ rfl w5.heap.size #[.int .u32 0, .int .u32 0, .int .i64 0, .int .i64 0, .slice none 0 0] rfl rfl 53 _ (heap_new w5 _) (by kernel_rfl) rfl (by first | kernel_rfl | simp [Value.oneCell']) ?_; intro W6 HG6 HB6; have HB56 := hid (bbut (balloc w5 _) HB6.out (Nat.le_refl _)); have HQQ := hid ((HQ5.out.below HB56.out).more (k' := k + 1) (by omega)); have b1 := (HQQ.out.vcell j hj).1; rw [hvj] at b1))
                          all_goals
                            skip
                            go_roundw
                            case rel => exact ⟨k + 1, _, _, _, _, by omega, by first | rfl | (congr 1; omega), HQQ⟩
                            case measure => simp only [intOf3]; omega
                      | cons d r =>
                        have hvr : ((r.length : Int) + 1) > 0 := by omega
                        generalize hrl : r.length = rl at *
                        have HTS := hid (fun (W : World) (h : QS w W c m D S p zt gw gd V X k) => h.takeS j hj d r hds)
                        rw [hrl] at HTS
                        clear hrl
                        obtain ⟨xsi, xdi, xs, xd, xz⟩ := d
                        simp only at HTS
                        generalize strOfNums xz = SX at *
                        generalize xz.length = xzl at *
                        as_aux_lemma =>
                          go_wp2_with (first
                            | (refine wpList_store_rowH rfl 55 _ _ rfl wr.heap.size #[.int .i64 5, .int .i64 (100 + (j : Int)), .int .u32 si, .int .u32 di, .int .i64 s0, .int .i64 d0, .slice pa pl pc] rfl rfl 55 _ (heap_new wr _) (by kernel_rfl) rfl (by first | kernel_rfl | simp [Value.oneCell']) ?_; intro W1 HG1 HB1; have fC := fun j => cell_of_heap HG1.out j; have HQ1 := hid (HQ.out.below (bbut (balloc wr _) HB1.out (Nat.le_refl _))))
                            | (go_at_call 21; refine (HTS.out W1 HQ1.out).mono ?_; go_loud (rintro e w5 ⟨tva, tvc, rfl, HT5⟩))
                            | (refine wpList_store_rowH rfl 53 _ _ rfl w5.heap.size #[.int .u32 xsi, .int .u32 xdi, .int .i64 xs, .int .i64 (100 + (j : Int)), .slice tva xzl tvc] rfl rfl 53 _ (heap_new w5 _) (by kernel_rfl) rfl (by first | kernel_rfl | simp [Value.oneCell']) ?_; intro W6 HG6 HB6; have HB56 := hid (bbut (balloc w5 _) HB6.out (Nat.le_refl _)); obtain ⟨⟨g7, off7, cap7, hvj, s1, s2, HZ1, HZ2⟩, s3, s4, s5, HKP⟩ := HT5.out W6 HB56.out; have t6 := fun j => cell_of_heap HG6.out j; have t7 := fun j => cell_of_heap (HKP _ _ _ _ HG1.out (by decide) (by decide) (by decide)) j; rw [hvj] at s3; have HZ1 := hid HZ1; have HZ2 := hid HZ2; clear HKP HT5))
                          have q1 : (1 : Int) ≤ (rl : Int) + 1 := by omega
                          have q2 : ((rl : Int) + 1) ≤ (cap7 : Int) := by omega
                          have q3 : (0 : Int) < (rl : Int) + 1 := by omega
                          have q4 : (1 : Int) ≤ (cap7 : Int) := by omega
                          go_quiet (fail)
                          by_cases hcap : cap7 = 1
                          · have HZQ := hid (HZ1.out hcap)
                            have hrl0 : rl = 0 := by omega
                            subst hcap hrl0
                            clear HZ1 HZ2
                            go_wp2_with fail
                            skip
                            go_roundw
                            case rel =>
                              obtain ⟨S5, V5, X5, h5⟩ := HZQ.out _
                              exact ⟨k + 1, S5, zt, V5, X5, by omega, by first | rfl | (congr 1; omega), h5⟩
                            case measure => simp only [intOf3]; omega
                          · have HZQ := hid (HZ2.out hcap)
                            have hcap' : ¬ (cap7 : Int) = 1 := by omega
                            clear HZ1 HZ2
                            go_wp2_with fail
                            skip
                            go_roundw
                            case rel =>
                              obtain ⟨S5, V5, X5, h5⟩ := HZQ.out _
                              exact ⟨k + 1, S5, zt, V5, X5, by omega, by first | rfl | (congr 1; omega), h5⟩
                            case measure => simp only [intOf3]; omega
                    · have HIN := hid hin
                      have hA := HA.out hin
                      clear hin HA
                      by_cases hA0 : 0 ≤ wrap64 (N - 100)
                      · have hA3 : ¬ wrap64 (N - 100) < 3 := by omega
                        as_aux_lemma =>
                          go_wp2_with (first
                            | (refine wpList_store_rowH rfl 55 _ _ rfl wr.heap.size #[.int .i64 5, .int .i64 N, .int .u32 si, .int .u32 di, .int .i64 s0, .int .i64 d0, .slice pa pl pc] rfl rfl 55 _ (heap_new wr _) (by kernel_rfl) rfl (by first | kernel_rfl | simp [Value.oneCell']) ?_; intro W1 HG1 HB1; have fC := fun j => cell_of_heap HG1.out j; have HQ1 := hid (HQ.out.below (bbut (balloc wr _) HB1.out (Nat.le_refl _))))
                            | (go_at_call 21; refine (HQ1.out.takeO N HN.out HIN.out).mono ?_; go_loud (rintro e w5 ⟨tsi, tdi, ts, td, tva, tvl, tvc, tb, rfl, S5, HQ5⟩))
                            | (refine wpList_store_rowH rfl 53 _ _ rfl w5.heap.size #[.int .u32 tsi, .int .u32 tdi, .int .i64 ts, .int .i64 td, .slice tva tvl tvc] rfl rfl 53 _ (heap_new w5 _) (by kernel_rfl) rfl (by first | kernel_rfl | simp [Value.oneCell']) ?_; intro W6 HG6 HB6; have HB56 := hid (bbut (balloc w5 _) HB6.out (Nat.le_refl _)); have HQQ := hid ((HQ5.out.below HB56.out).more (k' := k + 1) (by omega))))
                          all_goals
                            skip
                            go_roundw
                            case rel => exact ⟨k + 1, _, _, _, _, by omega, by first | rfl | (congr 1; omega), HQQ⟩
                            case measure => simp only [intOf3]; omega
                      · clear hA
                        as_aux_lemma =>
                          go_wp2_with (first
                            | (refine wpList_store_rowH rfl 55 _ _ rfl wr.heap.size #[.int .i64 5, .int .i64 N, .int .u32 si, .int .u32 di, .int .i64 s0, .int .i64 d0, .slice pa pl pc] rfl rfl 55 _ (heap_new wr _) (by kernel_rfl) rfl (by first | kernel_rfl | simp [Value.oneCell']) ?_; intro W1 HG1 HB1; have fC := fun j => cell_of_heap HG1.out j; have HQ1 := hid (HQ.out.below (bbut (balloc wr _) HB1.out (Nat.le_refl _))))
                            | (go_at_call 21; refine (HQ1.out.takeO N HN.out HIN.out).mono ?_; go_loud (rintro e w5 ⟨tsi, tdi, ts, td, tva, tvl, tvc, tb, rfl, S5, HQ5⟩))
                            | (refine wpList_store_rowH rfl 53 _ _ rfl w5.heap.size #[.int .u32 tsi, .int .u32 tdi, .int .i64 ts, .int .i64 td, .slice tva tvl tvc] rfl rfl 53 _ (heap_new w5 _) (by kernel_rfl) rfl (by first | kernel_rfl | simp [Value.oneCell']) ?_; intro W6 HG6 HB6; have HB56 := hid (bbut (balloc w5 _) HB6.out (Nat.le_refl _)); have HQQ := hid ((HQ5.out.below HB56.out).more (k' := k + 1) (by omega))))
                          all_goals
                            skip
                            go_roundw
                            case rel => exact ⟨k + 1, _, _, _, _, by omega, by first | rfl | (congr 1; omega), HQQ⟩
                            case measure => simp only [intOf3]; omega
                  · skip
                    as_aux_lemma =>
                      go_wp2_with (first
                        | ((refine wpList_store_rowH rfl 55 _ _ rfl wr.heap.size #[.int .i64 K, .int .i64 N, .int .u32 si, .int .u32 di, .int .i64 s0, .int .i64 d0, .slice pa pl pc] rfl rfl 55 _ (heap_new wr _) (by kernel_rfl) rfl (by first | kernel_rfl | simp [Value.oneCell']) ?_; intro W1 HG1 HB1; have fC := fun j => cell_of_heap HG1.out j; have HQ1 := hid (HQ.out.below (bbut (balloc wr _) HB1.out (Nat.le_refl _)))); have HQQ := hid (HQ1.out.more (k' := k + 1) (by omega))))
                      all_goals
                        skip
                        go_roundw
                        case rel => exact ⟨k + 1, _, _, _, _, by omega, by first | rfl | (congr 1; omega), HQQ⟩
                        case measure => simp only [intOf3]; omega
        · have hkk : k = XL := by omega
          subst hkk
          clear HOP HSZ HXL
          have HK : Hid (Calls Try.prog 9 #[.pointer (some ⟨c, 0, none⟩)] wr fun e w' => ∃ la lc, e = .returned (.slice la S.length lc) ∧ Hid (PLk wr w' la S.length lc S)) := (lt_look HQ.out.lt).mono fun e w' ⟨la, lc, a1, a2, a3⟩ => ⟨la, lc, a1, a2⟩
          have HKD : Hid (∀ w' la lc, PLk wr w' la S.length lc S → Calls Try.prog 22 #[.slice la S.length lc, .slice (some ⟨gw, 0, none⟩) 3 3, .slice (some ⟨gd, 0, none⟩) 3 3] w' fun e w2 => e = .returned (.bool true) ∧ Below w.heap.size w w2) := fun w' la lc hL => by
            have h := HQ.out.below hL.below
            refine (looked_any w' la lc 8 D S gw gd V X h.lt.aok (by have := h.lt.aok.len; omega) h.look hL.row ⟨fun i hi => ?_, fun i hi => ?_, fun i hi => ?_⟩).mono fun e w2 ⟨a1, q, a2⟩ => ⟨a1, by rw [a2]; exact bstep h.lt.bel (below_drewN _ q)⟩
            · rw [cell_of_heap h.bw]
              rcases i with _ | _ | _ | i
              · rfl
              · rfl
              · rfl
              · omega
            · rw [cell_of_heap h.bd]
              rcases i with _ | _ | _ | i
              · rfl
              · rfl
              · rfl
              · omega
            · have hr := h.rows i hi
              rcases hr with ⟨hv, hs⟩ | ⟨g, off, cap, cur, hv, _⟩
              · refine ⟨none, 0, ?_⟩
                have : (X i).ds.length = 0 := by rw [← strs_len, hs]; rfl
                rw [hv, this]
              · exact ⟨_, _, by rw [hv, strs_len]⟩
          clear hkX HQ
          generalize S.length = SL at *
          as_aux_lemma =>
            go_wp2_with (first
              | (go_at_call 9; refine HK.out.mono ?_; rintro e w5 ⟨la, lc, rfl, HLK⟩)
              | (go_at_call 22; refine (HKD.out w5 la lc HLK.out).mono ?_; rintro e w6 ⟨rfl, hb6⟩))
            go_ret
            exact ⟨rfl, hb6⟩
end Go.Proofs.Ytkgjlfbnjccckaa
