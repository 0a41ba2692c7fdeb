/-
  Lease: read: what an offer or an ack says of a lease. Written by mklzread.py.
-/
import Derived.Test.YtgcpoanjjgbfjaaLzJh
namespace Go.Proofs.Ytgcpoanjjgbfjaa
open Go.RowKit
set_option linter.all false

theorem wpList_load_row_g {P : Program} {ops : Array Oper} {rest : List Oper} {o : Oper} {a : Act} {w : World} {Q : Exit → Act → World → Prop} (hw : Region.wanted o (yielded ops a.tmps) = true) (ty : TypeId) (x : Operand) (ho : o.op = .load ty x)
    (g : Nat) (hx : a.eval x = .pointer (some ⟨g, 0, none⟩)) (t : TypeId) (cs : Array Value) (fr : Nat × Nat) (d : TypeDesc) (hg : w.heap[g]? = some (.cells cs t fr))
    (hu : P.underlying ty = some d) (hd : (match d with | .struct _ | .array _ _ => true | _ => false) = true) (hi : (P.info? ty).map (·.size) = some cs.size)
    (h : wpList P ops Q rest (a.put o.dst (.agg cs)) w) : wpList P ops Q (o :: rest) a w :=
  wpList_step fun _ hK => by rw [if_pos hw]; exact wp_load_row ty x ho g hx t cs fr d hg hu hd hi (hK _ _ h)
theorem routerG_bd {w : World} {a : Option Addr} {os : List OP} (h : OV w a os) : U32 (routerG (absO os)) := by
  have hbd := datG_bd h 3
  unfold routerG U32 getAns
  rw [if_neg (by omega)]
  split
  · simp
  · have := getTo_bd (datG (absO os) 3) (getD_mem_bd hbd.1) 0 4
    show 0 ≤ getTo _ 0 4 ∧ getTo _ 0 4 ≤ _
    omega
theorem maskG_bd {w : World} {a : Option Addr} {os : List OP} (h : OV w a os) : U32 (maskG (absO os)) := by
  have := numG_bd h 1
  unfold maskG
  split
  · exact this
  · simp [U32]
set_option maxRecDepth 20000 in
set_option maxHeartbeats 2000000 in
theorem read_any (m : Bp) (a : Option Addr) (c : Nat) (os : List OP) (w : World) (h : OV w a os) (hm : m.ok) :
    Calls Try.prog 33 #[.agg (m.cells (.slice a os.length c))] w fun e w' => e = .returned (.tuple #[((readF m (absO os)).getD Ls.zero).val, .bool (readF m (absO os)).isSome]) ∧ Hid (Below w.heap.size w w') := by
  have hsv := numG_bd h 54
  have hmk := maskG_bd h
  have hro := routerG_bd h
  have HNU : Hid (∀ W, Below w.heap.size w W → Calls Try.prog 38 #[.slice a os.length c, .int .i64 54] W fun e w' => e = .returned (.tuple #[.int .u32 (numG (absO os) 54), .bool (okG (absO os) 54)]) ∧ Hid (Below W.heap.size W w')) := fun W hW => num_c a c os 54 W (h.below hW)
  have HMA : Hid (∀ W, Below w.heap.size w W → Calls Try.prog 49 #[.slice a os.length c] W fun e w' => e = .returned (.int .u32 (maskG (absO os))) ∧ Hid (Below W.heap.size W w')) := fun W hW => maskOf_any a c os W (h.below hW)
  have HSE : Hid (∀ W, Below w.heap.size w W → Calls Try.prog 51 #[.agg (m.cells (.slice a os.length c))] W fun e w' => e = .returned (.int .u32 (numG (absO os) 51)) ∧ Hid (Below W.heap.size W w')) := fun W hW => seconds_any m a c os W (h.below hW)
  have HCH : Hid (∀ W r, U32 r → Calls Try.prog 52 #[.int .u32 m.yi, .int .u32 (maskG (absO os)), .int .u32 r] W fun e w' => e = .returned (.bool (canB m.yi (maskG (absO os)) r)) ∧ Hid (Below W.heap.size W w')) := fun W r hr => canHave_any m.yi (maskG (absO os)) r W hm.yi hmk hr
  have HFI : Hid (∀ W, Below w.heap.size w W → Calls Try.prog 53 #[.agg (m.cells (.slice a os.length c))] W fun e w' => e = .returned (.string (fileG m (absO os))) ∧ Hid (Below W.heap.size W w')) := fun W hW => fileOf_any m a c os W (h.below hW)
  have HRO : Hid (∀ W, Below w.heap.size w W → Calls Try.prog 54 #[.slice a os.length c] W fun e w' => e = .returned (.int .u32 (routerG (absO os))) ∧ Hid (Below W.heap.size W w')) := fun W hW => routerOf_any a c os W (h.below hW)
  have HIH : Hid (∀ W x, U32 x → Calls Try.prog 50 #[.int .u32 x] W fun e w' => e = .returned (.bool (hostB x)) ∧ w' = W) := fun W x hx => isHost_any x W hx.1 hx.2
  have HRD : Hid (readF m (absO os) = if hostB (numG (absO os) 54) = true ∧ ¬ numG (absO os) 51 = 0 ∧ canB m.yi (maskG (absO os)) 0 = true then
    some ⟨m.yi, maskG (absO os), if canB m.yi (maskG (absO os)) (routerG (absO os)) = true then routerG (absO os) else 0, numG (absO os) 54, if hostB m.si = true then m.si else numG (absO os) 54, fileG m (absO os), 0, 0, 0, 0⟩
  else none) := rfl
  have HSV := hid hsv
  have HRB := hid hro
  have HSI := hid hm.si
  clear h hm hsv hmk hro
  unfold Bp.cells at *
  generalize readF m (absO os) = RR at *
  generalize numG (absO os) 54 = sv at *
  generalize okG (absO os) 54 = sk at *
  generalize numG (absO os) 51 = N at *
  generalize maskG (absO os) = mk at *
  generalize routerG (absO os) = ro at *
  generalize fileG m (absO os) = fi at *
  generalize os.length = n at *
  obtain ⟨wa, hwa⟩ : ∃ W, W = w.alloc (.cells #[.int .i64 m.op, .int .i64 m.hops, .int .u32 m.xid, .int .i64 m.secs, .bool m.all, .int .u32 m.ci, .int .u32 m.yi, .int .u32 m.si, .int .u32 m.gi, .int .u8 m.mac.b0, .int .u8 m.mac.b1, .int .u8 m.mac.b2, .int .u8 m.mac.b3, .int .u8 m.mac.b4, .int .u8 m.mac.b5, .string m.sname, .string m.file, .slice a n c] 41) := ⟨_, rfl⟩
  obtain ⟨mb, hmb⟩ : ∃ g, g = w.heap.size := ⟨_, rfl⟩
  obtain ⟨wt, hwt⟩ : ∃ W, W = wa.alloc (.cells #[.int .u32 0, .int .u32 0, .int .u32 0, .int .u32 0, .int .u32 0, .string noText, .int .i64 0, .int .i64 0, .int .i64 0, .int .i64 0] 44) := ⟨_, rfl⟩
  obtain ⟨gr, hgr⟩ : ∃ g, g = mb + 1 := ⟨_, rfl⟩
  have sa : wa.heap.size = gr := by rw [hwa, hgr, hmb]; simp
  have ba : Below w.heap.size w wa := by rw [hwa]; exact bpush (Below.refl _ _) _
  have bt : Below wa.heap.size wa wt := by rw [hwt]; exact bpush (Below.refl _ _) _
  have HBT := hid (bstep ba bt)
  have HMB : Hid (wt.heap[mb]? = some (.cells #[.int .i64 m.op, .int .i64 m.hops, .int .u32 m.xid, .int .i64 m.secs, .bool m.all, .int .u32 m.ci, .int .u32 m.yi, .int .u32 m.si, .int .u32 m.gi, .int .u8 m.mac.b0, .int .u8 m.mac.b1, .int .u8 m.mac.b2, .int .u8 m.mac.b3, .int .u8 m.mac.b4, .int .u8 m.mac.b5, .string m.sname, .string m.file, .slice a n c] 41 (0, 0))) := kept (by rw [hwa, hmb]; exact heap_new _ _) bt
  have HGR : Hid (wt.heap[gr]? = some (.cells #[.int .u32 0, .int .u32 0, .int .u32 0, .int .u32 0, .int .u32 0, .string noText, .int .i64 0, .int .i64 0, .int .i64 0, .int .i64 0] 44 (0, 0))) := by rw [hwt, ← sa]; exact heap_new _ _
  have HGL : Hid (w.heap.size ≤ gr ∧ w.heap.size ≤ mb) := hid ⟨by omega, by omega⟩
  have HK : Hid (∀ W, Below wt.heap.size wt W → W.cell? ⟨mb, 17, none⟩ = some (.slice a n c) ∧ W.cell? ⟨mb, 6, none⟩ = some (.int .u32 m.yi)) := fun W hW => ⟨(cell_of_heap (kept HMB.out hW) 17).trans rfl, (cell_of_heap (kept HMB.out hW) 6).trans rfl⟩
  obtain ⟨c17, c6⟩ := HK.out wt (Below.refl _ _)
  clear ba bt
  have HUP : Hid (∀ W, Below wt.heap.size wt W → Below w.heap.size w W) := fun W h1 => bstep HBT.out h1
  unfold Ls.val Ls.cells
  rcases Bool.eq_false_or_eq_true (hostB sv) with b1 | b1
  rotate_left
  · have hR : RR = none := by rw [HRD.out, if_neg (by simp [b1])]
    clear HRD
    go_enter Try.func33, Try.ntmps33
    go_upto_region 1 with (first
      | (refine wpList_alloc_to rfl 44 rfl #[.int .u32 0, .int .u32 0, .int .u32 0, .int .u32 0, .int .u32 0, .string noText, .int .i64 0, .int .i64 0, .int .i64 0, .int .i64 0] zeroLs ?_)
      | fail)
    rw [← hwa, ← hmb, ← hwt]
    first | rw [sa] | rw [← hgr]
    try simp only [Act.put, List.setIfInBounds_toArray, List.set_cons_zero, List.set_cons_succ]
    clear hwa hmb hwt hgr sa
    go_wp2_with (first
      | (go_at_call 38; refine (HNU.out _ (HUP.out _ (Below.refl _ _))).mono ?_; rintro e w1 ⟨rfl, H1⟩; obtain ⟨c17b, c6b⟩ := HK.out _ H1.out; clear c17 c6)
      | (go_at_call 49; refine (HMA.out _ (HUP.out _ H1.out)).mono ?_; rintro e w2 ⟨rfl, H2⟩; have B2 := hid (bstep H1.out H2.out); have HM2 := hid (kept HMB.out B2.out); obtain ⟨c17, c6⟩ := HK.out _ B2.out; clear c17b c6b)
      | (go_at_call 50; refine (HIH.out _ _ HSV.out).mono ?_; rintro e w3 ⟨rfl, hw⟩; subst w3; rw [b1])
      | (refine wpList_load_row_g (by rfl) 41 _ rfl mb rfl 41 #[.int .i64 m.op, .int .i64 m.hops, .int .u32 m.xid, .int .i64 m.secs, .bool m.all, .int .u32 m.ci, .int .u32 m.yi, .int .u32 m.si, .int .u32 m.gi, .int .u8 m.mac.b0, .int .u8 m.mac.b1, .int .u8 m.mac.b2, .int .u8 m.mac.b3, .int .u8 m.mac.b4, .int .u8 m.mac.b5, .string m.sname, .string m.file, .slice a n c] (0, 0) _ (by exact HM2.out) Try.underlying41 rfl sizeBp ?_)
      | (go_at_call 51; refine (HSE.out _ (HUP.out _ B2.out)).mono ?_; rintro e w4 ⟨rfl, H4⟩; have B4 := hid (bstep B2.out H4.out); obtain ⟨c17d, c6d⟩ := HK.out _ B4.out; clear c17 c6)
      | (go_at_call 52; refine (HCH.out _ 0 (by simp [U32])).mono ?_; rintro e w5 ⟨rfl, H5⟩; rw [b3]; have B5 := hid (bstep B4.out H5.out); obtain ⟨c17e, c6e⟩ := HK.out _ B5.out; clear c17d c6d)
      | (refine wpList_store_row rfl 44 _ _ rfl gr #[.int .u32 0, .int .u32 0, .int .u32 0, .int .u32 0, .int .u32 0, .string noText, .int .i64 0, .int .i64 0, .int .i64 0, .int .i64 0] rfl rfl 44 _ (kept HGR.out B2.out) infoLs rfl (by simp [Value.oneCell']) ?_)
      | fail)
    rw [hR]
    refine bodyPost_ret (v := .tuple #[.agg #[.int .u32 0, .int .u32 0, .int .u32 0, .int .u32 0, .int .u32 0, .string noText, .int .i64 0, .int .i64 0, .int .i64 0, .int .i64 0], .bool false]) ?_ (by rfl) ⟨rfl, ?_⟩
    · exact results_row2 Try.results33 _ _ gr 44 _ (0, 0) _ _ rfl rfl (setRow_heap _ _ _ _ _ _ (kept HGR.out B2.out)) Try.underlying44 rfl infoLs
    · exact bbut (HUP.out _ B2.out) (But.setRow _ _ _) HGL.out.1
  by_cases hN : N = 0
  · have hR : RR = none := by rw [HRD.out, if_neg (by simp [hN])]
    subst hN
    clear HRD
    go_enter Try.func33, Try.ntmps33
    go_upto_region 1 with (first
      | (refine wpList_alloc_to rfl 44 rfl #[.int .u32 0, .int .u32 0, .int .u32 0, .int .u32 0, .int .u32 0, .string noText, .int .i64 0, .int .i64 0, .int .i64 0, .int .i64 0] zeroLs ?_)
      | fail)
    rw [← hwa, ← hmb, ← hwt]
    first | rw [sa] | rw [← hgr]
    try simp only [Act.put, List.setIfInBounds_toArray, List.set_cons_zero, List.set_cons_succ]
    clear hwa hmb hwt hgr sa
    go_wp2_with (first
      | (go_at_call 38; refine (HNU.out _ (HUP.out _ (Below.refl _ _))).mono ?_; rintro e w1 ⟨rfl, H1⟩; obtain ⟨c17b, c6b⟩ := HK.out _ H1.out; clear c17 c6)
      | (go_at_call 49; refine (HMA.out _ (HUP.out _ H1.out)).mono ?_; rintro e w2 ⟨rfl, H2⟩; have B2 := hid (bstep H1.out H2.out); have HM2 := hid (kept HMB.out B2.out); obtain ⟨c17, c6⟩ := HK.out _ B2.out; clear c17b c6b)
      | (go_at_call 50; refine (HIH.out _ _ HSV.out).mono ?_; rintro e w3 ⟨rfl, hw⟩; subst w3; rw [b1])
      | (refine wpList_load_row_g (by rfl) 41 _ rfl mb rfl 41 #[.int .i64 m.op, .int .i64 m.hops, .int .u32 m.xid, .int .i64 m.secs, .bool m.all, .int .u32 m.ci, .int .u32 m.yi, .int .u32 m.si, .int .u32 m.gi, .int .u8 m.mac.b0, .int .u8 m.mac.b1, .int .u8 m.mac.b2, .int .u8 m.mac.b3, .int .u8 m.mac.b4, .int .u8 m.mac.b5, .string m.sname, .string m.file, .slice a n c] (0, 0) _ (by exact HM2.out) Try.underlying41 rfl sizeBp ?_)
      | (go_at_call 51; refine (HSE.out _ (HUP.out _ B2.out)).mono ?_; rintro e w4 ⟨rfl, H4⟩; have B4 := hid (bstep B2.out H4.out); obtain ⟨c17d, c6d⟩ := HK.out _ B4.out; clear c17 c6)
      | (go_at_call 52; refine (HCH.out _ 0 (by simp [U32])).mono ?_; rintro e w5 ⟨rfl, H5⟩; rw [b3]; have B5 := hid (bstep B4.out H5.out); obtain ⟨c17e, c6e⟩ := HK.out _ B5.out; clear c17d c6d)
      | (refine wpList_store_row rfl 44 _ _ rfl gr #[.int .u32 0, .int .u32 0, .int .u32 0, .int .u32 0, .int .u32 0, .string noText, .int .i64 0, .int .i64 0, .int .i64 0, .int .i64 0] rfl rfl 44 _ (kept HGR.out B4.out) infoLs rfl (by simp [Value.oneCell']) ?_)
      | fail)
    rw [hR]
    refine bodyPost_ret (v := .tuple #[.agg #[.int .u32 0, .int .u32 0, .int .u32 0, .int .u32 0, .int .u32 0, .string noText, .int .i64 0, .int .i64 0, .int .i64 0, .int .i64 0], .bool false]) ?_ (by rfl) ⟨rfl, ?_⟩
    · exact results_row2 Try.results33 _ _ gr 44 _ (0, 0) _ _ rfl rfl (setRow_heap _ _ _ _ _ _ (kept HGR.out B4.out)) Try.underlying44 rfl infoLs
    · exact bbut (HUP.out _ B4.out) (But.setRow _ _ _) HGL.out.1
  have hN' : (N == 0) = false := by simpa using hN
  rcases Bool.eq_false_or_eq_true (canB m.yi mk 0) with b3 | b3
  rotate_left
  · have hR : RR = none := by rw [HRD.out, if_neg (by simp [b3])]
    clear HRD hN
    go_enter Try.func33, Try.ntmps33
    go_upto_region 1 with (first
      | (refine wpList_alloc_to rfl 44 rfl #[.int .u32 0, .int .u32 0, .int .u32 0, .int .u32 0, .int .u32 0, .string noText, .int .i64 0, .int .i64 0, .int .i64 0, .int .i64 0] zeroLs ?_)
      | fail)
    rw [← hwa, ← hmb, ← hwt]
    first | rw [sa] | rw [← hgr]
    try simp only [Act.put, List.setIfInBounds_toArray, List.set_cons_zero, List.set_cons_succ]
    clear hwa hmb hwt hgr sa
    go_wp2_with (first
      | (go_at_call 38; refine (HNU.out _ (HUP.out _ (Below.refl _ _))).mono ?_; rintro e w1 ⟨rfl, H1⟩; obtain ⟨c17b, c6b⟩ := HK.out _ H1.out; clear c17 c6)
      | (go_at_call 49; refine (HMA.out _ (HUP.out _ H1.out)).mono ?_; rintro e w2 ⟨rfl, H2⟩; have B2 := hid (bstep H1.out H2.out); have HM2 := hid (kept HMB.out B2.out); obtain ⟨c17, c6⟩ := HK.out _ B2.out; clear c17b c6b)
      | (go_at_call 50; refine (HIH.out _ _ HSV.out).mono ?_; rintro e w3 ⟨rfl, hw⟩; subst w3; rw [b1])
      | (refine wpList_load_row_g (by rfl) 41 _ rfl mb rfl 41 #[.int .i64 m.op, .int .i64 m.hops, .int .u32 m.xid, .int .i64 m.secs, .bool m.all, .int .u32 m.ci, .int .u32 m.yi, .int .u32 m.si, .int .u32 m.gi, .int .u8 m.mac.b0, .int .u8 m.mac.b1, .int .u8 m.mac.b2, .int .u8 m.mac.b3, .int .u8 m.mac.b4, .int .u8 m.mac.b5, .string m.sname, .string m.file, .slice a n c] (0, 0) _ (by exact HM2.out) Try.underlying41 rfl sizeBp ?_)
      | (go_at_call 51; refine (HSE.out _ (HUP.out _ B2.out)).mono ?_; rintro e w4 ⟨rfl, H4⟩; have B4 := hid (bstep B2.out H4.out); obtain ⟨c17d, c6d⟩ := HK.out _ B4.out; clear c17 c6)
      | (go_at_call 52; refine (HCH.out _ 0 (by simp [U32])).mono ?_; rintro e w5 ⟨rfl, H5⟩; rw [b3]; have B5 := hid (bstep B4.out H5.out); obtain ⟨c17e, c6e⟩ := HK.out _ B5.out; clear c17d c6d)
      | (refine wpList_store_row rfl 44 _ _ rfl gr #[.int .u32 0, .int .u32 0, .int .u32 0, .int .u32 0, .int .u32 0, .string noText, .int .i64 0, .int .i64 0, .int .i64 0, .int .i64 0] rfl rfl 44 _ (kept HGR.out B5.out) infoLs rfl (by simp [Value.oneCell']) ?_)
      | fail)
    rw [hR]
    refine bodyPost_ret (v := .tuple #[.agg #[.int .u32 0, .int .u32 0, .int .u32 0, .int .u32 0, .int .u32 0, .string noText, .int .i64 0, .int .i64 0, .int .i64 0, .int .i64 0], .bool false]) ?_ (by rfl) ⟨rfl, ?_⟩
    · exact results_row2 Try.results33 _ _ gr 44 _ (0, 0) _ _ rfl rfl (setRow_heap _ _ _ _ _ _ (kept HGR.out B5.out)) Try.underlying44 rfl infoLs
    · exact bbut (HUP.out _ B5.out) (But.setRow _ _ _) HGL.out.1
  have hR : RR = some ⟨m.yi, mk, if canB m.yi mk ro = true then ro else 0, sv, if hostB m.si = true then m.si else sv, fi, 0, 0, 0, 0⟩ := by rw [HRD.out, if_pos ⟨b1, hN, b3⟩]
  have HR := hid hR
  clear HRD hN hR
  go_enter Try.func33, Try.ntmps33
  go_upto_region 1 with (first
    | (refine wpList_alloc_to rfl 44 rfl #[.int .u32 0, .int .u32 0, .int .u32 0, .int .u32 0, .int .u32 0, .string noText, .int .i64 0, .int .i64 0, .int .i64 0, .int .i64 0] zeroLs ?_)
    | fail)
  rw [← hwa, ← hmb, ← hwt]
  first | rw [sa] | rw [← hgr]
  try simp only [Act.put, List.setIfInBounds_toArray, List.set_cons_zero, List.set_cons_succ]
  clear hwa hmb hwt hgr sa
  go_upto_region 5 with (first
    | (go_at_call 38; refine (HNU.out _ (HUP.out _ (Below.refl _ _))).mono ?_; rintro e w1 ⟨rfl, H1⟩; obtain ⟨c17b, c6b⟩ := HK.out _ H1.out; clear c17 c6)
    | (go_at_call 49; refine (HMA.out _ (HUP.out _ H1.out)).mono ?_; rintro e w2 ⟨rfl, H2⟩; have B2 := hid (bstep H1.out H2.out); have HM2 := hid (kept HMB.out B2.out); obtain ⟨c17, c6⟩ := HK.out _ B2.out; clear c17b c6b)
    | (go_at_call 50; refine (HIH.out _ _ HSV.out).mono ?_; rintro e w3 ⟨rfl, hw⟩; subst w3; rw [b1])
    | (refine wpList_load_row_g (by rfl) 41 _ rfl mb rfl 41 #[.int .i64 m.op, .int .i64 m.hops, .int .u32 m.xid, .int .i64 m.secs, .bool m.all, .int .u32 m.ci, .int .u32 m.yi, .int .u32 m.si, .int .u32 m.gi, .int .u8 m.mac.b0, .int .u8 m.mac.b1, .int .u8 m.mac.b2, .int .u8 m.mac.b3, .int .u8 m.mac.b4, .int .u8 m.mac.b5, .string m.sname, .string m.file, .slice a n c] (0, 0) _ (by exact HM2.out) Try.underlying41 rfl sizeBp ?_)
    | (go_at_call 51; refine (HSE.out _ (HUP.out _ B2.out)).mono ?_; rintro e w4 ⟨rfl, H4⟩; have B4 := hid (bstep B2.out H4.out); obtain ⟨c17d, c6d⟩ := HK.out _ B4.out; clear c17 c6)
    | (go_at_call 52; refine (HCH.out _ 0 (by simp [U32])).mono ?_; rintro e w5 ⟨rfl, H5⟩; rw [b3]; have B5 := hid (bstep B4.out H5.out); obtain ⟨c17e, c6e⟩ := HK.out _ B5.out; clear c17d c6d)
    | fail)
  clear c17e c6e HNU HMA HSE HSV
  have HKR : Hid (∀ W, Below wt.heap.size wt W → W.cell? ⟨mb, 6, none⟩ = some (.int .u32 m.yi) ∧ W.rangeAt mb 0 [.int .i64 m.op, .int .i64 m.hops, .int .u32 m.xid, .int .i64 m.secs, .bool m.all, .int .u32 m.ci, .int .u32 m.yi, .int .u32 m.si, .int .u32 m.gi, .int .u8 m.mac.b0, .int .u8 m.mac.b1, .int .u8 m.mac.b2, .int .u8 m.mac.b3, .int .u8 m.mac.b4, .int .u8 m.mac.b5, .string m.sname, .string m.file, .slice a n c]) := fun W hW => ⟨(HK.out W hW).2, fun j v hj => by rw [Nat.zero_add, cell_of_heap (kept HMB.out hW), ← Array.getElem?_toList]; exact hj⟩
  have xx := HKR.out _ B5.out
  have hd0 : Below wt.heap.size wt w5.drew := B5.out.drew
  refine wp_region_noPanic ?_
  refine wp_region_held_drew (S := fun w' => w'.cell? ⟨mb, 6, none⟩ = some (.int .u32 m.yi) ∧ w'.rangeAt mb 0 [.int .i64 m.op, .int .i64 m.hops, .int .u32 m.xid, .int .i64 m.secs, .bool m.all, .int .u32 m.ci, .int .u32 m.yi, .int .u32 m.si, .int .u32 m.gi, .int .u8 m.mac.b0, .int .u8 m.mac.b1, .int .u8 m.mac.b2, .int .u8 m.mac.b3, .int .u8 m.mac.b4, .int .u8 m.mac.b5, .string m.sname, .string m.file, .slice a n c]) (by kernel_rfl) xx (fun hHeld => ?_)
  refine wpAnyH_take (i := 0) (oi := { dst := some 34, op := .fieldAddr 41 (.tmp 1) 6, type := _, pos := _, after := _, guard := none }) (v := .pointer (some ⟨mb, 6, none⟩)) rfl (by kernel_rfl) (by kernel_rfl) (by kernel_rfl) (fun _ _ _ h => h) (Or.inl ⟨by rfl, fun wq hSw => by (try dsimp only at hSw); go_simp⟩) (by assumption) ?_
  try simp only [Act.put, List.setIfInBounds_toArray, List.set_cons_zero, List.set_cons_succ]
  refine wpAnyH_take (i := 1) (oi := { dst := some 35, op := .load 30 (.tmp 34), type := _, pos := _, after := _, guard := none }) (v := .int .u32 m.yi) rfl (by kernel_rfl) (by kernel_rfl) (by kernel_rfl) (fun _ _ _ h => h) (Or.inl ⟨by rfl, fun wq hSw => by (try dsimp only at hSw); go_simp⟩) (by assumption) ?_
  try simp only [Act.put, List.setIfInBounds_toArray, List.set_cons_zero, List.set_cons_succ]
  refine wpAnyH_take (i := 2) (oi := { dst := some 36, op := .move (.tmp 6), type := _, pos := _, after := _, guard := none }) (v := .int .u32 mk) rfl (by kernel_rfl) (by kernel_rfl) (by kernel_rfl) (fun _ _ _ h => h) (Or.inl ⟨by rfl, fun wq hSw => by (try dsimp only at hSw); go_simp⟩) (by assumption) ?_
  try simp only [Act.put, List.setIfInBounds_toArray, List.set_cons_zero, List.set_cons_succ]
  refine wpAnyH_take (i := 3) (oi := { dst := some 37, op := .move (.tmp 4), type := _, pos := _, after := _, guard := none }) (v := .int .u32 sv) rfl (by kernel_rfl) (by kernel_rfl) (by kernel_rfl) (fun _ _ _ h => h) (Or.inl ⟨by rfl, fun wq hSw => by (try dsimp only at hSw); go_simp⟩) (by assumption) ?_
  try simp only [Act.put, List.setIfInBounds_toArray, List.set_cons_zero, List.set_cons_succ]
  refine wpAnyH_take (i := 4) (oi := { dst := some 38, op := .move (.tmp 4), type := _, pos := _, after := _, guard := none }) (v := .int .u32 sv) rfl (by kernel_rfl) (by kernel_rfl) (by kernel_rfl) (fun _ _ _ h => h) (Or.inl ⟨by rfl, fun wq hSw => by (try dsimp only at hSw); go_simp⟩) (by assumption) ?_
  try simp only [Act.put, List.setIfInBounds_toArray, List.set_cons_zero, List.set_cons_succ]
  refine wpAnyH_take (i := 5) (oi := { dst := some 39, op := .load 41 (.tmp 1), type := _, pos := _, after := _, guard := none }) (v := .agg #[.int .i64 m.op, .int .i64 m.hops, .int .u32 m.xid, .int .i64 m.secs, .bool m.all, .int .u32 m.ci, .int .u32 m.yi, .int .u32 m.si, .int .u32 m.gi, .int .u8 m.mac.b0, .int .u8 m.mac.b1, .int .u8 m.mac.b2, .int .u8 m.mac.b3, .int .u8 m.mac.b4, .int .u8 m.mac.b5, .string m.sname, .string m.file, .slice a n c]) rfl (by kernel_rfl) (by kernel_rfl) (by kernel_rfl) (fun _ _ _ h => h) (yieldsIf_load_mid (by rfl) 41 (.tmp 1) rfl mb 0 rfl [.int .i64 m.op, .int .i64 m.hops, .int .u32 m.xid, .int .i64 m.secs, .bool m.all, .int .u32 m.ci, .int .u32 m.yi, .int .u32 m.si, .int .u32 m.gi, .int .u8 m.mac.b0, .int .u8 m.mac.b1, .int .u8 m.mac.b2, .int .u8 m.mac.b3, .int .u8 m.mac.b4, .int .u8 m.mac.b5, .string m.sname, .string m.file, .slice a n c] _ (fun w hS => hS.2) Try.underlying41 rfl sizeBp) (by assumption) ?_
  try simp only [Act.put, List.setIfInBounds_toArray, List.set_cons_zero, List.set_cons_succ]
  refine wpAnyH_ready (rs := [6, 8]) (by kernel_rfl) (by simp) ?_
  refine AllReadyH.cons (o := { dst := some 40, op := .call { callee := .value (.func 53), args := #[.tmp 39], argTypes := #[41] }, type := _, pos := _, after := _, guard := none }) rfl (fun K hK => ?_) (AllReadyH.cons (o := { dst := some 7, op := .alloc 44, type := _, pos := _, after := _, guard := none }) rfl (fun K hK => ?_) AllReadyH.nil)
  · go_simp
    refine (HFI.out _ (HUP.out _ hd0)).mono ?_
    rintro e w6 ⟨rfl, H6⟩
    have B6 := hid (bstep hd0 H6.out)
    refine hK _ _ (HKR.out _ B6.out) (fun hHeld => ?_)
    clear hK
    try simp only [Act.put, List.setIfInBounds_toArray, List.set_cons_zero, List.set_cons_succ]
    refine wpAnyH_take (i := 7) (oi := { dst := some 41, op := .build 44 #[(0, .tmp 35), (1, .tmp 36), (3, .tmp 37), (4, .tmp 38), (5, .tmp 40)], type := _, pos := _, after := _, guard := none }) (v := .agg #[.int .u32 m.yi, .int .u32 mk, .int .u32 0, .int .u32 sv, .int .u32 sv, .string fi, .int .i64 0, .int .i64 0, .int .i64 0, .int .i64 0]) rfl (by kernel_rfl) (by kernel_rfl) (by kernel_rfl) (fun _ _ _ h => h) (Or.inl ⟨by rfl, fun wq hSw => by (try dsimp only at hSw); (go_simp; try rfl)⟩) (by assumption) ?_
    try simp only [Act.put, List.setIfInBounds_toArray, List.set_cons_zero, List.set_cons_succ]
    refine wpAnyH_ready (rs := [8]) (by kernel_rfl) (by simp) ?_
    refine AllReadyH.cons (o := { dst := some 7, op := .alloc 44, type := _, pos := _, after := _, guard := none }) rfl (fun K hK => ?_) AllReadyH.nil
    refine step_alloc_to rfl 44 rfl #[.int .u32 0, .int .u32 0, .int .u32 0, .int .u32 0, .int .u32 0, .string noText, .int .i64 0, .int .i64 0, .int .i64 0, .int .i64 0] zeroLs ?_
    obtain ⟨w7, hw7⟩ : ∃ W, W = w6.alloc (.cells #[.int .u32 0, .int .u32 0, .int .u32 0, .int .u32 0, .int .u32 0, .string noText, .int .i64 0, .int .i64 0, .int .i64 0, .int .i64 0] 44) := ⟨_, rfl⟩
    obtain ⟨gl, hgl⟩ : ∃ g, g = w6.heap.size := ⟨_, rfl⟩
    have HX : Hid (w7.heap[gl]? = some (.cells #[.int .u32 0, .int .u32 0, .int .u32 0, .int .u32 0, .int .u32 0, .string noText, .int .i64 0, .int .i64 0, .int .i64 0, .int .i64 0] 44 (0, 0))) := by rw [hw7, hgl]; exact heap_new _ _
    have B7 : Hid (Below wt.heap.size wt w7) := by rw [hw7]; exact bpush B6.out _
    have HGX : Hid (wt.heap.size ≤ gl) := by rw [hgl]; exact B6.out.size
    rw [← hw7, ← hgl]
    clear hw7 hgl
    refine hK _ _ (HKR.out _ B7.out) (fun hHeld => ?_)
    clear hK
    try simp only [Act.put, List.setIfInBounds_toArray, List.set_cons_zero, List.set_cons_succ]
    refine wpAnyH_ready (rs := [9]) (by kernel_rfl) (by simp) ?_
    refine AllReadyH.cons (o := { dst := none, op := .store 44 (.tmp 7) (.tmp 41), type := _, pos := _, after := _, guard := none }) rfl (fun K hK => ?_) AllReadyH.nil
    refine step_store_row rfl 44 _ _ rfl gl #[.int .u32 m.yi, .int .u32 mk, .int .u32 0, .int .u32 sv, .int .u32 sv, .string fi, .int .i64 0, .int .i64 0, .int .i64 0, .int .i64 0] rfl rfl 44 _ HX.out infoLs rfl (by simp [Value.oneCell']) ?_
    intro w8 HG8 HB8
    have B8 := hid (bbut B7.out HB8.out HGX.out)
    have HTS : Hid (TimS w gl mb gr #[.int .i64 m.op, .int .i64 m.hops, .int .u32 m.xid, .int .i64 m.secs, .bool m.all, .int .u32 m.ci, .int .u32 m.yi, .int .u32 m.si, .int .u32 m.gi, .int .u8 m.mac.b0, .int .u8 m.mac.b1, .int .u8 m.mac.b2, .int .u8 m.mac.b3, .int .u8 m.mac.b4, .int .u8 m.mac.b5, .string m.sname, .string m.file, .slice a n c] #[.int .u32 m.yi, .int .u32 mk, .int .u32 0, .int .u32 sv, .int .u32 sv, .string fi, .int .i64 0, .int .i64 0, .int .i64 0, .int .i64 0] w8) := ⟨HG8.out, kept HMB.out B8.out, kept HGR.out B8.out, HUP.out _ B8.out, by have := HBT.out.size; have h2 := HGX.out; have h3 := heap_lt HGR.out; have h4 := heap_lt HMB.out; have := HGL.out; omega⟩
    refine hK _ _ (HKR.out _ B8.out) (fun hHeld => ?_)
    clear hK
    try simp only [Act.put, List.setIfInBounds_toArray, List.set_cons_zero, List.set_cons_succ]
    refine wpAnyH_done (by kernel_rfl) ?_ _
    refine NoPanic.normal ?_
    clear HG8 HB8 B8 HX B7 HGX hHeld xx
    rcases Bool.eq_false_or_eq_true (canB m.yi mk ro) with b4 | b4 <;> rcases Bool.eq_false_or_eq_true (hostB m.si) with b5 | b5
    · have cA := cell_of_heap HTS.out.m 17
      have cY := cell_of_heap HTS.out.m 6
      simp only [List.getElem?_toArray, List.getElem?_cons_zero, List.getElem?_cons_succ] at cA cY
      go_wp2_with (first
        | (go_at_call 54; refine (HRO.out _ HTS.out.bel).mono ?_; rintro e w9 ⟨rfl, H9⟩; have T9 := hid (HTS.out.below H9.out); have cY9 := (cell_of_heap T9.out.m 6).trans (show _ = some (Value.int .u32 m.yi) from rfl); clear cA cY)
        | (go_at_call 52; refine (HCH.out _ ro HRB.out).mono ?_; rintro e wz ⟨rfl, Hz⟩; rw [b4]; have Tz := hid (T9.out.below Hz.out); have cSz := (cell_of_heap Tz.out.m 7).trans (show _ = some (Value.int .u32 m.si) from rfl); have cRz := (cell_of_heap Tz.out.l 2).trans (show _ = some (Value.int .u32 0) from rfl); have fRz := frozen_of_heap Tz.out.l 2; have cNz := (cell_of_heap Tz.out.l 4).trans (show _ = some (Value.int .u32 sv) from rfl); have fNz := frozen_of_heap Tz.out.l 4; have TR := hid (Tz.out.set (L' := #[.int .u32 m.yi, .int .u32 mk, .int .u32 ro, .int .u32 sv, .int .u32 sv, .string fi, .int .i64 0, .int .i64 0, .int .i64 0, .int .i64 0]) (But.setCell gl wz 2 (.int .u32 ro)) ((heap_setCell (j := 2) Tz.out.l).trans rfl)); have cSr := (cell_of_heap TR.out.m 7).trans (show _ = some (Value.int .u32 m.si) from rfl); have cNr := (cell_of_heap TR.out.l 4).trans (show _ = some (Value.int .u32 sv) from rfl); have fNr := frozen_of_heap TR.out.l 4; have TN := hid (Tz.out.set (L' := #[.int .u32 m.yi, .int .u32 mk, .int .u32 0, .int .u32 sv, .int .u32 m.si, .string fi, .int .i64 0, .int .i64 0, .int .i64 0, .int .i64 0]) (But.setCell gl wz 4 (.int .u32 m.si)) ((heap_setCell (j := 4) Tz.out.l).trans rfl)); have TRN := hid (TR.out.set (L' := #[.int .u32 m.yi, .int .u32 mk, .int .u32 ro, .int .u32 sv, .int .u32 m.si, .string fi, .int .i64 0, .int .i64 0, .int .i64 0, .int .i64 0]) (But.setCell gl _ 4 (.int .u32 m.si)) ((heap_setCell (j := 4) TR.out.l).trans rfl)); clear cY9)
        | (go_at_call 50; refine (HIH.out _ _ HSI.out).mono ?_; rintro e wy ⟨rfl, hw⟩; subst wy; rw [b5])
        | (refine wpList_load_row rfl 44 _ rfl gl rfl 44 #[.int .u32 m.yi, .int .u32 mk, .int .u32 ro, .int .u32 sv, .int .u32 m.si, .string fi, .int .i64 0, .int .i64 0, .int .i64 0, .int .i64 0] (0, 0) _ (by exact TRN.out.l) Try.underlying44 rfl infoLs ?_)
        | (refine wpList_store_row rfl 44 _ _ rfl gr #[.int .u32 m.yi, .int .u32 mk, .int .u32 ro, .int .u32 sv, .int .u32 m.si, .string fi, .int .i64 0, .int .i64 0, .int .i64 0, .int .i64 0] rfl rfl 44 _ TRN.out.r infoLs rfl (by simp [Value.oneCell']) ?_)
        | fail)
      rw [HR.out]
      simp only [b4, b5, if_true, if_false, Bool.false_eq_true]
      refine bodyPost_ret (v := .tuple #[.agg #[.int .u32 m.yi, .int .u32 mk, .int .u32 ro, .int .u32 sv, .int .u32 m.si, .string fi, .int .i64 0, .int .i64 0, .int .i64 0, .int .i64 0], .bool true]) ?_ (by rfl) ⟨rfl, ?_⟩
      · exact results_row2 Try.results33 _ _ gr 44 _ (0, 0) _ _ rfl rfl (setRow_heap _ _ _ _ _ _ TRN.out.r) Try.underlying44 rfl infoLs
      · exact bbut TRN.out.bel (But.setRow _ _ _) HGL.out.1
    · have cA := cell_of_heap HTS.out.m 17
      have cY := cell_of_heap HTS.out.m 6
      simp only [List.getElem?_toArray, List.getElem?_cons_zero, List.getElem?_cons_succ] at cA cY
      go_wp2_with (first
        | (go_at_call 54; refine (HRO.out _ HTS.out.bel).mono ?_; rintro e w9 ⟨rfl, H9⟩; have T9 := hid (HTS.out.below H9.out); have cY9 := (cell_of_heap T9.out.m 6).trans (show _ = some (Value.int .u32 m.yi) from rfl); clear cA cY)
        | (go_at_call 52; refine (HCH.out _ ro HRB.out).mono ?_; rintro e wz ⟨rfl, Hz⟩; rw [b4]; have Tz := hid (T9.out.below Hz.out); have cSz := (cell_of_heap Tz.out.m 7).trans (show _ = some (Value.int .u32 m.si) from rfl); have cRz := (cell_of_heap Tz.out.l 2).trans (show _ = some (Value.int .u32 0) from rfl); have fRz := frozen_of_heap Tz.out.l 2; have cNz := (cell_of_heap Tz.out.l 4).trans (show _ = some (Value.int .u32 sv) from rfl); have fNz := frozen_of_heap Tz.out.l 4; have TR := hid (Tz.out.set (L' := #[.int .u32 m.yi, .int .u32 mk, .int .u32 ro, .int .u32 sv, .int .u32 sv, .string fi, .int .i64 0, .int .i64 0, .int .i64 0, .int .i64 0]) (But.setCell gl wz 2 (.int .u32 ro)) ((heap_setCell (j := 2) Tz.out.l).trans rfl)); have cSr := (cell_of_heap TR.out.m 7).trans (show _ = some (Value.int .u32 m.si) from rfl); have cNr := (cell_of_heap TR.out.l 4).trans (show _ = some (Value.int .u32 sv) from rfl); have fNr := frozen_of_heap TR.out.l 4; have TN := hid (Tz.out.set (L' := #[.int .u32 m.yi, .int .u32 mk, .int .u32 0, .int .u32 sv, .int .u32 m.si, .string fi, .int .i64 0, .int .i64 0, .int .i64 0, .int .i64 0]) (But.setCell gl wz 4 (.int .u32 m.si)) ((heap_setCell (j := 4) Tz.out.l).trans rfl)); have TRN := hid (TR.out.set (L' := #[.int .u32 m.yi, .int .u32 mk, .int .u32 ro, .int .u32 sv, .int .u32 m.si, .string fi, .int .i64 0, .int .i64 0, .int .i64 0, .int .i64 0]) (But.setCell gl _ 4 (.int .u32 m.si)) ((heap_setCell (j := 4) TR.out.l).trans rfl)); clear cY9)
        | (go_at_call 50; refine (HIH.out _ _ HSI.out).mono ?_; rintro e wy ⟨rfl, hw⟩; subst wy; rw [b5])
        | (refine wpList_load_row rfl 44 _ rfl gl rfl 44 #[.int .u32 m.yi, .int .u32 mk, .int .u32 ro, .int .u32 sv, .int .u32 sv, .string fi, .int .i64 0, .int .i64 0, .int .i64 0, .int .i64 0] (0, 0) _ (by exact TR.out.l) Try.underlying44 rfl infoLs ?_)
        | (refine wpList_store_row rfl 44 _ _ rfl gr #[.int .u32 m.yi, .int .u32 mk, .int .u32 ro, .int .u32 sv, .int .u32 sv, .string fi, .int .i64 0, .int .i64 0, .int .i64 0, .int .i64 0] rfl rfl 44 _ TR.out.r infoLs rfl (by simp [Value.oneCell']) ?_)
        | fail)
      rw [HR.out]
      simp only [b4, b5, if_true, if_false, Bool.false_eq_true]
      refine bodyPost_ret (v := .tuple #[.agg #[.int .u32 m.yi, .int .u32 mk, .int .u32 ro, .int .u32 sv, .int .u32 sv, .string fi, .int .i64 0, .int .i64 0, .int .i64 0, .int .i64 0], .bool true]) ?_ (by rfl) ⟨rfl, ?_⟩
      · exact results_row2 Try.results33 _ _ gr 44 _ (0, 0) _ _ rfl rfl (setRow_heap _ _ _ _ _ _ TR.out.r) Try.underlying44 rfl infoLs
      · exact bbut TR.out.bel (But.setRow _ _ _) HGL.out.1
    · have cA := cell_of_heap HTS.out.m 17
      have cY := cell_of_heap HTS.out.m 6
      simp only [List.getElem?_toArray, List.getElem?_cons_zero, List.getElem?_cons_succ] at cA cY
      go_wp2_with (first
        | (go_at_call 54; refine (HRO.out _ HTS.out.bel).mono ?_; rintro e w9 ⟨rfl, H9⟩; have T9 := hid (HTS.out.below H9.out); have cY9 := (cell_of_heap T9.out.m 6).trans (show _ = some (Value.int .u32 m.yi) from rfl); clear cA cY)
        | (go_at_call 52; refine (HCH.out _ ro HRB.out).mono ?_; rintro e wz ⟨rfl, Hz⟩; rw [b4]; have Tz := hid (T9.out.below Hz.out); have cSz := (cell_of_heap Tz.out.m 7).trans (show _ = some (Value.int .u32 m.si) from rfl); have cRz := (cell_of_heap Tz.out.l 2).trans (show _ = some (Value.int .u32 0) from rfl); have fRz := frozen_of_heap Tz.out.l 2; have cNz := (cell_of_heap Tz.out.l 4).trans (show _ = some (Value.int .u32 sv) from rfl); have fNz := frozen_of_heap Tz.out.l 4; have TR := hid (Tz.out.set (L' := #[.int .u32 m.yi, .int .u32 mk, .int .u32 ro, .int .u32 sv, .int .u32 sv, .string fi, .int .i64 0, .int .i64 0, .int .i64 0, .int .i64 0]) (But.setCell gl wz 2 (.int .u32 ro)) ((heap_setCell (j := 2) Tz.out.l).trans rfl)); have cSr := (cell_of_heap TR.out.m 7).trans (show _ = some (Value.int .u32 m.si) from rfl); have cNr := (cell_of_heap TR.out.l 4).trans (show _ = some (Value.int .u32 sv) from rfl); have fNr := frozen_of_heap TR.out.l 4; have TN := hid (Tz.out.set (L' := #[.int .u32 m.yi, .int .u32 mk, .int .u32 0, .int .u32 sv, .int .u32 m.si, .string fi, .int .i64 0, .int .i64 0, .int .i64 0, .int .i64 0]) (But.setCell gl wz 4 (.int .u32 m.si)) ((heap_setCell (j := 4) Tz.out.l).trans rfl)); have TRN := hid (TR.out.set (L' := #[.int .u32 m.yi, .int .u32 mk, .int .u32 ro, .int .u32 sv, .int .u32 m.si, .string fi, .int .i64 0, .int .i64 0, .int .i64 0, .int .i64 0]) (But.setCell gl _ 4 (.int .u32 m.si)) ((heap_setCell (j := 4) TR.out.l).trans rfl)); clear cY9)
        | (go_at_call 50; refine (HIH.out _ _ HSI.out).mono ?_; rintro e wy ⟨rfl, hw⟩; subst wy; rw [b5])
        | (refine wpList_load_row rfl 44 _ rfl gl rfl 44 #[.int .u32 m.yi, .int .u32 mk, .int .u32 0, .int .u32 sv, .int .u32 m.si, .string fi, .int .i64 0, .int .i64 0, .int .i64 0, .int .i64 0] (0, 0) _ (by exact TN.out.l) Try.underlying44 rfl infoLs ?_)
        | (refine wpList_store_row rfl 44 _ _ rfl gr #[.int .u32 m.yi, .int .u32 mk, .int .u32 0, .int .u32 sv, .int .u32 m.si, .string fi, .int .i64 0, .int .i64 0, .int .i64 0, .int .i64 0] rfl rfl 44 _ TN.out.r infoLs rfl (by simp [Value.oneCell']) ?_)
        | fail)
      rw [HR.out]
      simp only [b4, b5, if_true, if_false, Bool.false_eq_true]
      refine bodyPost_ret (v := .tuple #[.agg #[.int .u32 m.yi, .int .u32 mk, .int .u32 0, .int .u32 sv, .int .u32 m.si, .string fi, .int .i64 0, .int .i64 0, .int .i64 0, .int .i64 0], .bool true]) ?_ (by rfl) ⟨rfl, ?_⟩
      · exact results_row2 Try.results33 _ _ gr 44 _ (0, 0) _ _ rfl rfl (setRow_heap _ _ _ _ _ _ TN.out.r) Try.underlying44 rfl infoLs
      · exact bbut TN.out.bel (But.setRow _ _ _) HGL.out.1
    · have cA := cell_of_heap HTS.out.m 17
      have cY := cell_of_heap HTS.out.m 6
      simp only [List.getElem?_toArray, List.getElem?_cons_zero, List.getElem?_cons_succ] at cA cY
      go_wp2_with (first
        | (go_at_call 54; refine (HRO.out _ HTS.out.bel).mono ?_; rintro e w9 ⟨rfl, H9⟩; have T9 := hid (HTS.out.below H9.out); have cY9 := (cell_of_heap T9.out.m 6).trans (show _ = some (Value.int .u32 m.yi) from rfl); clear cA cY)
        | (go_at_call 52; refine (HCH.out _ ro HRB.out).mono ?_; rintro e wz ⟨rfl, Hz⟩; rw [b4]; have Tz := hid (T9.out.below Hz.out); have cSz := (cell_of_heap Tz.out.m 7).trans (show _ = some (Value.int .u32 m.si) from rfl); have cRz := (cell_of_heap Tz.out.l 2).trans (show _ = some (Value.int .u32 0) from rfl); have fRz := frozen_of_heap Tz.out.l 2; have cNz := (cell_of_heap Tz.out.l 4).trans (show _ = some (Value.int .u32 sv) from rfl); have fNz := frozen_of_heap Tz.out.l 4; have TR := hid (Tz.out.set (L' := #[.int .u32 m.yi, .int .u32 mk, .int .u32 ro, .int .u32 sv, .int .u32 sv, .string fi, .int .i64 0, .int .i64 0, .int .i64 0, .int .i64 0]) (But.setCell gl wz 2 (.int .u32 ro)) ((heap_setCell (j := 2) Tz.out.l).trans rfl)); have cSr := (cell_of_heap TR.out.m 7).trans (show _ = some (Value.int .u32 m.si) from rfl); have cNr := (cell_of_heap TR.out.l 4).trans (show _ = some (Value.int .u32 sv) from rfl); have fNr := frozen_of_heap TR.out.l 4; have TN := hid (Tz.out.set (L' := #[.int .u32 m.yi, .int .u32 mk, .int .u32 0, .int .u32 sv, .int .u32 m.si, .string fi, .int .i64 0, .int .i64 0, .int .i64 0, .int .i64 0]) (But.setCell gl wz 4 (.int .u32 m.si)) ((heap_setCell (j := 4) Tz.out.l).trans rfl)); have TRN := hid (TR.out.set (L' := #[.int .u32 m.yi, .int .u32 mk, .int .u32 ro, .int .u32 sv, .int .u32 m.si, .string fi, .int .i64 0, .int .i64 0, .int .i64 0, .int .i64 0]) (But.setCell gl _ 4 (.int .u32 m.si)) ((heap_setCell (j := 4) TR.out.l).trans rfl)); clear cY9)
        | (go_at_call 50; refine (HIH.out _ _ HSI.out).mono ?_; rintro e wy ⟨rfl, hw⟩; subst wy; rw [b5])
        | (refine wpList_load_row rfl 44 _ rfl gl rfl 44 #[.int .u32 m.yi, .int .u32 mk, .int .u32 0, .int .u32 sv, .int .u32 sv, .string fi, .int .i64 0, .int .i64 0, .int .i64 0, .int .i64 0] (0, 0) _ (by exact Tz.out.l) Try.underlying44 rfl infoLs ?_)
        | (refine wpList_store_row rfl 44 _ _ rfl gr #[.int .u32 m.yi, .int .u32 mk, .int .u32 0, .int .u32 sv, .int .u32 sv, .string fi, .int .i64 0, .int .i64 0, .int .i64 0, .int .i64 0] rfl rfl 44 _ Tz.out.r infoLs rfl (by simp [Value.oneCell']) ?_)
        | fail)
      rw [HR.out]
      simp only [b4, b5, if_true, if_false, Bool.false_eq_true]
      refine bodyPost_ret (v := .tuple #[.agg #[.int .u32 m.yi, .int .u32 mk, .int .u32 0, .int .u32 sv, .int .u32 sv, .string fi, .int .i64 0, .int .i64 0, .int .i64 0, .int .i64 0], .bool true]) ?_ (by rfl) ⟨rfl, ?_⟩
      · exact results_row2 Try.results33 _ _ gr 44 _ (0, 0) _ _ rfl rfl (setRow_heap _ _ _ _ _ _ Tz.out.r) Try.underlying44 rfl infoLs
      · exact bbut Tz.out.bel (But.setRow _ _ _) HGL.out.1
  · refine step_alloc_to rfl 44 rfl #[.int .u32 0, .int .u32 0, .int .u32 0, .int .u32 0, .int .u32 0, .string noText, .int .i64 0, .int .i64 0, .int .i64 0, .int .i64 0] zeroLs ?_
    obtain ⟨w6, hw6⟩ : ∃ W, W = w5.drew.alloc (.cells #[.int .u32 0, .int .u32 0, .int .u32 0, .int .u32 0, .int .u32 0, .string noText, .int .i64 0, .int .i64 0, .int .i64 0, .int .i64 0] 44) := ⟨_, rfl⟩
    obtain ⟨gl, hgl⟩ : ∃ g, g = w5.drew.heap.size := ⟨_, rfl⟩
    have HX6 : Hid (w6.heap[gl]? = some (.cells #[.int .u32 0, .int .u32 0, .int .u32 0, .int .u32 0, .int .u32 0, .string noText, .int .i64 0, .int .i64 0, .int .i64 0, .int .i64 0] 44 (0, 0))) := by rw [hw6, hgl]; exact heap_new _ _
    have B6 : Hid (Below wt.heap.size wt w6) := by rw [hw6]; exact bpush hd0 _
    have HGX : Hid (wt.heap.size ≤ gl) := by rw [hgl]; exact hd0.size
    rw [← hw6, ← hgl]
    clear hw6 hgl
    refine hK _ _ (HKR.out _ B6.out) (fun hHeld => ?_)
    clear hK
    try simp only [Act.put, List.setIfInBounds_toArray, List.set_cons_zero, List.set_cons_succ]
    refine wpAnyH_ready (rs := [6]) (by kernel_rfl) (by simp) ?_
    refine AllReadyH.cons (o := { dst := some 40, op := .call { callee := .value (.func 53), args := #[.tmp 39], argTypes := #[41] }, type := _, pos := _, after := _, guard := none }) rfl (fun K hK => ?_) AllReadyH.nil
    go_simp
    refine (HFI.out _ (HUP.out _ B6.out)).mono ?_
    rintro e w7 ⟨rfl, H7⟩
    have B7 := hid (bstep B6.out H7.out)
    have HX := hid (kept HX6.out H7.out)
    refine hK _ _ (HKR.out _ B7.out) (fun hHeld => ?_)
    clear hK
    try simp only [Act.put, List.setIfInBounds_toArray, List.set_cons_zero, List.set_cons_succ]
    refine wpAnyH_take (i := 7) (oi := { dst := some 41, op := .build 44 #[(0, .tmp 35), (1, .tmp 36), (3, .tmp 37), (4, .tmp 38), (5, .tmp 40)], type := _, pos := _, after := _, guard := none }) (v := .agg #[.int .u32 m.yi, .int .u32 mk, .int .u32 0, .int .u32 sv, .int .u32 sv, .string fi, .int .i64 0, .int .i64 0, .int .i64 0, .int .i64 0]) rfl (by kernel_rfl) (by kernel_rfl) (by kernel_rfl) (fun _ _ _ h => h) (Or.inl ⟨by rfl, fun wq hSw => by (try dsimp only at hSw); (go_simp; try rfl)⟩) (by assumption) ?_
    try simp only [Act.put, List.setIfInBounds_toArray, List.set_cons_zero, List.set_cons_succ]
    refine wpAnyH_ready (rs := [9]) (by kernel_rfl) (by simp) ?_
    refine AllReadyH.cons (o := { dst := none, op := .store 44 (.tmp 7) (.tmp 41), type := _, pos := _, after := _, guard := none }) rfl (fun K hK => ?_) AllReadyH.nil
    refine step_store_row rfl 44 _ _ rfl gl #[.int .u32 m.yi, .int .u32 mk, .int .u32 0, .int .u32 sv, .int .u32 sv, .string fi, .int .i64 0, .int .i64 0, .int .i64 0, .int .i64 0] rfl rfl 44 _ HX.out infoLs rfl (by simp [Value.oneCell']) ?_
    intro w8 HG8 HB8
    have B8 := hid (bbut B7.out HB8.out HGX.out)
    have HTS : Hid (TimS w gl mb gr #[.int .i64 m.op, .int .i64 m.hops, .int .u32 m.xid, .int .i64 m.secs, .bool m.all, .int .u32 m.ci, .int .u32 m.yi, .int .u32 m.si, .int .u32 m.gi, .int .u8 m.mac.b0, .int .u8 m.mac.b1, .int .u8 m.mac.b2, .int .u8 m.mac.b3, .int .u8 m.mac.b4, .int .u8 m.mac.b5, .string m.sname, .string m.file, .slice a n c] #[.int .u32 m.yi, .int .u32 mk, .int .u32 0, .int .u32 sv, .int .u32 sv, .string fi, .int .i64 0, .int .i64 0, .int .i64 0, .int .i64 0] w8) := ⟨HG8.out, kept HMB.out B8.out, kept HGR.out B8.out, HUP.out _ B8.out, by have := HBT.out.size; have h2 := HGX.out; have h3 := heap_lt HGR.out; have h4 := heap_lt HMB.out; have := HGL.out; omega⟩
    refine hK _ _ (HKR.out _ B8.out) (fun hHeld => ?_)
    clear hK
    try simp only [Act.put, List.setIfInBounds_toArray, List.set_cons_zero, List.set_cons_succ]
    refine wpAnyH_done (by kernel_rfl) ?_ _
    refine NoPanic.normal ?_
    clear HG8 HB8 B8 HX HX6 B7 B6 HGX hHeld xx
    rcases Bool.eq_false_or_eq_true (canB m.yi mk ro) with b4 | b4 <;> rcases Bool.eq_false_or_eq_true (hostB m.si) with b5 | b5
    · have cA := cell_of_heap HTS.out.m 17
      have cY := cell_of_heap HTS.out.m 6
      simp only [List.getElem?_toArray, List.getElem?_cons_zero, List.getElem?_cons_succ] at cA cY
      go_wp2_with (first
        | (go_at_call 54; refine (HRO.out _ HTS.out.bel).mono ?_; rintro e w9 ⟨rfl, H9⟩; have T9 := hid (HTS.out.below H9.out); have cY9 := (cell_of_heap T9.out.m 6).trans (show _ = some (Value.int .u32 m.yi) from rfl); clear cA cY)
        | (go_at_call 52; refine (HCH.out _ ro HRB.out).mono ?_; rintro e wz ⟨rfl, Hz⟩; rw [b4]; have Tz := hid (T9.out.below Hz.out); have cSz := (cell_of_heap Tz.out.m 7).trans (show _ = some (Value.int .u32 m.si) from rfl); have cRz := (cell_of_heap Tz.out.l 2).trans (show _ = some (Value.int .u32 0) from rfl); have fRz := frozen_of_heap Tz.out.l 2; have cNz := (cell_of_heap Tz.out.l 4).trans (show _ = some (Value.int .u32 sv) from rfl); have fNz := frozen_of_heap Tz.out.l 4; have TR := hid (Tz.out.set (L' := #[.int .u32 m.yi, .int .u32 mk, .int .u32 ro, .int .u32 sv, .int .u32 sv, .string fi, .int .i64 0, .int .i64 0, .int .i64 0, .int .i64 0]) (But.setCell gl wz 2 (.int .u32 ro)) ((heap_setCell (j := 2) Tz.out.l).trans rfl)); have cSr := (cell_of_heap TR.out.m 7).trans (show _ = some (Value.int .u32 m.si) from rfl); have cNr := (cell_of_heap TR.out.l 4).trans (show _ = some (Value.int .u32 sv) from rfl); have fNr := frozen_of_heap TR.out.l 4; have TN := hid (Tz.out.set (L' := #[.int .u32 m.yi, .int .u32 mk, .int .u32 0, .int .u32 sv, .int .u32 m.si, .string fi, .int .i64 0, .int .i64 0, .int .i64 0, .int .i64 0]) (But.setCell gl wz 4 (.int .u32 m.si)) ((heap_setCell (j := 4) Tz.out.l).trans rfl)); have TRN := hid (TR.out.set (L' := #[.int .u32 m.yi, .int .u32 mk, .int .u32 ro, .int .u32 sv, .int .u32 m.si, .string fi, .int .i64 0, .int .i64 0, .int .i64 0, .int .i64 0]) (But.setCell gl _ 4 (.int .u32 m.si)) ((heap_setCell (j := 4) TR.out.l).trans rfl)); clear cY9)
        | (go_at_call 50; refine (HIH.out _ _ HSI.out).mono ?_; rintro e wy ⟨rfl, hw⟩; subst wy; rw [b5])
        | (refine wpList_load_row rfl 44 _ rfl gl rfl 44 #[.int .u32 m.yi, .int .u32 mk, .int .u32 ro, .int .u32 sv, .int .u32 m.si, .string fi, .int .i64 0, .int .i64 0, .int .i64 0, .int .i64 0] (0, 0) _ (by exact TRN.out.l) Try.underlying44 rfl infoLs ?_)
        | (refine wpList_store_row rfl 44 _ _ rfl gr #[.int .u32 m.yi, .int .u32 mk, .int .u32 ro, .int .u32 sv, .int .u32 m.si, .string fi, .int .i64 0, .int .i64 0, .int .i64 0, .int .i64 0] rfl rfl 44 _ TRN.out.r infoLs rfl (by simp [Value.oneCell']) ?_)
        | fail)
      rw [HR.out]
      simp only [b4, b5, if_true, if_false, Bool.false_eq_true]
      refine bodyPost_ret (v := .tuple #[.agg #[.int .u32 m.yi, .int .u32 mk, .int .u32 ro, .int .u32 sv, .int .u32 m.si, .string fi, .int .i64 0, .int .i64 0, .int .i64 0, .int .i64 0], .bool true]) ?_ (by rfl) ⟨rfl, ?_⟩
      · exact results_row2 Try.results33 _ _ gr 44 _ (0, 0) _ _ rfl rfl (setRow_heap _ _ _ _ _ _ TRN.out.r) Try.underlying44 rfl infoLs
      · exact bbut TRN.out.bel (But.setRow _ _ _) HGL.out.1
    · have cA := cell_of_heap HTS.out.m 17
      have cY := cell_of_heap HTS.out.m 6
      simp only [List.getElem?_toArray, List.getElem?_cons_zero, List.getElem?_cons_succ] at cA cY
      go_wp2_with (first
        | (go_at_call 54; refine (HRO.out _ HTS.out.bel).mono ?_; rintro e w9 ⟨rfl, H9⟩; have T9 := hid (HTS.out.below H9.out); have cY9 := (cell_of_heap T9.out.m 6).trans (show _ = some (Value.int .u32 m.yi) from rfl); clear cA cY)
        | (go_at_call 52; refine (HCH.out _ ro HRB.out).mono ?_; rintro e wz ⟨rfl, Hz⟩; rw [b4]; have Tz := hid (T9.out.below Hz.out); have cSz := (cell_of_heap Tz.out.m 7).trans (show _ = some (Value.int .u32 m.si) from rfl); have cRz := (cell_of_heap Tz.out.l 2).trans (show _ = some (Value.int .u32 0) from rfl); have fRz := frozen_of_heap Tz.out.l 2; have cNz := (cell_of_heap Tz.out.l 4).trans (show _ = some (Value.int .u32 sv) from rfl); have fNz := frozen_of_heap Tz.out.l 4; have TR := hid (Tz.out.set (L' := #[.int .u32 m.yi, .int .u32 mk, .int .u32 ro, .int .u32 sv, .int .u32 sv, .string fi, .int .i64 0, .int .i64 0, .int .i64 0, .int .i64 0]) (But.setCell gl wz 2 (.int .u32 ro)) ((heap_setCell (j := 2) Tz.out.l).trans rfl)); have cSr := (cell_of_heap TR.out.m 7).trans (show _ = some (Value.int .u32 m.si) from rfl); have cNr := (cell_of_heap TR.out.l 4).trans (show _ = some (Value.int .u32 sv) from rfl); have fNr := frozen_of_heap TR.out.l 4; have TN := hid (Tz.out.set (L' := #[.int .u32 m.yi, .int .u32 mk, .int .u32 0, .int .u32 sv, .int .u32 m.si, .string fi, .int .i64 0, .int .i64 0, .int .i64 0, .int .i64 0]) (But.setCell gl wz 4 (.int .u32 m.si)) ((heap_setCell (j := 4) Tz.out.l).trans rfl)); have TRN := hid (TR.out.set (L' := #[.int .u32 m.yi, .int .u32 mk, .int .u32 ro, .int .u32 sv, .int .u32 m.si, .string fi, .int .i64 0, .int .i64 0, .int .i64 0, .int .i64 0]) (But.setCell gl _ 4 (.int .u32 m.si)) ((heap_setCell (j := 4) TR.out.l).trans rfl)); clear cY9)
        | (go_at_call 50; refine (HIH.out _ _ HSI.out).mono ?_; rintro e wy ⟨rfl, hw⟩; subst wy; rw [b5])
        | (refine wpList_load_row rfl 44 _ rfl gl rfl 44 #[.int .u32 m.yi, .int .u32 mk, .int .u32 ro, .int .u32 sv, .int .u32 sv, .string fi, .int .i64 0, .int .i64 0, .int .i64 0, .int .i64 0] (0, 0) _ (by exact TR.out.l) Try.underlying44 rfl infoLs ?_)
        | (refine wpList_store_row rfl 44 _ _ rfl gr #[.int .u32 m.yi, .int .u32 mk, .int .u32 ro, .int .u32 sv, .int .u32 sv, .string fi, .int .i64 0, .int .i64 0, .int .i64 0, .int .i64 0] rfl rfl 44 _ TR.out.r infoLs rfl (by simp [Value.oneCell']) ?_)
        | fail)
      rw [HR.out]
      simp only [b4, b5, if_true, if_false, Bool.false_eq_true]
      refine bodyPost_ret (v := .tuple #[.agg #[.int .u32 m.yi, .int .u32 mk, .int .u32 ro, .int .u32 sv, .int .u32 sv, .string fi, .int .i64 0, .int .i64 0, .int .i64 0, .int .i64 0], .bool true]) ?_ (by rfl) ⟨rfl, ?_⟩
      · exact results_row2 Try.results33 _ _ gr 44 _ (0, 0) _ _ rfl rfl (setRow_heap _ _ _ _ _ _ TR.out.r) Try.underlying44 rfl infoLs
      · exact bbut TR.out.bel (But.setRow _ _ _) HGL.out.1
    · have cA := cell_of_heap HTS.out.m 17
      have cY := cell_of_heap HTS.out.m 6
      simp only [List.getElem?_toArray, List.getElem?_cons_zero, List.getElem?_cons_succ] at cA cY
      go_wp2_with (first
        | (go_at_call 54; refine (HRO.out _ HTS.out.bel).mono ?_; rintro e w9 ⟨rfl, H9⟩; have T9 := hid (HTS.out.below H9.out); have cY9 := (cell_of_heap T9.out.m 6).trans (show _ = some (Value.int .u32 m.yi) from rfl); clear cA cY)
        | (go_at_call 52; refine (HCH.out _ ro HRB.out).mono ?_; rintro e wz ⟨rfl, Hz⟩; rw [b4]; have Tz := hid (T9.out.below Hz.out); have cSz := (cell_of_heap Tz.out.m 7).trans (show _ = some (Value.int .u32 m.si) from rfl); have cRz := (cell_of_heap Tz.out.l 2).trans (show _ = some (Value.int .u32 0) from rfl); have fRz := frozen_of_heap Tz.out.l 2; have cNz := (cell_of_heap Tz.out.l 4).trans (show _ = some (Value.int .u32 sv) from rfl); have fNz := frozen_of_heap Tz.out.l 4; have TR := hid (Tz.out.set (L' := #[.int .u32 m.yi, .int .u32 mk, .int .u32 ro, .int .u32 sv, .int .u32 sv, .string fi, .int .i64 0, .int .i64 0, .int .i64 0, .int .i64 0]) (But.setCell gl wz 2 (.int .u32 ro)) ((heap_setCell (j := 2) Tz.out.l).trans rfl)); have cSr := (cell_of_heap TR.out.m 7).trans (show _ = some (Value.int .u32 m.si) from rfl); have cNr := (cell_of_heap TR.out.l 4).trans (show _ = some (Value.int .u32 sv) from rfl); have fNr := frozen_of_heap TR.out.l 4; have TN := hid (Tz.out.set (L' := #[.int .u32 m.yi, .int .u32 mk, .int .u32 0, .int .u32 sv, .int .u32 m.si, .string fi, .int .i64 0, .int .i64 0, .int .i64 0, .int .i64 0]) (But.setCell gl wz 4 (.int .u32 m.si)) ((heap_setCell (j := 4) Tz.out.l).trans rfl)); have TRN := hid (TR.out.set (L' := #[.int .u32 m.yi, .int .u32 mk, .int .u32 ro, .int .u32 sv, .int .u32 m.si, .string fi, .int .i64 0, .int .i64 0, .int .i64 0, .int .i64 0]) (But.setCell gl _ 4 (.int .u32 m.si)) ((heap_setCell (j := 4) TR.out.l).trans rfl)); clear cY9)
        | (go_at_call 50; refine (HIH.out _ _ HSI.out).mono ?_; rintro e wy ⟨rfl, hw⟩; subst wy; rw [b5])
        | (refine wpList_load_row rfl 44 _ rfl gl rfl 44 #[.int .u32 m.yi, .int .u32 mk, .int .u32 0, .int .u32 sv, .int .u32 m.si, .string fi, .int .i64 0, .int .i64 0, .int .i64 0, .int .i64 0] (0, 0) _ (by exact TN.out.l) Try.underlying44 rfl infoLs ?_)
        | (refine wpList_store_row rfl 44 _ _ rfl gr #[.int .u32 m.yi, .int .u32 mk, .int .u32 0, .int .u32 sv, .int .u32 m.si, .string fi, .int .i64 0, .int .i64 0, .int .i64 0, .int .i64 0] rfl rfl 44 _ TN.out.r infoLs rfl (by simp [Value.oneCell']) ?_)
        | fail)
      rw [HR.out]
      simp only [b4, b5, if_true, if_false, Bool.false_eq_true]
      refine bodyPost_ret (v := .tuple #[.agg #[.int .u32 m.yi, .int .u32 mk, .int .u32 0, .int .u32 sv, .int .u32 m.si, .string fi, .int .i64 0, .int .i64 0, .int .i64 0, .int .i64 0], .bool true]) ?_ (by rfl) ⟨rfl, ?_⟩
      · exact results_row2 Try.results33 _ _ gr 44 _ (0, 0) _ _ rfl rfl (setRow_heap _ _ _ _ _ _ TN.out.r) Try.underlying44 rfl infoLs
      · exact bbut TN.out.bel (But.setRow _ _ _) HGL.out.1
    · have cA := cell_of_heap HTS.out.m 17
      have cY := cell_of_heap HTS.out.m 6
      simp only [List.getElem?_toArray, List.getElem?_cons_zero, List.getElem?_cons_succ] at cA cY
      go_wp2_with (first
        | (go_at_call 54; refine (HRO.out _ HTS.out.bel).mono ?_; rintro e w9 ⟨rfl, H9⟩; have T9 := hid (HTS.out.below H9.out); have cY9 := (cell_of_heap T9.out.m 6).trans (show _ = some (Value.int .u32 m.yi) from rfl); clear cA cY)
        | (go_at_call 52; refine (HCH.out _ ro HRB.out).mono ?_; rintro e wz ⟨rfl, Hz⟩; rw [b4]; have Tz := hid (T9.out.below Hz.out); have cSz := (cell_of_heap Tz.out.m 7).trans (show _ = some (Value.int .u32 m.si) from rfl); have cRz := (cell_of_heap Tz.out.l 2).trans (show _ = some (Value.int .u32 0) from rfl); have fRz := frozen_of_heap Tz.out.l 2; have cNz := (cell_of_heap Tz.out.l 4).trans (show _ = some (Value.int .u32 sv) from rfl); have fNz := frozen_of_heap Tz.out.l 4; have TR := hid (Tz.out.set (L' := #[.int .u32 m.yi, .int .u32 mk, .int .u32 ro, .int .u32 sv, .int .u32 sv, .string fi, .int .i64 0, .int .i64 0, .int .i64 0, .int .i64 0]) (But.setCell gl wz 2 (.int .u32 ro)) ((heap_setCell (j := 2) Tz.out.l).trans rfl)); have cSr := (cell_of_heap TR.out.m 7).trans (show _ = some (Value.int .u32 m.si) from rfl); have cNr := (cell_of_heap TR.out.l 4).trans (show _ = some (Value.int .u32 sv) from rfl); have fNr := frozen_of_heap TR.out.l 4; have TN := hid (Tz.out.set (L' := #[.int .u32 m.yi, .int .u32 mk, .int .u32 0, .int .u32 sv, .int .u32 m.si, .string fi, .int .i64 0, .int .i64 0, .int .i64 0, .int .i64 0]) (But.setCell gl wz 4 (.int .u32 m.si)) ((heap_setCell (j := 4) Tz.out.l).trans rfl)); have TRN := hid (TR.out.set (L' := #[.int .u32 m.yi, .int .u32 mk, .int .u32 ro, .int .u32 sv, .int .u32 m.si, .string fi, .int .i64 0, .int .i64 0, .int .i64 0, .int .i64 0]) (But.setCell gl _ 4 (.int .u32 m.si)) ((heap_setCell (j := 4) TR.out.l).trans rfl)); clear cY9)
        | (go_at_call 50; refine (HIH.out _ _ HSI.out).mono ?_; rintro e wy ⟨rfl, hw⟩; subst wy; rw [b5])
        | (refine wpList_load_row rfl 44 _ rfl gl rfl 44 #[.int .u32 m.yi, .int .u32 mk, .int .u32 0, .int .u32 sv, .int .u32 sv, .string fi, .int .i64 0, .int .i64 0, .int .i64 0, .int .i64 0] (0, 0) _ (by exact Tz.out.l) Try.underlying44 rfl infoLs ?_)
        | (refine wpList_store_row rfl 44 _ _ rfl gr #[.int .u32 m.yi, .int .u32 mk, .int .u32 0, .int .u32 sv, .int .u32 sv, .string fi, .int .i64 0, .int .i64 0, .int .i64 0, .int .i64 0] rfl rfl 44 _ Tz.out.r infoLs rfl (by simp [Value.oneCell']) ?_)
        | fail)
      rw [HR.out]
      simp only [b4, b5, if_true, if_false, Bool.false_eq_true]
      refine bodyPost_ret (v := .tuple #[.agg #[.int .u32 m.yi, .int .u32 mk, .int .u32 0, .int .u32 sv, .int .u32 sv, .string fi, .int .i64 0, .int .i64 0, .int .i64 0, .int .i64 0], .bool true]) ?_ (by rfl) ⟨rfl, ?_⟩
      · exact results_row2 Try.results33 _ _ gr 44 _ (0, 0) _ _ rfl rfl (setRow_heap _ _ _ _ _ _ Tz.out.r) Try.underlying44 rfl infoLs
      · exact bbut Tz.out.bel (But.setRow _ _ _) HGL.out.1
end Go.Proofs.Ytgcpoanjjgbfjaa
