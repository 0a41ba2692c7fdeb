/-
  bootp.fields.
-/
import Derived.Test.YtoifblndpcelkaaBoEncW
import Derived.Test.YtoifblndpcelkaaBoTxt
import Derived.Test.YtoifblndpcelkaaBBig
import Derived.Test.YtoifblndpcelkaaOPar
namespace Go.Proofs.Ytoifblndpcelkaa
open Go.RowKit
set_option linter.all false

theorem copy_long (pt : Part) (w : World) (hok : pt.ok w) (hne : 0 < pt.zs.length) (sl sc : Nat) (hl : pt.zs.length ≤ sl) (g o cap : Nat) (cur : Array Value) (t : TypeId) (hg : w.heap[g]? = some (.cells cur t (0, 0))) (hsz : o + pt.zs.length ≤ cur.size) (ty : TypeId) :
    (Builtin.copy_ #[33, 33] ty #[.slice (some ⟨g, o, none⟩) pt.zs.length cap, .slice pt.a sl sc]).run Try.prog w = .ok (goInt pt.zs.length) (w.setRow g (splice cur.toList o (u8s pt.zs)).toArray) := by
  obtain ⟨a, c, zs⟩ := pt
  simp only at *
  rcases hok.2.2 with h | ⟨b, o', ha, hc⟩
  · simp only at h
    subst h
    simp at hne
  · simp only at ha hc
    subst ha
    rw [run_copy_row (P := Try.prog) _ _ _ _ 5 g o _ _ _ _ _ cur t (u8s zs) Try.underlying33 sizeU8 hg (by rw [u8s_len]; exact (Nat.min_eq_right hl).symm) (part_news (pt := ⟨some ⟨b, o', none⟩, c, zs⟩) hc) (by simpa [u8s] using hsz) (u8s_one zs)]
    simp only [u8s_len, splice, List.append_assoc]
theorem step_copyL {ops : Array Oper} {o : Oper} {a : Act} {w : World} {K : Act → World → Prop} {Q : Exit → Act → World → Prop} {E : Prop} (hgd : o.guard = none) (d s : Operand)
    (ho : o.op = .call { callee := .builtin .copy, args := #[d, s], argTypes := #[33, 33] }) (pt : Part) (sl sc g off n cap : Nat) (cur : Array Value) (t : TypeId) (hd : a.eval d = .slice (some ⟨g, off, none⟩) n cap) (hs : a.eval s = .slice pt.a sl sc)
    (hg : w.heap[g]? = some (.cells cur t (0, 0))) (hok : pt.ok w) (hne : 0 < pt.zs.length) (hn : pt.zs.length = n) (hl : pt.zs.length ≤ sl) (hsz : off + pt.zs.length ≤ cur.size)
    (h : ∀ w', Hid (w'.heap[g]? = some (.cells (splice cur.toList off (u8s pt.zs)).toArray t (0, 0))) → Hid (But g w w') → K (a.put o.dst (goInt pt.zs.length)) w') :
    if Region.wanted o (yielded ops a.tmps) = true then Oper.wp Try.prog o a w K Q else E := by
  have hw : Region.wanted o (yielded ops a.tmps) = true := by simp [Region.wanted, hgd]
  rw [if_pos hw]
  subst hn
  unfold Oper.wp
  simp only [execOp, ho, resolve, invoke, builtin, Sem.run_bind, Sem.run_pure, Result.andThen_ok, List.map_toArray, List.map_cons, List.map_nil, hd, hs, copy_long pt w hok hne sl sc hl g off cap cur t hg hsz]
  exact h _ (setRow_heap w g _ _ t _ hg) (But.setRow g w _)
/-- the fields behind k numbers. -/
def fldN (k : Nat) (zs : List Int) : Bp :=
  ⟨if 0 < k then getTo zs 0 1 else 0, if 1 < k then getTo zs 3 1 else 0, if 2 < k then getTo zs 4 4 else 0, if 3 < k then getTo zs 8 2 else 0, if 4 < k then decide (32768 ≤ getTo zs 10 2) else false, if 5 < k then getTo zs 12 4 else 0, if 6 < k then getTo zs 16 4 else 0, if 7 < k then getTo zs 20 4 else 0, if 8 < k then getTo zs 24 4 else 0, zeroMac, noText, noText⟩
/-- a message but for its texts and options. -/
def fldB (zs : List Int) : Bp := { fldN 9 zs with mac := macAt zs 28 }
/-- how a number is put. -/
structure NumP (zs : List Int) (k pl wd fp i : Nat) (v : Value) : Prop where
  pt : ∀ (g : Nat) (X : Array Value) (W : World), W.heap[g]? = some (.cells X 28 (0, 0)) → X.size = 18 → Calls Try.prog fp #[.pointer (some ⟨g, 0, none⟩), .int .u64 (getTo zs pl wd)] W fun e w' => e = .returned (.tuple #[]) ∧ Hid (w' = W.setCell ⟨g, i, none⟩ v)
  nx : ((fldN k zs).cells (.slice none 0 0)).setIfInBounds i v = (fldN (k + 1) zs).cells (.slice none 0 0)
theorem numP_k (zs : List Int) (hz : ∀ z, z ∈ zs → 0 ≤ z ∧ z ≤ 255) (k : Nat) (hk : k < 9) : ∃ pl wd fk fp i v, NumK k pl wd fk fp ∧ NumP zs k pl wd fp i v := by
  have bd := getTo_bd zs (getD_mem_bd hz)
  rcases (show k = 0 ∨ k = 1 ∨ k = 2 ∨ k = 3 ∨ k = 4 ∨ k = 5 ∨ k = 6 ∨ k = 7 ∨ k = 8 by omega) with rfl | rfl | rfl | rfl | rfl | rfl | rfl | rfl | rfl
  · exact ⟨0, 1, 73, 74, 0, .int .i64 (getTo zs 0 1), ⟨rfl, rfl, rfl, rfl, by omega, by omega, enters_of Try.func73 (by kernel_rfl) rfl, enters_of Try.func74 (by kernel_rfl) rfl⟩, ⟨fun g X W hg hX => put_op g X _ W hg hX (by have := bd 0 1; omega), rfl⟩⟩
  · exact ⟨3, 1, 75, 76, 1, .int .i64 (getTo zs 3 1), ⟨rfl, rfl, rfl, rfl, by omega, by omega, enters_of Try.func75 (by kernel_rfl) rfl, enters_of Try.func76 (by kernel_rfl) rfl⟩, ⟨fun g X W hg hX => put_hops g X _ W hg hX (by have := bd 3 1; omega), rfl⟩⟩
  · exact ⟨4, 4, 77, 78, 2, .int .u32 (getTo zs 4 4), ⟨rfl, rfl, rfl, rfl, by omega, by omega, enters_of Try.func77 (by kernel_rfl) rfl, enters_of Try.func78 (by kernel_rfl) rfl⟩, ⟨fun g X W hg hX => put_xid g X _ W hg hX (by have := bd 4 4; omega), rfl⟩⟩
  · exact ⟨8, 2, 79, 80, 3, .int .i64 (getTo zs 8 2), ⟨rfl, rfl, rfl, rfl, by omega, by omega, enters_of Try.func79 (by kernel_rfl) rfl, enters_of Try.func80 (by kernel_rfl) rfl⟩, ⟨fun g X W hg hX => put_secs g X _ W hg hX (by have := bd 8 2; omega), rfl⟩⟩
  · exact ⟨10, 2, 81, 82, 4, .bool (decide (32768 ≤ getTo zs 10 2)), ⟨rfl, rfl, rfl, rfl, by omega, by omega, enters_of Try.func81 (by kernel_rfl) rfl, enters_of Try.func82 (by kernel_rfl) rfl⟩, ⟨fun g X W hg hX => put_flags g X _ W hg hX (by have := bd 10 2; omega), rfl⟩⟩
  · exact ⟨12, 4, 83, 84, 5, .int .u32 (getTo zs 12 4), ⟨rfl, rfl, rfl, rfl, by omega, by omega, enters_of Try.func83 (by kernel_rfl) rfl, enters_of Try.func84 (by kernel_rfl) rfl⟩, ⟨fun g X W hg hX => put_ci g X _ W hg hX (by have := bd 12 4; omega), rfl⟩⟩
  · exact ⟨16, 4, 85, 86, 6, .int .u32 (getTo zs 16 4), ⟨rfl, rfl, rfl, rfl, by omega, by omega, enters_of Try.func85 (by kernel_rfl) rfl, enters_of Try.func86 (by kernel_rfl) rfl⟩, ⟨fun g X W hg hX => put_yi g X _ W hg hX (by have := bd 16 4; omega), rfl⟩⟩
  · exact ⟨20, 4, 87, 88, 7, .int .u32 (getTo zs 20 4), ⟨rfl, rfl, rfl, rfl, by omega, by omega, enters_of Try.func87 (by kernel_rfl) rfl, enters_of Try.func88 (by kernel_rfl) rfl⟩, ⟨fun g X W hg hX => put_si g X _ W hg hX (by have := bd 20 4; omega), rfl⟩⟩
  · exact ⟨24, 4, 89, 90, 8, .int .u32 (getTo zs 24 4), ⟨rfl, rfl, rfl, rfl, by omega, by omega, enters_of Try.func89 (by kernel_rfl) rfl, enters_of Try.func90 (by kernel_rfl) rfl⟩, ⟨fun g X W hg hX => put_gi g X _ W hg hX (by have := bd 24 4; omega), rfl⟩⟩
def zeroC : Array Value := zeroBp.cells (.slice none 0 0)
/-- a fields under way. -/
structure FlS (w : World) (gr gm gn : Nat) (X : Array Value) (W : World) : Prop where
  res : W.heap[gr]? = some (.cells zeroC 28 (0, 0))
  box : W.heap[gm]? = some (.cells X 28 (0, 0))
  num : W.heap[gn]? = some (.cells numC 78 (0, 0))
  ne : gr ≠ gm
  low : w.heap.size ≤ gr ∧ w.heap.size ≤ gm
  below : Below w.heap.size w W
theorem FlS.keep {w W W' : World} {gr gm gn : Nat} {X : Array Value} (h : FlS w gr gm gn X W) (hb : Below W.heap.size W W') : FlS w gr gm gn X W' := ⟨kept h.res hb, kept h.box hb, kept h.num hb, h.ne, h.low, bstep h.below hb⟩
theorem FlS.nn {w W : World} {gr gm gn : Nat} {X : Array Value} (h : FlS w gr gm gn X W) : gn ≠ gm := fun e => by
  have h1 := h.num
  rw [e, h.box] at h1
  simp at h1
theorem FlS.next {w W W' : World} {gr gm gn : Nat} {X X' : Array Value} (h : FlS w gr gm gn X W) (hb : But gm W W') (hx : W'.heap[gm]? = some (.cells X' 28 (0, 0))) : FlS w gr gm gn X' W' :=
  ⟨keptBut h.res hb h.ne, hx, keptBut h.num hb h.nn, h.ne, h.low, bbut h.below hb h.low.2⟩
set_option maxRecDepth 20000 in
set_option maxHeartbeats 4000000 in
theorem fields_any (pt : Part) (w : World) (hok : pt.ok w) (hl : pt.zs.length ≤ 140737488353280) (hin : 240 ≤ pt.zs.length) :
    Calls Try.prog 34 #[pt.val] w fun e w' => e = .returned ((fldB pt.zs).val (.slice none 0 0)) ∧ Hid (Below w.heap.size w w') := by
  have HN := hid (fun (k : Nat) (hk : k < 9) => numP_k pt.zs hok.1 k hk)
  have HG := hid (fun (a m : Nat) (W : World) (hW : Below w.heap.size w W) (h1 : 1 ≤ m) (h8 : m ≤ 8) (hi : a + m ≤ pt.zs.length) => bnumberAt_any pt a m W (Part.ok_below hok hW) hl h1 h8 hi)
  obtain ⟨b, o, ha⟩ : ∃ b o, pt.a = some ⟨b, o, none⟩ := by
    rcases hok.2.2 with h | ⟨b, o, ha, hc⟩
    · rw [h] at hin; simp at hin
    · exact ⟨b, o, ha⟩
  obtain ⟨pa, c, zs⟩ := pt
  simp only [Part.val] at *
  subst ha
  have hcap : zs.length ≤ c := hok.2.1
  have HMP : Hid (∀ W, Below w.heap.size w W → Part.ok W ⟨some ⟨b, o + 28, none⟩, c - 28, (macAt zs 28).zs⟩) := fun W hW => by
    have := Part.sub_ok (Part.ok_below hok hW) 28 6 (c - 28) (by omega) (by omega)
    rw [← macAt_zs zs 28 (by omega)] at this
    exact this
  have HFB : Hid ((splice ((fldN 9 zs).cells (.slice none 0 0)).toList 9 (u8s (macAt zs 28).zs)).toArray = (fldB zs).cells (.slice none 0 0)) := rfl
  have HM6 : Hid ((macAt zs 28).zs.length = 6) := rfl
  have HF0 : Hid (zeroC = (fldN 0 zs).cells (.slice none 0 0)) := rfl
  have HSZ : Hid (∀ k, ((fldN k zs).cells (.slice none 0 0)).size = 18) := fun k => rfl
  have HSB : Hid (some 18 = some ((fldB zs).cells (.slice none 0 0)).size) := rfl
  have HON : Hid (((fldB zs).cells (.slice none 0 0)).all (·.oneCell') = true) := by simp [Hid, Bp.cells, Value.oneCell']
  unfold Bp.val
  generalize (fldB zs).cells (.slice none 0 0) = XB at *
  have HZ := hid hin
  obtain ⟨n, hn⟩ : ∃ n, n = zs.length := ⟨_, rfl⟩
  rw [← hn] at HG HZ hin hcap hl ⊢
  have HLN := hid hn
  have HCC : Hid (28 ≤ c) := by unfold Hid; omega
  have q28 : (28 : Int) ≤ (n : Int) := by omega
  have r28 : ¬ c = 28 := by omega
  clear hok hn
  generalize (macAt zs 28).zs = MZ at *
  obtain ⟨w1, hw1⟩ : ∃ w1, w1 = w.alloc (.cells zeroC 28) := ⟨_, rfl⟩
  obtain ⟨w2, hw2⟩ : ∃ w2, w2 = w1.alloc (.cells zeroC 28) := ⟨_, rfl⟩
  have HR1 : Hid (w1.heap[w.heap.size]? = some (.cells zeroC 28 (0, 0))) := by rw [hw1]; exact heap_new _ _
  have HR2 : Hid (w2.heap[w.heap.size]? = some (.cells zeroC 28 (0, 0))) := by unfold Hid; rw [hw2, heap_old _ _ (heap_lt HR1.out)]; exact HR1.out
  have HM2 : Hid (w2.heap[w1.heap.size]? = some (.cells zeroC 28 (0, 0))) := by rw [hw2]; exact heap_new _ _
  have HB2 : Hid (Below w.heap.size w w2) := by unfold Hid; rw [hw2, hw1]; exact bpush (bpush (Below.refl _ _) _) _
  have HLT : Hid (w.heap.size < w1.heap.size) := heap_lt HR1.out
  have HNA := hid (fun W => numbers_any W)
  go_enter Try.func34, Try.ntmps34
  go_upto_region 2 with (first
    | (refine wpList_build_to rfl 28 _ rfl zeroC (by kernel_rfl) ?_)
    | (refine wpList_alloc_to rfl 28 rfl zeroC (by kernel_rfl) ?_; rw [← hw1]; clear hw1)
    | (refine wpList_alloc_to rfl 28 rfl zeroC (by kernel_rfl) ?_; rw [← hw2]; clear hw2)
    | (refine wpList_store_row rfl 28 _ _ rfl w1.heap.size zeroC rfl rfl 28 _ HM2.out (by kernel_rfl) rfl (by kernel_rfl) ?_)
    | fail)
  have HW3 : Hid ((w2.setRow w1.heap.size zeroC).heap[w.heap.size]? = some (.cells zeroC 28 (0, 0)) ∧ (w2.setRow w1.heap.size zeroC).heap[w1.heap.size]? = some (.cells zeroC 28 (0, 0)) ∧ Below w.heap.size w (w2.setRow w1.heap.size zeroC)) :=
    ⟨keptBut HR2.out (But.setRow _ _ _) (by have := HLT.out; omega), setRow_heap _ _ _ _ _ _ HM2.out, bbut HB2.out (But.setRow _ _ _) (by have := HLT.out; omega)⟩
  have HE0 : Hid (∀ w', w' = (w2.setRow w1.heap.size zeroC).alloc (.cells numC 78) → FlS w w.heap.size w1.heap.size (w2.setRow w1.heap.size zeroC).heap.size zeroC w') := fun w' e => by
    rw [e]
    have hb := bpush (Below.refl _ (w2.setRow w1.heap.size zeroC)) (.cells numC 78)
    exact ⟨kept HW3.out.1 hb, kept HW3.out.2.1 hb, heap_new _ _, by have := HLT.out; omega, ⟨Nat.le_refl _, by have := HLT.out; omega⟩, bstep HW3.out.2.2 hb⟩
  clear HW3 HR1 HR2 HM2 HB2 HLT
  generalize w2.setRow w1.heap.size zeroC = W3 at *
  generalize w1.heap.size = gm at *
  obtain ⟨gr, hgr⟩ : ∃ gr, gr = w.heap.size := ⟨_, rfl⟩
  have HGR := hid hgr
  have HE0' : Hid (∀ w', w' = W3.alloc (.cells numC 78) → FlS w gr gm W3.heap.size zeroC w') := by rw [hgr]; exact HE0
  rw [← hgr]
  clear HE0 hgr
  simp only [Act.put]
  go_wp2_with (first
    | (go_at_call 43; refine (HNA.out _).mono ?_; rintro e w4 ⟨rfl, HW4⟩
       have HE4 := hid (HE0'.out _ HW4.out))
    | fail)
  clear HE0' HW4 HNA
  generalize W3.heap.size = gn at *
  go_loopw [9] (fun i wr => ∃ k : Nat, k ≤ 9 ∧ i = .int .i64 k ∧ Hid (FlS w gr gm gn ((fldN k zs).cells (.slice none 0 0)) wr)) (fun i _ => 9 - (intOf i).toNat)
  case atStart => exact ⟨0, by omega, rfl, by rw [← HF0.out]; exact HE4⟩
  case round =>
    obtain ⟨k, hk, rfl, HE⟩ := hrel
    clear HE4
    by_cases hlt : k < 9
    · have hlt' : (k : Int) < 9 := by omega
      obtain ⟨pl, wd, fk, fp, i, v, NK, NP⟩ := HN.out k hlt
      have c0 : wr.cell? ⟨gn, k * 4, none⟩ = some (.int .i64 pl) := heap_cell4 HE.out.num NK.c0
      have c1 : wr.cell? ⟨gn, k * 4 + 1, none⟩ = some (.int .i64 wd) := heap_cell4 HE.out.num NK.c1
      have c2 : wr.cell? ⟨gn, k * 4 + 2, none⟩ = some (fn fk) := heap_cell4 HE.out.num NK.c2
      have c3 : wr.cell? ⟨gn, k * 4 + 3, none⟩ = some (fn fp) := heap_cell4 HE.out.num NK.c3
      have hent := NK.enp
      have HK := hid NK
      have HP := hid NP
      clear NK NP
      unfold fn at *
      go_upto_region 5 with (first
        | (refine wpList_store_row rfl 78 _ _ rfl wr.heap.size #[.int .i64 pl, .int .i64 wd, .func (.func fk) #[] #[], .func (.func fp) #[] #[]] rfl rfl 78 _ (heap_new wr _) (by kernel_rfl) rfl (by simp [Value.oneCell']) ?_)
        | fail)
      have HB5 : Hid (Below wr.heap.size wr ((wr.alloc (.cells #[.int .i64 0, .int .i64 0, .nilFunc, .nilFunc] 78)).setRow wr.heap.size #[.int .i64 pl, .int .i64 wd, .func (.func fk) #[] #[], .func (.func fp) #[] #[]])) := bbut (bpush (Below.refl _ _) _) (But.setRow _ _ _) (Nat.le_refl _)
      have HX5 : Hid (((wr.alloc (.cells #[.int .i64 0, .int .i64 0, .nilFunc, .nilFunc] 78)).setRow wr.heap.size #[.int .i64 pl, .int .i64 wd, .func (.func fk) #[] #[], .func (.func fp) #[] #[]]).heap[wr.heap.size]? = some (.cells #[.int .i64 pl, .int .i64 wd, .func (.func fk) #[] #[], .func (.func fp) #[] #[]] 78 (0, 0))) := setRow_heap _ _ _ _ _ _ (heap_new wr _)
      have HE5 := hid (HE.out.keep HB5.out)
      generalize ((wr.alloc (.cells #[.int .i64 0, .int .i64 0, .nilFunc, .nilFunc] 78)).setRow wr.heap.size #[.int .i64 pl, .int .i64 wd, .func (.func fk) #[] #[], .func (.func fp) #[] #[]]) = W5 at *
      generalize wr.heap.size = gx at *
      clear HE HB5 c0 c1 c2 c3
      simp only [Act.put]
      have HSS : Hid (∀ W : World, W.heap[gx]? = some (.cells #[.int .i64 pl, .int .i64 wd, .func (.func fk) #[] #[], .func (.func fp) #[] #[]] 78 (0, 0)) → W.cell? ⟨gx, 0, none⟩ = some (.int .i64 pl) ∧ W.cell? ⟨gx, 1, none⟩ = some (.int .i64 wd) ∧ W.cell? ⟨gx, 3, none⟩ = some (.func (.func fp) #[] #[])) := fun W h2 => ⟨heap_cell4 h2 rfl, heap_cell4 h2 rfl, heap_cell4 h2 rfl⟩
      refine wp_region_noPanic ?_
      refine wp_region_held_drew (S := fun w' => w'.cell? ⟨gx, 0, none⟩ = some (.int .i64 pl) ∧ w'.cell? ⟨gx, 1, none⟩ = some (.int .i64 wd) ∧ w'.cell? ⟨gx, 3, none⟩ = some (.func (.func fp) #[] #[])) (by kernel_rfl) (HSS.out _ HX5.out) (fun hHeld => ?_)
      refine wpAnyH_take (i := 0) (oi := { dst := some 13, op := .fieldAddr 78 (.tmp 5) 3, type := _, pos := _, after := _, guard := none }) (v := .pointer (some ⟨gx, 3, none⟩)) rfl (by kernel_rfl) (by kernel_rfl) (by kernel_rfl) (fun _ _ _ h => h) (Or.inl ⟨by rfl, fun wq hSw => by (try dsimp only at hSw); go_simp⟩) (by assumption) ?_
      try simp only [Act.put, List.setIfInBounds_toArray, List.set_cons_zero, List.set_cons_succ]
      refine wpAnyH_take (i := 1) (oi := { dst := some 14, op := .load 76 (.tmp 13), type := _, pos := _, after := _, guard := none }) (v := .func (.func fp) #[] #[]) rfl (by kernel_rfl) (by kernel_rfl) (by kernel_rfl) (fun _ _ _ h => h) (Or.inl ⟨by rfl, fun wq hSw => by (try dsimp only at hSw); go_simp⟩) (by assumption) ?_
      try simp only [Act.put, List.setIfInBounds_toArray, List.set_cons_zero, List.set_cons_succ]
      refine wpAnyH_take (i := 2) (oi := { dst := some 15, op := .move (.tmp 0), type := _, pos := _, after := _, guard := none }) (v := .slice (some ⟨b, o, none⟩) n c) rfl (by kernel_rfl) (by kernel_rfl) (by kernel_rfl) (fun _ _ _ h => h) (Or.inl ⟨by rfl, fun wq hSw => by (try dsimp only at hSw); go_simp⟩) (by assumption) ?_
      try simp only [Act.put, List.setIfInBounds_toArray, List.set_cons_zero, List.set_cons_succ]
      refine wpAnyH_take (i := 3) (oi := { dst := some 16, op := .fieldAddr 78 (.tmp 5) 0, type := _, pos := _, after := _, guard := none }) (v := .pointer (some ⟨gx, 0, none⟩)) rfl (by kernel_rfl) (by kernel_rfl) (by kernel_rfl) (fun _ _ _ h => h) (Or.inl ⟨by rfl, fun wq hSw => by (try dsimp only at hSw); go_simp⟩) (by assumption) ?_
      try simp only [Act.put, List.setIfInBounds_toArray, List.set_cons_zero, List.set_cons_succ]
      refine wpAnyH_take (i := 4) (oi := { dst := some 17, op := .load 3 (.tmp 16), type := _, pos := _, after := _, guard := none }) (v := .int .i64 pl) rfl (by kernel_rfl) (by kernel_rfl) (by kernel_rfl) (fun _ _ _ h => h) (Or.inl ⟨by rfl, fun wq hSw => by (try dsimp only at hSw); go_simp⟩) (by assumption) ?_
      try simp only [Act.put, List.setIfInBounds_toArray, List.set_cons_zero, List.set_cons_succ]
      refine wpAnyH_take (i := 5) (oi := { dst := some 18, op := .fieldAddr 78 (.tmp 5) 1, type := _, pos := _, after := _, guard := none }) (v := .pointer (some ⟨gx, 1, none⟩)) rfl (by kernel_rfl) (by kernel_rfl) (by kernel_rfl) (fun _ _ _ h => h) (Or.inl ⟨by rfl, fun wq hSw => by (try dsimp only at hSw); go_simp⟩) (by assumption) ?_
      try simp only [Act.put, List.setIfInBounds_toArray, List.set_cons_zero, List.set_cons_succ]
      refine wpAnyH_take (i := 6) (oi := { dst := some 19, op := .load 3 (.tmp 18), type := _, pos := _, after := _, guard := none }) (v := .int .i64 wd) rfl (by kernel_rfl) (by kernel_rfl) (by kernel_rfl) (fun _ _ _ h => h) (Or.inl ⟨by rfl, fun wq hSw => by (try dsimp only at hSw); go_simp⟩) (by assumption) ?_
      try simp only [Act.put, List.setIfInBounds_toArray, List.set_cons_zero, List.set_cons_succ]
      refine wpAnyH_ready (rs := [7]) (by kernel_rfl) (by simp) ?_
      refine AllReadyH.cons (o := { dst := some 20, op := .call { callee := .value (.func 62), args := #[.tmp 15, .tmp 17, .tmp 19], argTypes := #[33, 3, 3] }, type := _, pos := _, after := _, guard := none }) rfl (fun K hK => ?_) AllReadyH.nil
      go_simp
      refine (HG.out pl wd _ HE5.out.below.drew (by have := HK.out.w124; omega) (by have := HK.out.w124; omega) (by have := HK.out.inn; have := HZ.out; omega)).mono ?_
      rintro e w6 ⟨rfl, hw6⟩
      subst w6
      refine hK.out _ _ (HSS.out _ HX5.out) (fun hHeld => ?_)
      clear hK
      try simp only [Act.put, List.setIfInBounds_toArray, List.set_cons_zero, List.set_cons_succ]
      refine wpAnyH_ready (rs := [8]) (by kernel_rfl) (by simp) ?_
      refine AllReadyH.cons (o := { dst := some 21, op := .call { callee := .value (.tmp 14), args := #[.tmp 3, .tmp 20], argTypes := #[98, 71] }, type := _, pos := _, after := _, guard := none }) rfl (fun K hK => ?_) AllReadyH.nil
      go_simp
      refine (HP.out.pt gm _ W5.drew HE5.out.box (HSZ.out k)).mono ?_
      rintro e w7 ⟨rfl, HW7⟩
      have HGX : Hid (gx ≠ gm) := fun e => by
        have h1 := HX5.out
        rw [e, HE5.out.box] at h1
        simp at h1
      have HB7 : Hid (But gm W5.drew w7) := by unfold Hid; rw [HW7.out]; exact But.setCell _ _ _ _
      have HE7 : Hid (FlS w gr gm gn ((fldN (k + 1) zs).cells (.slice none 0 0)) w7) := by
        refine (HE5.out.keep (Below.refl _ _).drew).next HB7.out ?_
        rw [HW7.out, ← HP.out.nx]
        exact heap_setCell (w := W5.drew) HE5.out.box
      have HX7 := hid (keptBut (w := W5.drew) HX5.out HB7.out HGX.out)
      refine hK.out _ _ (HSS.out _ HX7.out) (fun hHeld => ?_)
      clear hK HX5 HE5 HB7 HW7
      try simp only [Act.put, List.setIfInBounds_toArray, List.set_cons_zero, List.set_cons_succ]
      refine wpAnyH_done (by kernel_rfl) ?_ _
      refine NoPanic.normal ?_
      go_wp2
      go_roundw
      case rel => exact ⟨k + 1, by omega, by go_num, HE7⟩
      case measure => simp [intOf]; omega
    · have hge : ¬ (k : Int) < 9 := by omega
      have hk9 : k = 9 := by omega
      subst hk9
      have H18 := hid (HSZ.out 9)
      generalize (fldN 9 zs).cells (.slice none 0 0) = X9 at *
      go_wp2
      go_region_held3 (fun w' => True) (exact trivial) (first
        | (refine step_copyL rfl _ _ rfl ⟨some ⟨b, o + 28, none⟩, c - 28, MZ⟩ (n - 28) (c - 28) gm 9 6 6 _ 28 rfl rfl (by exact HE.out.box) (by exact HMP.out _ HE.out.below.drew) (by rw [HM6.out]; omega) (by exact HM6.out) (by rw [HM6.out]; omega) (by rw [HM6.out, H18.out]; omega) ?_; intro w6 hg6 hb6)
        | fail)
      have HE6 : Hid (FlS w gr gm gn XB w6) := (HE.out.keep (Below.refl _ _).drew).next hb6.out (by rw [← HFB.out]; exact hg6.out)
      clear HE hg6 hb6
      go_wp2_with (first
        | (refine wpList_load_row rfl 28 _ rfl gm rfl 28 XB (0, 0) _ (by exact HE6.out.box) Try.underlying28 rfl (sizeBp.trans HSB.out) ?_)
        | (refine wpList_store_row rfl 28 _ _ rfl gr XB rfl rfl 28 _ HE6.out.res (sizeBp.trans HSB.out) (by have := HSB.out; simp at this; rw [← this]; rfl) HON.out ?_)
        | fail)
      refine bodyPost_ret (v := .agg XB) ?_ (by rfl) ⟨rfl, bbut HE6.out.below (But.setRow _ _ _) HE6.out.low.1⟩
      exact results_row1 Try.results34 _ _ gr 28 _ (0, 0) _ rfl (setRow_heap _ _ _ _ _ _ HE6.out.res) Try.underlying28 rfl (sizeBp.trans HSB.out)
end Go.Proofs.Ytoifblndpcelkaa
