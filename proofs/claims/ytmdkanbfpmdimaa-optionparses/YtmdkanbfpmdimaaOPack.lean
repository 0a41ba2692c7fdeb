/-
  The contract of option.Pack.
-/
import Derived.Test.YtmdkanbfpmdimaaOPkM
namespace Go.Proofs.Ytmdkanbfpmdimaa
open Go.RowKit Go.Shelf
set_option linter.all false
attribute [local go_sem] Oper.semAt_some

/-- Pack's results. -/
theorem pack_leave {n : Nat} {tmps : Array Value} {W : World} {g4 g5 : Nat} {x : Option Addr} {l c : Nat} {e5 : Int} {R : Ending → World → Prop} (ht4 : tmps.getD 4 undef = .pointer (some ⟨g4, 0, none⟩)) (ht5 : tmps.getD 5 undef = .pointer (some ⟨g5, 0, none⟩))
    (h4 : W.cell? ⟨g4, 0, none⟩ = some (.slice x l c)) (h5 : W.cell? ⟨g5, 0, none⟩ = some (.int .i64 e5)) (hR : R (.returned (.tuple #[.slice x l c, .int .i64 e5])) W) : LeavesIn Fence.wide n Try.prog Try.f15 tmps R [] .returning W := by
  have ht4' : tmps[4]?.getD undef = .pointer (some ⟨g4, 0, none⟩) := by simpa using ht4
  have ht5' : tmps[5]?.getD undef = .pointer (some ⟨g5, 0, none⟩) := by simpa using ht5
  exact ⟨_, by simp [results, Try.f15, ht4', ht5', go_sem, h4, h5], hR⟩
theorem postM_ret {n : Nat} {P : Program} {fn : Func} {R : Ending → World → Prop} {a : Act} {w : World} (h : LeavesInM Fence.wide n P fn a.tmps R a.defers .returning w) : bodyPostM Fence.wide n P fn R .ret a w := h
theorem leavesM_nil {n : Nat} {P : Program} {fn : Func} {tmps : Array Value} {R : Ending → World → Prop} {w : World} (h : LeavesIn Fence.wide n P fn tmps R [] .returning w) : LeavesInM Fence.wide n P fn tmps R [] .returning w := h
/-- while nothing is laid yet: the boxes. -/
structure Pk0 (w : World) (room : Int) (n0 : Nat) (W : World) : Prop where
  hr : W.heap[n0]? = some (.cells #[.int .i64 room] 3 (0, 0))
  h4 : W.heap[n0 + 1]? = some (.cells #[.slice none 0 0] 41 (0, 0))
  h5 : W.heap[n0 + 1 + 1]? = some (.cells #[.int .i64 0] 26 (0, 0))
  n0 : n0 = w.heap.size
  below : Below w.heap.size w W
theorem Pk0.new (w : World) (room : Int) : Pk0 w room w.heap.size (((w.alloc (.cells #[.int .i64 room] 3)).alloc (.cells #[.slice none 0 0] 41)).alloc (.cells #[.int .i64 0] 26)) := by
  have h := (((Holds.nil w).push (.cells #[.int .i64 room] 3)).push (.cells #[.slice none 0 0] 41)).push (.cells #[.int .i64 0] 26)
  simp only [World.size_alloc] at h
  exact ⟨h.at 2 _ _ rfl, h.at 1 _ _ rfl, h.at 0 _ _ rfl, rfl, bpush (bpush (bpush (Below.refl _ _) _) _) _⟩
theorem Pk0.step {w W W' : World} {room : Int} {n0 : Nat} (h : Pk0 w room n0 W) (hb : Below W.heap.size W W') : Pk0 w room n0 W' := ⟨kept h.hr hb, kept h.h4 hb, kept h.h5 hb, h.n0, bstep h.below hb⟩
theorem Pk0.start {w w1 : World} {room : Int} {n0 : Nat} (h : Pk0 w room n0 w1) : PkI w n0 (n0 + 1) (n0 + 1 + 1) (w1.heap.size + 1) room (.slice (some ⟨w1.heap.size, 0, none⟩) 0 0) [] ((w1.alloc (.cells #[] 5)).alloc (.cells #[.slice (some ⟨w1.heap.size, 0, none⟩) 0 0] 41)) := by
  have h2 := h.step (bpush (bpush (Below.refl _ _) (.cells #[] 5)) (.cells #[.slice (some ⟨w1.heap.size, 0, none⟩) 0 0] 41))
  have e := h.n0
  have l4 := heap_lt h.h4
  have l5 := heap_lt h.h5
  have hs := h.below.size
  refine ⟨h2.hr, h2.h4, h2.h5, ?_, ?_, fun b hb => ?_, by omega, ⟨by omega, by omega, by omega, by omega⟩, h2.below⟩
  · have := heap_new (w1.alloc (.cells #[] 5)) (.cells #[.slice (some ⟨w1.heap.size, 0, none⟩) 0 0] 41)
    rwa [World.size_alloc] at this
  · exact Row.of_heap (vs := []) ((heap_old _ _ (by simp)).trans (heap_new _ _)) (by simp)
  · simp [Value.ownBlock] at hb
    omega
theorem marksOwn {β : Type} {B Bx : Nat} {Ds : List Nat} (h : ∀ D ∈ Ds, B ≤ D ∧ D < Bx) : OwnFrom (β := β) Bx (fun _ W => ∀ D ∈ Ds, W.heap[D]? = some (.deferred (some []))) := fun s W W' row hs hg hr D hD => by
  rw [hg.block D (heap_lt (hs D hD)) (fun e => by have := (hr D e.symm).1; have := (h D hD).2; omega)]
  exact hs D hD
/-- both results are stored. -/
theorem res_set {W : World} {g4 g5 : Nat} {u4 u5 : Value} {t4 t5 : TypeId} (x y : Value) (h4 : W.heap[g4]? = some (.cells #[u4] t4 (0, 0))) (h5 : W.heap[g5]? = some (.cells #[u5] t5 (0, 0))) (hne : g4 ≠ g5) :
    ((W.setCell ⟨g4, 0, none⟩ x).setCell ⟨g5, 0, none⟩ y).heap[g4]? = some (.cells #[x] t4 (0, 0)) ∧ ((W.setCell ⟨g4, 0, none⟩ x).setCell ⟨g5, 0, none⟩ y).heap[g5]? = some (.cells #[y] t5 (0, 0)) := by
  have h1 := heap_setCell (j := 0) (v := x) h4
  have h2 : (W.setCell ⟨g4, 0, none⟩ x).heap[g5]? = some (.cells #[u5] t5 (0, 0)) := (Below.heap_setCell _ _ _ _ (by simpa using fun e => hne e.symm)).trans h5
  have h3 := heap_setCell (j := 0) (v := y) h2
  refine ⟨(Below.heap_setCell _ _ _ _ (by simpa using hne)).trans ?_, ?_⟩
  · simpa using h1
  · simpa using h3
theorem cell0 {W : World} {g : Nat} {v : Value} {t : TypeId} (h : W.heap[g]? = some (.cells #[v] t (0, 0))) : W.cell? ⟨g, 0, none⟩ = some v := by rw [cell_of_heap h]; rfl
/-- behind some pieces of an option; where there is no more room. -/
def PkJ (w : World) (n0 gb go : Nat) (room cd : Int) (ad : Option Addr) (cp : Nat) (zs z0 : List Int) (Ds : List Nat) (pre : List (Pce ⟨ad, cp, zs⟩)) (W' : World) : Prop :=
  (∃ v, PkI w n0 (n0 + 1) (n0 + 1 + 1) gb room v (z0 ++ (pre.map (fun x => x.1.zs)).flatMap (layP cd)) W' ∧ W'.heap[go]? = some (.cells #[.int .i64 cd, .slice ad zs.length cp] 45 (0, 0))) ∧ (∀ D ∈ Ds, W'.heap[D]? = some (.deferred (some [])))
def PkX (w : World) (n0 : Nat) (room cd : Int) (ad : Option Addr) (cp : Nat) (zs z0 : List Int) (Ds : List Nat) (c : Code) (pre : List (Pce ⟨ad, cp, zs⟩)) (W' : World) : Prop :=
  (c = .ret ∧ room < ((z0 ++ (pre.map (fun x => x.1.zs)).flatMap (layP cd)).length : Int) ∧ W'.heap[n0 + 1]? = some (.cells #[.slice none 0 0] 41 (0, 0)) ∧ W'.heap[n0 + 1 + 1]? = some (.cells #[.int .i64 2] 26 (0, 0)) ∧ Below w.heap.size w W') ∧ (∀ D ∈ Ds, W'.heap[D]? = some (.deferred (some [])))
theorem pkJ_own {w : World} {n0 gb go : Nat} {room cd : Int} {ad : Option Addr} {cp : Nat} {zs z0 : List Int} {Ds : List Nat} {Bx : Nat} (hB : w.heap.size ≤ Bx) (hm : ∀ D ∈ Ds, w.heap.size ≤ D ∧ D < Bx) : OwnFrom Bx (PkJ w n0 gb go room cd ad cp zs z0 Ds) :=
  OwnFrom.and (ownFrom_ck (B := w.heap.size) (fun pre A A' h ck => by obtain ⟨v, hp, hg⟩ := h; exact ⟨v, hp.ck ck, ck.keep _ _ hg (Or.inl rfl)⟩) hB) (marksOwn hm)
theorem pkX_own {w : World} {n0 : Nat} {room cd : Int} {ad : Option Addr} {cp : Nat} {zs z0 : List Int} {Ds : List Nat} {Bx : Nat} (hB : w.heap.size ≤ Bx) (hm : ∀ D ∈ Ds, w.heap.size ≤ D ∧ D < Bx) (c : Code) : OwnFrom Bx (PkX w n0 room cd ad cp zs z0 Ds c) :=
  OwnFrom.and (ownFrom_ck (B := w.heap.size) (fun pre A A' h ck => by obtain ⟨h1, h2, h3, h4, h5⟩ := h; exact ⟨h1, h2, ck.keep _ _ h3 (Or.inl rfl), ck.keep _ _ h4 (Or.inl rfl), h5.trans (ck.below h5.size)⟩) hB) (marksOwn hm)
theorem packA_no {L : List Opt} {room : Int} (h : packE L room ≠ 0) : packA L room = [] := by unfold packA; rw [if_neg h]

set_option maxRecDepth 100000 in
set_option maxHeartbeats 2000000 in
theorem pack_any (a : Option Addr) (c : Nat) (os : List OP) (room : Int) (w : World) (h : OV w a os) (hr : -9223372036854775808 ≤ room ∧ room ≤ 9223372036854775807) (hs : (layL (absO os)).length ≤ 35184372088832) :
    Calls Try.prog 15 #[.slice a os.length c, .int .i64 room] w fun e w' => ∃ ax cx, e = .returned (.tuple #[.slice ax (packA (absO os) room).length cx, .int .i64 (packE (absO os) room)]) ∧ Hid (Ans w w' (packA (absO os) room) ax (packA (absO os) room).length cx) := by
  obtain ⟨n, hn⟩ : ∃ n, n = os.length := ⟨_, rfl⟩
  have HN := hid hn
  have hf := h.few
  have CA := fun wx (hw : Below w.heap.size w wx) => areApart_any a c os wx (h.below hw)
  rw [← hn] at hf CA ⊢
  have HV := hid h
  have HS := hid hs
  have HR := hid hr
  clear h hn hs hr
  refine (callsIn_wide (n := 5)).1 ?_
  refine callsIn_of_wp_marks Try.func15 rfl trivial ?_ rfl
  rw [wpIn_wide]
  simp only [Try.ntmps15, List.size_toArray, List.length_cons, List.length_nil, Nat.reduceAdd, Nat.reduceSub, Array.replicate_succ, Array.replicate_zero, List.push_toArray, List.append_toArray, List.nil_append, List.cons_append]
  obtain ⟨wx, hwx⟩ : ∃ wx, wx = (((w.alloc (.cells #[.int .i64 room] 3)).alloc (.cells #[.slice none 0 0] 41)).alloc (.cells #[.int .i64 0] 26)) := ⟨_, rfl⟩
  have HP0 : Hid (Pk0 w room w.heap.size wx) := by rw [hwx]; exact Pk0.new w room
  obtain ⟨n0, hn0⟩ : ∃ n0, n0 = w.heap.size := ⟨_, rfl⟩
  rw [← hn0] at HP0
  have CB : Calls Try.prog 28 #[.slice a n c] wx fun e w' => e = .returned (.bool (decide (Apart (absO os)))) ∧ w'.cell? ⟨n0, 0, none⟩ = some (.int .i64 room) ∧ w'.cell? ⟨n0 + 1, 0, none⟩ = some (.slice none 0 0) ∧ w'.cell? ⟨n0 + 1 + 1, 0, none⟩ = some (.int .i64 0) ∧
      w'.frozen? ⟨n0 + 1, 0, none⟩ = false ∧ w'.frozen? ⟨n0 + 1 + 1, 0, none⟩ = false ∧ Hid (Pk0 w room n0 w') := by
    refine (CA wx HP0.out.below).mono ?_
    rintro e w' ⟨he, hb⟩
    have h1 := HP0.out.step hb.out
    exact ⟨he, by rw [cell_of_heap h1.hr]; rfl, by rw [cell_of_heap h1.h4]; rfl, by rw [cell_of_heap h1.h5]; rfl, frozen_of_heap h1.h4 0, frozen_of_heap h1.h5 0, h1⟩
  clear CA
  have h45 : n0 + 1 ≠ n0 + 1 + 1 := by omega
  by_cases hA : Apart (absO os)
  · have hd : decide (Apart (absO os)) = true := by simpa using hA
    rw [hd] at CB
    have HA := hid hA
    clear hd hA
    by_cases hm : 64 < n
    · have hm' : (64 : Int) < n := by omega
      have HE : Hid (packE (absO os) room = 2) := hid (by unfold packE; rw [if_pos HA.out, if_pos (by rw [absO_len, ← HN.out]; exact hm)])
      go_wp2_with (first
        | (go_at_call 28; rw [← hwx, ← hn0]; refine CB.mono ?_; clear hwx hn0 CB; rintro e w1 ⟨rfl, cr, c4, c5, f4, f5, H0⟩))
      refine postM_ret (leavesM_nil (pack_leave (g4 := n0 + 1) (g5 := n0 + 1 + 1) rfl rfl (x := none) (l := 0) (c := 0) (e5 := 2) ?_ ?_ ?_))
      · exact cell0 (res_set _ _ H0.out.h4 H0.out.h5 h45).1
      · exact cell0 (res_set _ _ H0.out.h4 H0.out.h5 h45).2
      · have e0 := packA_no (L := absO os) (room := room) (by rw [HE.out]; decide)
        refine ⟨none, 0, by rw [HE.out, e0]; rfl, ?_⟩
        rw [e0]
        exact ans_nil (bbut (bbut H0.out.below (But.setCell _ _ _ _) (by have := H0.out.n0; omega)) (But.setCell _ _ _ _) (by have := H0.out.n0; omega))
    · have hm' : ¬ (64 : Int) < n := by omega
      go_wp2_with (first
        | (go_at_call 28; rw [← hwx, ← hn0]; refine CB.mono ?_; clear hwx hn0 CB; rintro e w1 ⟨rfl, cr, c4, c5, f4, f5, H0⟩))
      obtain ⟨gb, hgb⟩ : ∃ gb, gb = w1.heap.size + 1 := ⟨_, rfl⟩
      have HP : Hid (PkI w n0 (n0 + 1) (n0 + 1 + 1) gb room (.slice (some ⟨w1.heap.size, 0, none⟩) 0 0) [] ((w1.alloc (.cells #[] 5)).alloc (.cells #[.slice (some ⟨w1.heap.size, 0, none⟩) 0 0] 41))) := by rw [hgb]; exact H0.out.start
      rw [← hgb]
      generalize (w1.alloc (.cells #[] 5)).alloc (.cells #[.slice (some ⟨w1.heap.size, 0, none⟩) 0 0] 41) = W0 at HP ⊢
      generalize (Value.slice (some ⟨w1.heap.size, 0, none⟩) 0 0) = V16 at HP ⊢
      generalize Value.bool (decide ((64 : Int) < (n : Int))) = V15
      clear hgb cr c4 c5 f4 f5 H0 w1
      refine wp_loop (fun a' w' => ∃ (k : Nat) (Ds : List Nat) (v : Value) (u8 u9 u20 u21 u22 u23 u24 u25 u26 u27 u28 u29 u30 u31 u32 u33 u34 u35 u36 u37 u38 u39 u40 u41 u42 u43 : Value), k ≤ n ∧ Hid (PkI w n0 (n0 + 1) (n0 + 1 + 1) gb room v (layL (absO (os.take k))) w') ∧ Hid (Ds.Nodup ∧ ∀ D ∈ Ds, w.heap.size ≤ D ∧ w'.heap[D]? = some (.deferred (some []))) ∧ a' = { tmps := #[.slice a n c, .int .i64 room, undef, .pointer (some ⟨n0, 0, none⟩), .pointer (some ⟨n0 + 1, 0, none⟩), .pointer (some ⟨n0 + 1 + 1, 0, none⟩), .pointer (some ⟨gb, 0, none⟩), undef, u8, u9, .slice a n c, .bool true, .bool false, .slice a n c, .int .i64 n, V15, V16, .slice a n c, .int .i64 n, .int .i64 k, u20, u21, u22, u23, u24, u25, u26, u27, u28, u29, u30, u31, u32, u33, u34, u35, u36, u37, u38, u39, u40, u41, u42, u43, undef, undef, undef, undef, undef, undef, undef, undef], defers := Ds.map (fun D => { target := .collected D, args := #[] }) }) (fun a' _ => n - (intOf (a'.tmps.getD 19 undef)).toNat) ?_ ?_
      · exact ⟨0, [], V16, undef, undef, undef, undef, undef, undef, undef, undef, undef, undef, undef, undef, undef, undef, undef, undef, undef, undef, undef, undef, undef, undef, undef, undef, undef, undef, Nat.zero_le _, HP.out, ⟨by simp, by simp⟩, rfl⟩
      · clear HP
        rintro a' W ⟨k, Ds, v, u8, u9, u20, u21, u22, u23, u24, u25, u26, u27, u28, u29, u30, u31, u32, u33, u34, u35, u36, u37, u38, u39, u40, u41, u42, u43, hk, HP, HM, rfl⟩
        clear W0
        by_cases hlt : k < n
        · have hlt' : (k : Int) < n := by omega
          obtain ⟨⟨cd, ad, cp, zs⟩, ho⟩ : ∃ o, os[k]? = some o := ⟨os[k]'(by rw [← HN.out]; exact hlt), List.getElem?_eq_getElem _⟩
          obtain ⟨b, off, ea, c0, c1⟩ := (HV.out.below HP.out.below).cell k _ ho
          simp only [Part.val] at c0 c1
          subst ea
          have HO := hid ho
          have HT : Hid (absO (os.take (k + 1)) = absO (os.take k) ++ [(cd, zs)]) := absO_take ho
          have CP := fun wx => pieces_any ⟨ad, cp, zs⟩ wx
          simp only [Part.val] at CP
          clear ho
          go_wp2_with (first
            | (go_at_call 29; refine (CP _).mono ?_; rintro e w2 ⟨rfl, rfl⟩))
          obtain ⟨W2, hW2⟩ : ∃ W2, W2 = (W.alloc (.cells #[.int .i64 cd, .slice ad zs.length cp] 45)).alloc (.cells #[.slice ad zs.length cp] 41) := ⟨_, rfl⟩
          have HP2 : Hid (PkI w n0 (n0 + 1) (n0 + 1 + 1) gb room v (layL (absO (os.take k))) W2) := by rw [hW2]; exact (HP.out.alloc _).alloc _
          obtain ⟨go, hgo⟩ : ∃ go, go = W.heap.size := ⟨_, rfl⟩
          obtain ⟨gp, hgp⟩ : ∃ gp, gp = go + 1 := ⟨_, rfl⟩
          have HGO : Hid (W2.heap[go]? = some (.cells #[.int .i64 cd, .slice ad zs.length cp] 45 (0, 0))) := by rw [hW2, hgo]; exact (heap_old _ _ (by simp)).trans (heap_new _ _)
          have HGP : Hid (W2.heap[gp]? = some (.cells #[.slice ad zs.length cp] 41 (0, 0))) := by
            rw [hW2, hgp, hgo]
            have := heap_new (W.alloc (.cells #[.int .i64 cd, .slice ad zs.length cp] 45)) (.cells #[.slice ad zs.length cp] 41)
            rwa [World.size_alloc] at this
          have HM2 : Hid (∀ D ∈ Ds, W2.heap[D]? = some (.deferred (some []))) := fun D hD => by
            have h1 := (HM.out.2 D hD).2
            rw [hW2]
            exact (heap_old _ _ (by have := heap_lt h1; simp; omega)).trans ((heap_old _ _ (heap_lt h1)).trans h1)
          have HML : Hid (∀ D ∈ Ds, w.heap.size ≤ D ∧ D < W2.heap.size) := fun D hD => ⟨(HM.out.2 D hD).1, heap_lt (HM2.out D hD)⟩
          have HPO := HV.out.oks _ (List.mem_of_getElem? HO.out)
          have HOK : Hid (Part.ok w ⟨ad, cp, zs⟩) := HPO.1
          have hzl : zs.length ≤ 140737488353280 := HPO.2
          have hgob : go ≠ gb := fun e => by
            have := HGO.out
            rw [e, HP2.out.hb] at this
            simp at this
          rw [← hW2, ← hgo, ← hgp]
          clear hW2 hgo hgp HPO c0 c1 CP
          have HWS : Hid (w.heap.size ≤ W2.heap.size) := HP2.out.below.size
          have HMN : Hid Ds.Nodup := HM.out.1
          clear HP HM
          clear W
          have HCD := apart_snoc.1 (by rw [← HT.out]; exact apart_cut (k + 1) HA.out)
          obtain ⟨hc1, hc2⟩ := HCD.2.1
          simp only at hc1 hc2
          have hlay : (layL (absO (os.take k))).length + (layO (cd, zs)).length ≤ 35184372088832 := by
            have e1 : absO os = absO (os.take (k + 1)) ++ absO (os.drop (k + 1)) := by unfold absO; rw [← List.map_append, List.take_append_drop]
            have e2 := HS.out
            rw [e1, HT.out, layL_app, layL_app] at e2
            simp only [List.length_append] at e2
            have e3 : (layL [(cd, zs)]).length = (layO (cd, zs)).length := by simp [layL]
            omega
          have hlo := layO_len (cd, zs)
          simp only at hlo
          have HLAY := hid hlay
          have HLO := hid hlo
          clear hlay hlo HCD
          rw [← wpIn_wide (n := 5)]
          refine wpIn_rangeFunc_ownG (α := Pce ⟨ad, cp, zs⟩) rfl (by omega) (gf := 36) (lb := #[.pointer (some ⟨gp, 0, none⟩)]) rfl trivial (enters_of Try.func36 (by kernel_rfl) rfl)
            (pieces_stops 4 (by omega) ⟨ad, cp, zs⟩ W2 (Part.ok_below HOK.out HP2.out.below) hzl gp (heap_lt HGP.out) (by rw [cell_of_heap HGP.out]; rfl)) (fun _ _ => trivial) (fun _ _ _ _ _ _ _ _ => trivial) (Below.refl _ _) (fun _ => rfl)
            (PkJ w n0 gb go room cd ad cp zs (layL (absO (os.take k))) Ds) (PkX w n0 room cd ad cp zs (layL (absO (os.take k))) Ds)
            (pkJ_own HWS.out HML.out) (pkX_own HWS.out HML.out)
            ⟨⟨v, by simpa using HP2.out, HGO.out⟩, HM2.out⟩
            (fun x => { tmps := #[.slice (some ⟨b, off, none⟩) n c, .int .i64 room, undef, .pointer (some ⟨n0, 0, none⟩), .pointer (some ⟨n0 + 1, 0, none⟩), .pointer (some ⟨n0 + 1 + 1, 0, none⟩), .pointer (some ⟨gb, 0, none⟩), undef, .pointer (some ⟨go, 0, none⟩), .slice x.1.a x.1.zs.length x.1.c, .slice (some ⟨b, off, none⟩) n c, .bool true, .bool false, .slice (some ⟨b, off, none⟩) n c, .int .i64 n, V15, V16, .slice (some ⟨b, off, none⟩) n c, .int .i64 n, .int .i64 k, .bool true, .pointer (some ⟨b, off + k * 2, none⟩), .agg #[.int .i64 cd, .slice ad zs.length cp], .pointer (some ⟨go, 1, none⟩), .slice ad zs.length cp, .func (.func 36) #[] #[.pointer (some ⟨gp, 0, none⟩)], .slice x.1.a x.1.zs.length x.1.c, u27, u28, u29, u30, u31, u32, u33, u34, u35, u36, u37, u38, u39, u40, u41, u42, u43, undef, undef, undef, undef, undef, undef, undef, undef], defers := [] }) ?assign ?body ?done ?stop
          case assign =>
            intro l x W' K hK
            simp only [Part.val]
            gi_wp2
            exact hK
          case body =>
            rintro l pre ⟨⟨xa, xc, xz⟩, hx⟩ W' ⟨⟨v', hp, hg⟩, hm⟩ hpl
            obtain ⟨xok, xln⟩ := chopP_ok HOK.out hx
            simp only at xln
            have XOK := hid xok
            have hcd : cd % 256 = cd := by omega
            have hxl : (xz.length : Int) % 256 = (xz.length : Int) := by omega
            obtain ⟨z0, hz0⟩ : ∃ z0, z0 = layL (absO (os.take k)) ++ (pre.map (fun x => x.1.zs)).flatMap (layP cd) := ⟨_, rfl⟩
            have HZN : Hid (layL (absO (os.take k)) ++ ((pre ++ [(⟨⟨xa, xc, xz⟩, hx⟩ : Pce ⟨ad, cp, zs⟩)]).map (fun x => x.1.zs)).flatMap (layP cd) = z0 ++ ([cd, (xz.length : Int)] ++ xz)) := hid (by rw [hz0]; simp [layP])
            have hzlen : z0.length ≤ 105553116266496 := by
              have e1 : (layL (absO (os.take k))).length ≤ 35184372088832 := by have := HLAY.out; omega
              have e2 : ((pre.map (fun x => x.1.zs)).flatMap (layP cd)).length ≤ pre.length * 257 := by
                have : ∀ l : List (Pce ⟨ad, cp, zs⟩), ((l.map (fun x => x.1.zs)).flatMap (layP cd)).length ≤ l.length * 257 := by
                  intro l
                  induction l with
                  | nil => simp
                  | cons y l ih =>
                    have := (chopP_ok HOK.out y.2).2
                    simp only [List.map_cons, List.flatMap_cons, List.length_append, layP_len, List.length_cons]
                    omega
                exact this pre
              have e3 : (chopP (⟨ad, cp, zs⟩ : Part)).length = pieceN zs.length := by
                have := congrArg List.length (chopP_zs (⟨ad, cp, zs⟩ : Part))
                rw [List.length_map, chop_len] at this
                exact this
              have e4 := HLO.out
              have e5 := HLAY.out
              rw [e3] at hpl
              unfold pieceN at hpl e4
              rw [hz0, List.length_append]
              omega
            rw [← hz0] at hp
            have HX2 := hid hz0
            clear hz0
            have HPK := hid hp
            have HMK := hid hm
            have HGK := hid hg
            have hpa := hp.alloc (.cells #[.int .u8 cd, .int .u8 (xz.length : Int)] 5)
            obtain ⟨a1, c1, w1, r1, cc1, ff1, H1⟩ := hpa.app ⟨some ⟨W'.heap.size, 0, none⟩, 2, [cd, (xz.length : Int)]⟩ (Part.of_row (heap_new W' _) (by simp) (by simp; omega)) (by simp; omega)
            obtain ⟨a2, c2, w3, r2, cc2, ff2, H2⟩ := H1.out.1.app ⟨xa, xc, xz⟩ (Part.ok_below XOK.out H1.out.1.below) (by simp; omega)
            simp only [Part.val, List.length_cons, List.length_nil, Nat.zero_add, Nat.reduceAdd] at r1 r2 cc2 H1 H2
            simp only [List.length_append, List.length_cons, List.length_nil, Nat.zero_add, Nat.reduceAdd] at r2 H2
            have HR1 := hid r1
            have HR2 := hid r2
            have gcell : W'.cell? ⟨gb, 0, none⟩ = some v' := cell0 hp.hb
            have ocell : W'.cell? ⟨go, 0, none⟩ = some (.int .i64 cd) := by rw [cell_of_heap hg]; rfl
            obtain ⟨N2, hN2⟩ : ∃ N2 : Nat, N2 = z0.length + 2 + xz.length := ⟨_, rfl⟩
            obtain ⟨N1, hN1⟩ : ∃ N1 : Nat, N1 = z0.length + 2 := ⟨_, rfl⟩
            rw [← hN1] at HR1 HR2 cc2 H1 H2 hN2
            rw [← hN2] at HR2 H2
            have W4P := H2.out.1
            have rcell : (w3.setCell ⟨gb, 0, none⟩ (.slice a2 N2 c2)).cell? ⟨n0, 0, none⟩ = some (.int .i64 room) := cell0 W4P.hr
            have k4 : (w3.setCell ⟨gb, 0, none⟩ (.slice a2 N2 c2)).cell? ⟨n0 + 1, 0, none⟩ = some (.slice none 0 0) := cell0 W4P.h4
            have k5 : (w3.setCell ⟨gb, 0, none⟩ (.slice a2 N2 c2)).cell? ⟨n0 + 1 + 1, 0, none⟩ = some (.int .i64 0) := cell0 W4P.h5
            have kf4 : (w3.setCell ⟨gb, 0, none⟩ (.slice a2 N2 c2)).frozen? ⟨n0 + 1, 0, none⟩ = false := frozen_of_heap W4P.h4 0
            have kf5 : (w3.setCell ⟨gb, 0, none⟩ (.slice a2 N2 c2)).frozen? ⟨n0 + 1 + 1, 0, none⟩ = false := frozen_of_heap W4P.h5 0
            have kb : (w3.setCell ⟨gb, 0, none⟩ (.slice a2 N2 c2)).cell? ⟨gb, 0, none⟩ = some (.slice a2 N2 c2) := cell0 W4P.hb
            have HN2 : Hid ((z0 ++ ([cd, (xz.length : Int)] ++ xz)).length = N2) := hid (by simp; omega)
            have HK4 : Hid (KeepsOthers W' (w3.setCell ⟨gb, 0, none⟩ (.slice a2 N2 c2))) := ((KeepsOthers.alloc W' _).trans H1.out.2.1).trans H2.out.2.1
            have HG4 : Hid ((w3.setCell ⟨gb, 0, none⟩ (.slice a2 N2 c2)).heap[go]? = some (.cells #[.int .i64 cd, .slice ad zs.length cp] 45 (0, 0))) := by
              refine H2.out.2.2 go _ _ _ (H1.out.2.2 go _ _ _ ((heap_old _ _ (heap_lt hg)).trans hg) (by decide) hgob) (by decide) hgob
            have HP4 : Hid (PkI w n0 (n0 + 1) (n0 + 1 + 1) gb room (.slice a2 N2 c2) (z0 ++ ([cd, (xz.length : Int)] ++ xz)) (w3.setCell ⟨gb, 0, none⟩ (.slice a2 N2 c2))) := by
              have := H2.out.1
              rw [List.append_assoc] at this
              exact this
            have hN2m : N2 ≤ 140737488355328 := by omega
            clear r1 r2 H1 H2 hp hm hg hpa W4P hN1 hN2
            have hmx : Try.prog.follows .mixedOrders = true := by kernel_rfl
            by_cases hgt : room < (N2 : Int)
            · gi_wp2_with (first
                | (gi_at_builtin; refine wpListIn_append_run _ rfl _ _ _ _ rfl _ _ rfl rfl HR1.out ?_; clear HR1)
                | (gi_at_builtin; refine wpListIn_append_run _ rfl _ _ _ _ rfl _ _ rfl rfl HR2.out ?_; clear HR2))
              have rs := res_set (.slice none 0 0) (.int .i64 2) HP4.out.h4 HP4.out.h5 h45
              have ko := HK4.out.trans ((KeepsOthers.setCell _ ⟨n0 + 1, 0, none⟩ (.slice none 0 0)).trans (KeepsOthers.setCell _ ⟨n0 + 1 + 1, 0, none⟩ (.int .i64 2)))
              exact ⟨ko.from _, ⟨rfl, by rw [HZN.out, HN2.out]; exact hgt, rs.1, rs.2, bbut (bbut HP4.out.below (But.setCell _ _ _ _) HP4.out.lo.2.1) (But.setCell _ _ _ _) HP4.out.lo.2.2.1⟩, fun D hD => ko.same D _ (HMK.out D hD) rfl⟩
            · gi_wp2_with (first
                | (gi_at_builtin; refine wpListIn_append_run _ rfl _ _ _ _ rfl _ _ rfl rfl HR1.out ?_; clear HR1)
                | (gi_at_builtin; refine wpListIn_append_run _ rfl _ _ _ _ rfl _ _ rfl rfl HR2.out ?_; clear HR2))
              have hI4 : PkI w n0 (n0 + 1) (n0 + 1 + 1) gb room (.slice a2 N2 c2) (layL (absO (os.take k)) ++ ((pre ++ [(⟨⟨xa, xc, xz⟩, hx⟩ : Pce ⟨ad, cp, zs⟩)]).map (fun x => x.1.zs)).flatMap (layP cd)) (w3.setCell ⟨gb, 0, none⟩ (.slice a2 N2 c2)) := by rw [HZN.out]; exact HP4.out
              have hm4 : ∀ D ∈ Ds, (w3.setCell ⟨gb, 0, none⟩ (.slice a2 N2 c2)).heap[D]? = some (.deferred (some [])) := fun D hD => HK4.out.same D _ (HMK.out D hD) rfl
              exact ⟨HK4.out.from _, trivial, ⟨⟨_, hI4, HG4.out⟩, hm4⟩⟩
          case done =>
            rintro D ys W' hD hS ⟨⟨v', hp, hg⟩, hm⟩ hK
            have HPD : Hid (PkI w n0 (n0 + 1) (n0 + 1 + 1) gb room v' (layL (absO (os.take (k + 1)))) W') := by
              have e1 : ys.map (fun x => x.1.zs) = chop zs := by
                have := chopP_zs (⟨ad, cp, zs⟩ : Part)
                rw [← hS, List.map_map] at this
                exact this
              rw [HT.out, layL_app]
              rw [e1] at hp
              have e2 : layL [(cd, zs)] = (chop zs).flatMap (layP cd) := by simp [layL, layO]
              rw [e2]
              exact hp
            have HMD : Hid ((D :: Ds).Nodup ∧ ∀ x ∈ (D :: Ds), w.heap.size ≤ x ∧ W'.heap[x]? = some (.deferred (some []))) := by
              refine ⟨List.nodup_cons.2 ⟨fun hin => by have := (HML.out D hin).2; omega, HMN.out⟩, fun x hx => ?_⟩
              rcases List.mem_cons.1 hx with rfl | hx
              · exact ⟨Nat.le_trans HWS.out hD, hK⟩
              · exact ⟨(HML.out x hx).1, hm x hx⟩
            clear hp hg hm hK hS
            dsimp only
            go_wp2
            refine ⟨⟨k + 1, D :: Ds, v', _, _, _, _, _, _, _, _, _, _, _, _, _, _, _, _, _, _, _, _, _, _, _, _, _, _, by omega, HPD.out, HMD.out, by first | rfl | simp⟩, ?_⟩
            simp [intOf]
            omega
          case stop =>
            rintro D c pre W' hD hSp ⟨⟨rfl, hgt, h4, h5, hb⟩, hm⟩ hK
            have HE : packE (absO os) room = 2 := by
              have e1 : ((pre.map (fun x => x.1.zs)).flatMap (layP cd)).length ≤ (layO (cd, zs)).length := by
                obtain ⟨t, ht⟩ := hSp
                have e2 := chopP_zs (⟨ad, cp, zs⟩ : Part)
                rw [← ht, List.map_append, List.map_map] at e2
                simp only at e2
                unfold layO
                simp only [← e2, List.flatMap_append, List.length_append]
                exact Nat.le_add_right _ _
              have e3 : absO os = absO (os.take (k + 1)) ++ absO (os.drop (k + 1)) := by unfold absO; rw [← List.map_append, List.take_append_drop]
              have e4 : (layL [(cd, zs)]).length = (layO (cd, zs)).length := by simp [layL]
              have e5 : (packB (absO os)).length = (layL (absO (os.take k))).length + (layO (cd, zs)).length + (layL (absO (os.drop (k + 1)))).length + 1 := by
                unfold packB
                rw [e3, HT.out, layL_app, layL_app]
                simp only [List.length_append, List.length_cons, List.length_nil]
                omega
              rw [List.length_append] at hgt
              unfold packE
              rw [if_pos HA.out, if_neg (by rw [absO_len, ← HN.out]; omega), if_pos (by omega)]
            have HMD : Marks w.heap.size ({ target := .collected D, args := #[] } :: Ds.map (fun D => { target := .collected D, args := #[] })) W' := by
              refine ⟨D :: Ds, rfl, List.nodup_cons.2 ⟨fun hin => by have := (HML.out D hin).2; omega, HMN.out⟩, fun x hx => ?_⟩
              rcases List.mem_cons.1 hx with rfl | hx
              · exact ⟨Nat.le_trans HWS.out hD, hK⟩
              · exact ⟨(HML.out x hx).1, hm x hx⟩
            refine wpIn_ret ?_
            refine postM_ret (HMD.leave fun W'' ck => pack_leave (g4 := n0 + 1) (g5 := n0 + 1 + 1) rfl rfl (cell0 (ck.keep _ _ h4 (Or.inl rfl))) (cell0 (ck.keep _ _ h5 (Or.inl rfl))) ?_)
            have e0 := packA_no (L := absO os) (room := room) (by rw [HE]; decide)
            refine ⟨none, 0, by rw [HE, e0]; rfl, ?_⟩
            rw [e0]
            exact ans_nil (hb.trans (ck.below hb.size))
        · have hge : ¬ (k : Int) < n := by omega
          have hkn : k = n := by omega
          have etk : os.take k = os := by rw [hkn, HN.out]; simp
          have hp := HP.out
          rw [etk] at hp
          have hpa := hp.alloc (.cells #[.int .u8 255] 5)
          have hlz := HS.out
          obtain ⟨a1, c1, w1, r1, cc1, ff1, H1⟩ := hpa.app ⟨some ⟨W.heap.size, 0, none⟩, 1, [255]⟩ (Part.of_row (heap_new W _) (by simp) (by simp)) (by simp; omega)
          simp only [Part.val, List.length_cons, List.length_nil, Nat.zero_add] at r1 H1
          have HR1 := hid r1
          obtain ⟨N1, hN1⟩ : ∃ N1 : Nat, N1 = (layL (absO os)).length + 1 := ⟨_, rfl⟩
          rw [← hN1] at HR1 H1
          have HNB : Hid ((packB (absO os)).length = N1) := hid (by unfold packB; simp; omega)
          have HM1 : Hid (∀ D ∈ Ds, (w1.setCell ⟨gb, 0, none⟩ (.slice a1 N1 c1)).heap[D]? = some (.deferred (some []))) := fun D hD => ((KeepsOthers.alloc W _).trans H1.out.2.1).same D _ (HM.out.2 D hD).2 rfl
          have HMN : Hid (Ds.Nodup ∧ ∀ D ∈ Ds, w.heap.size ≤ D) := ⟨HM.out.1, fun D hD => (HM.out.2 D hD).1⟩
          have HP4 : Hid (PkI w n0 (n0 + 1) (n0 + 1 + 1) gb room (.slice a1 N1 c1) (packB (absO os)) (w1.setCell ⟨gb, 0, none⟩ (.slice a1 N1 c1))) := H1.out.1
          have W4P := HP4.out
          have gcell : W.cell? ⟨gb, 0, none⟩ = some v := cell0 hp.hb
          have rcell : (w1.setCell ⟨gb, 0, none⟩ (.slice a1 N1 c1)).cell? ⟨n0, 0, none⟩ = some (.int .i64 room) := cell0 W4P.hr
          have k4 : (w1.setCell ⟨gb, 0, none⟩ (.slice a1 N1 c1)).cell? ⟨n0 + 1, 0, none⟩ = some (.slice none 0 0) := cell0 W4P.h4
          have k5 : (w1.setCell ⟨gb, 0, none⟩ (.slice a1 N1 c1)).cell? ⟨n0 + 1 + 1, 0, none⟩ = some (.int .i64 0) := cell0 W4P.h5
          have kf4 : (w1.setCell ⟨gb, 0, none⟩ (.slice a1 N1 c1)).frozen? ⟨n0 + 1, 0, none⟩ = false := frozen_of_heap W4P.h4 0
          have kf5 : (w1.setCell ⟨gb, 0, none⟩ (.slice a1 N1 c1)).frozen? ⟨n0 + 1 + 1, 0, none⟩ = false := frozen_of_heap W4P.h5 0
          have kb : (w1.setCell ⟨gb, 0, none⟩ (.slice a1 N1 c1)).cell? ⟨gb, 0, none⟩ = some (.slice a1 N1 c1) := cell0 W4P.hb
          have hN1m : N1 ≤ 140737488355328 := by omega
          clear r1 H1 hp hpa W4P hN1 hlz etk HP
          have fin : ∀ (x : Value) (e5 : Int), Hid (Marks w.heap.size (Ds.map (fun D => { target := .collected D, args := #[] })) (((w1.setCell ⟨gb, 0, none⟩ (.slice a1 N1 c1)).setCell ⟨n0 + 1, 0, none⟩ x).setCell ⟨n0 + 1 + 1, 0, none⟩ (.int .i64 e5))) := fun x e5 =>
            ⟨Ds, rfl, HMN.out.1, fun D hD => ⟨HMN.out.2 D hD, ((KeepsOthers.setCell _ ⟨n0 + 1, 0, none⟩ x).trans (KeepsOthers.setCell _ ⟨n0 + 1 + 1, 0, none⟩ (.int .i64 e5))).same D _ (HM1.out D hD) rfl⟩⟩
          clear HM1 HMN HM
          by_cases hgt : room < (N1 : Int)
          · go_wp2_with (first
              | (at_builtin; refine wpList_append_run _ rfl _ _ _ _ rfl _ _ rfl rfl HR1.out ?_; clear HR1))
            have rs := res_set (.slice none 0 0) (.int .i64 2) HP4.out.h4 HP4.out.h5 h45
            have HE : packE (absO os) room = 2 := by
              unfold packE
              rw [if_pos HA.out, if_neg (by rw [absO_len, ← HN.out]; omega), if_pos (by rw [HNB.out]; exact hgt)]
            refine postM_ret ((fin _ _).out.leave fun W'' ck => pack_leave (g4 := n0 + 1) (g5 := n0 + 1 + 1) rfl rfl (cell0 (ck.keep _ _ rs.1 (Or.inl rfl))) (cell0 (ck.keep _ _ rs.2 (Or.inl rfl))) ?_)
            have e0 := packA_no (L := absO os) (room := room) (by rw [HE]; decide)
            refine ⟨none, 0, by rw [HE, e0]; rfl, ?_⟩
            rw [e0]
            have hb := bbut (bbut HP4.out.below (But.setCell (n0 + 1) _ 0 (.slice none 0 0)) HP4.out.lo.2.1) (But.setCell (n0 + 1 + 1) _ 0 (.int .i64 2)) HP4.out.lo.2.2.1
            exact ans_nil (hb.trans (ck.below hb.size))
          · go_wp2_with (first
              | (at_builtin; refine wpList_append_run _ rfl _ _ _ _ rfl _ _ rfl rfl HR1.out ?_; clear HR1))
            have rs := res_set (.slice a1 N1 c1) (.int .i64 0) HP4.out.h4 HP4.out.h5 h45
            have HE : packE (absO os) room = 0 := by
              unfold packE
              rw [if_pos HA.out, if_neg (by rw [absO_len, ← HN.out]; omega), if_neg (by rw [HNB.out]; omega)]
            refine postM_ret ((fin _ _).out.leave fun W'' ck => pack_leave (g4 := n0 + 1) (g5 := n0 + 1 + 1) rfl rfl (cell0 (ck.keep _ _ rs.1 (Or.inl rfl))) (cell0 (ck.keep _ _ rs.2 (Or.inl rfl))) ?_)
            have e0 : packA (absO os) room = packB (absO os) := by unfold packA; rw [if_pos HE]
            have hb := bbut (bbut HP4.out.below (But.setCell (n0 + 1) _ 0 (.slice a1 N1 c1)) HP4.out.lo.2.1) (But.setCell (n0 + 1 + 1) _ 0 (.int .i64 0)) HP4.out.lo.2.2.1
            rw [e0, HE, HNB.out]
            refine ⟨a1, c1, rfl, ?_, HP4.out.low, hb.trans (ck.below hb.size)⟩
            have keepB : ∀ (b : Nat), (Value.slice a1 N1 c1).ownBlock = some b → W''.heap[b]? = (w1.setCell ⟨gb, 0, none⟩ (.slice a1 N1 c1)).heap[b]? := fun b hb => by
              obtain ⟨cur, f, hc⟩ := HP4.out.row.obj hb
              rw [hc]
              refine ck.keep _ _ ?_ (Or.inl rfl)
              rw [Below.heap_setCell _ _ _ _ (fun e => ?_), Below.heap_setCell _ _ _ _ (fun e => ?_)]
              · exact hc
              · have := HP4.out.h4
                simp only at e
                rw [← e, hc] at this
                simp at this
              · have := HP4.out.h5
                simp only at e
                rw [← e, hc] at this
                simp at this
            exact HP4.out.row.keep keepB
  · have hd : decide (Apart (absO os)) = false := by simpa using hA
    rw [hd] at CB
    have HE : Hid (packE (absO os) room = 150) := hid (by unfold packE; rw [if_neg hA])
    clear hd hA
    go_wp2_with (first
      | (go_at_call 28; rw [← hwx, ← hn0]; refine CB.mono ?_; clear hwx hn0 CB; rintro e w1 ⟨rfl, cr, c4, c5, f4, f5, H0⟩))
    refine postM_ret (leavesM_nil (pack_leave (g4 := n0 + 1) (g5 := n0 + 1 + 1) rfl rfl (x := none) (l := 0) (c := 0) (e5 := 150) ?_ ?_ ?_))
    · exact cell0 (res_set _ _ H0.out.h4 H0.out.h5 h45).1
    · exact cell0 (res_set _ _ H0.out.h4 H0.out.h5 h45).2
    · have e0 := packA_no (L := absO os) (room := room) (by rw [HE.out]; decide)
      refine ⟨none, 0, by rw [HE.out, e0]; rfl, ?_⟩
      rw [e0]
      exact ans_nil (bbut (bbut H0.out.below (But.setCell _ _ _ _) (by have := H0.out.n0; omega)) (But.setCell _ _ _ _) (by have := H0.out.n0; omega))
end Go.Proofs.Ytmdkanbfpmdimaa
