/-
  The statements' own function awake: the chapter's examples.
-/
import Derived.Test.YtlephdpplfpliaaDEq
import Derived.Lib.SlBytesConst
namespace Go.Proofs.Ytlephdpplfpliaa
open Go.RowKit
set_option linter.unusedVariables false
set_option linter.unusedSimpArgs false

theorem cell_of_heap' {w : World} {g : Nat} {cs : Array Value} {t : TypeId} {f : Nat × Nat} (h : w.heap[g]? = some (.cells cs t f)) (j : Nat) : w.cell? ⟨g, j, none⟩ = cs[j]? := by
  simp [World.cell?, h]
theorem part_of_heap (g : Nat) (zs : List Int) (w : World) (t : TypeId) (f : Nat × Nat) (hg : w.heap[g]? = some (.cells (u8s zs).toArray t f)) (hz : ∀ z, z ∈ zs → 0 ≤ z ∧ z ≤ 255) : Part.ok w ⟨some ⟨g, 0, none⟩, zs.length, zs⟩ :=
  ⟨hz, Nat.le_refl _, Or.inr ⟨g, 0, rfl, fun j hj => by rw [cell_of_heap' hg, Nat.zero_add, u8s_at _ _ hj]⟩⟩
theorem sum0 (w : World) : Calls Try.prog 8 #[.slice none 0 0] w fun e w' => e = .returned (.agg (u8s (sha [])).toArray) ∧ Below w.heap.size w w' :=
  sum_any none 0 [] w ⟨fun i hi => by simp at hi, fun p hp => by simp at hp⟩ (by simp [flat]) (by simp)
theorem sum3 (w : World) (ga gb gc : Nat) (h1 : w.heap[ga]? = some (.cells #[.int .u8 97] 5 (1, 2))) (h2 : w.heap[gb]? = some (.cells #[.int .u8 98, .int .u8 99] 5 (2, 3)))
    (h3 : w.heap[gc]? = some (.cells #[.slice (some ⟨ga, 0, none⟩) 1 1, .slice none 0 0, .slice (some ⟨gb, 0, none⟩) 2 2] 37 (0, 0))) :
    Calls Try.prog 8 #[.slice (some ⟨gc, 0, none⟩) 3 3] w fun e w' => e = .returned (.agg (u8s (sha [97, 98, 99])).toArray) ∧ Below w.heap.size w w' := by
  refine sum_any (some ⟨gc, 0, none⟩) 3 [⟨some ⟨ga, 0, none⟩, 1, [97]⟩, Part.nil, ⟨some ⟨gb, 0, none⟩, 2, [98, 99]⟩] w ⟨fun i hi => ?_, fun p hp => ?_⟩ (by simp [flat, Part.nil]) (by simp)
  · refine ⟨gc, 0, rfl, ?_⟩
    rw [cell_of_heap h3, Nat.zero_add]
    have : i = 0 ∨ i = 1 ∨ i = 2 := by simp at hi; omega
    rcases this with rfl | rfl | rfl <;> rfl
  · simp only [List.mem_cons, List.not_mem_nil, or_false] at hp
    rcases hp with rfl | rfl | rfl
    · exact part_of_heap ga [97] w 5 _ h1 (by simp)
    · exact ⟨by simp [Part.nil], by simp [Part.nil], Or.inl rfl⟩
    · exact part_of_heap gb [98, 99] w 5 _ h2 (by simp)
theorem hexA : strOfNums (hexL (sha [])) = ⟨#[101, 51, 98, 48, 99, 52, 52, 50, 57, 56, 102, 99, 49, 99, 49, 52, 57, 97, 102, 98, 102, 52, 99, 56, 57, 57, 54, 102, 98, 57, 50, 52, 50, 55, 97, 101, 52, 49, 101, 52, 54, 52, 57, 98, 57, 51, 52, 99, 97, 52, 57, 53, 57, 57, 49, 98, 55, 56, 53, 50, 98, 56, 53, 53]⟩ := by rw [sha_0]; rfl
theorem hexB : strOfNums (hexL (sha [97, 98, 99])) = ⟨#[98, 97, 55, 56, 49, 54, 98, 102, 56, 102, 48, 49, 99, 102, 101, 97, 52, 49, 52, 49, 52, 48, 100, 101, 53, 100, 97, 101, 50, 50, 50, 51, 98, 48, 48, 51, 54, 49, 97, 51, 57, 54, 49, 55, 55, 97, 57, 99, 98, 52, 49, 48, 102, 102, 54, 49, 102, 50, 48, 48, 49, 53, 97, 100]⟩ := by rw [sha_abc]; rfl
theorem unhB : unK (sgn (strOfNums (hexL (sha [97, 98, 99])))) 64 = sha [97, 98, 99] := by rw [hexB, sha_abc]; decide +kernel
theorem goodB : goodS (strOfNums (hexL (sha [97, 98, 99]))) := by
  rw [hexB]
  refine ⟨rfl, ?_⟩
  have : ∀ i : Fin 64, 0 ≤ sgn ⟨#[98, 97, 55, 56, 49, 54, 98, 102, 56, 102, 48, 49, 99, 102, 101, 97, 52, 49, 52, 49, 52, 48, 100, 101, 53, 100, 97, 101, 50, 50, 50, 51, 98, 48, 48, 51, 54, 49, 97, 51, 57, 54, 49, 55, 55, 97, 57, 99, 98, 52, 49, 48, 102, 102, 54, 49, 102, 50, 48, 48, 49, 53, 97, 100]⟩ i.val := by decide +kernel
  exact fun i hi => this ⟨i, hi⟩
theorem ab_ne : sha [97, 98] ≠ sha [97, 98, 99] := by rw [sha_ab, sha_abc]; decide

theorem conv_const (g : Nat) (w : World) (C : Array Value) (n c : Nat) (hg : g = w.heap.size) : (convert 37 37 (.slice (some ⟨g, 0, none⟩) n c)).run Try.prog (w.alloc (.cells C 5)) = .ok (.slice (some ⟨g, 0, none⟩) n c) (w.alloc (.cells C 5 (C.size, C.size + 1))) := by
  subst hg
  exact Lib.run_convert_bytes_const (P := Try.prog) w 37 5 C n c Try.underlying37 Try.underlying5
theorem bpush {a w : World} (h : Below a.heap.size a w) (o : Obj) : Below a.heap.size a (w.alloc o) := h.alloc h.size o
theorem bstep {a w w' : World} (h : Below a.heap.size a w) (hb : Below w.heap.size w w') : Below a.heap.size a w' := h.trans (hb.mono h.size)
theorem bbut {g : Nat} {a w w' : World} (h : Below a.heap.size a w) (hb : But g w w') (hg : a.heap.size ≤ g) : Below a.heap.size a w' := h.trans (hb.below hg h.size)
theorem Holds.at {w : World} {l : List (Nat × Obj)} (h : Holds w l) (i : Nat) (g : Nat) (o : Obj) (hi : l[i]? = some (g, o)) : w.heap[g]? = some o := h (g, o) (List.mem_of_getElem? hi)
theorem wpList_load_w {P : Program} {ops : Array Oper} {rest : List Oper} {o : Oper} {a : Act} {w : World} {Q : Exit → Act → World → Prop} (hw : Region.wanted o (yielded ops a.tmps) = true) (ty : TypeId) (x : Operand) (ho : o.op = .load ty x)
    (g : Nat) (hx : a.eval x = .pointer (some ⟨g, 0, none⟩)) (t : TypeId) (cs : Array Value) (fr : Nat × Nat) (d : TypeDesc) (hg : w.heap[g]? = some (.cells cs t fr))
    (hu : P.underlying ty = some d) (hd : (match d with | .struct _ | .array _ _ => true | _ => false) = true) (hi : (P.info? ty).map (·.size) = some cs.size)
    (h : wpList P ops Q rest (a.put o.dst (.agg cs)) w) : wpList P ops Q (o :: rest) a w := by
  unfold wpList
  rw [if_pos hw]
  exact Or.inl (wp_load_row ty x ho g hx t cs fr d hg hu hd hi h)
theorem hsum_abc (g : Nat) (w : World) (zs : List Int) (hz : ∀ z, z ∈ zs → 0 ≤ z ∧ z ≤ 255) (hn : zs.length ≤ 1000) (hg : w.heap[g]? = some (.cells (absorb hsI zs).cells.toArray 51 (0, 0))) :
    Calls Try.prog 16 #[.pointer (some ⟨g, 0, none⟩)] w fun e w' => e = .returned (.agg (u8s (sha zs)).toArray) ∧ Below w.heap.size w w' :=
  hsum_any g (absorb hsI zs) w (absorb_ok _ _ hsI_ok hz) hg (by rw [absorb_n]; show 0 + _ ≤ _; omega)
theorem write_abc (g gx : Nat) (w : World) (ys zs : List Int) (hy : ∀ z, z ∈ ys → 0 ≤ z ∧ z ≤ 255) (hz : ∀ z, z ∈ zs → 0 ≤ z ∧ z ≤ 255) (hn : ys.length + zs.length ≤ 1000) (hg : w.heap[g]? = some (.cells (absorb hsI ys).cells.toArray 51 (0, 0))) (f : Nat × Nat) (hx : w.heap[gx]? = some (.cells (u8s zs).toArray 5 f)) (hne : gx ≠ g) :
    Calls Try.prog 14 #[.pointer (some ⟨g, 0, none⟩), .slice (some ⟨gx, 0, none⟩) zs.length zs.length] w fun e w' => e = .returned (.tuple #[]) ∧ w'.heap[g]? = some (.cells (absorb hsI (ys ++ zs)).cells.toArray 51 (0, 0)) ∧ But g w w' := by
  rw [absorb_app]
  exact write_any g (absorb hsI ys) ⟨some ⟨gx, 0, none⟩, zs.length, zs⟩ w (absorb_ok _ _ hsI_ok hy) hg (part_of_heap gx zs w _ _ hx hz) (Or.inr fun b o e => by simp only [Option.some.injEq, Addr.mk.injEq] at e; omega) (by rw [absorb_n]; show 0 + _ + _ ≤ _; simp only; omega)

set_option maxRecDepth 20000 in
set_option maxHeartbeats 2000000 in
theorem awake_any (w : World) : Calls Try.prog 21 #[] w fun e w' => e = .returned (.bool true) ∧ Below w.heap.size w w' := by
  have HA0 : Hid (∀ w, Calls Try.prog 8 #[.slice none 0 0] w fun e w' => e = .returned (.agg (u8s (sha [])).toArray) ∧ Below w.heap.size w w') := sum0
  have hlA : (u8s (sha [])).length = 32 := by rw [u8s_len]; rfl
  have hlB : (u8s (sha [97, 98, 99])).length = 32 := by rw [u8s_len]; rfl
  have hlC : (u8s (sha [97, 98])).length = 32 := by rw [u8s_len]; rfl
  have HDA : Hid ((sha []).length = 32 ∧ ∀ z, z ∈ sha [] → 0 ≤ z ∧ z ≤ 255) := ⟨rfl, sha_bd [] (by simp) (by simp)⟩
  have HDB : Hid ((sha [97, 98, 99]).length = 32 ∧ ∀ z, z ∈ sha [97, 98, 99] → 0 ≤ z ∧ z ≤ 255) := ⟨rfl, sha_bd [97, 98, 99] (by simp) (by simp)⟩
  have HDC : Hid ((sha [97, 98]).length = 32 ∧ ∀ z, z ∈ sha [97, 98] → 0 ≤ z ∧ z ≤ 255) := ⟨rfl, sha_bd [97, 98] (by simp) (by simp)⟩
  have HNE : Hid (sha [97, 98] ≠ sha [97, 98, 99]) := ab_ne
  have HXA : Hid _ := hexA
  have HXB : Hid _ := hexB
  have HUY : Hid (∀ w, Calls Try.prog 26 #[.string (strOfNums (hexL (sha [97, 98, 99])))] w fun e w' => e = .returned (.tuple #[.agg (u8s (sha [97, 98, 99])).toArray, .int .i64 0]) ∧ Below w.heap.size w w') := fun w =>
    (unhex_any _ w (by rw [goodB.1]; unfold maxLen; omega)).mono fun e w' ⟨h, hb⟩ => ⟨by
      rcases h with ⟨_, rfl⟩ | ⟨hn, _⟩
      · rw [unhB]
      · exact absurd goodB hn, hb⟩
  have HUX : Hid (∀ w (s : ByteArray), s.size = 63 → Calls Try.prog 26 #[.string s] w fun e w' => e = .returned (.tuple #[.agg (u8s z32).toArray, .int .i64 20]) ∧ Below w.heap.size w w') := fun w s hs =>
    (unhex_any s w (by rw [hs]; unfold maxLen; omega)).mono fun e w' ⟨h, hb⟩ => ⟨by
      rcases h with ⟨hg, _⟩ | ⟨_, rfl⟩
      · have := hg.1; omega
      · rfl, hb⟩
  have HS3 : Hid (∀ (w : World) (ga gb gc : Nat), w.heap[ga]? = some (.cells #[.int .u8 97] 5 (1, 2)) → w.heap[gb]? = some (.cells #[.int .u8 98, .int .u8 99] 5 (2, 3)) → w.heap[gc]? = some (.cells #[.slice (some ⟨ga, 0, none⟩) 1 1, .slice none 0 0, .slice (some ⟨gb, 0, none⟩) 2 2] 37 (0, 0)) →
    Calls Try.prog 8 #[.slice (some ⟨gc, 0, none⟩) 3 3] w fun e w' => e = .returned (.agg (u8s (sha [97, 98, 99])).toArray) ∧ Below w.heap.size w w') := sum3
  generalize hA : sha [] = A at *
  generalize hB : sha [97, 98, 99] = B at *
  generalize hC : sha [97, 98] = C at *
  have hsA := store_new 26 (u8s A) 32 size32 hlA (u8s_one A)
  have hsB := store_new 26 (u8s B) 32 size32 hlB (u8s_one B)
  have hsC := store_new 26 (u8s C) 32 size32 hlC (u8s_one C)
  have HA : Hid (sha [] = A) := hA
  have HB : Hid (sha [97, 98, 99] = B) := hB
  have HC : Hid (sha [97, 98] = C) := hC
  have hzl := z32_len
  clear hA hB hC
  go_enter Try.func21, Try.ntmps21
  go_wp2_with fail
  refine (HA0.out _).mono ?_
  rintro e w1 ⟨rfl, hb1⟩
  have HB1 : Hid (Below w.heap.size w w1) := hb1
  clear hb1
  have hcv := conv_const
  go_wp2_with (first
    | (refine wpList_alloc_to rfl 26 rfl (u8s z32).toArray (by kernel_rfl) ?_))
  have HH1 := ((((Holds.nil w1).push (.cells (u8s A).toArray 26)).push (.cells #[Value.int .u8 97] 5 (1, 2))).push (.cells #[Value.int .u8 98, Value.int .u8 99] 5 (2, 3))).push (.cells #[.slice (some ⟨w1.heap.size + 1, 0, none⟩) 1 1, .slice none 0 0, .slice (some ⟨w1.heap.size + 1 + 1, 0, none⟩) 2 2] 37)
  simp only [World.size_alloc] at HH1
  refine (HS3.out _ (w1.heap.size + 1) (w1.heap.size + 1 + 1) (w1.heap.size + 1 + 1 + 1) (HH1.at 2 _ _ rfl) (HH1.at 1 _ _ rfl) (HH1.at 0 _ _ rfl)).mono ?_
  rintro e w2 ⟨rfl, hb2⟩
  have HH2 : Hid (Holds w2 [(w1.heap.size, .cells (u8s A).toArray 26)]) := (Holds.nil w2).cons ((HH1.below hb2).at 3 _ _ rfl)
  have HB2 : Hid (Below w.heap.size w w2) := bstep (bpush (bpush (bpush (bpush HB1.out _) _) _) _) hb2
  have hz12 : w1.heap.size < w2.heap.size := (Array.getElem?_eq_some_iff.1 (HH2.out.at 0 _ _ rfl)).1
  have hz01 : w.heap.size ≤ w1.heap.size := HB1.out.size
  generalize w1.heap.size = g1 at *
  clear HH1 hb2 HB1 HA0 HS3
  go_wp2_with (first
    | (refine wpList_alloc_to rfl 26 rfl (u8s z32).toArray (by kernel_rfl) ?_)
    | (go_at_call 12; refine (new_any _).mono ?_; rintro en w' ⟨rfl, rfl⟩))
  have HH3 := ((HH2.out.push (.cells (u8s B).toArray 26)).push (.cells hsI.cells.toArray 51)).push (.cells #[Value.int .u8 97, Value.int .u8 98] 5 (2, 3))
  simp only [World.size_alloc] at HH3
  refine (write_abc (w2.heap.size + 1) (w2.heap.size + 1 + 1) _ [] [97, 98] (by simp) (by simp) (by simp) (HH3.at 1 _ _ rfl) _ (HH3.at 0 _ _ rfl) (by omega)).mono ?_
  rintro e w4 ⟨rfl, hg4, hb4⟩
  have HH4 : Hid (Holds w4 [(w2.heap.size, .cells (u8s B).toArray 26), (g1, .cells (u8s A).toArray 26), (w2.heap.size + 1, .cells (absorb hsI [97, 98]).cells.toArray 51)]) := by
    have h0 : Holds _ [(w2.heap.size, .cells (u8s B).toArray 26), (g1, .cells (u8s A).toArray 26)] := ((Holds.nil _).cons (HH3.at 3 _ _ rfl)).cons (HH3.at 2 _ _ rfl)
    have h1 := h0.but hb4 (by intro p hp; simp only [List.mem_cons, List.not_mem_nil, or_false] at hp; rcases hp with rfl | rfl <;> simp only <;> omega)
    exact (((Holds.nil _).cons hg4).cons (h1.at 1 _ _ rfl)).cons (h1.at 0 _ _ rfl)
  have HB4 : Hid (Below w.heap.size w w4) := bbut (bpush (bpush (bpush HB2.out _) _) _) hb4 (by omega)
  have hz24 : w2.heap.size + 1 < w4.heap.size := (Array.getElem?_eq_some_iff.1 hg4).1
  generalize w2.heap.size = gB at *
  have HSC : Hid (∀ (w : World) (g : Nat), w.heap[g]? = some (.cells (absorb hsI [97, 98]).cells.toArray 51 (0, 0)) → Calls Try.prog 16 #[.pointer (some ⟨g, 0, none⟩)] w fun e w' => e = .returned (.agg (u8s C).toArray) ∧ Below w.heap.size w w') := fun w g hg => by
    have := hsum_abc g w [97, 98] (by simp) (by simp) hg
    rw [HC.out] at this
    exact this
  clear HH3 hg4 hb4 HH2 HB2
  go_wp2_with fail
  refine (HSC.out _ _ (HH4.out.at 2 _ _ rfl)).mono ?_
  rintro e w5 ⟨rfl, hb5⟩
  have HH5 : Hid (Holds w5 _) := HH4.out.below hb5
  have HB5 : Hid (Below w.heap.size w w5) := bstep HB4.out hb5
  have hz45 : w4.heap.size ≤ w5.heap.size := hb5.size
  clear hb5 HH4 HB4
  go_wp2_with (first
    | (refine wpList_alloc_to rfl 26 rfl (u8s z32).toArray (by kernel_rfl) ?_))
  have HH6 := (HH5.out.push (.cells (u8s C).toArray 26)).push (.cells #[Value.int .u8 99] 5 (1, 2))
  simp only [World.size_alloc] at HH6
  refine (write_abc (gB + 1) (w5.heap.size + 1) _ [97, 98] [99] (by simp) (by simp) (by simp) (HH6.at 4 _ _ rfl) _ (HH6.at 0 _ _ rfl) (by omega)).mono ?_
  rintro e w6 ⟨rfl, hg6, hb6⟩
  have HH7 : Hid (Holds w6 [(gB, .cells (u8s B).toArray 26), (g1, .cells (u8s A).toArray 26), (w5.heap.size, .cells (u8s C).toArray 26), (gB + 1, .cells (absorb hsI [97, 98, 99]).cells.toArray 51)]) := by
    have h0 : Holds _ [(gB, .cells (u8s B).toArray 26), (g1, .cells (u8s A).toArray 26), (w5.heap.size, .cells (u8s C).toArray 26)] := (((Holds.nil _).cons (HH6.at 1 _ _ rfl)).cons (HH6.at 3 _ _ rfl)).cons (HH6.at 2 _ _ rfl)
    have h1 := h0.but hb6 (by intro p hp; simp only [List.mem_cons, List.not_mem_nil, or_false] at hp; rcases hp with rfl | rfl | rfl <;> simp only <;> omega)
    exact ((((Holds.nil _).cons hg6).cons (h1.at 2 _ _ rfl)).cons (h1.at 1 _ _ rfl)).cons (h1.at 0 _ _ rfl)
  have HB6 : Hid (Below w.heap.size w w6) := bbut (bpush (bpush HB5.out _) _) hb6 (by omega)
  generalize w5.heap.size = gC at *
  have HSB : Hid (∀ (w : World) (g : Nat), w.heap[g]? = some (.cells (absorb hsI [97, 98, 99]).cells.toArray 51 (0, 0)) → Calls Try.prog 16 #[.pointer (some ⟨g, 0, none⟩)] w fun e w' => e = .returned (.agg (u8s B).toArray) ∧ Below w.heap.size w w') := fun w g hg => by
    have := hsum_abc g w [97, 98, 99] (by simp) (by simp) hg
    rw [HB.out] at this
    exact this
  clear HH6 hg6 hb6 HB5 HSC HH5
  go_wp2_with fail
  refine (HSB.out _ _ (HH7.out.at 3 _ _ rfl)).mono ?_
  rintro e w7 ⟨rfl, hb7⟩
  have HH8 : Hid (Holds (w7.alloc (.cells (u8s B).toArray 26)) _) := (HH7.out.below hb7).push (.cells (u8s B).toArray 26)
  have HB8 : Hid (Below w.heap.size w (w7.alloc (.cells (u8s B).toArray 26))) := bpush (bstep HB6.out hb7) _
  clear hb7 HH7 HB6 HSB
  have HLN : Hid (Calls Try.prog 18 #[.pointer (some ⟨gB + 1, 0, none⟩)] (w7.alloc (.cells (u8s B).toArray 26)) fun e w' => e = .returned (.int .i64 3) ∧ w' = w7.alloc (.cells (u8s B).toArray 26)) := len_any (gB + 1) (absorb hsI [97, 98, 99]) _ (absorb_ok _ _ hsI_ok (by simp)).2.1 (HH8.out.at 4 _ _ rfl)
  go_wp2_with (first
    | (refine wpList_alloc_to rfl 26 rfl (u8s z32).toArray (by kernel_rfl) ?_)
    | (go_at_call 18; refine HLN.out.mono ?_; rintro en w' ⟨rfl, rfl⟩)
    | (refine wpList_load_row rfl 26 _ rfl g1 rfl 26 (u8s A).toArray (0, 0) _ (HH8.out.at 2 _ _ rfl) Try.underlying26 rfl (by rw [size32]; simp [hlA]) ?_))
  refine (hex_any A _ HDA.out.1 HDA.out.2).mono ?_
  rintro e w8 ⟨rfl, hb8⟩
  have HH9 : Hid (Holds w8 _) := HH8.out.below hb8
  have HB9 : Hid (Below w.heap.size w w8) := bstep HB8.out hb8
  generalize w7.heap.size = gD at *
  clear hb8 HH8 HB8 HLN
  go_wp2_with (first
    | (refine wpList_load_row rfl 26 _ rfl gB rfl 26 (u8s B).toArray (0, 0) _ (HH9.out.at 1 _ _ rfl) Try.underlying26 rfl (by rw [size32]; simp [hlB]) ?_))
  refine (hex_any B _ HDB.out.1 HDB.out.2).mono ?_
  rintro e w9 ⟨rfl, hb9⟩
  have HH10 : Hid (Holds w9 _) := HH9.out.below hb9
  have HB10 : Hid (Below w.heap.size w w9) := bstep HB9.out hb9
  clear hb9 HH9 HB9
  generalize strOfNums (hexL B) = Y at *
  generalize strOfNums (hexL A) = X at *
  go_wp2_with fail
  refine (HUY.out _).mono ?_
  rintro e w10 ⟨rfl, hb10⟩
  have HH11 : Hid (Holds (w10.alloc (.cells (u8s B).toArray 26)) _) := (HH10.out.below hb10).push (.cells (u8s B).toArray 26)
  have HB11 : Hid (Below w.heap.size w (w10.alloc (.cells (u8s B).toArray 26))) := bpush (bstep HB10.out hb10) _
  clear hb10 HH10 HB10 HUY
  have hxs : X.size = 64 := by rw [HXA.out]; rfl
  go_wp2_with (first
    | (refine wpList_alloc_to rfl 26 rfl (u8s z32).toArray (by kernel_rfl) ?_))
  refine (HUX.out _ _ (by rw [ByteArray.size_extract, hxs]; rfl)).mono ?_
  rintro e w11 ⟨rfl, hb11⟩
  have HH12 : Hid (Holds (w11.alloc (.cells (u8s z32).toArray 26)) _) := (HH11.out.below hb11).more (.cells (u8s z32).toArray 26)
  have HB12 : Hid (Below w.heap.size w (w11.alloc (.cells (u8s z32).toArray 26))) := bpush (bstep HB11.out hb11) _
  have hsZ := store_new 26 (u8s z32) 32 size32 hzl (u8s_one z32)
  have e1 : ∀ w, (Op.equalIn 10000 26 (.agg (u8s C).toArray) (.agg (u8s B).toArray)).run Try.prog w = .ok false w := fun w => by
    rw [dig_eq C B HDC.out.1 HDB.out.1 HDC.out.2 HDB.out.2, decide_eq_false HNE.out]
  have e2 : ∀ w, (Op.equalIn 10000 26 (.agg (u8s B).toArray) (.agg (u8s B).toArray)).run Try.prog w = .ok true w := fun w => by
    rw [dig_eq B B HDB.out.1 HDB.out.1 HDB.out.2 HDB.out.2, decide_eq_true rfl]
  have hX := HXA.out
  have hY := HXB.out
  generalize w10.heap.size = gZ at *
  clear hb11 HH11 HB11 hxs HUX
  go_wp2_with (first
    | (refine wpList_alloc_to rfl 26 rfl (u8s z32).toArray (by kernel_rfl) ?_)
    | (refine wpList_load_w (by rfl) 26 _ rfl gC rfl 26 (u8s C).toArray (0, 0) _ (HH12.out.at 4 _ _ rfl) Try.underlying26 rfl (by rw [size32]; simp [hlC]) ?_)
    | (refine wpList_load_w (by rfl) 26 _ rfl gD rfl 26 (u8s B).toArray (0, 0) _ (HH12.out.at 1 _ _ rfl) Try.underlying26 rfl (by rw [size32]; simp [hlB]) ?_)
    | (refine wpList_load_w (by rfl) 26 _ rfl gB rfl 26 (u8s B).toArray (0, 0) _ (HH12.out.at 2 _ _ rfl) Try.underlying26 rfl (by rw [size32]; simp [hlB]) ?_)
    | (refine wpList_load_w (by rfl) 26 _ rfl gZ rfl 26 (u8s B).toArray (0, 0) _ (HH12.out.at 0 _ _ rfl) Try.underlying26 rfl (by rw [size32]; simp [hlB]) ?_))
  go_ret
  exact ⟨rfl, HB12.out⟩
end Go.Proofs.Ytlephdpplfpliaa
