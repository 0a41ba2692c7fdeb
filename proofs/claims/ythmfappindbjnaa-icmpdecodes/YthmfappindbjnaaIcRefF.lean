/-
  The document's form and Encode.
-/
import Derived.Test.YthmfappindbjnaaIcRefE
import Derived.Test.YthmfappindbjnaaBRowC
namespace Go.Proofs.Ythmfappindbjnaa
open Go.RowKit
set_option linter.all false

theorem sum_zeros (k c : Int) (l : List Int) : sumOf ([k, c] ++ [0, 0] ++ l) = sumOf ([k, c] ++ l) := by
  have : run ([k, c] ++ [0, 0] ++ l) = run ([k, c] ++ l) := by
    simp [run, step]
  unfold sumOf
  rw [this]
theorem encS_is (k c r : Int) (zs : List Int) : sumOf ([k, c] ++ [0, 0] ++ (ip4 r ++ zs)) = encS k c r zs := by
  rw [sum_zeros]
  rfl
/-- the bytes behind the sum. -/
theorem form_behind (V : World) (r : Int) (pt : Part) (hok : pt.ok V) (hl : pt.zs.length ≤ 1472) :
    Calls Try.prog 32 #[.slice (some ⟨V.heap.size, 0, none⟩) 4 4, pt.val] (V.alloc (.cells (u8s (ip4 r)).toArray 5)) fun e w' => ∃ a n c, e = .returned (.slice a n c) ∧ Hid (Ans V w' (ip4 r ++ pt.zs) a n c) := by
  have h := refAdd_own pt (ip4 r) V.heap.size 4 4 (V.alloc (.cells (u8s (ip4 r)).toArray 5)) (Row.of_heap (vs := u8s (ip4 r)) (heap_new V _) (by simp [u8s, ip4, maxLen])) (Part.ok_new hok _ (Nat.le_refl _)) (Part.ok_below hok (bpush (Below.refl _ _) _)) (by simp [ip4]; omega)
  refine h.mono ?_
  rintro e w' ⟨a, n, c, rfl, h⟩
  refine ⟨a, n, c, rfl, h.out.1, fun b hb => ?_, bbut (bpush (Below.refl _ _) _) h.out.2.2 (Nat.le_refl _)⟩
  have := h.out.2.1 b hb
  simp at this
  omega
/-- a form under way: the message's box, the bytes behind the sum. -/
structure FI (w : World) (F : Array Value) (a : Option Addr) (n c : Nat) (bh : List Int) (lo hi : Nat) (W : World) : Prop where
  box : W.heap[w.heap.size]? = some (.cells F 26 (0, 0))
  below : Below w.heap.size w W
  row : Row W 5 (.slice a n c) (u8s bh)
  own : ∀ b, (Value.slice a n c).ownBlock = some b → lo ≤ b ∧ b < hi
theorem FI.next {w W W' : World} {F : Array Value} {a : Option Addr} {n c : Nat} {bh : List Int} {lo hi : Nat} (h : FI w F a n c bh lo hi W) (hb : Below W.heap.size W W') : FI w F a n c bh lo hi W' := ⟨kept h.box hb, bstep h.below hb, h.row.below hb, h.own⟩
theorem FI.but {w W W' : World} {F : Array Value} {a : Option Addr} {n c g : Nat} {bh : List Int} {lo hi : Nat} (h : FI w F a n c bh lo hi W) (hb : But g W W') (h1 : w.heap.size < g) (h2 : g < lo ∨ hi ≤ g) : FI w F a n c bh lo hi W' :=
  ⟨keptBut h.box hb (by omega), bbut h.below hb (by omega), h.row.but hb (fun b hb' => by have := h.own b hb'; omega), h.own⟩
/-- two bytes of its own, a part behind them. -/
theorem FI.two {w W : World} {F : Array Value} {a : Option Addr} {n c : Nat} {bh : List Int} {lo hi : Nat} (h : FI w F a n c bh lo hi W) (x y : Int) (g : Nat) (hg : W.heap[g]? = some (.cells #[.int .u8 x, .int .u8 y] 5 (0, 0))) (h1 : w.heap.size < g) (h2 : g < lo ∨ hi ≤ g) (hh : hi ≤ W.heap.size) (pt : Part) (hok : pt.ok W) (ho : pt.off g) (hl : pt.zs.length ≤ 1000) :
    Calls Try.prog 32 #[.slice (some ⟨g, 0, none⟩) 2 2, pt.val] W fun e w' => ∃ g' n' c', e = .returned (.slice (some ⟨g', 0, none⟩) n' c') ∧ Hid (FI w F a n c bh lo hi w' ∧ Row w' 5 (.slice (some ⟨g', 0, none⟩) n' c') (u8s ([x, y] ++ pt.zs)) ∧ w.heap.size < g' ∧ (g' < lo ∨ hi ≤ g') ∧ hi ≤ w'.heap.size) := by
  have h' := refAdd_own pt [x, y] g 2 2 W (Row.of_heap (vs := u8s [x, y]) hg (by simp [u8s, maxLen])) ho hok (by simp; omega)
  refine h'.mono ?_
  rintro e w' ⟨a', n', c', rfl, q⟩
  obtain ⟨g', rfl, _, _⟩ := Row.addr q.out.1 (by simp [u8s])
  have hs := q.out.2.2.size
  have hw := heap_lt h.box
  have := q.out.2.1 g' rfl
  exact ⟨g', n', c', rfl, h.but q.out.2.2 h1 h2, q.out.1, by omega, by omega, by omega⟩
/-- the bytes behind them. -/
theorem FI.beh {w W : World} {F : Array Value} {a : Option Addr} {n c : Nat} {bh : List Int} {lo hi : Nat} (h : FI w F a n c bh lo hi W) (hz : ∀ z, z ∈ bh → 0 ≤ z ∧ z ≤ 255) (L : List Int) (g n1 c1 : Nat) (hr : Row W 5 (.slice (some ⟨g, 0, none⟩) n1 c1) (u8s L)) (h1 : w.heap.size < g) (h2 : g < lo ∨ hi ≤ g) (hl : L.length + bh.length ≤ 2000) :
    Calls Try.prog 32 #[.slice (some ⟨g, 0, none⟩) n1 c1, .slice a n c] W fun e w' => ∃ a' n' c', e = .returned (.slice a' n' c') ∧ Hid (FI w F a n c bh lo hi w' ∧ Row w' 5 (.slice a' n' c') (u8s (L ++ bh)) ∧ (∀ b, (Value.slice a' n' c').ownBlock = some b → w.heap.size ≤ b) ∧ W.heap.size ≤ w'.heap.size) := by
  obtain ⟨q, e1, e2, ok⟩ := h.row.part hz
  have hoff : q.off g := by
    by_cases he : q.zs = []
    · exact Or.inl he
    · right
      intro b o ha
      have : (Value.slice a n c).ownBlock = some b := by
        rw [e1, Part.val, ha]; rfl
      have := h.own b this
      omega
  rw [e1]
  have h' := refAdd_own q L g n1 c1 W hr hoff ok (by rw [e2]; omega)
  refine h'.mono ?_
  rintro e w' ⟨a', n', c', rfl, p⟩
  have hw := h.below.size
  rw [e2] at p
  exact ⟨a', n', c', rfl, h.but p.out.2.2 h1 h2, p.out.1, fun b hb => by have := p.out.2.1 b hb; omega, p.out.2.2.size⟩

set_option maxRecDepth 20000 in
set_option maxHeartbeats 4000000 in
theorem refForm_any (k c r : Int) (pt : Part) (w : World) (hk : 0 ≤ k ∧ k ≤ 255) (hc : 0 ≤ c ∧ c ≤ 255) (r0 : 0 ≤ r ∧ r ≤ 4294967295) (hok : pt.ok w) (hl : pt.zs.length ≤ 1472) :
    Calls Try.prog 27 #[.agg #[.int .i64 k, .int .i64 c, .int .u32 r, pt.val]] w fun e w' => ∃ a n c', e = .returned (.slice a n c') ∧ Ans w w' (msgL k c (encS k c r pt.zs) r pt.zs) a n c' := by
  have P4 : Hid (∀ w, _) := fun w => refPut4_any r w r0.1 (by omega)
  have CB : Hid (∀ V : World, Below w.heap.size w V → _) := fun V hb => form_behind V r pt (Part.ok_below hok hb) hl
  have HZ : Hid (∀ z, z ∈ ip4 r ++ pt.zs → 0 ≤ z ∧ z ≤ 255) := fun z hz => by
    rcases List.mem_append.1 hz with hz | hz
    · exact ip4_bd _ z hz
    · exact hok.1 z hz
  have HLB : Hid ((ip4 r ++ pt.zs).length ≤ 1476) := by unfold Hid; simp [ip4]; omega
  have hmz : ∀ z, z ∈ [k, c] ++ [0, 0] ++ (ip4 r ++ pt.zs) → 0 ≤ z ∧ z ≤ 255 := fun z hz => by
    simp only [List.append_assoc, List.mem_append, List.mem_cons, List.not_mem_nil, or_false] at hz
    rcases hz with (rfl | rfl) | (rfl | rfl) | hz | hz
    · exact hk
    · exact hc
    · omega
    · omega
    · exact ip4_bd _ z hz
    · exact hok.1 z hz
  have CS : Hid (∀ (V : World) (a : Option Addr) (n c' : Nat), Row V 5 (.slice a n c') (u8s ([k, c] ++ [0, 0] ++ (ip4 r ++ pt.zs))) → Calls Try.prog 36 #[.slice a n c'] V fun e w' => e = .returned (.int .u16 (encS k c r pt.zs)) ∧ Below V.heap.size V w') := fun V a n c' hr => by
    obtain ⟨q, e1, e2, ok⟩ := hr.part hmz
    rw [e1]
    have := refSumOf_any q V ok (by rw [e2]; have := HLB.out; simp at this ⊢; omega)
    rw [e2, encS_is] at this
    exact this
  have hsb : 0 ≤ encS k c r pt.zs ∧ encS k c r pt.zs ≤ 65535 := by rw [← encS_is]; exact sumOf_bd _ hmz
  have P2 : Hid (∀ w, _) := fun w => refPut2_any (encS k c r pt.zs) w hsb.1 (by omega)
  have sw : IntKind.u64.wrap (encS k c r pt.zs) = encS k c r pt.zs := by simp only [IntKind.wrap_u64]; omega
  have HEQ : Hid ([k, c] ++ op2 (encS k c r pt.zs) ++ (ip4 r ++ pt.zs) = msgL k c (encS k c r pt.zs) r pt.zs) := by unfold Hid; simp [msgL]
  have HO2 : Hid ((∀ z, z ∈ op2 (encS k c r pt.zs) → 0 ≤ z ∧ z ≤ 255) ∧ (op2 (encS k c r pt.zs)).length = 2) := ⟨op2_bd _, rfl⟩
  have kw : IntKind.u8.wrap k = k := by simp only [IntKind.wrap_u8]; omega
  have cw : IntKind.u8.wrap c = c := by simp only [IntKind.wrap_u8]; omega
  have rw' : IntKind.u64.wrap r = r := by simp only [IntKind.wrap_u64]; omega
  have hh := ((Holds.nil w).push (.cells #[.int .i64 k, .int .i64 c, .int .u32 r, pt.val] 26)).push (.cells #[.int .u8 k, .int .u8 c] 5)
  simp only [World.size_alloc] at hh
  have HH := hid hh
  have HB0 : Hid (Below w.heap.size w ((w.alloc (.cells #[.int .i64 k, .int .i64 c, .int .u32 r, pt.val] 26)).alloc (.cells #[.int .u8 k, .int .u8 c] 5))) := bpush (bpush (Below.refl _ _) _) _
  have HS0 : Hid (((w.alloc (.cells #[.int .i64 k, .int .i64 c, .int .u32 r, pt.val] 26)).alloc (.cells #[.int .u8 k, .int .u8 c] 5)).heap.size = w.heap.size + 2) := by unfold Hid; simp
  have HV : Hid (pt.val = .slice pt.a pt.zs.length pt.c) := rfl
  rw [HV.out] at HH HB0 HS0 CB ⊢
  clear hh hmz hsb hok hk hc r0 HV
  generalize msgL k c (encS k c r pt.zs) r pt.zs = ML at *
  generalize encS k c r pt.zs = ES at *
  generalize hX2 : op2 ES = X2 at *
  generalize ip4 r ++ pt.zs = BH at *
  generalize ip4 r = X4 at *
  generalize pt.zs.length = l at *
  generalize pt.a = pa at *
  generalize pt.c = pc at *
  clear hX2
  go_enter Try.func27, Try.ntmps27
  go_wp2
  generalize (w.alloc (.cells #[.int .i64 k, .int .i64 c, .int .u32 r, .slice pa l pc] 26)).alloc (.cells #[.int .u8 k, .int .u8 c] 5) = W at *
  have c2 : W.cell? ⟨w.heap.size, 2, none⟩ = some (.int .u32 r) := cell_of_heap (HH.out.at 1 _ _ rfl) 2
  have c3 : W.cell? ⟨w.heap.size, 3, none⟩ = some (.slice pa l pc) := cell_of_heap (HH.out.at 1 _ _ rfl) 3
  have HBd : Hid (Below w.heap.size w W.drew) := HB0.out.drew
  have PD : Hid (W.drew.cell? ⟨w.heap.size, 2, none⟩ = some (.int .u32 r) ∧ W.drew.cell? ⟨w.heap.size, 3, none⟩ = some (.slice pa l pc)) := ⟨c2, c3⟩
  have PA : Hid (∀ ob : Obj, (W.drew.alloc ob).cell? ⟨w.heap.size, 2, none⟩ = some (.int .u32 r) ∧ (W.drew.alloc ob).cell? ⟨w.heap.size, 3, none⟩ = some (.slice pa l pc)) := fun ob => ⟨cell_of_heap (kept (HH.out.at 1 _ _ rfl) (bpush (Below.refl _ W) ob)) 2, cell_of_heap (kept (HH.out.at 1 _ _ rfl) (bpush (Below.refl _ W) ob)) 3⟩
  go_region_held3 (fun w' => w'.cell? ⟨w.heap.size, 2, none⟩ = some (.int .u32 r) ∧ w'.cell? ⟨w.heap.size, 3, none⟩ = some (.slice pa l pc)) (first | assumption | (with_reducible exact PD.out) | (with_reducible exact PA.out _) | exact PA.out _) (first
    | (go_at_call 35; (with_reducible refine (P4.out _).mono ?_); rintro e w' ⟨rfl, hw⟩; subst w')
    | (go_at_call 32; refine (CB.out W.drew HBd.out).mono ?_; rintro e w2 ⟨a2, n2, c2', rfl, AN⟩; have H2 : Hid (FI w #[.int .i64 k, .int .i64 c, .int .u32 r, .slice pa l pc] a2 n2 c2' BH (w.heap.size + 2) w2.heap.size w2 ∧ w2.heap[w.heap.size + 1]? = some (.cells #[.int .u8 k, .int .u8 c] 5 (0, 0))) := ⟨⟨kept (w := W.drew) (HH.out.at 1 _ _ rfl) AN.out.2.2, bstep HBd.out AN.out.2.2, AN.out.1, fun b hb => ⟨by have := AN.out.2.1 b hb; have := HS0.out; simp at *; omega, AN.out.1.lt hb⟩⟩, kept (w := W.drew) (HH.out.at 0 _ _ rfl) AN.out.2.2⟩; have h7 : w2.cell? ⟨w.heap.size, 2, none⟩ = some (.int .u32 r) ∧ w2.cell? ⟨w.heap.size, 3, none⟩ = some (.slice pa l pc) := ⟨cell_of_heap H2.out.1.box 2, cell_of_heap H2.out.1.box 3⟩; clear AN)
    | fail)
  clear c2 c3 PD PA HBd HB0 HH CB P4 h7
  have HS2 : Hid (w.heap.size + 2 ≤ w2.heap.size) := by have := heap_lt H2.out.2; unfold Hid; omega
  have H2' : Hid (FI w #[.int .i64 k, .int .i64 c, .int .u32 r, .slice pa l pc] a2 n2 c2' BH (w.heap.size + 2) w2.heap.size (w2.alloc (.cells #[.int .u8 0, .int .u8 0] 5))) := H2.out.1.next (bpush (Below.refl _ _) _)
  have C1 := hid (FI.two H2'.out k c (w.heap.size + 1) (kept H2.out.2 (bpush (Below.refl _ _) _)) (by omega) (Or.inl (by omega)) (by simp) ⟨some ⟨w2.heap.size, 0, none⟩, 2, [0, 0]⟩ (Part.of_row (zs := [0, 0]) (heap_new w2 _) (by simp) (by simp)) (Or.inr fun b o e => by simp at e; have := HS2.out; omega) (by simp))
  go_wp2_with fail
  refine C1.out.mono ?_
  rintro e w3 ⟨g3, n3, c3, rfl, q3⟩
  have C2 := hid (FI.beh q3.out.1 HZ.out ([k, c] ++ [0, 0]) g3 n3 c3 q3.out.2.1 q3.out.2.2.1 q3.out.2.2.2.1 (by have := HLB.out; simp; omega))
  clear C1 H2' H2
  go_wp2_with fail
  refine C2.out.mono ?_
  rintro e w4 ⟨a4, n4, c4, rfl, q4⟩
  have HW4 : Hid (w2.heap.size ≤ w4.heap.size) := Nat.le_trans q3.out.2.2.2.2 q4.out.2.2.2
  clear C2 q3
  go_wp2_with fail
  refine (CS.out _ _ _ _ q4.out.2.1).mono ?_
  rintro e w5 ⟨rfl, hb5⟩
  have H5 := hid (q4.out.1.next hb5)
  have HW5 : Hid (w2.heap.size ≤ w5.heap.size) := Nat.le_trans HW4.out hb5.size
  clear q4 hb5 HW4
  go_wp2_with fail
  refine (P2.out _).mono ?_
  rintro e w' ⟨rfl, hw⟩
  subst w'
  have H6 := hid (H5.out.next (bpush (Below.refl _ _) (.cells (u8s X2).toArray 5)))
  have HX := hid (heap_new w5 (.cells (u8s X2).toArray 5))
  generalize w5.alloc (.cells (u8s X2).toArray 5) = W6 at *
  generalize w5.heap.size = gx at *
  have c0 : W6.cell? ⟨w.heap.size, 0, none⟩ = some (.int .i64 k) := cell_of_heap H6.out.box 0
  have c1 : W6.cell? ⟨w.heap.size, 1, none⟩ = some (.int .i64 c) := cell_of_heap H6.out.box 1
  have C3 := hid (FI.two (H6.out.next (bpush (Below.refl _ _) (.cells #[.int .u8 k, .int .u8 c] 5))) k c W6.heap.size (heap_new W6 _) (heap_lt H6.out.box) (Or.inr (by have := heap_lt HX.out; have := HW5.out; omega)) (by have := heap_lt HX.out; have := HW5.out; simp; omega) ⟨some ⟨gx, 0, none⟩, 2, X2⟩ (Part.ok_below (Part.of_row HX.out (by rw [HO2.out.2]; omega) HO2.out.1) (bpush (Below.refl _ _) _)) (Or.inr fun b o e => by simp at e; have := heap_lt HX.out; omega) (by rw [HO2.out.2]; omega))
  simp only [Part.val, HO2.out.2] at C3
  go_wp2_with fail
  refine C3.out.mono ?_
  rintro e w7 ⟨g7, n7, c7, rfl, q7⟩
  have C4 := hid (FI.beh q7.out.1 HZ.out ([k, c] ++ X2) g7 n7 c7 q7.out.2.1 q7.out.2.2.1 q7.out.2.2.2.1 (by have := HLB.out; have := HO2.out.2; simp; omega))
  rw [HEQ.out] at C4
  clear C3 q7 c0 c1 H6 H5
  go_wp2_with fail
  refine C4.out.mono ?_
  rintro e w8 ⟨a8, n8, c8, rfl, q8⟩
  clear C4
  go_wp2
  go_ret
  exact ⟨_, _, _, rfl, q8.out.2.1, q8.out.2.2.1, q8.out.1.below⟩

set_option maxHeartbeats 1000000 in
theorem refEncode_kind (k : Int) (c r v : Value) (w : World) (h : kindB k = false) :
    Calls Try.prog 12 #[.agg #[.int .i64 k, c, r, v]] w fun e w' => e = .returned (.tuple #[.slice none 0 0, .int .i64 140]) ∧ Below w.heap.size w w' := by
  have P1 : Hid (∀ w, _) := fun w => refKind_any k w
  rw [h] at P1
  clear h
  go_enter Try.func12, Try.ntmps12
  go_wp2_with fail
  refine (P1.out _).mono ?_
  rintro e w1 ⟨rfl, hw⟩
  subst w1
  go_wp2
  go_ret2
  exact ⟨rfl, bpush (Below.refl _ _) _⟩
set_option maxHeartbeats 1000000 in
theorem refEncode_arg (k c : Int) (r v : Value) (w : World) (h : kindB k = true) (hc : c < 0 ∨ 255 < c) :
    Calls Try.prog 12 #[.agg #[.int .i64 k, .int .i64 c, r, v]] w fun e w' => e = .returned (.tuple #[.slice none 0 0, .int .i64 1]) ∧ Below w.heap.size w w' := by
  have P1 : Hid (∀ w, _) := fun w => refKind_any k w
  rw [h] at P1
  clear h
  by_cases h1 : c < 0
  case' neg => have h2 : 255 < c := by omega
  all_goals
    clear hc
    go_enter Try.func12, Try.ntmps12
    go_wp2_with fail
    refine (P1.out _).mono ?_
    rintro e w1 ⟨rfl, hw⟩
    subst w1
    go_wp2
    go_ret2
    exact ⟨rfl, bpush (Below.refl _ _) _⟩
set_option maxHeartbeats 1000000 in
theorem refEncode_long (k c : Int) (r : Value) (a : Option Addr) (n cp : Nat) (w : World) (h : kindB k = true) (h0 : 0 ≤ c) (h1 : c ≤ 255) (hn : 1472 < n) :
    Calls Try.prog 12 #[.agg #[.int .i64 k, .int .i64 c, r, .slice a n cp]] w fun e w' => e = .returned (.tuple #[.slice none 0 0, .int .i64 2]) ∧ Below w.heap.size w w' := by
  have P1 : Hid (∀ w, _) := fun w => refKind_any k w
  rw [h] at P1
  clear h
  have h3 : ¬ c < 0 := by omega
  have h4 : ¬ 255 < c := by omega
  have h5 : (1472 : Int) < (n : Int) := by omega
  go_enter Try.func12, Try.ntmps12
  go_wp2_with fail
  refine (P1.out _).mono ?_
  rintro e w1 ⟨rfl, hw⟩
  subst w1
  go_wp2
  go_ret2
  exact ⟨rfl, bpush (Below.refl _ _) _⟩
set_option maxRecDepth 20000 in
set_option maxHeartbeats 1000000 in
theorem refEncode_ok (k c r : Int) (pt : Part) (w : World) (hk : kindB k = true) (h0 : 0 ≤ c) (h1 : c ≤ 255) (r0 : 0 ≤ r ∧ r ≤ 4294967295) (hok : pt.ok w) (hn : pt.zs.length ≤ 1472) :
    Calls Try.prog 12 #[.agg #[.int .i64 k, .int .i64 c, .int .u32 r, pt.val]] w fun e w' => ∃ a n c', e = .returned (.tuple #[.slice a n c', .int .i64 0]) ∧ Ans w w' (msgL k c (encS k c r pt.zs) r pt.zs) a n c' := by
  have P1 : Hid (∀ w, _) := fun w => refKind_any k w
  have hkb := kind_bd hk
  rw [hk] at P1
  have CF : Hid (∀ V, Below w.heap.size w V → _) := fun V hb => refForm_any k c r pt V hkb ⟨h0, h1⟩ r0 (Part.ok_below hok hb) hn
  have HB0 : Hid (Below w.heap.size w (w.alloc (.cells #[.int .i64 k, .int .i64 c, .int .u32 r, pt.val] 26))) := bpush (Below.refl _ _) _
  have h3 : ¬ c < 0 := by omega
  have h4 : ¬ 255 < c := by omega
  have h5 : ¬ (1472 : Int) < (pt.zs.length : Int) := by omega
  clear hok hk hkb r0
  unfold Part.val at *
  generalize msgL k c (encS k c r pt.zs) r pt.zs = ML at *
  generalize pt.zs.length = l at *
  generalize pt.a = pa at *
  generalize pt.c = pc at *
  go_enter Try.func12, Try.ntmps12
  go_wp2_with fail
  refine (P1.out _).mono ?_
  rintro e w1 ⟨rfl, hw⟩
  subst w1
  go_wp2_with fail
  refine (CF.out _ HB0.out).mono ?_
  rintro e w2 ⟨a, n, c', rfl, an⟩
  have HE : Hid (Ans w w2 ML a n c') := ⟨an.1, fun b hb => by have := an.2.1 b hb; have := HB0.out.size; omega, bstep HB0.out an.2.2⟩
  clear an
  go_wp2
  go_ret2
  exact ⟨_, _, _, rfl, HE.out⟩
theorem refEncode_u (k c r : Int) (pt : Part) (w : World) (r0 : 0 ≤ r ∧ r ≤ 4294967295) (hok : pt.ok w) :
    Calls Try.prog 12 #[.agg #[.int .i64 k, .int .i64 c, .int .u32 r, pt.val]] w fun e w' => ∃ a n c', e = .returned (.tuple #[.slice a n c', .int .i64 (encE k c pt.zs.length)]) ∧ Ans w w' (encB k c r pt.zs) a n c' := by
  unfold encB encE
  by_cases h1 : kindB k = false
  · rw [if_pos h1, if_neg (by decide)]
    exact (refEncode_kind k _ _ _ w h1).mono fun e w' h => ⟨_, _, _, h.1, ans_nil h.2⟩
  · rw [if_neg h1]
    have h1' : kindB k = true := by simpa using h1
    by_cases h2 : c < 0 ∨ 255 < c
    · rw [if_pos h2, if_neg (by decide)]
      exact (refEncode_arg k c _ _ w h1' h2).mono fun e w' h => ⟨_, _, _, h.1, ans_nil h.2⟩
    · rw [if_neg h2]
      by_cases h3 : 1472 < pt.zs.length
      · rw [if_pos h3, if_neg (by decide)]
        exact (refEncode_long k c _ _ _ _ w h1' (by omega) (by omega) h3).mono fun e w' h => ⟨_, _, _, h.1, ans_nil h.2⟩
      · rw [if_neg h3, if_pos rfl]
        exact refEncode_ok k c r pt w h1' (by omega) (by omega) r0 hok (by omega)
end Go.Proofs.Ythmfappindbjnaa
