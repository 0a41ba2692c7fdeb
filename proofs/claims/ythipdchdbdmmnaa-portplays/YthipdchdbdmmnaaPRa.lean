/-
  Port: the document's table: add, Open, Close.
-/
import Derived.Test.YthipdchdbdmmnaaPRt
namespace Go.Proofs.Ythipdchdbdmmnaa
open Go.RowKit
set_option linter.all false

theorem infoPp : (Try.prog.info? 108).map (fun i => (i.zero, i.size, i.bytes)) = some (some (.pointer none), 1, 8) := by kernel_rfl
/-- a list of pointers being laid. -/
structure AdI (w : World) (n : Int) (v : Value) (ps : List Value) (nb : Option Nat) (wr : World) : Prop where
  row : Row wr 108 v ps
  from' : ∀ b, v.ownBlock = some b → w.heap.size ≤ b
  bel : Below w.heap.size w wr
  box : ∀ b, nb = some b → w.heap.size ≤ b ∧ wr.heap[b]? = some (.cells #[.int .i64 n, .int .i64 0, .slice none 0 0] 110 (0, 0))
theorem AdI.start (w : World) (n : Int) : AdI w n (.slice none 0 0) [] none w := ⟨Row.nil _ _, by simp [Value.ownBlock], Below.refl _ _, by simp⟩
theorem AdI.new {w wr : World} {n : Int} {v : Value} {ps : List Value} {nb : Option Nat} (h : AdI w n v ps nb wr) : AdI w n v ps (some wr.heap.size) (wr.alloc (.cells #[.int .i64 n, .int .i64 0, .slice none 0 0] 110)) :=
  ⟨h.row.below (bpush (Below.refl _ _) _), h.from', bpush h.bel _, fun b hb => by simp at hb; subst hb; exact ⟨h.bel.size, heap_new wr _⟩⟩
theorem AdI.one {w wr : World} {n : Int} {v : Value} {ps : List Value} {nb : Option Nat} (h : AdI w n v ps nb wr) (p : Nat) (hl : ps.length ≤ 1000) :
    ∃ gg nn cc w', (Builtin.append_ #[87, 87] 87 #[v, .slice (some ⟨wr.heap.size, 0, none⟩) 1 1]).run Try.prog (wr.alloc (.cells #[.pointer (some ⟨p, 0, none⟩)] 108)) = .ok (.slice (some ⟨gg, 0, none⟩) nn cc) w' ∧ AdI w n (.slice (some ⟨gg, 0, none⟩) nn cc) (ps ++ [.pointer (some ⟨p, 0, none⟩)]) nb w' := by
  have bl := (Below.refl wr.heap.size wr).alloc (Nat.le_refl _) (.cells #[.pointer (some ⟨p, 0, none⟩)] 108)
  have ra := h.row.below bl
  have hsz := h.bel.size
  obtain ⟨v', w', hrun, row', hgr', hcase⟩ := append_one 87 87 108 _ 8 Try.underlying87 infoPp rfl ra (.pointer (some ⟨p, 0, none⟩)) rfl wr.heap.size _ (heap_new _ _) (by unfold maxLen; omega) (by omega)
  have hbel : Below w.heap.size w w' := (h.bel.trans (bl.mono hsz)).grown hgr' (by simp; omega) (fun k hk => h.from' k hk)
  have hbox : ∀ b, nb = some b → w.heap.size ≤ b ∧ w'.heap[b]? = some (.cells #[.int .i64 n, .int .i64 0, .slice none 0 0] 110 (0, 0)) := fun b hb => by
    obtain ⟨h1, h2⟩ := h.box b hb
    have h3 := kept h2 bl
    refine ⟨h1, ?_⟩
    rw [hgr'.block b (heap_lt h3) (fun e => ?_)]
    · exact h3
    · obtain ⟨cur, f, hc⟩ := ra.obj e.symm
      rw [hc] at h3
      simp at h3
  rcases hcase with ⟨g0, cap, e1, e2⟩ | ⟨g0, cap, e2, hnew, _⟩
  · subst e2
    exact ⟨g0, _, cap, w', hrun, row', fun b hb => h.from' b (by rw [e1]; exact hb), hbel, hbox⟩
  · subst e2
    refine ⟨g0, _, cap, w', hrun, row', fun b hb => ?_, hbel, hbox⟩
    simp [Value.ownBlock] at hb
    simp at hnew
    omega
/-- how many are ahead of n. -/
def ahead (L : List Ab) (n : Int) : Nat := (L.filter fun y => decide (y.ip < n)).length
theorem rise_split : ∀ {L : List Ab} (h : Rise L) (n : Int), L = (L.filter fun y => decide (y.ip < n)) ++ L.filter fun y => decide (¬ y.ip < n)
  | [], _, _ => rfl
  | x :: L, h, n => by
    have h' := List.pairwise_cons.1 h
    by_cases hx : x.ip < n
    · rw [List.filter_cons_of_pos (by simpa using hx), List.filter_cons_of_neg (by simpa using hx), List.cons_append, ← rise_split h'.2 n]
    · have e : (L.filter fun y => decide (y.ip < n)) = [] := List.filter_eq_nil_iff.2 fun y hy => by have := h'.1 y hy; simp; omega
      have e2 : (L.filter fun y => decide (¬ y.ip < n)) = L := List.filter_eq_self.2 fun y hy => by have := h'.1 y hy; simp; omega
      rw [List.filter_cons_of_neg (by simpa using hx), e, List.nil_append, List.filter_cons_of_pos (by simpa using hx), e2]
theorem split_take {L A B : List Ab} (h : L = A ++ B) : L.take A.length = A ∧ L.drop A.length = B := by subst h; simp
theorem ahead_take {L : List Ab} (h : Rise L) (n : Int) : L.take (ahead L n) = L.filter fun y => decide (y.ip < n) := (split_take (rise_split h n)).1
theorem ahead_drop {L : List Ab} (h : Rise L) (n : Int) : L.drop (ahead L n) = L.filter fun y => decide (¬ y.ip < n) := (split_take (rise_split h n)).2
theorem ahead_le (L : List Ab) (n : Int) : ahead L n ≤ L.length := List.length_filter_le _ _
theorem ahead_lt {L : List Ab} (h : Rise L) {n : Int} {k : Nat} {y : Ab} (hy : L[k]? = some y) : y.ip < n ↔ k < ahead L n := by
  constructor
  · intro hn
    by_cases hk : k < ahead L n
    · exact hk
    · have : y ∈ L.drop (ahead L n) := by
        rw [List.mem_iff_getElem?]
        exact ⟨k - ahead L n, by rw [List.getElem?_drop, show ahead L n + (k - ahead L n) = k by omega]; exact hy⟩
      rw [ahead_drop h] at this
      have := (List.mem_filter.1 this).2
      simp at this
      omega
  · intro hk
    have : y ∈ L.take (ahead L n) := by
      rw [List.mem_iff_getElem?]
      exact ⟨k, by rw [List.getElem?_take, if_pos hk]; exact hy⟩
    rw [ahead_take h] at this
    simpa using (List.mem_filter.1 this).2
theorem put_ahead {L : List Ab} (h : Rise L) (x : Ab) (hx : look L x.ip = none) : put L x = L.take (ahead L x.ip) ++ x :: L.drop (ahead L x.ip) := by
  rw [ahead_take h, ahead_drop h]
  unfold put
  congr 2
  apply List.filter_congr
  intro y hy
  have : y.ip ≠ x.ip := by
    unfold look at hx
    rw [List.find?_eq_none] at hx
    simpa using hx y hy
  simp
  omega
theorem ptrs_app (A B : List Ab) : ptrs (A ++ B) = ptrs A ++ ptrs B := by simp [ptrs]
theorem ptrs_take {L : List Ab} {k : Nat} {y : Ab} (hy : L[k]? = some y) : ptrs (L.take (k + 1)) = ptrs (L.take k) ++ [.pointer (some ⟨y.b, 0, none⟩)] := by
  have hk : k < L.length := (List.getElem?_eq_some_iff.1 hy).1
  rw [List.take_succ_eq_append_getElem hk, ptrs_app]
  rw [List.getElem?_eq_getElem hk] at hy
  simp at hy
  rw [hy]
  rfl
/-- the list behind k rounds; b: the new one's box, once it is laid. -/
def adL (L : List Ab) (n : Int) (nb : Option Nat) (k : Nat) : List Value :=
  match nb with
  | none => ptrs (L.take k)
  | some b => ptrs (L.take (ahead L n)) ++ .pointer (some ⟨b, 0, none⟩) :: ptrs ((L.drop (ahead L n)).take (k - ahead L n))
theorem adL_next {L : List Ab} {n : Int} {nb : Option Nat} {k : Nat} {y : Ab} (hy : L[k]? = some y) (hb : ∀ b, nb = some b → ahead L n ≤ k) : adL L n nb (k + 1) = adL L n nb k ++ [.pointer (some ⟨y.b, 0, none⟩)] := by
  cases nb with
  | none => exact ptrs_take hy
  | some b =>
    have hk := hb b rfl
    simp only [adL]
    rw [show k + 1 - ahead L n = (k - ahead L n) + 1 by omega, ptrs_take (L := L.drop (ahead L n)) (k := k - ahead L n) (y := y) (by rw [List.getElem?_drop, show ahead L n + (k - ahead L n) = k by omega]; exact hy)]
    simp
theorem adL_lay {L : List Ab} {n : Int} {k b : Nat} (hk : k = ahead L n) : adL L n (some b) k = adL L n none k ++ [.pointer (some ⟨b, 0, none⟩)] := by
  subst hk
  simp [adL, ptrs]
theorem adL_end {L : List Ab} (h : Rise L) {n : Int} {b : Nat} (hl : look L n = none) : adL L n (some b) L.length = ptrs (put L ⟨n, b, .slice none 0 0, 0, []⟩) := by
  rw [put_ahead h _ hl]
  simp only [adL]
  rw [List.take_of_length_le (i := L.length - ahead L n) (by simp), ptrs_app]
  rfl
theorem adL_len (L : List Ab) (n : Int) (nb : Option Nat) (k : Nat) : (adL L n nb k).length ≤ L.length + 1 := by
  have := ahead_le L n
  cases nb with
  | none => simp [adL, ptrs]; omega
  | some b => simp [adL, ptrs]; omega
/-- behind an add. -/
def AddP (w w' : World) (c : Nat) (n : Int) (L : List Ab) : Prop := ∃ b v' wr, AdI w n v' (ptrs (put L ⟨n, b, .slice none 0 0, 0, []⟩)) (some b) wr ∧ w' = wr.setCell ⟨c, 0, none⟩ v'
set_option maxRecDepth 20000 in
set_option maxHeartbeats 2000000 in
theorem radd_any (c : Nat) (v : Value) (M D : Int) (L : List Ab) (n : Int) (w : World) (x : RPoW w c v M D L) (hl : look L n = none) :
    Calls Try.prog 53 #[.pointer (some ⟨c, 0, none⟩), .int .i64 n] w fun e w' => e = .returned (.tuple #[]) ∧ Hid (AddP w w' c n L) := by
  obtain ⟨a, cp, rfl, _⟩ := x.row.form
  have hlen := x.len
  have hm := x.most
  have HX := hid x
  have hbox := x.box
  rw [show (ptrs L).length = L.length by simp [ptrs]] at HX hbox
  have HBX := hid hbox
  have HR := hid x.rise
  clear x hbox
  have HEND : Hid (∀ b, adL L n (some b) L.length = ptrs (put L ⟨n, b, .slice none 0 0, 0, []⟩)) := fun b => adL_end HR.out hl
  obtain ⟨N, HN⟩ : ∃ N, Hid (L.length = N) := ⟨_, rfl⟩
  rw [HN.out] at hlen HX HBX HEND
  have hN : N ≤ 16 := by omega
  have HLL := hid hl
  clear hl
  obtain ⟨A, HA⟩ : ∃ A, Hid (ahead L n = A) := ⟨_, rfl⟩
  have hAN : A ≤ N := by rw [← HA.out, ← HN.out]; exact ahead_le L n
  go_enter Try.func53, Try.ntmps53
  go_wp2
  go_loopw [4, 5, 6] (fun v f i wr => ∃ (k : Nat) (nb : Option Nat) (o : Option Addr) (ol oc : Nat), k ≤ N ∧ i = .int .i64 k ∧ f = .bool nb.isSome ∧ v = .slice o ol oc ∧ Hid (AdI w n v (adL L n nb k) nb wr ∧ (nb.isSome = true ↔ A < k))) (fun _ _ i _ => N - (intOf i).toNat)
  case atStart => exact ⟨0, none, none, 0, 0, Nat.zero_le _, rfl, rfl, rfl, AdI.start w n, by simp⟩
  case round =>
    obtain ⟨k, nb, o, ol, oc, hk, rfl, rfl, rfl, HI⟩ := hrel
    have hc0 : wr.cell? ⟨c, 0, none⟩ = some (.slice a N cp) := cell_of_heap (kept HBX.out HI.out.1.bel) 0
    by_cases hlt : k < N
    · have hkl : k < L.length := by rw [HN.out]; exact hlt
      obtain ⟨y, hy⟩ : ∃ y, L[k]? = some y := ⟨_, List.getElem?_eq_getElem hkl⟩
      have hyn : y.ip ≠ n := by
        have := HLL.out
        unfold look at this
        rw [List.find?_eq_none] at this
        simpa using this y (List.mem_of_getElem? hy)
      have hcmp : n < y.ip ↔ A ≤ k := by
        have := ahead_lt HR.out hy (n := n)
        rw [HA.out] at this
        omega
      obtain ⟨g, hga, hcp⟩ := HX.out.ptr hy
      subst hga
      have hcw : wr.cell? ⟨g, k, none⟩ = some (.pointer (some ⟨y.b, 0, none⟩)) := by
        rw [HI.out.1.bel.cell (p := ⟨g, k, none⟩) (World.block_lt_of_cell? w _ hcp)]; exact hcp
      have hbx := (HX.out.ents y (List.mem_of_getElem? hy)).box
      have hny : wr.cell? ⟨y.b, 0, none⟩ = some (.int .i64 y.ip) := cell_of_heap (kept hbx HI.out.1.bel) 0
      have HY := hid hy
      clear hcp hbx hy hkl hyn
      have HLN := hid (fun nb => adL_len L n nb k)
      cases nb with
      | some b =>
        simp only [Option.isSome_some, true_iff] at HI
        obtain ⟨gg, nn, cc, w', hrun, h1⟩ := HI.out.1.one y.b (by have := HLN.out (some b); have := HN.out; omega)
        rw [← adL_next HY.out (fun b' _ => by rw [HA.out]; have := HI.out.2; omega)] at h1
        have HRUN := hid hrun
        have H1 := hid h1
        have HAk : Hid (A < k) := HI.out.2
        clear hrun h1 HI hcmp HLN
        generalize y.b = yb at *
        go_wp2_with (first | (at_builtin; refine wpList_append_run _ rfl _ _ 87 87 rfl _ _ rfl rfl HRUN.out ?_; clear HRUN) | fail)
        go_roundw
        case rel => exact ⟨k + 1, some b, _, nn, cc, by omega, by go_num, rfl, rfl, H1.out, by simp; have := HAk.out; omega⟩
        case measure => simp [intOf]; omega
      | none =>
        have HAk : Hid (k ≤ A) := by have := HI.out.2; simp at this; exact this
        by_cases hgt : n < y.ip
        · have hkA : k = A := by have := hcmp.1 hgt; have := HAk.out; omega
          have h0 := HI.out.1.new
          obtain ⟨g1, n1, c1, w1, hrun1, h1⟩ := h0.one wr.heap.size (by have := HLN.out none; have := HN.out; omega)
          rw [← adL_lay (by rw [HA.out]; exact hkA)] at h1
          obtain ⟨g2, n2, c2, w2, hrun2, h2⟩ := h1.one y.b (by have := HLN.out (some wr.heap.size); have := HN.out; omega)
          rw [← adL_next HY.out (fun b' _ => by rw [HA.out]; omega)] at h2
          rw [World.size_alloc] at hrun1
          have hcw1 : w1.cell? ⟨g, k, none⟩ = some (.pointer (some ⟨y.b, 0, none⟩)) := by
            obtain ⟨g', hg', hcp⟩ := HX.out.ptr HY.out
            simp only [Option.some.injEq, Addr.mk.injEq, and_true] at hg'
            subst hg'
            rw [h1.bel.cell (p := ⟨g, k, none⟩) (World.block_lt_of_cell? w _ hcp)]; exact hcp
          have hc1 : w1.cell? ⟨c, 0, none⟩ = some (.slice (some ⟨g, 0, none⟩) N cp) := cell_of_heap (kept HBX.out h1.bel) 0
          have HRUN1 := hid hrun1
          have HRUN2 := hid hrun2
          have H2 := hid h2
          have HKA := hid hkA
          clear hrun1 hrun2 h0 h1 h2 HI hcmp HLN hkA
          generalize y.b = yb at *
          generalize y.ip = yi at *
          go_wp2_with (first | (at_builtin; refine wpList_append_run _ rfl _ _ 87 87 rfl _ _ rfl rfl HRUN1.out ?_; clear HRUN1) | (at_builtin; refine wpList_append_run _ rfl _ _ 87 87 rfl _ _ rfl rfl HRUN2.out ?_; clear HRUN2) | fail)
          go_roundw
          case rel => exact ⟨k + 1, some wr.heap.size, _, n2, c2, by omega, by go_num, rfl, rfl, H2.out, by simp; have := HKA.out; omega⟩
          case measure => simp [intOf]; omega
        · have hkA : k < A := by have := HAk.out; have h : ¬ A ≤ k := fun h => hgt (hcmp.2 h); omega
          obtain ⟨gg, nn, cc, w', hrun, h1⟩ := HI.out.1.one y.b (by have := HLN.out none; have := HN.out; omega)
          rw [← adL_next HY.out (fun b' h => by simp at h)] at h1
          have HRUN := hid hrun
          have H1 := hid h1
          have HKA := hid hkA
          clear hrun h1 HI hcmp HLN hkA
          generalize y.b = yb at *
          generalize y.ip = yi at *
          go_wp2_with (first | (at_builtin; refine wpList_append_run _ rfl _ _ 87 87 rfl _ _ rfl rfl HRUN.out ?_; clear HRUN) | fail)
          go_roundw
          case rel => exact ⟨k + 1, none, _, nn, cc, by omega, by go_num, rfl, rfl, H1.out, by simp; have := HKA.out; omega⟩
          case measure => simp [intOf]; omega
    · have hkN : k = N := by omega
      have HKN := hid hkN
      have hf0 : wr.frozen? ⟨c, 0, none⟩ = false := frozen_of_heap (kept HBX.out HI.out.1.bel) 0
      cases nb with
      | some b =>
        have HE : Hid (AdI w n (.slice o ol oc) (ptrs (put L ⟨n, b, .slice none 0 0, 0, []⟩)) (some b) wr) := by
          rw [← HEND.out b, ← HKN.out]; exact HI.out.1
        clear HI HEND hkN
        go_wp2
        exact bodyPost_end (v := .tuple #[]) (by simp [results, Try.results53, go_sem]) rfl ⟨rfl, b, _, wr, HE.out, rfl⟩
      | none =>
        have h0 := HI.out.1.new
        obtain ⟨g1, n1, c1, w1, hrun1, h1⟩ := h0.one wr.heap.size (by have := adL_len L n none k; have := HN.out; omega)
        have hkA : k = A := by have := HI.out.2; simp at this; omega
        rw [← adL_lay (by rw [HA.out]; exact hkA), hkN, HEND.out] at h1
        rw [World.size_alloc] at hrun1
        have hc1 : w1.cell? ⟨c, 0, none⟩ = some (.slice a N cp) := cell_of_heap (kept HBX.out h1.bel) 0
        have hf1 : w1.frozen? ⟨c, 0, none⟩ = false := frozen_of_heap (kept HBX.out h1.bel) 0
        have HRUN1 := hid hrun1
        have HE := hid h1
        clear h0 hrun1 h1 HI HEND hkN hkA
        go_wp2_with (first | (at_builtin; refine wpList_append_run _ rfl _ _ 87 87 rfl _ _ rfl rfl HRUN1.out ?_; clear HRUN1) | fail)
        exact bodyPost_end (v := .tuple #[]) (by simp [results, Try.results53, go_sem]) rfl ⟨rfl, wr.heap.size, _, w1, HE.out, rfl⟩

/-! ### A table with one more -/
theorem mem_ptrs_b {L : List Ab} {y : Ab} (h : y ∈ L) : y.b ∈ L.map (·.b) := List.mem_map_of_mem h
/-- what a call turned of a table: its blocks alone, and new ones. -/
structure RAct (w w' : World) (c : Nat) (v v' : Value) (L L' : List Ab) : Prop where
  only : Only (RF c v L) w w'
  foot : ∀ k, RF c v' L' k → RF c v L k ∨ w.heap.size ≤ k
theorem RAct.refl {w w' : World} {c : Nat} {v : Value} {L : List Ab} (h : Below w.heap.size w w') : RAct w w' c v v L L := ⟨Only.of_below h, fun k hk => Or.inl hk⟩
theorem RPoW.added {w w' : World} {c : Nat} {v : Value} {M D : Int} {L : List Ab} {n : Int} (x : RPoW w c v M D L) (hn : 1 ≤ n ∧ n ≤ 65535) (hl : look L n = none) (hlen : (L.length : Int) ≠ M) (h : AddP w w' c n L) :
    ∃ v' L', RPoW w' c v' M D L' ∧ abs L' = aput (abs L) ⟨n, 0, []⟩ ∧ RAct w w' c v v' L L' := by
  obtain ⟨b, v', wr, hA, rfl⟩ := h
  have hc : c < w.heap.size := heap_lt x.box
  obtain ⟨hb1, hb2⟩ := hA.box b rfl
  have bu : But c wr (wr.setCell ⟨c, 0, none⟩ v') := But.setCell _ _ _ _
  have hkeep : ∀ k, k ≠ c → k < w.heap.size → (wr.setCell ⟨c, 0, none⟩ v').heap[k]? = w.heap[k]? := fun k hk hl => (bu.block k hk (Nat.lt_of_lt_of_le hl hA.bel.size)).trans (hA.bel.block k hl)
  have hbxT : ∀ y ∈ L, y.b ≠ c := fun y hy e => by
    have h1 := (x.ents y hy).box
    rw [e, x.box] at h1
    simp at h1
  have hqT : ∀ y ∈ L, y.q.ownBlock ≠ some c := fun y hy e => by
    obtain ⟨cur, h1⟩ := (x.ents y hy).row.obj e
    rw [x.box] at h1
    simp at h1
  have hdT : ∀ y ∈ L, ∀ d ∈ y.ds, d.2.ownBlock ≠ some c := fun y hy d hd e => by
    obtain ⟨cur, f, h1⟩ := ((x.ents y hy).data d hd).obj e
    rw [x.box] at h1
    simp at h1
  have hents : ∀ y ∈ L, REnt (wr.setCell ⟨c, 0, none⟩ v') y := fun y hy => (x.ents y hy).keep fun k hk => by
    have hlt := x.lt k (Or.inr (Or.inr ⟨y, hy, hk⟩))
    refine hkeep k ?_ hlt
    rintro rfl
    rcases hk with e | e | ⟨d, hd, e⟩
    · exact hbxT y hy e.symm
    · exact hqT y hy e
    · exact hdT y hy d hd e
  have hnew : (wr.setCell ⟨c, 0, none⟩ v').heap[b]? = some (.cells #[.int .i64 n, .int .i64 0, .slice none 0 0] 110 (0, 0)) := (bu.block b (by omega) (heap_lt hb2)).trans hb2
  have hlt := x.len
  have hp := x.rise.perm_put ⟨n, b, .slice none 0 0, 0, []⟩
  rw [del_none (look_none hl)] at hp
  refine ⟨v', put L ⟨n, b, .slice none 0 0, 0, []⟩, ?_, abs_add, ?_⟩
  · refine { box := ?_, row := hA.row.but bu (fun k hk => by have := hA.from' k hk; omega), rise := x.rise.put _, ents := fun y hy => ?_, nb := ?_, nq := ?_, most := x.most, depth := x.depth, len := ?_, deep := fun y hy => ?_, nums := fun y hy => ?_ }
    · have := heap_setCell (j := 0) (v := v') (kept x.box hA.bel)
      simpa using this
    · rcases mem_put.1 hy with rfl | ⟨hy, _⟩
      · exact ⟨hnew, RowD.nil _, by simp, by simp, by simp⟩
      · exact hents y hy
    · rw [(hp.map _).nodup_iff, List.map_cons, List.nodup_cons]
      refine ⟨fun hk => ?_, x.nb⟩
      obtain ⟨y, hy, e⟩ := List.mem_map.1 hk
      have := heap_lt (x.ents y hy).box
      simp only at e
      omega
    · rw [(hp.filterMap _).nodup_iff, List.filterMap_cons]
      exact x.nq
    · rw [hp.length_eq]
      simp
      omega
    · rcases mem_put.1 hy with rfl | ⟨hy, _⟩
      · have := x.depth; simp; omega
      · exact x.deep y hy
    · rcases mem_put.1 hy with rfl | ⟨hy, _⟩
      · exact hn
      · exact x.nums y hy
  · refine ⟨⟨?_, ?_, ?_, ?_, fun k hk hl => hkeep k (fun e => hk (Or.inl e)) hl⟩, ?_⟩
    · exact bu.os.trans hA.bel.os
    · exact bu.tape.trans hA.bel.tape
    · exact bu.output.trans hA.bel.output
    · exact Nat.le_trans hA.bel.size bu.size
    · rintro k (rfl | hv | ⟨y, hy, hk⟩)
      · exact Or.inl (Or.inl rfl)
      · exact Or.inr (hA.from' k hv)
      · rcases mem_put.1 hy with rfl | ⟨hy, _⟩
        · rcases hk with rfl | e | ⟨d, hd, e⟩
          · exact Or.inr hb1
          · simp [Value.ownBlock] at e
          · simp at hd
        · exact Or.inl (Or.inr (Or.inr ⟨y, hy, hk⟩))
end Go.Proofs.Ythipdchdbdmmnaa
