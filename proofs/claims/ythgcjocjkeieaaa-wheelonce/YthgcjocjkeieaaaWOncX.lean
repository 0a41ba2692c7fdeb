/-
  WheelOnce, walked.
-/
import Derived.Test.YthgcjocjkeieaaaWOnc
namespace Go.Proofs.Ythgcjocjkeieaaa
open Go.RowKit
set_option linter.all false

/-- between two calls of the script. -/
structure OnS (w0 w : World) (i : Nat) (b : Nat) (now last : Int) (T : List Tm) (av tv : Value) (A B : List Int) : Prop where
  on : ON w0 w b now last T av tv A B [] (.slice none 0 0) []
  m : OnM last T A B
  le : last ≤ i
  ids : ∀ x ∈ T, 1 ≤ x.id ∧ x.id ≤ last
  rise : Rising T
  l0 : 0 ≤ last
  len : T.length ≤ 1024
  high : 0 ≤ now ∧ now ≤ 1125899906842624
theorem OnS.of {w0 w : World} {i b : Nat} {now last : Int} {T : List Tm} {av tv : Value} {A B : List Int} {P : List (Nat × Obj)} {gv : Value} {G : List Tm} (h : ON w0 w b now last T av tv A B P gv G) (hm : OnM last T A B) (hl : last ≤ i) : OnS w0 w i b now last T av tv A B := by
  obtain ⟨m, K, x⟩ := h.wa
  have hi := x.inv
  exact ⟨h.clear, hm, hl, hi.2.2.2.1, hi.2.2.1, x.last0, x.len, hi.1, hi.2.1⟩
/-- the tail of each round: Len and Now. -/
structure OnT (w0 w : World) (i : Nat) (b : Nat) (now : Int) (many : Nat) (av tv : Value) (N : Nat) : Prop where
  ex : ∃ last T A B, OnS w0 w i b now last T av tv A B ∧ T.length = many ∧ A.length = N
theorem OnT.len {w0 w : World} {i b : Nat} {now : Int} {many : Nat} {av tv : Value} {N : Nat} (h : OnT w0 w i b now many av tv N) : Calls Try.prog 16 #[.pointer (some ⟨b, 0, none⟩)] w fun e w' => e = .returned (.int .i64 many) ∧ w' = w := by
  obtain ⟨last, T, A, B, h1, rfl, _⟩ := h.ex
  exact h1.on.len
theorem OnT.now {w0 w : World} {i b : Nat} {now : Int} {many : Nat} {av tv : Value} {N : Nat} (h : OnT w0 w i b now many av tv N) : Calls Try.prog 17 #[.pointer (some ⟨b, 0, none⟩)] w fun e w' => e = .returned (.int .i64 now) ∧ w' = w := by
  obtain ⟨last, T, A, B, h1, _, _⟩ := h.ex
  exact h1.on.now_
/-- Arm, where there is room. -/
theorem OnS.arm {w0 w : World} {i b : Nat} {now last : Int} {T : List Tm} {av tv : Value} {A B : List Int} (h : OnS w0 w i b now last T av tv A B) (hi : (i : Int) * 24 ≤ 140737488351232) (hT : T.length < 1024) (o : Obj) (t tag : Int) :
    Calls Try.prog 12 #[.pointer (some ⟨b, 0, none⟩), .int .i64 t, .int .i64 tag] (w.alloc o) fun e w1 => e = .returned (.tuple #[.int .i64 A.length, .int .i64 0]) ∧ w1.heap[w.heap.size]? = some o ∧
      ∃ w2 ad cap, (Builtin.append_ #[36, 36] 36 #[av, .slice (some ⟨w1.heap.size, 0, none⟩) 1 1]).run Try.prog (w1.alloc (.cells #[.int .i64 (min (max t now) 1125899906842624)] 3)) = .ok (.slice ad (A.length + 1) cap) w2 ∧
      ∃ w3 ad3 cap3, (Builtin.append_ #[36, 36] 36 #[tv, .slice (some ⟨w2.heap.size, 0, none⟩) 1 1]).run Try.prog (w2.alloc (.cells #[.int .i64 1] 3)) = .ok (.slice ad3 (A.length + 1) cap3) w3 ∧
      Hid (OnT w0 w3 (i + 1) b now (T.length + 1) (.slice ad (A.length + 1) cap) (.slice ad3 (A.length + 1) cap3) (A.length + 1)) := by
  have hA := h.m.lenA
  have hB := h.m.lenB
  have hle := h.le
  refine ((h.on.push o).arm (by omega) t tag).mono ?_
  rintro e w1 ⟨rfl, H⟩
  have hn := H.out
  unfold armN armE armL armT at *
  rw [if_pos hT, if_pos hT] at *
  have hh := hn.rows.2.2.1 _ (List.mem_cons_self ..)
  obtain ⟨w2, ad, cap, r1, n2⟩ := hn.appA (cnt now t) (by omega)
  obtain ⟨w3, ad3, cap3, r2, n3⟩ := n2.appB 1 (by omega)
  rw [hB] at r2 n3
  refine ⟨by rw [hA], hh, w2, ad, cap, r1, w3, ad3, cap3, r2, ?_⟩
  refine ⟨last + 1, _, _, _, OnS.of n3 (h.m.arm (now := now) h.ids h.l0 (cnt now t) tag) (by omega), by simp, by simp⟩
theorem OnS.full {w0 w : World} {i b : Nat} {now last : Int} {T : List Tm} {av tv : Value} {A B : List Int} (h : OnS w0 w i b now last T av tv A B) (hi : (i : Int) * 24 ≤ 140737488351232) (hT : T.length = 1024) (o : Obj) (t tag : Int) :
    Calls Try.prog 12 #[.pointer (some ⟨b, 0, none⟩), .int .i64 t, .int .i64 tag] (w.alloc o) fun e w1 => e = .returned (.tuple #[.int .i64 0, .int .i64 70]) ∧ Hid (OnT w0 w1 (i + 1) b now 1024 av tv A.length) := by
  have hle := h.le
  refine ((h.on.push o).arm (by omega) t tag).mono ?_
  rintro e w1 ⟨rfl, H⟩
  have hn := H.out
  unfold armN armE armL armT at *
  rw [if_neg (by omega), if_neg (by omega)] at *
  exact ⟨rfl, last, T, A, B, OnS.of hn h.m (by omega), hT, rfl⟩
/-- Cancel of one that is there. -/
theorem OnS.cancel {w0 w : World} {i b : Nat} {now last : Int} {T : List Tm} {av : Value} {g cap : Nat} {A B : List Int} (h : OnS w0 w i b now last T av (.slice (some ⟨g, 0, none⟩) A.length cap) A B) (hi : (i : Int) * 24 ≤ 140737488351232) (o : Obj) (a : Nat) (ha : hasT T a = true) :
    a < A.length ∧ 0 < T.length ∧ Calls Try.prog 13 #[.pointer (some ⟨b, 0, none⟩), .int .i64 a] (w.alloc o) fun e w1 => e = .returned (.bool true) ∧ w1.heap[w.heap.size]? = some o ∧ (∃ u, w1.cell? ⟨g, a, none⟩ = some u) ∧ w1.frozen? ⟨g, a, none⟩ = false ∧ Hid (OnT w0 (w1.setCell ⟨g, a, none⟩ (.int .i64 0)) (i + 1) b now (T.length - 1) av (.slice (some ⟨g, 0, none⟩) A.length cap) A.length) := by
  have hA := h.m.lenA
  have hB := h.m.lenB
  have hle := h.le
  have hal := ((h.m.is h.ids a).2 ha).2.1
  have hal2 : a < A.length := by omega
  have hdl := del_len h.rise ha
  refine ⟨hal2, by omega, ((h.on.push o).cancel (by omega) a (by unfold fits; omega)).mono ?_⟩
  rintro e w1 ⟨rfl, H⟩
  have hn := H.out
  have hr := hn.rows
  refine ⟨by rw [ha], hr.2.2.1 _ (List.mem_cons_self ..), ⟨_, hr.2.1.nthCell (by omega)⟩, (hr.2.1.setI (by omega) 0).1, ?_⟩
  have hd := h.m.del a (by omega)
  exact ⟨last, _, _, _, OnS.of (hn.setB (by omega)) hd (by omega), by omega, rfl⟩
/-- .. of none. -/
theorem OnS.cancel0 {w0 w : World} {i b : Nat} {now last : Int} {T : List Tm} {av tv : Value} {A B : List Int} (h : OnS w0 w i b now last T av tv A B) (hi : (i : Int) * 24 ≤ 140737488351232) (o : Obj) (a : Int) (hf : fits a) (ha : hasT T a = false) :
    Calls Try.prog 13 #[.pointer (some ⟨b, 0, none⟩), .int .i64 a] (w.alloc o) fun e w1 => e = .returned (.bool false) ∧ Hid (OnT w0 w1 (i + 1) b now T.length av tv A.length) := by
  have hle := h.le
  refine ((h.on.push o).cancel (by omega) a hf).mono ?_
  rintro e w1 ⟨rfl, H⟩
  have hn := H.out
  rw [h.m.gone ha] at hn
  exact ⟨by rw [ha], last, T, A, B, OnS.of hn h.m (by omega), rfl, rfl⟩
theorem OnS.idle {w0 w : World} {i b : Nat} {now last : Int} {T : List Tm} {av tv : Value} {A B : List Int} (h : OnS w0 w i b now last T av tv A B) (o : Obj) : OnT w0 (w.alloc o) (i + 1) b now T.length av tv A.length :=
  ⟨last, T, A, B, OnS.of (h.on.pass (balloc w o)) h.m (by have := h.le; omega), rfl, rfl⟩
/-- while what an Advance told is gone through. -/
structure OnL (w0 w : World) (i b : Nat) (e last : Int) (T0 T : List Tm) (av : Value) (g cap : Nat) (A : List Int) (gv : Value) (F : List Tm) (j : Nat) : Prop where
  ex : ∃ B, ON w0 w b e last T av (.slice (some ⟨g, 0, none⟩) A.length cap) A B [] gv F ∧ OnM last (strike T0 (F.take j)) A B
  fired : Fired T0 e F T
  rise : Rising T0
  ids : ∀ x ∈ T0, 1 ≤ x.id ∧ x.id ≤ last
  le : last ≤ i
  all : T0.length = F.length + T.length
theorem OnS.adv {w0 w : World} {i b : Nat} {now last : Int} {T : List Tm} {av : Value} {g cap : Nat} {A B : List Int} (h : OnS w0 w i b now last T av (.slice (some ⟨g, 0, none⟩) A.length cap) A B) (hi : (i : Int) * 24 ≤ 140737488351232) (o : Obj) (t : Int) :
    Calls Try.prog 14 #[.pointer (some ⟨b, 0, none⟩), .int .i64 t] (w.alloc o) fun en w1 => ∃ ad c F, en = .returned (.slice ad F.length c) ∧ ∃ T', Hid (OnL w0 w1 i b (min (max t now) 1125899906842624) last T T' av g cap A (.slice ad F.length c) F 0) ∧ Hid (F.length ≤ 1024) := by
  have hle := h.le
  refine ((h.on.push o).adv (by omega) t).mono ?_
  rintro en w1 ⟨ad, c, F, rfl, T', HF, HN⟩
  obtain ⟨O, h1, h2, h3, h4, h5, h6, h7, h8, h9, h10⟩ := HN.out.ex
  have hst := HF.out.strike h.rise
  have hlen := HF.out.len h.rise
  have hall : T.length = F.length + T'.length := by
    have hF := HF.out
    have : ∀ (F S : List Tm), Rising S → (∀ f ∈ F, f ∈ S) → F.Pairwise (fun a b => a.id ≠ b.id) → S.length = F.length + (strike S F).length := fun F => by
      induction F with
      | nil => intro S _ _ _; simp [strike]
      | cons f r ih =>
        intro S hS hm hp
        obtain ⟨p1, p2⟩ := List.pairwise_cons.1 hp
        have hd := del_len hS (a := f.id) (hasT_iff.2 ⟨f, hm f (by simp), rfl⟩)
        have := ih (del S f.id) (hS.del _) (fun x hx => mem_del.2 ⟨hm x (by simp [hx]), fun e => p1 x hx e.symm⟩) p2
        rw [strike, List.length_cons]
        omega
    have h1 := this F T h.rise (fun f hf => ((hF.mem f).1 hf).1) (hF.sort.imp_of_mem fun {a b} ha hb hab e => by
      have := h.rise.one ((hF.mem a).1 ha).1 ((hF.mem b).1 hb).1 e
      subst this
      exact tlt_irrefl _ hab)
    rw [hst] at h1
    exact h1
  refine ⟨ad, c, F, rfl, T', ⟨⟨B, ⟨O, h1, h2, h3, h4, h5, h6, Holds.nil _, by simp, h9, h10⟩, by rw [List.take_zero]; exact h.m⟩, HF.out, h.rise, h.ids, hle, hall⟩, ?_⟩
  have := h.len
  unfold Hid; omega
/-- what the walk reads of it. -/
structure OnC (w : World) (av : Value) (g cap : Nat) (A : List Int) (gv : Value) (F : List Tm) (j : Nat) (x : Tm) (xi : Nat) (ga gl : Nat) (ca cl : Nat) : Prop where
  av : av = .slice (some ⟨ga, 0, none⟩) A.length ca
  gv : gv = .slice (some ⟨gl, 0, none⟩) F.length cl
  id : x.id = xi
  pos : 1 ≤ xi
  lt : xi < A.length
  cT : w.cell? ⟨gl, j * 3, none⟩ = some (.int .i64 x.t)
  cI : w.cell? ⟨gl, j * 3 + 1, none⟩ = some (.int .i64 xi)
  cA : w.cell? ⟨ga, xi, none⟩ = some (.int .i64 x.t)
  cB : w.cell? ⟨g, xi, none⟩ = some (.int .i64 1)
  fB : w.frozen? ⟨g, xi, none⟩ = false
theorem OnL.at_ {w0 w : World} {i b : Nat} {e last : Int} {T0 T : List Tm} {av : Value} {g cap : Nat} {A : List Int} {gv : Value} {F : List Tm} {j : Nat} (h : OnL w0 w i b e last T0 T av g cap A gv F j) (hj : j < F.length) (hFl : F.length ≤ 1024) :
    ∃ x xi ga gl ca cl, OnC w av g cap A gv F j x xi ga gl ca cl ∧ x.t ≤ e ∧ (∀ q, OnL w0 ((w.drewN q).setCell ⟨g, xi, none⟩ (.int .i64 0)) i b e last T0 T av g cap A gv F (j + 1)) ∧
      (0 < j → ∃ (yt : Int) (yi : Nat), w.cell? ⟨gl, (j - 1) * 3, none⟩ = some (.int .i64 yt) ∧ w.cell? ⟨gl, (j - 1) * 3 + 1, none⟩ = some (.int .i64 yi) ∧ (yt < x.t ∨ (yt = x.t ∧ yi < xi))) := by
  obtain ⟨B, hn, hm⟩ := h.ex
  obtain ⟨r1, r2, _, r4⟩ := hn.rows
  have hx : F[j]? = some F[j] := List.getElem?_eq_getElem hj
  generalize F[j] = x at hx
  obtain ⟨k1, k2, k3, k4⟩ := h.fired.at_ h.rise hx
  have hid := h.ids x k1
  have hA := hm.lenA
  have hB := hm.lenB
  obtain ⟨xi, hxi⟩ : ∃ xi : Nat, x.id = xi := ⟨x.id.toNat, by omega⟩
  have hlt : xi < A.length := by omega
  obtain ⟨ga, ca, hav, _⟩ := r1.formI (by omega)
  have hp := PartF.of r4 (by omega)
  obtain ⟨ad, cl, hgv, _, hpp⟩ := hp.ex
  obtain ⟨gl, rfl, hcells⟩ := hpp (by omega)
  obtain ⟨c1, c2, c3⟩ := hcells j x hx
  have cB := r2.nthCell (j := xi) (by omega)
  have hone : nth B xi = 1 := by
    rw [hm.there xi (by omega), if_pos]
    rw [← hxi]
    exact hasT_iff.2 ⟨x, k3, rfl⟩
  rw [hone] at cB
  rw [hav] at r1
  have cA := r1.nthCell hlt
  have hat := hm.at_ x k3
  rw [hxi, Int.toNat_natCast] at hat
  rw [hat] at cA
  rw [hxi] at c2
  refine ⟨x, xi, ga, gl, ca, cl, ⟨hav, hgv, hxi, by omega, hlt, c1, c2, cA, cB, (r2.setI (by omega) 0).1⟩, k2, fun q => ⟨⟨B.set xi 0, (hn.drewN q).setB (by omega), ?_⟩, h.fired, h.rise, h.ids, h.le, h.all⟩, fun h0 => ?_⟩
  · rw [List.take_succ_eq_append_getElem hj, strike_app]
    have e1 : F[j] = x := by have := List.getElem?_eq_getElem hj; rw [hx] at this; exact (Option.some.inj this).symm
    rw [e1, hxi]
    exact hm.del xi (by omega)
  · have hy : F[j - 1]? = some F[j - 1] := List.getElem?_eq_getElem (by omega)
    generalize F[j - 1] = y at hy
    have hyi := h.ids y ((h.fired.mem y).1 (List.mem_of_getElem? hy)).1
    obtain ⟨d1, d2, d3⟩ := hcells (j - 1) y hy
    have ht := k4 y h0 hy
    refine ⟨y.t, y.id.toNat, d1, by rw [Int.toNat_of_nonneg (by omega)]; exact d2, ?_⟩
    unfold tlt at ht
    omega
/-- all is gone through. -/
theorem OnL.done {w0 w : World} {i b : Nat} {e last : Int} {T0 T : List Tm} {av : Value} {g cap : Nat} {A : List Int} {gv : Value} {F : List Tm} {j : Nat} (h : OnL w0 w i b e last T0 T av g cap A gv F j) (hj : F.length ≤ j) (hi : (i : Int) * 24 ≤ 140737488351232) :
    Calls Try.prog 15 #[.pointer (some ⟨b, 0, none⟩)] w fun en w1 => ∃ M : Int, en = .returned (.tuple #[.int .i64 M, .bool (decide (0 < T.length))]) ∧ Hid (0 < T.length → e < M) ∧ Hid (OnT w0 w1 (i + 1) b e T.length av (.slice (some ⟨g, 0, none⟩) A.length cap) A.length) := by
  obtain ⟨B, hn, hm⟩ := h.ex
  rw [List.take_of_length_le hj, h.fired.strike h.rise] at hm
  have hle := h.le
  refine (hn.next (by omega)).mono ?_
  rintro en w1 ⟨rfl, HN⟩
  refine ⟨nxt T, rfl, fun h0 => ?_, last, T, A, B, OnS.of HN.out hm (by omega), rfl, rfl⟩
  obtain ⟨y, hy, e1⟩ := (nxt_min h0).is
  rw [h.fired.left] at hy
  have := (List.mem_filter.1 hy).2
  simp at this
  omega
end Go.Proofs.Ythgcjocjkeieaaa
