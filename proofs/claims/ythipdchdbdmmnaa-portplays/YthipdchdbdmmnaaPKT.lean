/-
  Port: the table's calls beside other memory: what stays; tables as lists, without memory.
-/
import Derived.Test.YthipdchdbdmmnaaPLive
namespace Go.Proofs.Ythipdchdbdmmnaa
open Go.RowKit
set_option linter.all false

/-- what holds nothing of a table or a dice stays. -/
def Keeps (w w' : World) : Prop := ∀ (b : Nat) (C : Array Value) (t : TypeId) (f : Nat × Nat), w.heap[b]? = some (.cells C t f) → t ≠ 85 → t ≠ 53 → t ≠ 92 → w'.heap[b]? = some (.cells C t f)
theorem Keeps.refl (w : World) : Keeps w w := fun _ _ _ _ h _ _ _ => h
theorem Keeps.below {w w' : World} (h : Below w.heap.size w w') : Keeps w w' := fun _ _ _ _ hb _ _ _ => kept hb h
theorem Keeps.trans {a b c : World} (h : Keeps a b) (k : Keeps b c) : Keeps a c := fun g C t f hg h1 h2 h3 => k g C t f (h g C t f hg h1 h2 h3) h1 h2 h3
section
variable {w0 w w' : World} {c m : Nat} {M D : Int} {L : List Ab} {S : List Pa} {p : Nat} {a : Option Addr} {cp : Nat} {zs : List Int}
theorem PoW.keeps {L' : List Ab} (x : PoW w c m M D L) (h : PAct w w' m L L') : Keeps w w' := fun b C t f hb h1 h2 _ => (h.only.block b (PK.ne x hb h1 h2) (heap_lt hb)).trans hb
theorem Pz.keeps (x : PoW w c m M D L) (h : Pz w w' c m M D L S) : Keeps w w' := by
  obtain ⟨L', _, _, h3⟩ := h
  exact x.keeps h3
theorem kt_open (h : LT w0 w c m M D S p zs) (n : Int) (hn : ipOk n) :
    Calls Try.prog 17 #[.pointer (some ⟨c, 0, none⟩), .int .i64 n] w fun e w' => e = .returned (.int .i64 (openE M S n)) ∧ Hid (LT w0 w' c m M D (openF M S n) p zs ∧ Keeps w w') := by
  obtain ⟨L, a, cp, h, rfl⟩ := h
  exact (popen_any c m M D L n w h.tab hn).mono fun e w' ⟨h1, h2⟩ => ⟨h1, h.pz h2.out, Pz.keeps h.tab h2.out⟩
theorem kt_close (h : LT w0 w c m M D S p zs) (n : Int) (hn : ipOk n) :
    Calls Try.prog 20 #[.pointer (some ⟨c, 0, none⟩), .int .i64 n] w fun e w' => e = .returned (.bool (alook S n).isSome) ∧ Hid (LT w0 w' c m M D (adel S n) p zs ∧ Keeps w w') := by
  obtain ⟨L, a, cp, h, rfl⟩ := h
  exact (pclose_any c m M D L n w h.tab hn).mono fun e w' ⟨h1, h2⟩ => ⟨h1, h.pz h2.out, Pz.keeps h.tab h2.out⟩
theorem kt_put (h : LT w0 w c m M D S p zs) (d : Dg) (va : Option Addr) (vc : Nat) (hok : d.ok) (hp : Part.ok w ⟨va, vc, d.zs⟩) (hz : d.zs.length ≤ 140737488355328) (hdr : ∀ y ∈ S, y.dr < 4611686018427387904) :
    Calls Try.prog 19 #[.pointer (some ⟨c, 0, none⟩), .agg (d.cells (.slice va d.zs.length vc)).toArray] w fun e w' => e = .returned (.int .i64 (putE D S d)) ∧ Hid (LT w0 w' c m M D (putF D S d) p zs ∧ Keeps w w') := by
  obtain ⟨L, a, cp, h, rfl⟩ := h
  exact (pput_any c m M D L d va vc w h.tab hok hp hz hdr).mono fun e w' ⟨h1, h2⟩ => ⟨h1, h.pz h2.out, Pz.keeps h.tab h2.out⟩
theorem kt_take_none (h : LT w0 w c m M D S p zs) (n : Int) (hn : ipOk n) (hd : takeD S n = none) :
    Calls Try.prog 21 #[.pointer (some ⟨c, 0, none⟩), .int .i64 n] w fun e w' => e = .returned (.tuple #[dz, .bool false]) ∧ Hid (LT w0 w' c m M D S p zs ∧ Keeps w w') := by
  obtain ⟨L, a, cp, h, rfl⟩ := h
  cases hl : look L n with
  | none => exact (ptake_closed c m M D L n w h.tab hn hl).mono fun e w' ⟨h1, h2⟩ => ⟨h1, h.pz h2.out, Pz.keeps h.tab h2.out⟩
  | some y =>
    have hy : y.ds = [] := by
      unfold takeD at hd
      rw [abs_some hl] at hd
      simpa [Ab.abs] using hd
    exact (ptake_void c m M D L n y w h.tab hn hl hy).mono fun e w' ⟨h1, h2⟩ => ⟨h1, h.pz h2.out, Pz.keeps h.tab h2.out⟩
theorem kt_take_some (h : LT w0 w c m M D S p zs) (n : Int) (hn : ipOk n) (d : Dg) (hd : takeD S n = some d) :
    Calls Try.prog 21 #[.pointer (some ⟨c, 0, none⟩), .int .i64 n] w fun e w' => ∃ va vc, e = .returned (.tuple #[.agg (d.cells (.slice va d.zs.length vc)).toArray, .bool true]) ∧ Hid (LT w0 w' c m M D (takeF S n) p zs ∧ Keeps w w' ∧ Row w' 5 (.slice va d.zs.length vc) (u8s d.zs) ∧ d.ok) := by
  obtain ⟨L, a, cp, h, rfl⟩ := h
  cases hl : look L n with
  | none => unfold takeD at hd; rw [abs_none hl] at hd; simp at hd
  | some y =>
    have hd2 := hd
    unfold takeD at hd2
    rw [abs_some hl] at hd2
    simp only [Option.bind_some, Ab.abs] at hd2
    cases hy : y.ds with
    | nil => rw [hy] at hd2; simp at hd2
    | cons dv r =>
      obtain ⟨d', v⟩ := dv
      rw [hy] at hd2
      simp at hd2
      subst hd2
      have hf : takeF (abs L) n = aput (abs L) { y.abs with ds := r.map Prod.fst } := by
        unfold takeF
        rw [abs_some hl]
        simp [Ab.abs, hy]
      rw [hf]
      refine (ptake_one c m M D L n y d' v r w h.tab hn hl hy).mono fun e w' ⟨h1, h2⟩ => ?_
      have T := h2.out
      obtain ⟨L', t1, t2, t3, t4⟩ := T.tab
      obtain ⟨va, vc, hv, _⟩ := T.row.form
      rw [u8s_len] at hv
      subst hv
      exact ⟨va, vc, h1, ⟨L', a, cp, h.act t1 t3, t2⟩, h.tab.keeps t3, T.row, T.ok⟩
theorem kt_pick (h : LT w0 w c m M D S p zs) (hl : zs.length ≤ maxLen) :
    Calls Try.prog 18 #[.pointer (some ⟨c, 0, none⟩), .pointer (some ⟨p, 0, none⟩)] w fun e w' => ∃ n x, e = .returned (.tuple #[.int .i64 n, .int .i64 x]) ∧ Hid (LT w0 w' c m M D (pickF M S zs) p (pickZ M S zs) ∧ Keeps w w') := by
  have h0 := h
  obtain ⟨L, a, cp, h, rfl⟩ := h
  by_cases hf : ((abs L).length : Int) = M
  · unfold pickF pickZ
    simp only [if_pos hf]
    exact (ppick_no c m M D L p w h.tab hf).mono fun e w' ⟨h1, k, h2⟩ => ⟨_, _, h1, by rw [h2]; exact ⟨h0.below (below_drewN w k), Keeps.below (below_drewN w k)⟩⟩
  · unfold pickF pickZ
    simp only [if_neg hf]
    refine (ppick_yes c m M D L p a cp zs w h.tab h.dice hl hf).mono fun e w' ⟨h1, h2⟩ => ⟨_, _, h1, ?_, ?_⟩
    · obtain ⟨L', t1, t2, t3, t4⟩ := h2.out.tab
      obtain ⟨a', c', d1, d2⟩ := h2.out.dice
      have s := h.bel.size
      refine ⟨L', a', c', ⟨t1, PF.of h.low s t3 t4, d1, fun k hk => ?_, h.bel.trans (h2.out.only.below (fun k hk => ?_) s)⟩, t2⟩
      · rcases hk with rfl | hk
        · exact h.dlow k (Or.inl rfl)
        · exact h.dlow k (Or.inr (by rw [← d2]; exact hk))
      · rcases hk with hk | rfl
        · exact h.low k (Or.inr (Or.inl hk))
        · exact h.dlow k (Or.inl rfl)
    · intro b C t f hb n1 n2 n3
      refine (h2.out.only.block b (fun hk => ?_) (heap_lt hb)).trans hb
      rcases hk with hk | rfl
      · exact PK.ne h.tab hb n1 n2 hk
      · rw [h.dice.box] at hb; simp only [Option.some.injEq, Obj.cells.injEq] at hb; exact n3 hb.2.1.symm
/-- what is so of every table. -/
structure AOk (M D : Int) (S : List Pa) : Prop where
  rise : S.Pairwise fun x y => x.n < y.n
  len : (S.length : Int) ≤ M
  deep : ∀ x ∈ S, (x.ds.length : Int) ≤ D
  nums : ∀ x ∈ S, 1 ≤ x.n ∧ x.n ≤ 65535
  dr : ∀ x ∈ S, 0 ≤ x.dr
theorem LT.aok (h : LT w0 w c m M D S p zs) : AOk M D S := by
  obtain ⟨L, a, cp, h, rfl⟩ := h
  have x := h.tab
  refine ⟨List.pairwise_map.2 x.map.rise, by rw [abs_len]; exact x.len, fun y hy => ?_, fun y hy => ?_, fun y hy => ?_⟩
  all_goals
    obtain ⟨z, hz, rfl⟩ := List.mem_map.1 hy
  · have := x.deep z hz; simpa [Ab.abs] using this
  · exact x.nums z hz
  · exact (x.ents z hz).dr
theorem LT.words (h : LT w0 w c m M D S p zs) : Words zs := by
  obtain ⟨L, a, cp, h, rfl⟩ := h
  exact h.dice.words
end
/-! ### Lists of ports -/
theorem alook_aput (S : List Pa) (x : Pa) (i : Int) : alook (aput S x) i = if i = x.n then some x else alook S i := by
  unfold alook aput
  rw [List.find?_append, List.find?_cons, List.find?_filter, List.find?_filter]
  by_cases h : i = x.n
  · subst h
    rw [if_pos rfl, List.find?_eq_none.2 (by intro y _; simp; omega)]
    simp
  · rw [if_neg h]
    have hx : (x.n == i) = false := by simp; omega
    rw [hx]
    rcases Int.lt_or_gt_of_ne h with h1 | h1
    · rw [show (fun a : Pa => decide (decide (a.n < x.n) = true ∧ (a.n == i) = true)) = fun a => a.n == i from by funext a; by_cases e : a.n = i <;> simp [e]; omega]
      rw [show List.find? (fun a : Pa => decide (decide (x.n < a.n) = true ∧ (a.n == i) = true)) S = none from List.find?_eq_none.2 (by intro y _; simp; omega)]
      simp
    · rw [show (fun a : Pa => decide (decide (x.n < a.n) = true ∧ (a.n == i) = true)) = fun a => a.n == i from by funext a; by_cases e : a.n = i <;> simp [e]; omega]
      rw [show List.find? (fun a : Pa => decide (decide (a.n < x.n) = true ∧ (a.n == i) = true)) S = none from List.find?_eq_none.2 (by intro y _; simp; omega)]
      simp
theorem mem_aput {S : List Pa} {x y : Pa} (h : y ∈ aput S x) : y = x ∨ y ∈ S := by
  unfold aput at h
  rcases List.mem_append.1 h with h | h
  · exact Or.inr (List.mem_filter.1 h).1
  · rcases List.mem_cons.1 h with h | h
    · exact Or.inl h
    · exact Or.inr (List.mem_filter.1 h).1
theorem mem_adel {S : List Pa} {i : Int} {y : Pa} (h : y ∈ adel S i) : y ∈ S := (List.mem_filter.1 h).1
theorem alook_mem {S : List Pa} {i : Int} {x : Pa} (h : alook S i = some x) : x ∈ S ∧ x.n = i := ⟨List.mem_of_find?_eq_some h, by simpa using List.find?_some h⟩
end Go.Proofs.Ythipdchdbdmmnaa
