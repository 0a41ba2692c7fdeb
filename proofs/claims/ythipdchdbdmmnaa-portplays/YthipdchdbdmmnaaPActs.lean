/-
  Port: New, isOpen, full, behind, Open, Close.
-/
import Derived.Test.YthipdchdbdmmnaaPBase
import Derived.Carry
namespace Go.Proofs.Ythipdchdbdmmnaa
open Go.RowKit
open Go.ChangeMaps (setBlock)
set_option linter.all false

/-! ### What a table is, without memory -/
structure Pa where
  n : Int
  dr : Int
  ds : List Dg
deriving DecidableEq
def Ab.abs (x : Ab) : Pa := ⟨x.ip, x.dr, x.ds.map Prod.fst⟩
def abs (L : List Ab) : List Pa := L.map Ab.abs
def alook (S : List Pa) (i : Int) : Option Pa := S.find? fun x => x.n == i
def adel (S : List Pa) (i : Int) : List Pa := S.filter fun x => x.n != i
def aput (S : List Pa) (x : Pa) : List Pa := (S.filter fun y => decide (y.n < x.n)) ++ x :: S.filter fun y => decide (x.n < y.n)
theorem abs_look (L : List Ab) (i : Int) : alook (abs L) i = (look L i).map Ab.abs := by
  unfold alook look abs
  rw [List.find?_map]
  rfl
theorem abs_del (L : List Ab) (i : Int) : abs (del L i) = adel (abs L) i := by
  unfold adel del abs
  rw [List.filter_map]
  rfl
theorem abs_put (L : List Ab) (x : Ab) : abs (put L x) = aput (abs L) x.abs := by
  unfold aput put abs
  rw [List.map_append, List.map_cons, List.filter_map, List.filter_map]
  rfl
theorem abs_len (L : List Ab) : (abs L).length = L.length := by simp [abs]
theorem abs_none {L : List Ab} {i : Int} (h : look L i = none) : alook (abs L) i = none := by rw [abs_look, h]; rfl
theorem abs_some {L : List Ab} {i : Int} {x : Ab} (h : look L i = some x) : alook (abs L) i = some x.abs := by rw [abs_look, h]; rfl

/-! ### New -/
set_option maxHeartbeats 1000000 in
theorem pnew_no (M D : Int) (w : World) (h : ¬ (1 ≤ M ∧ M ≤ 16 ∧ 1 ≤ D ∧ D ≤ 32)) :
    Calls Try.prog 8 #[.int .i64 M, .int .i64 D] w fun e w' => e = .returned (.pointer none) ∧ w' = w := by
  go_enter Try.func8, Try.ntmps8
  go_wp2
  all_goals first
    | (exfalso; omega)
    | (go_ret; exact ⟨rfl, rfl⟩)
/-- what is made: a table, in new blocks. -/
structure PMade (w w' : World) (c m : Nat) (M D : Int) : Prop where
  tab : PoW w' c m M D []
  cn : w.heap.size ≤ c
  mn : w.heap.size ≤ m
  bel : Below w.heap.size w w'
set_option maxHeartbeats 1000000 in
theorem pnew_yes (M D : Int) (w : World) (h : 1 ≤ M ∧ M ≤ 16 ∧ 1 ≤ D ∧ D ≤ 32) :
    Calls Try.prog 8 #[.int .i64 M, .int .i64 D] w fun e w' => ∃ c m, e = .returned (.pointer (some ⟨c, 0, none⟩)) ∧ Hid (PMade w w' c m M D) := by
  have HH := hid h
  obtain ⟨h1, h2, h3, h4⟩ := h
  have hmm := @run_makeMap Try.prog
  go_enter Try.func8, Try.ntmps8
  go_wp2
  all_goals first
    | (exfalso; omega)
    | go_ret
  obtain ⟨h1, h2, h3, h4⟩ := HH.out
  refine ⟨w.heap.size + 1, w.heap.size, by simp, ⟨?_, by omega, Nat.le_refl _, bpush (bpush (Below.refl _ _) _) _⟩⟩
  have e1 : w.heap.size + 1 = (w.alloc (.map #[] 0)).heap.size := by simp
  refine { box := by rw [e1]; exact heap_new _ _, map := ⟨#[], 0, ?_, by simp, List.Pairwise.nil, by simp, by simp, by simp⟩, ents := by simp, nb := by simp, nq := by simp, nd := by simp, most := ⟨h1, h2⟩, depth := ⟨h3, h4⟩, len := by simp; omega, deep := by simp, nums := by simp }
  rw [heap_old _ _ (by simp)]
  exact heap_new _ _

section
variable {w : World} {c m : Nat} {M D : Int} {L : List Ab}
theorem PoW.cells (x : PoW w c m M D L) : w.cell? ⟨c, 0, none⟩ = some (.int .i64 M) ∧ w.cell? ⟨c, 1, none⟩ = some (.int .i64 D) ∧ w.cell? ⟨c, 2, none⟩ = some (.map (some m)) := by
  have h := x.box
  refine ⟨?_, ?_, ?_⟩ <;> (rw [cell_of_heap h]; rfl)
theorem PoW.lk (x : PoW w c m M D L) {n : Int} (hn : ipOk n) : (Instr.lookup 73 (.map (some m)) (.int .i64 n) true).run Try.prog w = .ok (.tuple #[entV L n, .bool (look L n).isSome]) w := x.map.lookOk hn
end
set_option maxHeartbeats 1000000 in
theorem isOpen_any (c m : Nat) (M D : Int) (L : List Ab) (n : Int) (w : World) (x : PoW w c m M D L) (hn : ipOk n) :
    Calls Try.prog 42 #[.pointer (some ⟨c, 0, none⟩), .int .i64 n] w fun e w' => e = .returned (.bool (look L n).isSome) ∧ w' = w := by
  obtain ⟨c0, c1, c2⟩ := x.cells
  have hlk := x.lk hn
  generalize entV L n = E at *
  generalize (look L n).isSome = B at *
  clear x
  go_enter Try.func42, Try.ntmps42
  go_wp2
  go_ret
  exact ⟨rfl, rfl⟩
set_option maxHeartbeats 1000000 in
theorem full_any (c m : Nat) (M D : Int) (L : List Ab) (w : World) (x : PoW w c m M D L) :
    Calls Try.prog 43 #[.pointer (some ⟨c, 0, none⟩)] w fun e w' => e = .returned (.bool (decide ((L.length : Int) = M))) ∧ ∃ k, w' = w.drewN k := by
  obtain ⟨c0, c1, c2⟩ := x.cells
  have hlen : ∀ k ty, (Builtin.len_ #[73] ty #[.map (some m)]).run Try.prog (w.drewN k) = .ok (.int .i64 L.length) (w.drewN k) := fun k ty => (x.map.keep (w' := w.drewN k) rfl).len ty
  have hl2 : (Builtin.len_ #[73] 3 #[.map (some m)]).run Try.prog w.drew = .ok (.int .i64 L.length) w.drew := hlen 1 _
  have d0 : w.drew.cell? ⟨c, 0, none⟩ = some (.int .i64 M) := c0
  have d2 : w.drew.cell? ⟨c, 2, none⟩ = some (.map (some m)) := c2
  clear hlen
  clear x
  generalize (L.length : Int) = N at *
  go_enter Try.func43, Try.ntmps43
  go_wp2
  go_region
  go_wp2
  go_ret
  exact ⟨rfl, _, rfl⟩
def behindI (n : Int) : Int := if n = 65535 then 49152 else n + 1
set_option maxHeartbeats 1000000 in
theorem behind_any (n : Int) (w : World) (hn : 0 ≤ n ∧ n ≤ 65535) :
    Calls Try.prog 45 #[.int .i64 n] w fun e w' => e = .returned (.int .i64 (behindI n)) ∧ w' = w := by
  by_cases h : n = 65535
  · subst h
    rw [show behindI 65535 = 49152 from rfl]
    go_enter Try.func45, Try.ntmps45
    go_wp2
    go_ret
    exact ⟨rfl, rfl⟩
  · rw [show behindI n = n + 1 from if_neg h]
    go_enter Try.func45, Try.ntmps45
    go_wp2
    go_ret
    exact ⟨rfl, rfl⟩
/-- a call's table behind it. -/
def Pz (w w' : World) (c m : Nat) (M D : Int) (L : List Ab) (S : List Pa) : Prop := ∃ L', PoW w' c m M D L' ∧ abs L' = S ∧ PAct w w' m L L'
theorem Pz.same {w w' : World} {c m : Nat} {M D : Int} {L : List Ab} (h : PoW w c m M D L) (hb : Below w.heap.size w w') : Pz w w' c m M D L (abs L) := ⟨L, h.below hb, rfl, PAct.refl hb⟩
theorem Pz.from {w0 w w' : World} {c m : Nat} {M D : Int} {L : List Ab} {S : List Pa} (h : Pz w w' c m M D L S) (hb : Below w0.heap.size w0 w) : Pz w0 w' c m M D L S := by
  obtain ⟨L', h1, h2, h3⟩ := h
  exact ⟨L', h1, h2, (PAct.refl hb).trans h3⟩
theorem below_drewN (w : World) (k : Nat) : Below w.heap.size w (w.drewN k) := ⟨rfl, rfl, rfl, Nat.le_refl _, fun _ _ => rfl⟩
theorem abs_add {L : List Ab} {n : Int} {b : Nat} : abs (put L ⟨n, b, .slice none 0 0, 0, []⟩) = aput (abs L) ⟨n, 0, []⟩ := abs_put _ _
/-- 'p.open[n] = &place{}'. -/
theorem PoW.addRun {w : World} {c m : Nat} {M D : Int} {L : List Ab} (x : PoW w c m M D L) {n : Int} (hn : 1 ≤ n ∧ n ≤ 65535) (hl : look L n = none) (hlen : (L.length : Int) ≠ M) :
    ∃ w', (Instr.mapUpdate 73 (.map (some m)) (.int .i64 n) (.pointer (some ⟨w.heap.size, 0, none⟩))).run Try.prog (w.alloc (.cells #[.slice none 0 0, .int .i64 0] 85)) = .ok () w' ∧ Pz w w' c m M D L (aput (abs L) ⟨n, 0, []⟩) := by
  have hB := balloc w (.cells #[.slice none 0 0, .int .i64 0] 85)
  have x1 := x.below hB
  obtain ⟨w', h1, h2, h3⟩ := x1.map.put ⟨n, w.heap.size, .slice none 0 0, 0, []⟩ (by unfold ipOk; simp only; omega)
  have hlt := x.len
  have y := x1.add n w.heap.size hn hl (by omega) (heap_new w _) (fun z hz e => by have := heap_lt (x.ents z hz).box; omega) h2 h3
  refine ⟨w', h1, _, y, abs_add, ⟨?_, fun k hk => ?_, fun k hk => ?_⟩⟩
  · exact (Only.of_below hB).trans (Only.of_but h3 (Or.inl rfl))
  · rcases hk with rfl | ⟨z, hz, hk⟩
    · exact Or.inl (Or.inl rfl)
    · rcases mem_put.1 hz with rfl | ⟨hz, _⟩
      · rcases hk with rfl | hk
        · exact Or.inr (Nat.le_refl _)
        · simp [Value.ownBlock] at hk
      · exact Or.inl (Or.inr ⟨z, hz, hk⟩)
  · obtain ⟨z, hz, hk⟩ := List.mem_flatMap.1 hk
    rcases mem_put.1 hz with rfl | ⟨hz, _⟩
    · simp [dblk] at hk
    · exact Or.inl (List.mem_flatMap.2 ⟨z, hz, hk⟩)
/-! ### Open -/
def openE (M : Int) (S : List Pa) (n : Int) : Int := if n < 1 ∨ 65535 < n then 1 else if (alook S n).isSome then 130 else if (S.length : Int) = M then 3 else 0
def openF (M : Int) (S : List Pa) (n : Int) : List Pa := if openE M S n = 0 then aput S ⟨n, 0, []⟩ else S
set_option maxHeartbeats 2000000 in
theorem popen_any (c m : Nat) (M D : Int) (L : List Ab) (n : Int) (w : World) (x : PoW w c m M D L) (hn : ipOk n) :
    Calls Try.prog 17 #[.pointer (some ⟨c, 0, none⟩), .int .i64 n] w fun e w' => e = .returned (.int .i64 (openE M (abs L) n)) ∧ Hid (Pz w w' c m M D L (openF M (abs L) n)) := by
  unfold openF openE
  by_cases h1 : n < 1 ∨ 65535 < n
  · simp only [if_pos h1]
    rw [if_neg (by decide)]
    have HZ := hid (Pz.same x (Below.refl _ _))
    clear x
    go_enter Try.func17, Try.ntmps17
    go_wp2
    all_goals first
      | (exfalso; omega)
      | (go_ret; exact ⟨rfl, HZ⟩)
  · simp only [if_neg h1]
    have b1 : 1 ≤ n := by omega
    have b2 : n ≤ 65535 := by omega
    clear h1
    have HI := hid (isOpen_any c m M D L n w x hn)
    have HF := hid (full_any c m M D L w x)
    rw [abs_look, abs_len]
    cases hl : look L n with
    | some y =>
      rw [hl] at HI
      simp only [Option.map_some, Option.isSome_some, if_true]
      rw [if_neg (by decide)]
      have HZ := hid (Pz.same x (Below.refl _ _))
      clear x HF hl
      go_enter Try.func17, Try.ntmps17
      go_wp2_with (first | (go_at_call 42; refine HI.out.mono ?_; rintro e w1 ⟨rfl, rfl⟩))
      go_ret
      exact ⟨rfl, HZ⟩
    | none =>
      rw [hl] at HI
      simp only [Option.map_none, Option.isSome_none, Bool.false_eq_true, if_false]
      have HX := hid x
      by_cases hm : (L.length : Int) = M
      · rw [if_pos hm, if_neg (by decide)]
        rw [decide_eq_true hm] at HF
        clear x hl hm
        go_enter Try.func17, Try.ntmps17
        go_wp2_with (first
          | (go_at_call 42; refine HI.out.mono ?_; rintro e w1 ⟨rfl, rfl⟩)
          | (go_at_call 43; refine HF.out.mono ?_; rintro e w1 ⟨rfl, k, rfl⟩))
        go_ret
        exact ⟨rfl, Pz.same HX.out (below_drewN _ _)⟩
      · rw [if_neg hm, if_pos rfl]
        rw [decide_eq_false hm] at HF
        have HR : Hid (∀ k, (w.drewN k).cell? ⟨c, 2, none⟩ = some (.map (some m)) ∧ ∃ w', (Instr.mapUpdate 73 (.map (some m)) (.int .i64 n) (.pointer (some ⟨(w.drewN k).heap.size, 0, none⟩))).run Try.prog ((w.drewN k).alloc (.cells #[.slice none 0 0, .int .i64 0] 85)) = .ok () w' ∧ Hid (Pz w w' c m M D L (aput (abs L) ⟨n, 0, []⟩))) := fun k => by
          have xk := x.below (below_drewN w k)
          obtain ⟨w', h1, h2⟩ := xk.addRun ⟨b1, b2⟩ hl hm
          exact ⟨xk.cells.2.2, w', h1, h2.from (below_drewN w k)⟩
        clear x hl hm HX
        go_enter Try.func17, Try.ntmps17
        go_wp2_with (first
          | (go_at_call 42; refine HI.out.mono ?_; rintro e w1 ⟨rfl, rfl⟩)
          | (go_at_call 43; refine HF.out.mono ?_; go_loud (rintro e w1 ⟨rfl, k, hk⟩; have HRk := HR.out k; rw [← hk] at HRk; clear hk HR HF HI; obtain ⟨c2, w2, hup, HZ⟩ := HRk)))
        go_ret
        exact ⟨rfl, HZ⟩
/-! ### Close -/
set_option maxHeartbeats 2000000 in
theorem pclose_any (c m : Nat) (M D : Int) (L : List Ab) (n : Int) (w : World) (x : PoW w c m M D L) (hn : ipOk n) :
    Calls Try.prog 20 #[.pointer (some ⟨c, 0, none⟩), .int .i64 n] w fun e w' => e = .returned (.bool (alook (abs L) n).isSome) ∧ Hid (Pz w w' c m M D L (adel (abs L) n)) := by
  have HI := hid (isOpen_any c m M D L n w x hn)
  rw [abs_look, Option.isSome_map]
  obtain ⟨c0, c1, c2⟩ := x.cells
  obtain ⟨w2, h1, h2, h3⟩ := x.map.drop hn 0
  have hdel : ∀ ty, (Builtin.delete_ #[73, 3] ty #[.map (some m), .int .i64 n]).run Try.prog w = .ok (.tuple #[]) w2 := fun ty => h1
  have HZ : Hid (Pz w w2 c m M D L (adel (abs L) n)) := by
    refine ⟨_, x.del n h2 h3, abs_del _ _, Only.of_but h3 (Or.inl rfl), fun k hk => ?_, fun k hk => ?_⟩
    · rcases hk with rfl | ⟨z, hz, hk⟩
      · exact Or.inl (Or.inl rfl)
      · exact Or.inl (Or.inr ⟨z, (mem_del.1 hz).1, hk⟩)
    · obtain ⟨z, hz, hk⟩ := List.mem_flatMap.1 hk
      exact Or.inl (List.mem_flatMap.2 ⟨z, (mem_del.1 hz).1, hk⟩)
  clear x h1 h2 h3 c0 c1
  generalize (look L n).isSome = B at *
  go_enter Try.func20, Try.ntmps20
  go_wp2_with (first | (go_at_call 42; refine HI.out.mono ?_; rintro e w1 ⟨rfl, rfl⟩))
  go_ret
  exact ⟨rfl, HZ⟩
end Go.Proofs.Ythipdchdbdmmnaa
