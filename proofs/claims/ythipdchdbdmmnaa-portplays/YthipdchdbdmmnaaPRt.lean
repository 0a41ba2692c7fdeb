/-
  Port: the document's table in memory; New, at.
-/
import Derived.Test.YthipdchdbdmmnaaPTake
namespace Go.Proofs.Ythipdchdbdmmnaa
open Go.RowKit
set_option linter.all false

/-- v is a slice of n datagrams, somewhere in a block that may be written. -/
def RowD (w : World) (v : Value) (n : Nat) (xs : List Value) : Prop :=
  xs.length = n * 5 ∧ ((v = .slice none 0 0 ∧ n = 0) ∨ ∃ (g off cap : Nat) (cur : Array Value), v = .slice (some ⟨g, off, none⟩) n cap ∧ w.heap[g]? = some (.cells cur 53 (0, 0)) ∧ n ≤ cap ∧ off + cap * 5 ≤ cur.size ∧ ∀ j u, xs[j]? = some u → cur[off + j]? = some u)
theorem RowD.nil (w : World) : RowD w (.slice none 0 0) 0 [] := ⟨rfl, Or.inl ⟨rfl, rfl⟩⟩
theorem RowD.lt {w : World} {v : Value} {n : Nat} {xs : List Value} (h : RowD w v n xs) {b : Nat} (hb : v.ownBlock = some b) : b < w.heap.size := by
  rcases h.2 with ⟨rfl, _⟩ | ⟨g, off, cap, cur, rfl, hg, _⟩
  · simp [Value.ownBlock] at hb
  · simp [Value.ownBlock] at hb; subst hb; exact heap_lt hg
theorem RowD.obj {w : World} {v : Value} {n : Nat} {xs : List Value} (h : RowD w v n xs) {b : Nat} (hb : v.ownBlock = some b) : ∃ cur, w.heap[b]? = some (.cells cur 53 (0, 0)) := by
  rcases h.2 with ⟨rfl, _⟩ | ⟨g, off, cap, cur, rfl, hg, _⟩
  · simp [Value.ownBlock] at hb
  · simp [Value.ownBlock] at hb; subst hb; exact ⟨cur, hg⟩
theorem RowD.keep {w w' : World} {v : Value} {n : Nat} {xs : List Value} (h : RowD w v n xs) (hk : ∀ b, v.ownBlock = some b → w'.heap[b]? = w.heap[b]?) : RowD w' v n xs := by
  refine ⟨h.1, ?_⟩
  rcases h.2 with h | ⟨g, off, cap, cur, rfl, hg, r⟩
  · exact Or.inl h
  · exact Or.inr ⟨g, off, cap, cur, rfl, (hk g rfl).trans hg, r⟩
theorem RowD.form {w : World} {v : Value} {n : Nat} {xs : List Value} (h : RowD w v n xs) : ∃ a cap, v = .slice a n cap := by
  rcases h.2 with ⟨rfl, rfl⟩ | ⟨g, off, cap, cur, rfl, _⟩
  · exact ⟨_, _, rfl⟩
  · exact ⟨_, _, rfl⟩
/-- what it reads. -/
theorem RowD.cell {w : World} {a : Option Addr} {l n cap : Nat} {xs : List Value} (h : RowD w (.slice a l cap) n xs) (j : Nat) (u : Value) (hj : xs[j]? = some u) : ∃ g off, a = some ⟨g, off, none⟩ ∧ w.cell? ⟨g, off + j, none⟩ = some u := by
  rcases h.2 with ⟨_, rfl⟩ | ⟨g, off, cap', cur, hv, hg, hl, hs, hc⟩
  · have := h.1
    have e : xs = [] := List.eq_nil_of_length_eq_zero (by omega)
    rw [e] at hj
    simp at hj
  · simp only [Value.slice.injEq] at hv
    exact ⟨g, off, hv.1, by rw [cell_of_heap hg]; exact hc j u hj⟩
/-- v[1:]. -/
theorem RowD.drop {w : World} {g off n cap : Nat} {x5 xs : List Value} (h : RowD w (.slice (some ⟨g, off, none⟩) (n + 1) (cap + 1)) (n + 1) (x5 ++ xs)) (h5 : x5.length = 5) : RowD w (.slice (some ⟨g, off + 5, none⟩) n cap) n xs := by
  have hl := h.1
  rcases h.2 with ⟨hv, _⟩ | ⟨g', off', cap', cur, hv, hg, hl', hs, hc⟩
  · simp at hv
  · simp only [Value.slice.injEq, Option.some.injEq, Addr.mk.injEq, and_true] at hv
    obtain ⟨⟨rfl, rfl⟩, -, rfl⟩ := hv
    refine ⟨by simp at hl; omega, Or.inr ⟨g, off + 5, cap, cur, rfl, hg, by omega, by omega, fun j u hj => ?_⟩⟩
    rw [Nat.add_assoc]
    refine hc (5 + j) u ?_
    rw [List.getElem?_append_right (by omega), h5, show 5 + j - 5 = j by omega]
    exact hj
theorem RowD.over {w : World} {a : Option Addr} {n l cap : Nat} {xs : List Value} (h : RowD w (.slice a l cap) n xs) : RowD w (.slice a 0 0) 0 [] := by
  refine ⟨rfl, ?_⟩
  rcases h.2 with ⟨h, _⟩ | ⟨g', off', cap', cur, hv, hg, hl, hs, hc⟩
  · simp only [Value.slice.injEq] at h; obtain ⟨rfl, rfl, rfl⟩ := h; exact Or.inl ⟨rfl, rfl⟩
  · simp only [Value.slice.injEq] at hv
    obtain ⟨rfl, rfl, rfl⟩ := hv
    exact Or.inr ⟨g', off', 0, cur, rfl, hg, by simp, by omega, fun j u hj => by simp at hj⟩

/-- an open port of the document's in memory. -/
structure REnt (w : World) (x : Ab) : Prop where
  box : w.heap[x.b]? = some (.cells #[.int .i64 x.ip, .int .i64 x.dr, x.q] 110 (0, 0))
  row : RowD w x.q x.ds.length (dcells x.ds)
  data : ∀ d ∈ x.ds, Row w 5 d.2 (u8s d.1.zs)
  oks : ∀ d ∈ x.ds, d.1.ok
  dr : 0 ≤ x.dr
def ptrs (L : List Ab) : List Value := L.map Ab.val
/-- the document's table in memory. -/
structure RPoW (w : World) (c : Nat) (v : Value) (M D : Int) (L : List Ab) : Prop where
  box : w.heap[c]? = some (.cells #[v, .int .i64 M, .int .i64 D] 89 (0, 0))
  row : Row w 108 v (ptrs L)
  rise : Rise L
  ents : ∀ x ∈ L, REnt w x
  nb : (L.map (·.b)).Nodup
  nq : (L.filterMap (·.q.ownBlock)).Nodup
  most : 1 ≤ M ∧ M ≤ 16
  depth : 1 ≤ D ∧ D ≤ 32
  len : (L.length : Int) ≤ M
  deep : ∀ x ∈ L, (x.ds.length : Int) ≤ D
  nums : ∀ x ∈ L, 1 ≤ x.ip ∧ x.ip ≤ 65535
/-- its blocks. -/
def RF (c : Nat) (v : Value) (L : List Ab) (k : Nat) : Prop := k = c ∨ v.ownBlock = some k ∨ ∃ x ∈ L, k = x.b ∨ x.q.ownBlock = some k ∨ ∃ d ∈ x.ds, d.2.ownBlock = some k
theorem REnt.keep {w w' : World} {x : Ab} (h : REnt w x) (hk : ∀ k, (k = x.b ∨ x.q.ownBlock = some k ∨ ∃ d ∈ x.ds, d.2.ownBlock = some k) → w'.heap[k]? = w.heap[k]?) : REnt w' x :=
  ⟨(hk x.b (Or.inl rfl)).trans h.box, h.row.keep fun b hb => hk b (Or.inr (Or.inl hb)), fun d hd => (h.data d hd).keep fun b hb => hk b (Or.inr (Or.inr ⟨d, hd, hb⟩)), h.oks, h.dr⟩
theorem RPoW.keep {w w' : World} {c : Nat} {v : Value} {M D : Int} {L : List Ab} (h : RPoW w c v M D L) (hk : ∀ k, RF c v L k → w'.heap[k]? = w.heap[k]?) : RPoW w' c v M D L :=
  ⟨(hk c (Or.inl rfl)).trans h.box, h.row.keep fun b hb => hk b (Or.inr (Or.inl hb)), h.rise, fun x hx => (h.ents x hx).keep fun k hk' => hk k (Or.inr (Or.inr ⟨x, hx, hk'⟩)), h.nb, h.nq, h.most, h.depth, h.len, h.deep, h.nums⟩
theorem RPoW.lt {w : World} {c : Nat} {v : Value} {M D : Int} {L : List Ab} (h : RPoW w c v M D L) : ∀ k, RF c v L k → k < w.heap.size := by
  rintro k (rfl | hv | ⟨x, hx, rfl | hq | ⟨d, hd, hb⟩⟩)
  · exact heap_lt h.box
  · exact h.row.lt hv
  · exact heap_lt (h.ents x hx).box
  · exact (h.ents x hx).row.lt hq
  · exact ((h.ents x hx).data d hd).lt hb
theorem RPoW.below {w w' : World} {c : Nat} {v : Value} {M D : Int} {L : List Ab} (h : RPoW w c v M D L) (hb : Below w.heap.size w w') : RPoW w' c v M D L := h.keep fun k hk => hb.block k (h.lt k hk)

/-! ### New -/
set_option maxHeartbeats 1000000 in
theorem rnew_no (M D : Int) (w : World) (h : ¬ (1 ≤ M ∧ M ≤ 16 ∧ 1 ≤ D ∧ D ≤ 32)) :
    Calls Try.prog 11 #[.int .i64 M, .int .i64 D] w fun e w' => e = .returned (.pointer none) ∧ w' = w := by
  go_enter Try.func11, Try.ntmps11
  go_wp2
  all_goals first
    | (exfalso; omega)
    | (go_ret; exact ⟨rfl, rfl⟩)
set_option maxHeartbeats 1000000 in
theorem rnew_yes (M D : Int) (w : World) (h : 1 ≤ M ∧ M ≤ 16 ∧ 1 ≤ D ∧ D ≤ 32) :
    Calls Try.prog 11 #[.int .i64 M, .int .i64 D] w fun e w' => e = .returned (.pointer (some ⟨w.heap.size, 0, none⟩)) ∧ Hid (RPoW w' w.heap.size (.slice none 0 0) M D [] ∧ Below w.heap.size w w') := by
  have HH := hid h
  obtain ⟨h1, h2, h3, h4⟩ := h
  go_enter Try.func11, Try.ntmps11
  go_wp2
  all_goals first
    | (exfalso; omega)
    | go_ret
  obtain ⟨h1, h2, h3, h4⟩ := HH.out
  exact ⟨rfl, ⟨heap_new w _, Row.nil _ _, List.Pairwise.nil, by simp, by simp, by simp, ⟨h1, h2⟩, ⟨h3, h4⟩, by simp; omega, by simp, by simp⟩, bpush (Below.refl _ _) _⟩

/-! ### at -/
/-- the place of a port; -1: none. -/
def atI (L : List Ab) (n : Int) : Int := match L.findIdx? (fun x => x.ip == n) with | some i => (i : Int) | none => -1
theorem RPoW.ptr {w : World} {c : Nat} {a : Option Addr} {l cp : Nat} {M D : Int} {L : List Ab} (h : RPoW w c (.slice a l cp) M D L) {k : Nat} {y : Ab} (hy : L[k]? = some y) : ∃ g, a = some ⟨g, 0, none⟩ ∧ w.cell? ⟨g, k, none⟩ = some (.pointer (some ⟨y.b, 0, none⟩)) := by
  have hk : k < (ptrs L).length := by rw [ptrs, List.length_map]; exact (List.getElem?_eq_some_iff.1 hy).1
  obtain ⟨g, cap, hv, hc⟩ := h.row.cell k hk
  simp only [Value.slice.injEq] at hv
  refine ⟨g, hv.1, ?_⟩
  rw [hc]
  have : (ptrs L)[k]? = some (.pointer (some ⟨y.b, 0, none⟩)) := by rw [ptrs, List.getElem?_map, hy]; rfl
  rw [List.getElem?_eq_getElem hk] at this
  exact this
theorem RPoW.len_eq {w : World} {c : Nat} {a : Option Addr} {l cp : Nat} {M D : Int} {L : List Ab} (h : RPoW w c (.slice a l cp) M D L) : l = L.length := by
  obtain ⟨a', cap, hv, _⟩ := h.row.form
  simp only [Value.slice.injEq, ptrs, List.length_map] at hv
  exact hv.2.1
theorem at_not {L : List Ab} {n : Int} : ∀ k, (∀ j, j < k → ∀ y, L[j]? = some y → y.ip ≠ n) → k = L.length → atI L n = -1 := fun k h hk => by
  unfold atI
  have : L.findIdx? (fun x => x.ip == n) = none := by
    rw [List.findIdx?_eq_none_iff]
    intro x hx
    obtain ⟨i, hi, rfl⟩ := List.getElem_of_mem hx
    simpa using h i (by omega) _ (List.getElem?_eq_getElem hi)
  rw [this]
theorem at_is {L : List Ab} {n : Int} {k : Nat} {y : Ab} (h : ∀ j, j < k → ∀ y, L[j]? = some y → y.ip ≠ n) (hy : L[k]? = some y) (hn : y.ip = n) : atI L n = (k : Int) := by
  unfold atI
  have hk : k < L.length := (List.getElem?_eq_some_iff.1 hy).1
  have : L.findIdx? (fun x => x.ip == n) = some k := by
    rw [List.findIdx?_eq_some_iff_getElem]
    refine ⟨hk, ?_, fun j hj => ?_⟩
    · rw [List.getElem?_eq_getElem hk] at hy
      simp at hy
      rw [hy]
      simpa using hn
    · simpa using h j hj _ (List.getElem?_eq_getElem (by omega))
  rw [this]
set_option maxRecDepth 20000 in
set_option maxHeartbeats 1000000 in
theorem rat_any (c : Nat) (v : Value) (M D : Int) (L : List Ab) (n : Int) (w : World) (x : RPoW w c v M D L) :
    Calls Try.prog 52 #[.pointer (some ⟨c, 0, none⟩), .int .i64 n] w fun e w' => e = .returned (.int .i64 (atI L n)) ∧ w' = w := by
  obtain ⟨a, cp, rfl, _⟩ := x.row.form
  have hlen := x.len
  have hm := x.most
  have HX := hid x
  have hv : w.cell? ⟨c, 0, none⟩ = some (.slice a (ptrs L).length cp) := cell_of_heap x.box 0
  rw [show (ptrs L).length = L.length by simp [ptrs]] at hv HX
  clear x
  obtain ⟨N, HN⟩ : ∃ N, Hid (L.length = N) := ⟨_, rfl⟩
  rw [HN.out] at hv hlen HX
  have hN : N ≤ 16 := by omega
  go_enter Try.func52, Try.ntmps52
  go_wp2
  go_loop [5] (fun i => ∃ k : Nat, k ≤ N ∧ i = .int .i64 k ∧ ∀ j, j < k → ∀ y, L[j]? = some y → y.ip ≠ n) (fun i => N - (intOf i).toNat)
  case atStart => exact ⟨0, Nat.zero_le _, rfl, fun j hj => by omega⟩
  case round =>
    obtain ⟨k, hk, rfl, hno⟩ := hrel
    have HNO := hid hno
    clear hno
    by_cases hlt : k < N
    · have hkl : k < L.length := by rw [HN.out]; exact hlt
      obtain ⟨y, hy⟩ : ∃ y, L[k]? = some y := ⟨_, List.getElem?_eq_getElem hkl⟩
      obtain ⟨g, hga, hc⟩ := HX.out.ptr hy
      subst hga
      have he := (HX.out.ents y (List.mem_of_getElem? hy)).box
      have hn0 : w.cell? ⟨y.b, 0, none⟩ = some (.int .i64 y.ip) := cell_of_heap he 0
      have HY := hid hy
      clear he hy hkl
      generalize hyb : y.b = yb at *
      by_cases hyn : y.ip = n
      · have HAT : Hid (atI L n = (k : Int)) := at_is HNO.out HY.out hyn
        have e1 : (n == n) = true := by simp
        rw [hyn] at hn0
        clear hyn
        go_wp2
        go_ret
        exact ⟨ret_int HAT.out.symm, rfl⟩
      · have HYN := hid hyn
        have e1 : (y.ip == n) = false := by simpa using hyn
        clear hyn
        generalize hyi : y.ip = yi at *
        have HYI := hid hyi
        clear hyi hyb
        go_wp2
        go_round
        case rel => exact ⟨k + 1, by omega, by go_num, fun j hj z hz => by
          by_cases hjk : j = k
          · subst hjk
            rw [HY.out] at hz
            simp at hz
            rw [← hz, HYI.out]
            exact HYN.out
          · exact HNO.out j (by omega) z hz⟩
        case measure => simp [intOf]; omega
    · have HAT : Hid (atI L n = -1) := at_not k HNO.out (by rw [HN.out]; omega)
      go_wp2
      go_ret
      exact ⟨ret_int HAT.out.symm, rfl⟩
end Go.Proofs.Ythipdchdbdmmnaa
