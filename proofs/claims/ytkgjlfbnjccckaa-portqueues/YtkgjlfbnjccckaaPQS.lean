/-
  Port: what PortQueues keeps beside the table.
-/
import Derived.Test.YtkgjlfbnjccckaaPLkd
import Derived.Test.YtkgjlfbnjccckaaPOpenO
namespace Go.Proofs.Ytkgjlfbnjccckaa
open Go.RowKit
set_option linter.all false

def strs (ds : List Dg) : List Value := ds.map fun d => .string (strOfNums d.zs)
theorem strs_len (ds : List Dg) : (strs ds).length = ds.length := by simp [strs]
/-- the table, the dice, what waits at three ports as strings, what was dropped there; k: how many calls are done. -/
structure QS (w0 w : World) (c m : Nat) (D : Int) (S : List Pa) (p : Nat) (zs : List Int) (gw gd : Nat) (V : Nat → Value) (X : Nat → Pa) (k : Nat) : Prop where
  lt : LT w0 w c m 8 D S p zs
  bw : w.heap[gw]? = some (.cells #[V 0, V 1, V 2] 43 (0, 0))
  bd : w.heap[gd]? = some (.cells #[.int .i64 (X 0).dr, .int .i64 (X 1).dr, .int .i64 (X 2).dr] 3 (0, 0))
  rows : ∀ i, i < 3 → RowO w 9 (V i) (strs (X i).ds)
  look : ∀ i : Nat, i < 3 → alook S (100 + i) = some (X i)
  dps : ∀ i : Nat, i < 3 → ∀ d ∈ (X i).ds, d.dp = 100 + i
  apart : ∀ i j, i < 3 → j < 3 → i ≠ j → ∀ b, (V i).ownBlock = some b → (V j).ownBlock ≠ some b
  lw : w0.heap.size ≤ gw
  ld : w0.heap.size ≤ gd
  lv : ∀ i b, i < 3 → (V i).ownBlock = some b → w0.heap.size ≤ b
  drs : ∀ y ∈ S, y.dr ≤ k
  zl : zs.length ≤ maxLen
section
variable {w0 w w' : World} {c m : Nat} {D : Int} {S S' : List Pa} {p : Nat} {zs zs' : List Int} {gw gd : Nat} {V : Nat → Value} {X : Nat → Pa} {k k' : Nat}
theorem QS.call (h : QS w0 w c m D S p zs gw gd V X k) (hl : LT w0 w' c m 8 D S' p zs') (hk : Keeps w w') (hz : zs'.length ≤ zs.length) (hx : ∀ i : Nat, i < 3 → alook S' (100 + i) = some (X i)) (hd : ∀ y ∈ S', y.dr ≤ k') : QS w0 w' c m D S' p zs' gw gd V X k' :=
  ⟨hl, hk _ _ _ _ h.bw (by decide) (by decide) (by decide), hk _ _ _ _ h.bd (by decide) (by decide) (by decide), fun i hi => (h.rows i hi).keep fun b hb => by
    obtain ⟨cur, hc⟩ := (h.rows i hi).cells hb
    rw [hk _ _ _ _ hc (by decide) (by decide) (by decide), hc], hx, h.dps, h.apart, h.lw, h.ld, h.lv, hd, Nat.le_trans hz h.zl⟩
theorem QS.below (h : QS w0 w c m D S p zs gw gd V X k) (hb : Below w.heap.size w w') : QS w0 w' c m D S p zs gw gd V X k :=
  h.call (h.lt.below hb) (Keeps.below hb) (Nat.le_refl _) h.look h.drs
theorem QS.more (h : QS w0 w c m D S p zs gw gd V X k) (hk : k ≤ k') : QS w0 w c m D S p zs gw gd V X k' := { h with drs := fun y hy => by have := h.drs y hy; omega }
/-- Pick. -/
theorem QS.pick (h : QS w0 w c m D S p zs gw gd V X k) :
    Calls Try.prog 18 #[.pointer (some ⟨c, 0, none⟩), .pointer (some ⟨p, 0, none⟩)] w fun e w' => ∃ n x, e = .returned (.tuple #[.int .i64 n, .int .i64 x]) ∧ ∃ S' zs', Hid (QS w0 w' c m D S' p zs' gw gd V X k) := by
  refine (kt_pick h.lt h.zl).mono fun e w' ⟨n, x, h1, h2⟩ => ⟨n, x, h1, _, _, h.call h2.out.1 h2.out.2 ?_ ?_ ?_⟩
  · unfold pickZ; split <;> simp
  · intro i hi
    unfold pickF
    split
    · exact h.look i hi
    · have hf := (pickR_free (S := S) (by have := h.lt.aok.len; omega) h.lt.words).2
      rw [alook_aput, if_neg (by simp only; omega)]
      exact h.look i hi
  · intro y hy
    unfold pickF at hy
    split at hy
    · exact h.drs y hy
    · rcases mem_aput hy with rfl | hy
      · simp
      · exact h.drs y hy
theorem QS.open (h : QS w0 w c m D S p zs gw gd V X k) (n : Int) (hn : ipOk n) :
    Calls Try.prog 17 #[.pointer (some ⟨c, 0, none⟩), .int .i64 n] w fun e w' => ∃ x, e = .returned (.int .i64 x) ∧ ∃ S', Hid (QS w0 w' c m D S' p zs gw gd V X k) := by
  refine (kt_open h.lt n hn).mono fun e w' ⟨h1, h2⟩ => ⟨_, h1, _, h.call h2.out.1 h2.out.2 (Nat.le_refl _) ?_ ?_⟩
  · intro i hi
    unfold openF
    split
    · rename_i h0
      have hne : ((100 : Int) + i) ≠ n := fun e1 => by
        have := h.look i hi
        rw [e1] at this
        unfold openE at h0
        rw [this] at h0
        split at h0 <;> simp at h0
      rw [alook_aput, if_neg hne]
      exact h.look i hi
    · exact h.look i hi
  · intro y hy
    unfold openF at hy
    split at hy
    · rcases mem_aput hy with rfl | hy
      · simp
      · exact h.drs y hy
    · exact h.drs y hy
theorem QS.close (h : QS w0 w c m D S p zs gw gd V X k) (n : Int) (hn : ipOk n) (ho : ¬ (100 ≤ n ∧ n < 103)) :
    Calls Try.prog 20 #[.pointer (some ⟨c, 0, none⟩), .int .i64 n] w fun e w' => ∃ x, e = .returned (.bool x) ∧ ∃ S', Hid (QS w0 w' c m D S' p zs gw gd V X k) := by
  refine (kt_close h.lt n hn).mono fun e w' ⟨h1, h2⟩ => ⟨_, h1, _, h.call h2.out.1 h2.out.2 (Nat.le_refl _) ?_ fun y hy => h.drs y (mem_adel hy)⟩
  intro i hi
  rw [alook_del (by omega)]
  exact h.look i hi
/-- Put, elsewhere. -/
theorem QS.putO (h : QS w0 w c m D S p zs gw gd V X k) (d : Dg) (va : Option Addr) (vc : Nat) (hok : d.ok) (hp : Part.ok w ⟨va, vc, d.zs⟩) (hz : d.zs.length ≤ 140737488355328) (hk : k < 4611686018427387904) (ho : ¬ (100 ≤ d.dp ∧ d.dp < 103)) :
    Calls Try.prog 19 #[.pointer (some ⟨c, 0, none⟩), .agg (d.cells (.slice va d.zs.length vc)).toArray] w fun e w' => ∃ x, e = .returned (.int .i64 x) ∧ ∃ S', Hid (QS w0 w' c m D S' p zs gw gd V X (k + 1)) := by
  refine (kt_put h.lt d va vc hok hp hz (fun y hy => by have := h.drs y hy; omega)).mono fun e w' ⟨h1, h2⟩ => ⟨_, h1, _, h.call h2.out.1 h2.out.2 (Nat.le_refl _) ?_ ?_⟩
  · intro i hi
    unfold putF
    split
    · exact h.look i hi
    · rename_i x hx
      have hxn := (alook_mem hx).2
      split
      · rw [alook_aput, if_neg (by simp only; omega)]; exact h.look i hi
      · rw [alook_aput, if_neg (by simp only; omega)]; exact h.look i hi
  · intro y hy
    unfold putF at hy
    split at hy
    · have := h.drs y hy; omega
    · rename_i x hx
      have hxm := h.drs x (alook_mem hx).1
      split at hy
      · rcases mem_aput hy with rfl | hy
        · show x.dr + 1 ≤ _; omega
        · have := h.drs y hy; omega
      · rcases mem_aput hy with rfl | hy
        · show x.dr ≤ _; omega
        · have := h.drs y hy; omega
/-- Take, elsewhere. -/
theorem QS.takeO_look (h : QS w0 w c m D S p zs gw gd V X k) {n : Int} (ho : ¬ (100 ≤ n ∧ n < 103)) : (∀ i : Nat, i < 3 → alook (takeF S n) (100 + i) = some (X i)) ∧ ∀ y ∈ takeF S n, y.dr ≤ k := by
  unfold takeF
  split
  · exact ⟨h.look, h.drs⟩
  · rename_i x hx
    have hxn := (alook_mem hx).2
    split
    · exact ⟨h.look, h.drs⟩
    · refine ⟨fun i hi => ?_, fun y hy => ?_⟩
      · rw [alook_aput, if_neg (by simp only; omega)]; exact h.look i hi
      · rcases mem_aput hy with rfl | hy
        · exact h.drs x (alook_mem hx).1
        · exact h.drs y hy
end
end Go.Proofs.Ytkgjlfbnjccckaa
