/-
  Neigh: Next.
-/
import Derived.Test.YtaaoelhmanahpaaNOld
namespace Go.Proofs.Ytaaoelhmanahpaa
open Go.RowKit
set_option linter.all false

/-- the least Until. -/
def leastL (L : List Ab) : Int := L.foldr (fun y u => min u y.unt) 1125899906842624
structure LeastI (D : List Ab) (u : Int) : Prop where
  top : u ≤ 1125899906842624
  le : ∀ y ∈ D, u ≤ y.unt
  is : u = 1125899906842624 ∨ ∃ y ∈ D, u = y.unt
theorem leastL_is : ∀ (L : List Ab), LeastI L (leastL L)
  | [] => ⟨Int.le_refl _, by simp, Or.inl rfl⟩
  | x :: L => by
    obtain ⟨h1, h2, h3⟩ := leastL_is L
    have e : leastL (x :: L) = min (leastL L) x.unt := rfl
    refine ⟨by omega, fun y hy => ?_, ?_⟩
    · rcases List.mem_cons.1 hy with rfl | hy
      · omega
      · have := h2 y hy; omega
    · by_cases h : x.unt < leastL L
      · exact Or.inr ⟨x, List.mem_cons_self .., by omega⟩
      · rcases h3 with h3 | ⟨y, hy, h3⟩
        · exact Or.inl (by omega)
        · exact Or.inr ⟨y, List.mem_cons_of_mem _ hy, by omega⟩
theorem LeastI.uniq {D : List Ab} {u v : Int} (h : LeastI D u) (k : LeastI D v) : u = v := by
  have h1 : u ≤ v := by
    rcases k.is with e | ⟨y, hy, e⟩
    · have := h.top; omega
    · have := h.le y hy; omega
  have h2 : v ≤ u := by
    rcases h.is with e | ⟨y, hy, e⟩
    · have := k.top; omega
    · have := k.le y hy; omega
  omega
theorem LeastI.perm {D L : List Ab} {u : Int} (h : LeastI D u) (hp : D.Perm L) : LeastI L u := ⟨h.top, fun y hy => h.le y (hp.mem_iff.2 hy), h.is.imp id fun ⟨y, hy, e⟩ => ⟨y, hp.mem_iff.1 hy, e⟩⟩
theorem LeastI.start : LeastI [] 1125899906842624 := leastL_is []
theorem LeastI.one {D : List Ab} {u : Int} (h : LeastI D u) (x : Ab) : LeastI (x :: D) (min u x.unt) := by
  obtain ⟨h1, h2, h3⟩ := h
  refine ⟨by omega, fun y hy => ?_, ?_⟩
  · rcases List.mem_cons.1 hy with rfl | hy
    · omega
    · have := h2 y hy; omega
  · by_cases h : x.unt < u
    · exact Or.inr ⟨x, List.mem_cons_self .., by omega⟩
    · rcases h3 with h3 | ⟨y, hy, h3⟩
      · exact Or.inl (by omega)
      · exact Or.inr ⟨y, List.mem_cons_of_mem _ hy, by omega⟩
def nextV (S : St) : Int := if S.L.length = 0 then 0 else leastL S.L
set_option maxHeartbeats 4000000 in
theorem nextC_any (c m : Nat) (S : St) (V : Int → Value) (w : World) (x : CaW w c m S V) :
    Calls Try.prog 22 #[.pointer (some ⟨c, 0, none⟩)] w fun e w' => e = .returned (.tuple #[.int .i64 (nextV S), .bool (decide (¬ S.L.length = 0))]) ∧ Hid (Below w.heap.size w w') := by
  obtain ⟨_, c6, c7, c8, f7⟩ := x.cells
  have HC := hid x
  have hlen := fun ty => x.map.len ty
  obtain ⟨o, hrg, hit⟩ := It.start x.map
  have HI := hid hit
  have HB : Hid (Below w.heap.size w (w.alloc o)) := bpush (Below.refl _ _) o
  clear x hit
  unfold nextV
  by_cases h0 : S.L.length = 0
  · rw [if_pos h0]
    have HH0 := hid h0
    rw [h0] at hlen
    clear h0
    go_enter Try.func22, Try.ntmps22
    go_wp2
    go_ret2
    exact ⟨by rw [HH0.out]; rfl, Below.refl _ _⟩
  · rw [if_neg h0]
    have h0' : (((S.L.length : Nat) : Int) == 0) = false := by simpa using h0
    have HH0 := hid h0
    clear h0
    go_enter Try.func22, Try.ntmps22
    go_wp2
    go_loopw [4] (fun v3 wr => ∃ (u : Int) (D : List Ab) (n : Nat), v3 = .int .i64 u ∧ Hid (It wr m w.heap.size S.L V D n) ∧ Hid (LeastI D u) ∧ Hid (Below w.heap.size w wr)) (fun _ wr => leftN wr m w.heap.size)
    case atStart => exact ⟨_, [], _, rfl, HI, LeastI.start, HB⟩
    case round =>
      clear HI HB hrg
      obtain ⟨u, D, n, rfl, HI, HO, HB⟩ := hrel
      have HLN := hid HI.out.left
      rcases HI.out.next 0 with ⟨h1, h2⟩ | ⟨y, w1, hy, h1, h2, hbr, n', hn', hi'⟩
      · have HP := hid h2
        clear h2
        go_wp2
        go_ret2
        refine ⟨?_, HB⟩
        rw [(HO.out.perm HP.out).uniq (leastL_is S.L)]
        simp [HH0.out]
      · have hn2 : leftN w1 m w.heap.size < leftN wr m w.heap.size := by rw [hi'.left, HLN.out]; exact hn'
        have HN2 := hid hn2
        have HI2 := hid hi'
        have HB2 : Hid (Below w.heap.size w w1) := HB.out.trans (hbr.below (Nat.le_refl _) HB.out.size)
        obtain ⟨pa, pc, hv, _⟩ := (HC.out.rows y hy).form
        rw [hv] at h1 h2
        clear hv
        generalize (u8s y.zs).length = pn at h1 h2
        clear hn2 hi' HLN HI HB hbr hn' hy
        obtain ⟨i, t, mc, q, sr, zs⟩ := y
        obtain ⟨b0, b1, b2, b3, b4, b5⟩ := mc
        simp only [Ab.val] at h1 h2
        have fin : ∀ (w2 : World) (u2 : Int), Below w1.heap.size w1 w2 → u2 = min u t → (∃ (u : Int) (D : List Ab) (n : Nat), Value.int .i64 u2 = .int .i64 u ∧ Hid (It w2 m w.heap.size S.L V D n) ∧ Hid (LeastI D u) ∧ Hid (Below w.heap.size w w2)) ∧ leftN w2 m w.heap.size < leftN wr m w.heap.size := fun w2 u2 hb ho =>
          have h3 := HI2.out.below hb
          ⟨⟨u2, _, n', rfl, h3, by subst ho; exact HO.out.one ⟨i, t, ⟨b0, b1, b2, b3, b4, b5⟩, q, sr, zs⟩, bstep HB2.out hb⟩, by rw [h3.left, ← HI2.out.left]; exact HN2.out⟩
        have FIN := hid fin
        clear fin HN2 HI2 HB2
        by_cases ht : t < u
        · go_wp2
          have HF := hid (FIN.out (w1.alloc (.cells #[.int .i64 t, .int .u8 b0, .int .u8 b1, .int .u8 b2, .int .u8 b3, .int .u8 b4, .int .u8 b5, .int .i64 q, .int .u32 sr, .slice pa pn pc] 87)) t (bpush (Below.refl _ _) _) (by omega))
          go_roundw
          case rel => exact HF.out.1
          case measure => exact HF.out.2
        · go_wp2
          have HF := hid (FIN.out (w1.alloc (.cells #[.int .i64 t, .int .u8 b0, .int .u8 b1, .int .u8 b2, .int .u8 b3, .int .u8 b4, .int .u8 b5, .int .i64 q, .int .u32 sr, .slice pa pn pc] 87)) u (bpush (Below.refl _ _) _) (by omega))
          go_roundw
          case rel => exact HF.out.1
          case measure => exact HF.out.2
end Go.Proofs.Ytaaoelhmanahpaa
