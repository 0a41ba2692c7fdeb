/-
  Neigh: oldest, makeRoom, Next.
-/
import Derived.Test.YtaaoelhmanahpaaNCa
namespace Go.Proofs.Ytaaoelhmanahpaa
open Go.RowKit
set_option linter.all false

def intOf' : Value → Int | .int _ q => q | _ => 0
/-- how many a range has left. -/
def leftN (w : World) (m r : Nat) : Nat := match w.heap[m]?, w.heap[r]? with
  | some (.map es _), some (.mapIter _ _ seen _) => (leftOf es seen).size
  | _, _ => 0
theorem It.left {w : World} {m r : Nat} {L : List Ab} {V : Int → Value} {D : List Ab} {n : Nat} (h : It w m r L V D n) : leftN w m r = n := by
  obtain ⟨hne, es, clock, seen, c0, since, a, b, c, d, e, f, F, g1, g2, g3⟩ := h
  simp only [leftN, a, c, g3]
/-- the known one with the least time, then the least address, of D. -/
def OldI (D : List Ab) (a u : Int) (f : Bool) : Prop := (f = false ∧ a = 0 ∧ u = 0 ∧ ∀ y ∈ D, known y = false) ∨ (f = true ∧ ∃ x ∈ D, known x = true ∧ a = x.ip ∧ u = x.unt ∧ ∀ y ∈ D, known y = true → x.unt < y.unt ∨ (x.unt = y.unt ∧ x.ip ≤ y.ip))
section
variable {D L : List Ab} {a u : Int} {f : Bool} {x : Ab}
theorem OldI.start : OldI [] 0 0 false := Or.inl ⟨rfl, rfl, rfl, by simp⟩
theorem OldI.skip (h : OldI D a u f) (hx : known x = false) : OldI (x :: D) a u f := by
  rcases h with ⟨h1, h2, h3, h4⟩ | ⟨h1, z, hz, h2, h3, h4, h5⟩
  · refine Or.inl ⟨h1, h2, h3, fun y hy => ?_⟩
    rcases List.mem_cons.1 hy with rfl | hy
    · exact hx
    · exact h4 y hy
  · refine Or.inr ⟨h1, z, List.mem_cons_of_mem _ hz, h2, h3, h4, fun y hy hk => ?_⟩
    rcases List.mem_cons.1 hy with rfl | hy
    · rw [hx] at hk; cases hk
    · exact h5 y hy hk
theorem OldI.take (h : OldI D a u f) (hx : known x = true) (hc : f = false ∨ x.unt < u ∨ (x.unt = u ∧ x.ip < a)) : OldI (x :: D) x.ip x.unt true := by
  refine Or.inr ⟨rfl, x, List.mem_cons_self .., hx, rfl, rfl, fun y hy hk => ?_⟩
  rcases List.mem_cons.1 hy with rfl | hy
  · omega
  · rcases h with ⟨h1, h2, h3, h4⟩ | ⟨h1, z, hz, h2, h3, h4, h5⟩
    · rw [h4 y hy] at hk; cases hk
    · have := h5 y hy hk
      rcases hc with hc | hc | hc
      · rw [h1] at hc; cases hc
      · omega
      · omega
theorem OldI.stay (h : OldI D a u true) (hx : known x = true) (h1 : ¬ x.unt < u) (h2 : ¬ (x.unt = u ∧ x.ip < a)) : OldI (x :: D) a u true := by
  rcases h with ⟨k1, _⟩ | ⟨k1, z, hz, k2, k3, k4, k5⟩
  · cases k1
  · refine Or.inr ⟨rfl, z, List.mem_cons_of_mem _ hz, k2, k3, k4, fun y hy hk => ?_⟩
    rcases List.mem_cons.1 hy with rfl | hy
    · omega
    · exact k5 y hy hk
theorem OldI.perm (h : OldI D a u f) (hp : D.Perm L) : OldI L a u f := by
  rcases h with ⟨h1, h2, h3, h4⟩ | ⟨h1, z, hz, h2, h3, h4, h5⟩
  · exact Or.inl ⟨h1, h2, h3, fun y hy => h4 y (hp.mem_iff.2 hy)⟩
  · exact Or.inr ⟨h1, z, hp.mem_iff.1 hz, h2, h3, h4, fun y hy => h5 y (hp.mem_iff.2 hy)⟩
end
theorem box_old {w w2 : World} {C : Array Value} {t : TypeId} (hb : Below (w.alloc (.cells C t)).heap.size (w.alloc (.cells C t)) w2) : w2.heap[w.heap.size]? = some (.cells C t (0, 0)) := (hb.block _ (by simp)).trans (heap_new _ _)
theorem bdrewN (w : World) (n : Nat) : Below w.heap.size w (w.drewN n) := ⟨rfl, rfl, rfl, Nat.le_refl _, fun _ _ => rfl⟩
/-- an entry in a box of the walk's own, asked about. -/
theorem asked_box (x : Ab) (a : Option Addr) (n cp : Nat) (w : World) : Calls Try.prog 38 #[x.val (.slice a n cp)] (w.alloc (.cells #[.int .i64 x.unt, .int .u8 x.mac.b0, .int .u8 x.mac.b1, .int .u8 x.mac.b2, .int .u8 x.mac.b3, .int .u8 x.mac.b4, .int .u8 x.mac.b5, .int .i64 x.q, .int .u32 x.src, .slice a n cp] 87)) fun e w' => e = .returned (.bool (decide (0 < x.q))) ∧ w'.heap[w.heap.size]? = some (.cells #[.int .i64 x.unt, .int .u8 x.mac.b0, .int .u8 x.mac.b1, .int .u8 x.mac.b2, .int .u8 x.mac.b3, .int .u8 x.mac.b4, .int .u8 x.mac.b5, .int .i64 x.q, .int .u32 x.src, .slice a n cp] 87 (0, 0)) ∧ w'.cell? ⟨w.heap.size, 0, none⟩ = some (.int .i64 x.unt) ∧ Hid (Below w.heap.size w w') :=
  (asked_any x _ _).mono fun e w' ⟨h1, h2⟩ => ⟨h1, box_old h2, by rw [cell_of_heap (box_old h2)]; rfl, (bpush (Below.refl _ _) _).trans (h2.mono (by simp))⟩
set_option maxHeartbeats 4000000 in
theorem oldest_any (c m : Nat) (S : St) (V : Int → Value) (w : World) (x : CaW w c m S V) :
    Calls Try.prog 63 #[.pointer (some ⟨c, 0, none⟩)] w fun e w' => ∃ a u f, e = .returned (.tuple #[.int .u32 a, .bool f]) ∧ Hid (OldI S.L a u f) ∧ Hid (Below w.heap.size w w') := by
  obtain ⟨_, c6, c7, c8, f7⟩ := x.cells
  have HC := hid x
  obtain ⟨o, hrg, hit⟩ := It.start x.map
  have HI := hid hit
  have HB : Hid (Below w.heap.size w (w.alloc o)) := bpush (Below.refl _ _) o
  clear x hit
  go_enter Try.func63, Try.ntmps63
  go_wp2
  go_loopw [4, 5, 6, 7] (fun v4 v5 v6 _ wr => ∃ (a u : Int) (f : Bool) (D : List Ab) (n : Nat), v4 = .int .u32 a ∧ v5 = .int .i64 u ∧ v6 = .bool f ∧ Hid (It wr m w.heap.size S.L V D n) ∧ Hid (OldI D a u f) ∧ Hid (Below w.heap.size w wr)) (fun _ _ _ _ wr => leftN wr m w.heap.size)
  case atStart => exact ⟨0, 0, false, [], _, rfl, rfl, rfl, HI, OldI.start, HB⟩
  case round =>
    clear HI HB hrg
    obtain ⟨a, u, f, D, n, rfl, rfl, rfl, HI, HO, HB⟩ := hrel
    have HLN := hid HI.out.left
    rcases HI.out.next 0 with ⟨h1, h2⟩ | ⟨y, w1, hy, h1, h2, hbr, n', hn', hi'⟩
    · have HP := hid h2
      clear h2
      go_wp2
      go_ret2
      exact ⟨a, u, f, rfl, HO.out.perm HP.out, HB⟩
    · have hn2 : leftN w1 m w.heap.size < leftN wr m w.heap.size := by rw [hi'.left, HLN.out]; exact hn'
      have HN2 := hid hn2
      have HI2 := hid hi'
      have HB2 : Hid (Below w.heap.size w w1) := HB.out.trans (hbr.below (Nat.le_refl _) HB.out.size)
      obtain ⟨pa, pc, hv, _⟩ := (HC.out.rows y hy).form
      rw [hv] at h1 h2
      clear hv
      generalize (u8s y.zs).length = pn at h1 h2
      have HA := hid (asked_box y pa pn pc)
      clear hn2 hi' HLN HI HB hbr hn' hy
      obtain ⟨i, t, mc, q, sr, zs⟩ := y
      obtain ⟨b0, b1, b2, b3, b4, b5⟩ := mc
      simp only [Ab.val] at h1 h2 HA
      have fin : ∀ (w2 : World) (a2 u2 : Int) (f2 : Bool), Below w1.heap.size w1 w2 → OldI (⟨i, t, ⟨b0, b1, b2, b3, b4, b5⟩, q, sr, zs⟩ :: D) a2 u2 f2 → (∃ (a u : Int) (f : Bool) (D : List Ab) (n : Nat), Value.int .u32 a2 = .int .u32 a ∧ Value.int .i64 u2 = .int .i64 u ∧ Value.bool f2 = .bool f ∧ Hid (It w2 m w.heap.size S.L V D n) ∧ Hid (OldI D a u f) ∧ Hid (Below w.heap.size w w2)) ∧ leftN w2 m w.heap.size < leftN wr m w.heap.size := fun w2 a2 u2 f2 hb ho =>
        have h3 := HI2.out.below hb
        ⟨⟨a2, u2, f2, _, n', rfl, rfl, rfl, h3, ho, bstep HB2.out hb⟩, by rw [h3.left, ← HI2.out.left]; exact HN2.out⟩
      have FIN := hid fin
      clear fin HN2 HI2 HB2
      by_cases hq : 0 < q
      · go_wp2_with (first
          | (go_at_call 38; with_reducible refine (HA.out _).mono ?_; rintro e w2 ⟨rfl, _, c0, HB3⟩)
          | fail)
        have HF := hid (FIN.out w2 a u f HB3.out (HO.out.skip (by simp [known, hq])))
        go_roundw
        case rel => exact HF.out.1
        case measure => exact HF.out.2
      · have hkn : known ⟨i, t, ⟨b0, b1, b2, b3, b4, b5⟩, q, sr, zs⟩ = true := by simp [known]; omega
        have HK := hid hkn
        clear hkn
        cases f with
        | false =>
          go_wp2_with (first
            | (go_at_call 38; with_reducible refine (HA.out _).mono ?_; rintro e w2 ⟨rfl, _, c0, HB3⟩)
            | fail)
          go_quiet (fail)
          go_wp2
          have HF := hid (FIN.out (w2.drewN nq) i t true (HB3.out.trans ((bdrewN _ _).mono HB3.out.size)) (HO.out.take HK.out (Or.inl rfl)))
          go_roundw
          case rel => exact HF.out.1
          case measure => exact HF.out.2
        | true =>
          by_cases ht1 : t < u
          · go_wp2_with (first
              | (go_at_call 38; with_reducible refine (HA.out _).mono ?_; rintro e w2 ⟨rfl, _, c0, HB3⟩)
              | fail)
            go_quiet (fail)
            go_wp2
            have HF := hid (FIN.out (w2.drewN nq) i t true (HB3.out.trans ((bdrewN _ _).mono HB3.out.size)) (HO.out.take HK.out (Or.inr (Or.inl ht1))))
            go_roundw
            case rel => exact HF.out.1
            case measure => exact HF.out.2
          · by_cases ht2 : t = u
            · subst ht2
              by_cases ht3 : i < a
              · go_wp2_with (first
                  | (go_at_call 38; with_reducible refine (HA.out _).mono ?_; rintro e w2 ⟨rfl, _, c0, HB3⟩)
                  | fail)
                go_quiet (fail)
                go_wp2
                have HF := hid (FIN.out (w2.drewN nq) i t true (HB3.out.trans ((bdrewN _ _).mono HB3.out.size)) (HO.out.take HK.out (Or.inr (Or.inr ⟨rfl, ht3⟩))))
                go_roundw
                case rel => exact HF.out.1
                case measure => exact HF.out.2
              · go_wp2_with (first
                  | (go_at_call 38; with_reducible refine (HA.out _).mono ?_; rintro e w2 ⟨rfl, _, c0, HB3⟩)
                  | fail)
                have HF := hid (FIN.out w2 a t true HB3.out (HO.out.stay HK.out (by simp <;> omega) (by simp <;> omega)))
                go_roundw
                case rel => exact HF.out.1
                case measure => exact HF.out.2
            · have HT2 := hid ht2
              have ht2' : (t == u) = false := by simpa using ht2
              go_wp2_with (first
                | (go_at_call 38; with_reducible refine (HA.out _).mono ?_; rintro e w2 ⟨rfl, _, c0, HB3⟩)
                | fail)
              have HF := hid (FIN.out w2 a u true HB3.out (HO.out.stay HK.out (by simp <;> omega) (fun h => HT2.out h.1)))
              go_roundw
              case rel => exact HF.out.1
              case measure => exact HF.out.2
end Go.Proofs.Ytaaoelhmanahpaa
