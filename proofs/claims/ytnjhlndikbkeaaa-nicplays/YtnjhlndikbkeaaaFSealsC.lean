/-
  What the walk of FrameSeals leans on.
-/
import Derived.Test.YtnjhlndikbkeaaaFRefSeal
import Derived.Test.YtnjhlndikbkeaaaFBackC
import Derived.Test.YtnjhlndikbkeaaaBLent
import Derived.Test.YtnjhlndikbkeaaaBOwned
namespace Go.Proofs.Ytnjhlndikbkeaaa
open Go.RowKit
set_option linter.all false

theorem Row.but {w w' : World} {e : TypeId} {v : Value} {vs : List Value} {g : Nat} (h : Row w e v vs) (hb : But g w w') (hn : ∀ b, v.ownBlock = some b → b ≠ g) : Row w' e v vs := h.keep fun b hv => hb.block b (hn b hv) (h.lt hv)
theorem Row.conv {w : World} {v : Value} {zs : List Int} (h : Row w 5 v (u8s zs)) (hz : ∀ z, z ∈ zs → 0 ≤ z ∧ z ≤ 255) (k : Nat) : (convert 43 9 v).run Try.prog (w.drewN k) = .ok (.string (strOfNums zs)) (w.drewN k) := by
  obtain ⟨pt, e1, e2, ok⟩ := h.part hz
  rw [e1, ← e2]
  exact conv_part pt _ (Part.ok_drewN ok k)
theorem Row.conv0 {w : World} {v : Value} {zs : List Int} (h : Row w 5 v (u8s zs)) (hz : ∀ z, z ∈ zs → 0 ≤ z ∧ z ≤ 255) : (convert 43 9 v).run Try.prog w = .ok (.string (strOfNums zs)) w := by
  obtain ⟨pt, e1, e2, ok⟩ := h.part hz
  rw [e1, ← e2]
  exact conv_part pt _ ok
/-- an answer: bytes of the call's own. -/
def Ans (w w' : World) (ys : List Int) (a : Option Addr) (n c : Nat) : Prop := Row w' 5 (.slice a n c) (u8s ys) ∧ (∀ b, (Value.slice a n c).ownBlock = some b → w.heap.size ≤ b) ∧ Below w.heap.size w w'
theorem ans_nil {w w' : World} (h : Below w.heap.size w w') : Ans w w' [] none 0 0 := ⟨Row.nil _ _, by simp [Value.ownBlock], h⟩
theorem ans_row {w w' : World} {g n : Nat} {ys : List Int} (hn : ys.length = n) (hm : n ≤ maxLen) (hg : w'.heap[g]? = some (.cells (u8s ys).toArray 5 (0, 0))) (hw : w.heap.size ≤ g) (h : Below w.heap.size w w') : Ans w w' ys (some ⟨g, 0, none⟩) n n := by
  subst hn
  have := Row.of_heap hg (by rw [u8s_len]; exact hm)
  rw [u8s_len] at this
  exact ⟨this, fun b hb => by simp [Value.ownBlock] at hb; omega, h⟩
theorem sealB_bd (d s : Mac) (k : Int) (zs : List Int) (hd : d.ok) (hs : s.ok) (hz : ∀ z, z ∈ zs → 0 ≤ z ∧ z ≤ 255) : (∀ z, z ∈ sealB d s k zs → 0 ≤ z ∧ z ≤ 255) ∧ (sealB d s k zs).length ≤ 1514 := by
  unfold sealB
  split
  · simp
  · split
    · simp
    · rename_i h1 h2
      exact ⟨sealL_bd d s k zs hd hs (by omega) (by omega) hz, by rw [sealL_len]; omega⟩
theorem seal_u (d s : Mac) (k : Int) (pt : Part) (w : World) (hd : d.ok) (hs : s.ok) (hl : pt.zs.length ≤ 140737488351232) (hok : pt.ok w) :
    Calls Try.prog 62 #[frameV d s k pt.val] w fun e w' => ∃ a n c, e = .returned (.tuple #[.slice a n c, .int .i64 (sealE k pt.zs)]) ∧ Ans w w' (sealB d s k pt.zs) a n c := by
  unfold sealE sealB
  by_cases h1 : k < 1536 ∨ 65535 < k
  · rw [if_pos h1, if_pos h1]
    exact (seal_kind d s k pt.val w h1).mono fun e w' ⟨he, hb⟩ => ⟨none, 0, 0, he, ans_nil hb⟩
  · rw [if_neg h1, if_neg h1]
    by_cases h2 : 1500 < pt.zs.length
    · rw [if_pos h2, if_pos h2]
      exact (seal_long d s k pt.a pt.zs.length pt.c w (by omega) (by omega) h2 (by omega)).mono fun e w' ⟨he, hb⟩ => ⟨none, 0, 0, he, ans_nil hb⟩
    · rw [if_neg h2, if_neg h2]
      exact (seal_ok d s k pt w hd hs (by omega) (by omega) (by omega) hok).mono fun e w' ⟨g, he, hg, hh, hb⟩ => ⟨_, _, _, he, ans_row (sealL_len d s k pt.zs) (by unfold maxLen; omega) hh hg hb⟩
theorem refSeal_u (d s : Mac) (k : Int) (pt : Part) (w : World) (hd : d.ok) (hs : s.ok) (hl : pt.zs.length ≤ 140737488351232) (hok : pt.ok w) :
    Calls Try.prog 19 #[frameV d s k pt.val] w fun e w' => ∃ a n c, e = .returned (.tuple #[.slice a n c, .int .i64 (sealE k pt.zs)]) ∧ Ans w w' (sealB d s k pt.zs) a n c := by
  unfold sealE sealB
  by_cases h1 : k < 1536 ∨ 65535 < k
  · rw [if_pos h1, if_pos h1]
    exact (refSeal_kind d s k pt.val w h1).mono fun e w' ⟨he, hb⟩ => ⟨none, 0, 0, he, ans_nil hb⟩
  · rw [if_neg h1, if_neg h1]
    by_cases h2 : 1500 < pt.zs.length
    · rw [if_pos h2, if_pos h2]
      exact (refSeal_long d s k pt.a pt.zs.length pt.c w (by omega) (by omega) h2 (by omega)).mono fun e w' ⟨he, hb⟩ => ⟨none, 0, 0, he, ans_nil hb⟩
    · rw [if_neg h2, if_neg h2]
      exact (refSeal_ok d s k pt w hd hs (by omega) (by omega) (by omega) hok).mono fun e w' ⟨v, he, hr, hf, hb⟩ => by
        obtain ⟨a, c, e1, _⟩ := hr.form
        subst e1
        exact ⟨a, _, c, he, hr, hf, hb⟩
theorem lent_u (pt : Part) (w : World) (hok : pt.ok w) (hl : pt.zs.length ≤ 140737488351232) :
    Calls Try.prog 55 #[pt.val] w fun e w' => ∃ g, e = .returned (.slice (some ⟨g, 0, none⟩) pt.zs.length (pt.zs.length + 2)) ∧ w.heap.size ≤ g ∧ w'.heap[g]? = some (.cells (L2 pt.zs) 5 (0, 0)) ∧ Below w.heap.size w w' :=
  (lent_any pt w hok hl).mono fun e w' ⟨he, hw⟩ => ⟨_, he, Nat.le_refl _, by rw [hw]; exact heap_new _ _, by rw [hw]; exact bpush (Below.refl _ _) _⟩
theorem lent_part {pt : Part} {w : World} {g : Nat} (hz : ∀ z, z ∈ pt.zs → 0 ≤ z ∧ z ≤ 255) (hg : w.heap[g]? = some (.cells (L2 pt.zs) 5 (0, 0))) : Part.ok w ⟨some ⟨g, 0, none⟩, pt.zs.length + 2, pt.zs⟩ :=
  Part.of_heap hg 0 (by omega) (fun j hj => by rw [Nat.zero_add]; exact L2_lo _ _ hj) hz
/-- the contracts that the statement leans on, at a frame: its cells F, Data (fa, l, fc), what Seal makes of it (Y, E). -/
structure SealsC (w : World) (F : Option Addr → Nat → Nat → Array Value) (fa : Option Addr) (l fc : Nat) (LX : Array Value) (Y : List Int) (E : Int) : Prop where
  rf : ∀ w', Below w.heap.size w w' → Calls Try.prog 19 #[.agg (F fa l fc)] w' fun e w'' => ∃ a n c, e = .returned (.tuple #[.slice a n c, .int .i64 E]) ∧ Ans w' w'' Y a n c
  sl : ∀ w' g, w'.heap[g]? = some (.cells LX 5 (0, 0)) → Calls Try.prog 62 #[.agg (F (some ⟨g, 0, none⟩) l (l + 2))] w' fun e w'' => ∃ a n c, e = .returned (.tuple #[.slice a n c, .int .i64 E]) ∧ Ans w' w'' Y a n c
  ln : ∀ w', Below w.heap.size w w' → Calls Try.prog 55 #[.slice fa l fc] w' fun e w'' => ∃ g, e = .returned (.slice (some ⟨g, 0, none⟩) l (l + 2)) ∧ w'.heap.size ≤ g ∧ w''.heap[g]? = some (.cells LX 5 (0, 0)) ∧ Below w'.heap.size w' w''
  al : ∀ w' g, Below w.heap.size w w' → w'.heap[g]? = some (.cells LX 5 (0, 0)) → Calls Try.prog 56 #[.slice (some ⟨g, 0, none⟩) l (l + 2), .slice fa l fc] w' fun e w'' => e = .returned (.bool true) ∧ But g w' w''
  bytes : ∀ z, z ∈ Y → 0 ≤ z ∧ z ≤ 255
  short : Y.length ≤ 1514
theorem sealsC (d s : Mac) (k : Int) (pt : Part) (w : World) (hd : d.ok) (hs : s.ok) (hl : pt.zs.length ≤ 140737488351232) (hok : pt.ok w) :
    SealsC w (fun a n c => frameC d s k (.slice a n c)) pt.a pt.zs.length pt.c (L2 pt.zs) (sealB d s k pt.zs) (sealE k pt.zs) :=
  ⟨fun w' hb => refSeal_u d s k pt w' hd hs hl (Part.ok_below hok hb),
   fun w' g hg => seal_u d s k ⟨some ⟨g, 0, none⟩, pt.zs.length + 2, pt.zs⟩ w' hd hs hl (lent_part hok.1 hg),
   fun w' hb => lent_u pt w' (Part.ok_below hok hb) hl,
   fun w' g hb hg => asLent_any g pt w' (Part.ok_below hok hb) hl hg,
   (sealB_bd d s k pt.zs hd hs hok.1).1, (sealB_bd d s k pt.zs hd hs hok.1).2⟩
end Go.Proofs.Ytnjhlndikbkeaaa
