/-
  The document's card: New.
-/
import Derived.Test.YtnjhlndikbkeaaaCNew2
import Derived.Deep.AppendLies
namespace Go.Proofs.Ytnjhlndikbkeaaa
open Go.RowKit
set_option linter.all false

theorem infoDesc : (Try.prog.info? 80).map (fun i => (i.zero, i.size, i.bytes)) = some (some (.agg #[.bool false, .slice none 0 0]), 2, 32) := by kernel_rfl
/-- n descriptors, all alike, empty. -/
def descs (b : Bool) (n : Nat) : List Value := (List.replicate n [Value.bool b, .slice none 0 0]).flatten
theorem descs_succ (b : Bool) (n : Nat) : descs b (n + 1) = descs b n ++ [.bool b, .slice none 0 0] := by
  unfold descs
  rw [List.replicate_succ', List.flatten_append]
  simp
theorem descs_len (b : Bool) (n : Nat) : (descs b n).length = n * 2 := by simp [descs]
theorem descs_at (b : Bool) : ∀ (n i : Nat), i < n → (descs b n)[i * 2]? = some (.bool b) ∧ (descs b n)[i * 2 + 1]? = some (.slice none 0 0)
  | 0, i, h => by omega
  | n + 1, i, h => by
    rw [descs_succ]
    by_cases hi : i < n
    · rw [List.getElem?_append_left (by rw [descs_len]; omega), List.getElem?_append_left (by rw [descs_len]; omega)]
      exact descs_at b n i hi
    · have : i = n := by omega
      subst this
      rw [List.getElem?_append_right (by rw [descs_len]; omega), List.getElem?_append_right (by rw [descs_len]; omega), descs_len]
      simp
theorem append_desc (b : Bool) (base k : Nat) (a : Option Addr) (cp : Nat) (wr : World) (h : wr.ownsRow base 80 2 (.slice a k cp) k (descs b k)) (hk : k < 64) (hb : base ≤ wr.heap.size) :
    ∃ g cp' w', (Builtin.append_ #[76, 76] 76 #[.slice a k cp, .slice (some ⟨wr.heap.size, 0, none⟩) 1 1]).run Try.prog (wr.alloc (.cells #[.bool b, .slice none 0 0] 80)) = .ok (.slice (some ⟨g, 0, none⟩) (k + 1) cp') w' ∧
      w'.ownsRow base 80 2 (.slice (some ⟨g, 0, none⟩) (k + 1) cp') (k + 1) (descs b (k + 1)) ∧ (wr.alloc (.cells #[.bool b, .slice none 0 0] 80)).grownBy w' (Value.slice a k cp).ownBlock ∧ base ≤ g := by
  have hinfo := infoDesc
  cases hq : Try.prog.info? 80 with
  | none => rw [hq] at hinfo; simp at hinfo
  | some i =>
    rw [hq] at hinfo
    simp only [Option.map_some, Option.some.injEq, Prod.mk.injEq] at hinfo
    obtain ⟨h1, h2, h3⟩ := hinfo
    obtain ⟨v', w', hrun, hown, hgr, _⟩ := run_append_own (P := Try.prog) (wr.alloc (.cells #[.bool b, .slice none 0 0] 80)) base 76 76 80 i _ 2 32 Try.underlying76 hq h1 h2 h3 rfl (by decide) (.slice a k cp) k (descs b k) (h.alloc _) ⟨wr.heap.size, 0, none⟩ 1 1 [.bool b, .slice none 0 0] (by simp)
      (fun j u hj => by
        have hj2 : j = 0 ∨ j = 1 := by have := (List.getElem?_eq_some_iff.1 hj).1; simp at this; omega
        rw [show (⟨wr.heap.size, 0, none⟩ : Addr).add j = ⟨wr.heap.size, j, none⟩ from by unfold Addr.add; split <;> simp_all, cell_of_heap (heap_new wr _)]
        rcases hj2 with rfl | rfl <;> simpa using hj)
      (fun u hu => by simp at hu; rcases hu with rfl | rfl <;> rfl) (by unfold maxLen; omega) (by omega) (by simp; omega)
    obtain ⟨g, cap, rfl, hg1, hg2⟩ := World.ownsRow.form hown (by omega)
    rw [descs_succ]
    exact ⟨g, cap, w', hrun, hown, hgr, hg1⟩
set_option maxHeartbeats 1000000 in
theorem refNew_no (rx tx : Int) (w : World) (h : fitsB rx = false ∨ fitsB tx = false) :
    Calls Try.prog 8 #[.int .i64 rx, .int .i64 tx] w fun e w' => e = .returned (.pointer none) ∧ w' = w := by
  by_cases h1 : rx < 1
  · clear h
    go_enter Try.func8, Try.ntmps8
    go_wp2
    go_ret
    exact ⟨rfl, rfl⟩
  · by_cases h2 : 64 < rx
    · clear h
      go_enter Try.func8, Try.ntmps8
      go_wp2
      go_ret
      exact ⟨rfl, rfl⟩
    · by_cases h3 : tx < 1
      · clear h
        go_enter Try.func8, Try.ntmps8
        go_wp2
        go_ret
        exact ⟨rfl, rfl⟩
      · have h4 : 64 < tx := by simp [fitsB] at h; omega
        clear h
        go_enter Try.func8, Try.ntmps8
        go_wp2
        go_ret
        exact ⟨rfl, rfl⟩
/-- the document's New under way: k descriptors for coming frames, j for going ones. -/
structure RNewI (w wr : World) (B2 : Nat) (k j : Nat) (a : Option Addr) (cp : Nat) (a2 : Option Addr) (cp2 : Nat) : Prop where
  box : wr.heap[w.heap.size]? = some (.cells #[.slice a k cp, .slice a2 j cp2, .int .i64 0, .int .i64 0, .int .i64 0, .int .i64 0, .int .i64 0] 78 (0, 0))
  rx : wr.ownsRow (w.heap.size + 1) 80 2 (.slice a k cp) k (descs true k)
  tx : wr.ownsRow B2 80 2 (.slice a2 j cp2) j (descs false j)
  two : w.heap.size + 1 ≤ B2 ∧ B2 ≤ wr.heap.size
  bel : Below w.heap.size w wr
  top : w.heap.size + 1 ≤ wr.heap.size
theorem grown_but {w w' : World} {row : Option Nat} {B : Nat} (h : w.grownBy w' row) (hB : B ≤ w.heap.size) (hr : ∀ b, row = some b → B ≤ b) : Below B w w' := ⟨h.os, h.tape, h.output, h.size, fun k hk => h.block k (by omega) (fun e => by have := hr k e.symm; omega)⟩
theorem ownsRow_other {w w' : World} {base : Nat} {e : TypeId} {size n : Nat} {v : Value} {xs : List Value} (h : w.ownsRow base e size v n xs) (hk : ∀ b, v.ownBlock = some b → w'.heap[b]? = w.heap[b]?) : w'.ownsRow base e size v n xs := by
  refine ⟨h.1, ?_⟩
  rcases h.2 with h0 | ⟨g, cap, cur, rfl, h1, h2, h3⟩
  · exact Or.inl h0
  · exact Or.inr ⟨g, cap, cur, rfl, h1, (hk g rfl).trans h2, h3⟩
theorem RNewI.stepR {w wr : World} {B2 k : Nat} {a : Option Addr} {cp : Nat} (h : RNewI w wr B2 k 0 a cp none 0) (hk : k < 64) :
    ∃ g cp' w', (Builtin.append_ #[76, 76] 76 #[.slice a k cp, .slice (some ⟨wr.heap.size, 0, none⟩) 1 1]).run Try.prog (wr.alloc (.cells #[.bool true, .slice none 0 0] 80)) = .ok (.slice (some ⟨g, 0, none⟩) (k + 1) cp') w' ∧
      w'.cell? ⟨w.heap.size, 0, none⟩ = some (.slice a k cp) ∧ w'.frozen? ⟨w.heap.size, 0, none⟩ = false ∧ RNewI w (w'.setCell ⟨w.heap.size, 0, none⟩ (.slice (some ⟨g, 0, none⟩) (k + 1) cp')) B2 (k + 1) 0 (some ⟨g, 0, none⟩) cp' none 0 := by
  obtain ⟨g, cp', w', hrun, hown, hgr, hg⟩ := append_desc true (w.heap.size + 1) k a cp wr h.rx hk h.top
  have hrow : ∀ b, (Value.slice a k cp).ownBlock = some b → w.heap.size + 1 ≤ b := fun b hb => (h.rx.lt b hb).1
  have hbox : w'.heap[w.heap.size]? = _ := (hgr.block w.heap.size (by have := h.top; simp; omega) (fun e => by have := hrow _ e.symm; omega)).trans ((heap_old _ _ (heap_lt h.box)).trans h.box)
  have hsz := hgr.size
  simp at hsz
  refine ⟨g, cp', w', hrun, cellHeap hbox 0 rfl, frozen_of_heap hbox 0, heap_setCell hbox, ownsRow_other hown (fun b hb => Below.heap_setCell _ _ _ _ (by simp [Value.ownBlock] at hb; subst hb; simp; omega)), World.ownsRow_nil _ _ _ _, ⟨h.two.1, by have := h.two.2; simp [World.setCell]; omega⟩, ?_, ?_⟩
  · refine bset (h.bel.trans ?_) (Nat.le_refl _) _ _
    have b1 : Below w.heap.size wr (wr.alloc (.cells #[.bool true, .slice none 0 0] 80)) := (Below.refl _ _).alloc (by have := h.top; omega) _
    exact b1.trans (grown_but hgr (by have := h.top; simp; omega) (fun b hb => by have := hrow b hb; omega))
  · have := h.top; simp [World.setCell]; omega
theorem RNewI.stepT {w wr : World} {B2 k j : Nat} {a : Option Addr} {cp : Nat} {a2 : Option Addr} {cp2 : Nat} (h : RNewI w wr B2 k j a cp a2 cp2) (hk : j < 64) (hap : ∀ b, (Value.slice a k cp).ownBlock = some b → b < B2) :
    ∃ g cp' w', (Builtin.append_ #[76, 76] 76 #[.slice a2 j cp2, .slice (some ⟨wr.heap.size, 0, none⟩) 1 1]).run Try.prog (wr.alloc (.cells #[.bool false, .slice none 0 0] 80)) = .ok (.slice (some ⟨g, 0, none⟩) (j + 1) cp') w' ∧
      w'.cell? ⟨w.heap.size, 1, none⟩ = some (.slice a2 j cp2) ∧ w'.frozen? ⟨w.heap.size, 1, none⟩ = false ∧ RNewI w (w'.setCell ⟨w.heap.size, 1, none⟩ (.slice (some ⟨g, 0, none⟩) (j + 1) cp')) B2 k (j + 1) a cp (some ⟨g, 0, none⟩) cp' := by
  obtain ⟨g, cp', w', hrun, hown, hgr, hg⟩ := append_desc false B2 j a2 cp2 wr h.tx hk h.two.2
  have hrow : ∀ b, (Value.slice a2 j cp2).ownBlock = some b → w.heap.size + 1 ≤ b := fun b hb => by have := (h.tx.lt b hb).1; have := h.two.1; omega
  have hbox : w'.heap[w.heap.size]? = _ := (hgr.block w.heap.size (by have := h.top; simp; omega) (fun e => by have := hrow _ e.symm; omega)).trans ((heap_old _ _ (heap_lt h.box)).trans h.box)
  have hsz := hgr.size
  simp at hsz
  have hR : w'.ownsRow (w.heap.size + 1) 80 2 (.slice a k cp) k (descs true k) := ownsRow_other h.rx (fun b hb => (hgr.block b (by have := (h.rx.lt b hb).2; simp; omega) (fun e => by have h1 := hap b hb; have h2 := (h.tx.lt b e.symm).1; omega)).trans (heap_old _ _ (h.rx.lt b hb).2))
  refine ⟨g, cp', w', hrun, cellHeap hbox 1 rfl, frozen_of_heap hbox 1, heap_setCell hbox, ownsRow_other hR (fun b hb => Below.heap_setCell _ _ _ _ (by have := (h.rx.lt b hb).1; simp; omega)), ownsRow_other hown (fun b hb => Below.heap_setCell _ _ _ _ (by simp [Value.ownBlock] at hb; subst hb; have := h.two.1; simp; omega)), ⟨h.two.1, by have := h.two.2; simp [World.setCell]; omega⟩, ?_, ?_⟩
  · refine bset (h.bel.trans ?_) (Nat.le_refl _) _ _
    have b1 : Below w.heap.size wr (wr.alloc (.cells #[.bool false, .slice none 0 0] 80)) := (Below.refl _ _).alloc (by have := h.top; omega) _
    exact b1.trans (grown_but hgr (by have := h.top; simp; omega) (fun b hb => by have := hrow b hb; omega))
  · have := h.top; simp [World.setCell]; omega
def RNewE (w w' : World) (n m : Nat) : Prop := ∃ B2 a cp a2 cp2, RNewI w w' B2 n m a cp a2 cp2 ∧ ∀ b, (Value.slice a n cp).ownBlock = some b → b < B2
set_option maxRecDepth 20000 in
set_option maxHeartbeats 2000000 in
theorem refNew_own (n m : Nat) (w : World) (hn1 : 1 ≤ n) (hn : n ≤ 64) (hm1 : 1 ≤ m) (hm : m ≤ 64) :
    Calls Try.prog 8 #[.int .i64 n, .int .i64 m] w fun e w' => e = .returned (.pointer (some ⟨w.heap.size, 0, none⟩)) ∧ RNewE w w' n m := by
  have f1 : ¬ (n : Int) < 1 := by omega
  have f2 : ¬ (64 : Int) < n := by omega
  have f3 : ¬ (m : Int) < 1 := by omega
  have f4 : ¬ (64 : Int) < m := by omega
  go_enter Try.func8, Try.ntmps8
  go_wp2
  have H0 : Hid (RNewI w (w.alloc (.cells #[.slice none 0 0, .slice none 0 0, .int .i64 0, .int .i64 0, .int .i64 0, .int .i64 0, .int .i64 0] 78)) (w.heap.size + 1) 0 0 none 0 none 0) :=
    ⟨heap_new _ _, World.ownsRow_nil _ _ _ _, World.ownsRow_nil _ _ _ _, ⟨Nat.le_refl _, by simp⟩, balloc w _, by simp⟩
  go_loopw [6] (fun i wr => ∃ (k : Nat) (a : Option Addr) (cp : Nat), k ≤ n ∧ i = .int .i64 k ∧ Hid (RNewI w wr (w.heap.size + 1) k 0 a cp none 0)) (fun i _ => n - (intOf i).toNat)
  case atStart => exact ⟨0, none, 0, by omega, rfl, H0⟩
  case round =>
    obtain ⟨k, a, cp, hk, rfl, HI⟩ := hrel
    by_cases hlt : k < n
    · have hlt2 : (k : Int) < n := by omega
      obtain ⟨g, cp', w', hrun, hcl, hfz, hnx⟩ := HI.out.stepR (by omega)
      have HR := hid hrun
      have HN := hid hnx
      have hc0 : wr.cell? ⟨w.heap.size, 0, none⟩ = some (.slice a k cp) := cellHeap HI.out.box 0 rfl
      have hz0 : w.heap.size < wr.heap.size := heap_lt HI.out.box
      clear hrun hnx
      go_wp2_with (first | (at_builtin; refine wpList_append_run _ rfl (.tmp 33) (.tmp 35) 76 76 rfl _ _ rfl rfl HR.out ?_))
      go_roundw
      case rel => exact ⟨k + 1, _, _, by omega, by go_num, HN⟩
      case measure => simp [intOf]; omega
    · have hge : ¬ (k : Int) < n := by omega
      have hkn : k = n := by omega
      subst hkn
      have H1 : Hid (RNewI w wr wr.heap.size k 0 a cp none 0) := ⟨HI.out.box, HI.out.rx, World.ownsRow_nil _ _ _ _, ⟨HI.out.top, Nat.le_refl _⟩, HI.out.bel, HI.out.top⟩
      have HAP : Hid (∀ b, (Value.slice a k cp).ownBlock = some b → b < wr.heap.size) := fun b hb => (HI.out.rx.lt b hb).2
      obtain ⟨B2, hB2⟩ : ∃ B2, B2 = wr.heap.size := ⟨_, rfl⟩
      rw [← hB2] at H1 HAP
      clear hB2 HI
      go_wp2
      go_loopw [7] (fun i wx => ∃ (j : Nat) (a2 : Option Addr) (cp2 : Nat), j ≤ m ∧ i = .int .i64 j ∧ Hid (RNewI w wx B2 k j a cp a2 cp2)) (fun i _ => m - (intOf i).toNat)
      case atStart => exact ⟨0, none, 0, by omega, rfl, H1⟩
      case round =>
        obtain ⟨j, a2, cp2, hj, rfl, HJ⟩ := hrel
        by_cases hlt : j < m
        · have hlt2 : (j : Int) < m := by omega
          obtain ⟨g, cp', w', hrun, hcl, hfz, hnx⟩ := HJ.out.stepT (by omega) HAP.out
          have HR := hid hrun
          have HN := hid hnx
          have hc0 : wr.cell? ⟨w.heap.size, 1, none⟩ = some (.slice a2 j cp2) := cellHeap HJ.out.box 1 rfl
          have hz0 : w.heap.size < wr.heap.size := heap_lt HJ.out.box
          clear hrun hnx
          go_wp2_with (first | (at_builtin; refine wpList_append_run _ rfl (.tmp 48) (.tmp 50) 76 76 rfl _ _ rfl rfl HR.out ?_))
          go_roundw
          case rel => exact ⟨j + 1, _, _, by omega, by go_num, HN⟩
          case measure => simp [intOf]; omega
        · have hge : ¬ (j : Int) < m := by omega
          have hjm : j = m := by omega
          have HJM := hid hjm
          clear hjm
          go_wp2
          go_ret
          exact ⟨rfl, B2, a, cp, a2, cp2, by rw [← HJM.out]; exact HJ.out, HAP.out⟩
end Go.Proofs.Ytnjhlndikbkeaaa
