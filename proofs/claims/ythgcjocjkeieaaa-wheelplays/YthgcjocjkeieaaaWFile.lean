/-
  push, and file.
-/
import Derived.Test.YthgcjocjkeieaaaWDrop
namespace Go.Proofs.Ythgcjocjkeieaaa
open Go.RowKit
set_option linter.all false

theorem nodup_len : ∀ (l k : List Int), l.Nodup → (∀ a ∈ l, a ∈ k) → l.length ≤ k.length
  | [], k, _, _ => by simp
  | a :: r, k, hn, hs => by
    obtain ⟨h1, h2⟩ := List.nodup_cons.1 hn
    have hak : a ∈ k := hs a (by simp)
    have := nodup_len r (k.erase a) h2 (fun c hc => by
      have hne : c ≠ a := fun e => h1 (e ▸ hc)
      exact (List.mem_erase_of_ne hne).2 (hs c (by simp [hc])))
    rw [List.length_erase_of_mem hak] at this
    have : 0 < k.length := List.length_pos_of_mem hak
    simp only [List.length_cons]
    omega
theorem Inv.len {n last : Int} {T : List Tm} {R : Nat → List Int} {P : List Int} (h : Inv n last T R P) {i : Nat} (hi : i ≤ 256) : (R i).length ≤ T.length := by
  have := nodup_len (R i) (T.map Tm.id) (h.once i hi) (fun a ha => by
    obtain ⟨x, hx, rfl, _⟩ := h.has i hi a ha
    exact List.mem_map.2 ⟨x, hx, rfl⟩)
  simpa using this
theorem Inv.plen {n last : Int} {T : List Tm} {R : Nat → List Int} {P : List Int} (h : Inv n last T R P) : P.length ≤ T.length := by
  have := nodup_len P (T.map Tm.id) h.ponce (fun a ha => by
    obtain ⟨x, hx, rfl⟩ := h.pend a ha
    exact List.mem_map.2 ⟨x, hx, rfl⟩)
  simpa using this
theorem Inv.fit {n last : Int} {T : List Tm} {R : Nat → List Int} {P : List Int} (h : Inv n last T R P) (hl : last ≤ 9223372036854775807) {i : Nat} (hi : i ≤ 256) : ∀ a ∈ R i, fits a := fun a ha => by
  obtain ⟨x, hx, rfl, _⟩ := h.has i hi a ha
  have := h.ids x hx
  unfold fits; omega
theorem Inv.pfit {n last : Int} {T : List Tm} {R : Nat → List Int} {P : List Int} (h : Inv n last T R P) (hl : last ≤ 9223372036854775807) : ∀ a ∈ P, fits a := fun a ha => by
  obtain ⟨x, hx, rfl⟩ := h.pend a ha
  have := h.ids x hx
  unfold fits; omega

theorem infoI : (Try.prog.info? 3).map (fun i => (i.zero, i.size, i.bytes)) = some (some (.int .i64 0), 1, 8) := by kernel_rfl
def offOf (i : Nat) : Nat := if i = 256 then 260 else 3 + i
theorem Box.setAt {w : World} {b m : Nat} {now last : Int} {V : Nat → Value} (h : Box w b m now last V) {i : Nat} (hi : i ≤ 256) (v : Value) : Box (w.setCell ⟨b, offOf i, none⟩ v) b m now last (updV V i v) := by
  unfold offOf
  by_cases e : i = 256
  · subst e; rw [if_pos rfl]; exact h.setIds v
  · rw [if_neg e]; exact h.setSlot (by omega) v
theorem Box.cAt {w : World} {b m : Nat} {now last : Int} {V : Nat → Value} (h : Box w b m now last V) {i : Nat} (hi : i ≤ 256) : w.cell? ⟨b, offOf i, none⟩ = some (V i) := by
  unfold offOf
  by_cases e : i = 256
  · subst e; rw [if_pos rfl]; exact h.cIds
  · rw [if_neg e]; exact h.cSlot (by omega)
/-- a number is appended to a row. -/
structure AppI (w : World) (b m : Nat) (now last : Int) (T : List Tm) (V : Nat → Value) (R : Nat → List Int) (i : Nat) (a : Int) (w2 : World) (ad : Option Addr) (cap : Nat) : Prop where
  run : (Builtin.append_ #[36, 36] 36 #[V i, .slice (some ⟨w.heap.size, 0, none⟩) 1 1]).run Try.prog (w.alloc (.cells #[.int .i64 a] 3)) = .ok (.slice ad ((R i).length + 1) cap) w2
  cell : w2.cell? ⟨b, offOf i, none⟩ = some (V i)
  fr : w2.frozen? ⟨b, offOf i, none⟩ = false
  wh : WheelW (w2.setCell ⟨b, offOf i, none⟩ (.slice ad ((R i).length + 1) cap)) b m now last T (updV V i (.slice ad ((R i).length + 1) cap)) (upd R i (R i ++ [a]))
  turn : Turn b m w V (w2.setCell ⟨b, offOf i, none⟩ (.slice ad ((R i).length + 1) cap)) (updV V i (.slice ad ((R i).length + 1) cap))
theorem WheelW.app {w : World} {b m : Nat} {now last : Int} {T : List Tm} {V : Nat → Value} {R : Nat → List Int} (x : WheelW w b m now last T V R) {i : Nat} (hi : i ≤ 256) (a : Int) (hl : (R i).length ≤ 1048576) : ∃ w2 ad cap, AppI w b m now last T V R i a w2 ad cap := by
  have hb0 := balloc w (.cells #[.int .i64 a] 3)
  have x0 := x.below hb0
  have hml : 1048577 ≤ maxLen := by unfold maxLen; omega
  obtain ⟨v', w2, hrun, hrow, hgr, hcase⟩ := append_one 36 36 3 _ 8 Try.underlying36 infoI rfl (x0.rows i hi) (.int .i64 a) rfl w.heap.size (0, 0) (heap_new w _) (by rw [ints_len]; omega) (by rw [ints_len]; omega)
  have hrow' : Row w2 3 v' (ints (R i ++ [a])) := by rw [ints_app]; exact hrow
  rw [ints_len] at hcase
  have hbne : (V i).ownBlock ≠ some b := fun e => x.row_ne_b hi e rfl
  have hs0 : w.heap.size ≤ (w.alloc (.cells #[.int .i64 a] 3)).heap.size := hb0.size
  have hgk : ∀ k, k < w.heap.size → (V i).ownBlock ≠ some k → w2.heap[k]? = w.heap[k]? := fun k hk hn => (hgr.block k (by omega) (fun e => hn e.symm)).trans (hb0.block k hk)
  have hbox2 : Box w2 b m now last V := x.box.keep (hgk b x.box.lt hbne)
  have hform : ∃ ad cap, v' = .slice ad ((R i).length + 1) cap ∧ ∀ g, v'.ownBlock = some g → (V i).ownBlock = some g ∨ w.heap.size ≤ g := by
    rcases hcase with ⟨g, cap, h1, h2⟩ | ⟨g, cap, h1, h2, _⟩
    · exact ⟨_, _, h2, fun k hk => Or.inl (by rw [h1]; rw [h2] at hk; exact hk)⟩
    · refine ⟨_, _, h1, fun k hk => Or.inr ?_⟩
      rw [h1] at hk
      simp [Value.ownBlock] at hk
      omega
  obtain ⟨ad, cap, rfl, hown⟩ := hform
  have honly : Only (fun k => k = b ∨ (V i).ownBlock = some k) w (w2.setCell ⟨b, offOf i, none⟩ (.slice ad ((R i).length + 1) cap)) := by
    refine ⟨hgr.os.trans hb0.os, hgr.tape.trans hb0.tape, hgr.output.trans hb0.output, Nat.le_trans (Nat.le_trans hs0 hgr.size) (by simp [World.setCell]), fun k hk hkl => ?_⟩
    rw [Below.heap_setCell _ _ _ _ (fun e => hk (Or.inl e))]
    exact hgk k hkl (fun e => hk (Or.inr e))
  have hr3 : Row (w2.setCell ⟨b, offOf i, none⟩ (.slice ad ((R i).length + 1) cap)) 3 (.slice ad ((R i).length + 1) cap) (ints (R i ++ [a])) := hrow'.keep fun k hk => Below.heap_setCell _ _ _ _ (fun e => by
    simp only at e
    subst e
    obtain ⟨cur, f, h2⟩ := hrow'.obj hk
    obtain ⟨C, h1, _⟩ := hbox2
    rw [h1] at h2
    simp only [Option.some.injEq, Obj.cells.injEq] at h2
    exact absurd h2.2.1 (by decide))
  exact ⟨w2, ad, cap, hrun, hbox2.cAt hi, hbox2.fr _, x.setRow hi (hbox2.setAt hi _) hr3 (fun k h1 h2 hl => honly.block k (fun e => e.elim h1 h2) hl) hown, Turn.row hi honly hown⟩
/-- what is left behind a push. -/
structure PushI (w : World) (b m : Nat) (now last : Int) (T : List Tm) (V : Nat → Value) (R : Nat → List Int) (a : Int) (w' : World) (V' : Nat → Value) (H : List Int) : Prop where
  wh : WheelW w' b m now last T V' (upd R 256 H)
  turn : Turn b m w V w' V'
  perm : H.Perm (R 256 ++ [a])
  heap : Heap (keyT T) H
set_option maxHeartbeats 1000000 in
theorem push_any (b m : Nat) (now last : Int) (T : List Tm) (V : Nat → Value) (R : Nat → List Int) (a : Int) (ha : fits a) (hh : Heap (keyT T) (R 256)) (hf : ∀ a ∈ R 256, fits a) (hlen : (R 256).length ≤ 1048575) (w : World) (x : WheelW w b m now last T V R) :
    Calls Try.prog 39 #[.pointer (some ⟨b, 259, none⟩), .int .i64 a] w fun e w' => e = .returned (.tuple #[]) ∧ ∃ V' H, Hid (PushI w b m now last T V R a w' V' H) := by
  obtain ⟨w2, ad, cap, hA⟩ := x.app (i := 256) (by omega) a (by omega)
  have HR := hid hA.run
  have cI := x.box.cIds
  have c2 : w2.cell? ⟨b, 260, none⟩ = some (V 256) := hA.cell
  have f2 : w2.frozen? ⟨b, 260, none⟩ = false := hA.fr
  have hW : WheelW (w2.setCell ⟨b, 260, none⟩ (.slice ad ((R 256).length + 1) cap)) b m now last T (updV V 256 (.slice ad ((R 256).length + 1) cap)) (upd R 256 (R 256 ++ [a])) := hA.wh
  have hT : Turn b m w V (w2.setCell ⟨b, 260, none⟩ (.slice ad ((R 256).length + 1) cap)) (updV V 256 (.slice ad ((R 256).length + 1) cap)) := hA.turn
  have c3 : (w2.setCell ⟨b, 260, none⟩ (.slice ad ((R 256).length + 1) cap)).cell? ⟨b, 260, none⟩ = some (.slice ad ((R 256).length + 1) cap) := by have := hW.box.cIds; rw [updV_same] at this; exact this
  have HS : Hid (Calls Try.prog 44 #[.pointer (some ⟨b, 259, none⟩), .int .i64 (R 256).length] (w2.setCell ⟨b, 260, none⟩ (.slice ad ((R 256).length + 1) cap)) fun e w' => e = .returned (.tuple #[]) ∧ ∃ V' H, Hid (PushI w b m now last T V R a w' V' H)) := by
    have h := HpI.start hW
    rw [upd_same] at h
    have hfa : ∀ c ∈ upd R 256 (R 256 ++ [a]) 256, fits c := fun c hc => by
      rw [upd_same] at hc
      rcases List.mem_append.1 hc with hc | hc
      · exact hf c hc
      · simp at hc; subst hc; exact ha
    refine (rise_any b m now last T _ (upd R 256 (R 256 ++ [a])) (R 256 ++ [a]) (R 256).length (by simp) (push_up hh a) hfa _ _ h).mono ?_
    rintro e w' ⟨rfl, H, HH, HHp⟩
    have h1 := HH.out.wh
    rw [upd_upd] at h1
    have h2 := HH.out.perm
    rw [upd_same] at h2
    exact ⟨rfl, _, H, h1, hT.trans HH.out.turn, h2, HHp.out⟩
  have hn1 : (((R 256).length + 1 : Nat) : Int) - 1 = (R 256).length := by omega
  have hn2 : ((R 256).length : Int) + 1 - 1 = (R 256).length := by omega
  have hb1 : ((R 256).length : Int) ≤ 1048575 := by omega
  clear hA hW hT x hh hf ha hlen
  generalize V 256 = v at *
  generalize (R 256).length = N at *
  go_enter Try.func39, Try.ntmps39
  go_wp2_with (first
    | (at_builtin; refine wpList_append_run _ rfl _ _ _ _ rfl _ _ rfl rfl HR.out ?_)
    | (go_at_call 44; refine HS.out.mono ?_; rintro e w4 ⟨rfl, V1, H1, HH1⟩)
    | fail)
  exact bodyPost_end (v := .tuple #[]) (by simp [results, Try.results39, go_sem]) rfl ⟨rfl, V1, H1, HH1⟩
end Go.Proofs.Ythgcjocjkeieaaa
