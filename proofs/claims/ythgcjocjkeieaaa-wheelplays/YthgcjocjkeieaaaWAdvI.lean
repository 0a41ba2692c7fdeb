/-
  Advance: how it stands.
-/
import Derived.Test.YthgcjocjkeieaaaWArm
import Derived.Test.YthgcjocjkeieaaaWUp
import Derived.Test.YthgcjocjkeieaaaWAdvM
import Derived.Test.YthgcjocjkeieaaaBRowS
namespace Go.Proofs.Ythgcjocjkeieaaa
open Go.RowKit
set_option linter.all false

def tmC (x : Tm) : List Value := [.int .i64 x.t, .int .i64 x.id, .int .i64 x.tag]
def cellsF (F : List Tm) : List Value := F.flatMap tmC
theorem cellsF_len : ∀ F : List Tm, (cellsF F).length = F.length * 3
  | [] => rfl
  | x :: r => by
    have := cellsF_len r
    unfold cellsF at *
    rw [List.flatMap_cons, List.length_append, this, List.length_cons, Nat.add_mul]
    simp [tmC]; omega
theorem cellsF_app (F : List Tm) (y : Tm) : cellsF (F ++ [y]) = cellsF F ++ tmC y := by simp [cellsF]
theorem infoF : (Try.prog.info? 44).map (fun i => (i.zero, i.size, i.bytes)) = some (some (.agg #[.int .i64 0, .int .i64 0, .int .i64 0]), 3, 24) := by kernel_rfl
/-- v is a list of what went off. -/
abbrev RowF (w : World) (v : Value) (F : List Tm) : Prop := RowS w 44 3 v F.length (cellsF F)
/-- v's block is none of the wheel's. -/
def Off (b m : Nat) (V : Nat → Value) (v : Value) : Prop := ∀ g, v.ownBlock = some g → ¬ WK b m V g
theorem Off.nil (b m : Nat) (V : Nat → Value) : Off b m V (.slice none 0 0) := fun g hg => by simp [Value.ownBlock] at hg
theorem Off.turn {b m : Nat} {w w' : World} {V V' : Nat → Value} {v : Value} (h : Off b m V v) (ht : Turn b m w V w' V') (hl : ∀ g, v.ownBlock = some g → g < w.heap.size) : Off b m V' v ∧ ∀ g, v.ownBlock = some g → w'.heap[g]? = w.heap[g]? :=
  ⟨fun g hg e => by
    rcases ht.new g e with h1 | h1
    · exact h g hg h1
    · have := hl g hg; omega, fun g hg => ht.only.block g (h g hg) (hl g hg)⟩
theorem fired_ne_int {w : World} {v u : Value} {F : List Tm} {zs : List Value} (h : RowF w v F) (k : Row w 3 u zs) {g : Nat} (hg : v.ownBlock = some g) : u.ownBlock ≠ some g := fun e => by
  obtain ⟨c1, h1⟩ := RowS.obj h hg
  obtain ⟨c2, f2, h2⟩ := k.obj e
  rw [h1] at h2
  simp only [Option.some.injEq, Obj.cells.injEq] at h2
  exact absurd h2.2.1 (by decide)
/-- an Advance under way, between two slots. -/
structure AdvI (w : World) (b m : Nat) (last : Int) (T0 : List Tm) (V0 : Nat → Value) (e : Int) (wr : World) (n : Int) (T : List Tm) (V : Nat → Value) (R : Nat → List Int) (v : Value) (F : List Tm) : Prop where
  wh : WheelW wr b m n last T V R
  inv : Inv n last T R []
  turn : Turn b m w V0 wr V
  going : Going T0 e F T
  le : n ≤ e
  row : RowF wr v F
  new : ∀ g, v.ownBlock = some g → w.heap.size ≤ g
  off : Off b m V v
/-- .. within a slot: PP is what was taken, j of it is done. -/
structure AdvJ (w : World) (b m : Nat) (last : Int) (T0 : List Tm) (V0 : Nat → Value) (e : Int) (M : Nat) (L : Nat) (s : Int) (pv : Value) (PP : List Int) (j : Nat) (wr : World) (T : List Tm) (V : Nat → Value) (R : Nat → List Int) (v : Value) (F : List Tm) : Prop where
  wh : WheelW wr b m s last T V R
  inv : Inv s last T R (PP.drop j)
  turn : Turn b m w V0 wr V
  going : Going T0 e F T
  le : s ≤ e
  row : RowF wr v F
  new : ∀ g, v.ownBlock = some g → w.heap.size ≤ g
  off : Off b m V v
  prow : Row wr 3 pv (ints PP)
  poff : Off b m V pv
  low : L = 0 → (∀ y ∈ T, y.id ∈ PP.drop j ∨ s < y.t) ∧ ∀ a ∈ PP.drop j, keyT T a = s
  mu : Go.Proofs.Ythgcjocjkeieaaa.mu s T < M ∨ (L = 0 ∧ j = 0 ∧ Go.Proofs.Ythgcjocjkeieaaa.mu s T ≤ M)
  len : T.length ≤ 1024
  all : F.length + T.length = T0.length
/-- how far it has to go, read off memory. -/
def muOf (w : World) (b m : Nat) : Nat := mu (match w.cell? ⟨b, 0, none⟩ with | some u => intOf u | none => 0) (readT w m)
theorem WheelW.mu {w : World} {b m : Nat} {now last : Int} {T : List Tm} {V : Nat → Value} {R : Nat → List Int} (x : WheelW w b m now last T V R) : muOf w b m = Go.Proofs.Ythgcjocjkeieaaa.mu now T := by
  unfold muOf
  rw [x.box.cNow, x.map.read]
  rfl
theorem drop_cons {PP : List Int} {j : Nat} (h : j < PP.length) : PP.drop j = nth PP j :: PP.drop (j + 1) := by rw [List.drop_eq_getElem_cons h, nth_eq h]
/-- one of the slot is filed anew. -/
theorem AdvJ.file {w : World} {b m : Nat} {last : Int} {T0 : List Tm} {V0 : Nat → Value} {e : Int} {M L : Nat} {s : Int} {pv : Value} {PP : List Int} {j : Nat} {wr : World} {T : List Tm} {V : Nat → Value} {R : Nat → List Int} {v : Value} {F : List Tm} (h : AdvJ w b m last T0 V0 e M L s pv PP j wr T V R v F) (hL : L ≠ 0) (hj : j < PP.length)
    {w' : World} {V' : Nat → Value} {R' : Nat → List Int} (hf : FiledI wr b m s last T V (PP.drop (j + 1)) w' V' R') : AdvJ w b m last T0 V0 e M L s pv PP (j + 1) w' T V' R' v F := by
  obtain ⟨o1, k1⟩ := h.off.turn hf.turn (fun g hg => RowS.lt h.row hg)
  obtain ⟨o2, k2⟩ := h.poff.turn hf.turn (fun g hg => h.prow.lt hg)
  refine ⟨hf.wh, hf.inv, h.turn.trans hf.turn, h.going, h.le, RowS.keep h.row k1, h.new, o1, h.prow.keep k2, o2, fun e => absurd e hL, ?_, h.len, h.all⟩
  rcases h.mu with h1 | ⟨h1, _⟩
  · exact Or.inl h1
  · exact absurd h1 hL
/-- one of the slot goes off. -/
theorem AdvJ.off1 {w : World} {b m : Nat} {last : Int} {T0 : List Tm} {V0 : Nat → Value} {e : Int} {M L : Nat} {s : Int} {pv : Value} {PP : List Int} {j : Nat} {wr : World} {T : List Tm} {V : Nat → Value} {R : Nat → List Int} {v : Value} {F : List Tm} (h : AdvJ w b m last T0 V0 e M L s pv PP j wr T V R v F) (hL : L = 0) (hj : j < PP.length) (h0 : T0.length ≤ 1024)
    {w1 : World} (ho : OffI wr b m s last (del T (nth PP j)) V R w1) :
    ∃ w2 ad cap y, keyT T (nth PP j) = y.t ∧ nth PP j = y.id ∧ tagT T (nth PP j) = y.tag ∧ (Builtin.append_ #[41, 41] 41 #[v, .slice (some ⟨w1.heap.size, 0, none⟩) 1 1]).run Try.prog (w1.alloc (.cells #[.int .i64 y.t, .int .i64 y.id, .int .i64 y.tag] 44)) = .ok (.slice ad (F.length + 1) cap) w2 ∧
      AdvJ w b m last T0 V0 e M L s pv PP (j + 1) w2 (del T y.id) V R (.slice ad (F.length + 1) cap) (F ++ [y]) := by
  have hI := h.inv
  rw [drop_cons hj] at hI
  obtain ⟨y, hy, hya⟩ := hI.pend (nth PP j) (by simp)
  obtain ⟨l1, l2⟩ := h.low hL
  have hys : y.t = s := by rw [← hI.rise.key hy, hya]; exact l2 _ (by rw [drop_cons hj]; simp)
  have hbef : ∀ z ∈ T, z.id ≠ y.id → tlt y z := fun z hz hne => by
    rcases l1 z hz with h1 | h1
    · rw [drop_cons hj] at h1
      rcases List.mem_cons.1 h1 with h2 | h2
      · exact absurd (h2.trans hya.symm) hne
      · have hk := (List.pairwise_cons.1 hI.pord).1 z.id h2
        have hzs : z.t = s := by rw [← hI.rise.key hz]; exact l2 _ (by rw [drop_cons hj]; simp [h2])
        rw [← hya, hI.rise.key hy, hI.rise.key hz] at hk
        exact Or.inr ⟨by omega, hk (by omega)⟩
    · exact Or.inl (by omega)
  have hgo := h.going.next hy (by have := h.le; omega) hbef
  obtain ⟨o1, k1⟩ := h.off.turn ho.turn (fun g hg => RowS.lt h.row hg)
  obtain ⟨o2, k2⟩ := h.poff.turn ho.turn (fun g hg => h.prow.lt hg)
  have hrow1 : RowF w1 v F := RowS.keep h.row k1
  have hprow1 := h.prow.keep k2
  have hb0 := balloc w1 (.cells #[.int .i64 y.t, .int .i64 y.id, .int .i64 y.tag] 44)
  have hall := h.all
  have hml : 1048577 ≤ maxLen := by unfold maxLen; omega
  have hFl : F.length ≤ 1024 := by omega
  obtain ⟨v2, w2, hrun, hrow2, hgr, hown⟩ := append_s 41 41 44 _ 3 24 Try.underlying41 infoF rfl (by decide) (RowS.below hrow1 hb0) ⟨w1.heap.size, 0, none⟩ 1 1 (tmC y) rfl (fun j u hj => by
      rw [show (⟨w1.heap.size, 0, none⟩ : Addr).add j = ⟨w1.heap.size, j, none⟩ from by unfold Addr.add; split <;> simp_all, cell_of_heap (heap_new w1 _)]
      rw [← Array.getElem?_toList]
      exact hj) (fun u hu => by simp [tmC] at hu; rcases hu with rfl | rfl | rfl <;> rfl) (by omega) (by omega)
  obtain ⟨ad, cap, rfl, _⟩ := RowS.form hrow2
  have hrow3 : RowF w2 (.slice ad (F.length + 1) cap) (F ++ [y]) := by
    show RowS _ _ _ _ (F ++ [y]).length _
    rw [cellsF_app, List.length_append]; exact hrow2
  have hkeep : ∀ k, k < w1.heap.size → v.ownBlock ≠ some k → w2.heap[k]? = w1.heap[k]? := fun k hk hn => (hgr.block k (by have := hb0.size; omega) (fun e => hn e.symm)).trans (hb0.block k hk)
  have hw2 : WheelW w2 b m s last (del T (nth PP j)) V R := ho.wh.keep fun k hk => hkeep k (ho.wh.lt hk) (fun e => o1 k e hk)
  have ht2 : Turn b m w V0 w2 V := by
    have ht1 := h.turn.trans ho.turn
    refine ⟨⟨hgr.os.trans (hb0.os.trans ht1.only.os), hgr.tape.trans (hb0.tape.trans ht1.only.tape), hgr.output.trans (hb0.output.trans ht1.only.output), Nat.le_trans ht1.only.size (Nat.le_trans hb0.size hgr.size), fun k hk hkl => ?_⟩, ht1.new⟩
    rw [hkeep k (by have := ht1.only.size; omega) (fun e => by have := h.new k e; omega)]
    exact ht1.only.block k hk hkl
  have hmu := mu_del_lt s hy
  have hlen2 : (del T y.id).length + 1 = T.length := by
    have h1 := hI.rise
    obtain ⟨i, hi⟩ := List.getElem?_of_mem hy
    rw [del_idx h1 hi, List.length_eraseIdx_of_lt (List.getElem?_eq_some_iff.1 hi).1]
    have := (List.getElem?_eq_some_iff.1 hi).1
    omega
  refine ⟨w2, ad, cap, y, by rw [← hya]; exact hI.rise.key hy, hya.symm, by rw [← hya]; exact hI.rise.tag hy, hrun, ?_, ?_, ht2, hgo, h.le, hrow3, ?_, ?_, ?_, o2, ?_, ?_, by have := h.len; omega, ?_⟩
  · rw [hya]; exact hw2
  · have := hI.off; rw [hya]; exact this
  · intro g hg
    rcases hown g hg with h1 | h1
    · exact h.new g h1
    · have := (h.turn.trans ho.turn).only.size; have := hb0.size; omega
  · intro g hg
    rcases hown g hg with h1 | h1
    · exact o1 g h1
    · intro e; have := ho.wh.lt e; have := hb0.size; omega
  · exact hprow1.keep fun g hg => hkeep g (hprow1.lt hg) (fun e => fired_ne_int hrow1 hprow1 e hg)
  · intro _
    have hpn := List.nodup_cons.1 hI.ponce
    refine ⟨fun z hz => ?_, fun a ha => ?_⟩
    · obtain ⟨hz1, hz2⟩ := mem_del.1 hz
      rcases l1 z hz1 with h1 | h1
      · rw [drop_cons hj] at h1
        rcases List.mem_cons.1 h1 with h2 | h2
        · exact absurd (h2.trans hya.symm) hz2
        · exact Or.inl h2
      · exact Or.inr h1
    · rw [key_del (fun e => by rw [e, hya] at ha; exact hpn.1 ha)]
      exact l2 a (by rw [drop_cons hj]; simp [ha])
  · rcases h.mu with h1 | ⟨_, _, h1⟩ <;> exact Or.inl (by omega)
  · rw [List.length_append, List.length_singleton]; omega
end Go.Proofs.Ythgcjocjkeieaaa
