/-
  Tftp: the program's reader: fail, number, text, file, mode, words, data.
-/
import Derived.Test.YtdcppiknomoigaaDoorTgT
import Derived.Test.YtdcppiknomoigaaDoorBClone
import Derived.Test.YtdcppiknomoigaaDoorBGet
namespace Go.Proofs.YtdcppiknomoigaaDoor
open Go.RowKit
set_option linter.all false

theorem but_of_grown {g : Nat} {w w' : World} (h : w.grownBy w' (some g)) : But g w w' := ⟨h.os, h.tape, h.output, h.size, fun k hk hl => h.block k hl (fun e => hk (by simpa using e))⟩
theorem but_below {g : Nat} {w w' : World} (h : Below w.heap.size w w') : But g w w' := ⟨h.os, h.tape, h.output, h.size, fun k hk hl => h.block k hl⟩
theorem below_but' {g B : Nat} {w W W' : World} (h : Below B w W) (hB : B ≤ g) (hW : B ≤ W.heap.size) (hb : But g W W') : Below B w W' := h.trans ⟨hb.os, hb.tape, hb.output, hb.size, fun k hk => hb.block k (by omega) (by omega)⟩
theorem part_off {g b o c : Nat} {zs : List Int} (h : b ≠ g) : Part.off g ⟨some ⟨b, o, none⟩, c, zs⟩ := Or.inr fun b' o' e => by
  simp only [Option.some.injEq, Addr.mk.injEq] at e
  rw [← e.1]; exact h
theorem cut_ok {w : World} {b o c : Nat} {zs : List Int} (h : Part.ok w ⟨some ⟨b, o, none⟩, c, zs⟩) (k l : Nat) (hk : k + l ≤ zs.length) : Part.ok w ⟨if c = k then some ⟨b, o, none⟩ else some ⟨b, o + k, none⟩, c - k, (zs.drop k).take l⟩ := by
  have hc : zs.length ≤ c := h.2.1
  refine ⟨fun z hz => h.1 z (List.mem_of_mem_drop (List.mem_of_mem_take hz)), by simp; omega, ?_⟩
  by_cases he : c = k
  · left
    have : zs.drop k = [] := List.drop_eq_nil_of_le (by omega)
    rw [this]; simp
  · rw [if_neg he]
    exact (Part.sub_ok h k l (c - k) hk (by omega)).2.2
/-- a reader: what is left, and the first fault; w: the world ahead of it, where the bytes lie. -/
def RdA (w : World) (g : Nat) (W : World) (a : Option Addr) (c : Nat) (zs : List Int) (er : Int) : Prop := W.heap[g]? = some (.cells #[.slice a zs.length c, .int .i64 er] 67 (0, 0)) ∧ Part.ok w ⟨a, c, zs⟩ ∧ w.heap.size ≤ g ∧ Below w.heap.size w W
def Rd (w : World) (g : Nat) (W : World) (zs : List Int) (er : Int) : Prop := ∃ b o c, RdA w g W (some ⟨b, o, none⟩) c zs er
theorem RdA.but {w : World} {g k : Nat} {W W' : World} {a : Option Addr} {c : Nat} {zs : List Int} {er : Int} (h : RdA w g W a c zs er) (hb : But k W W') (hk : w.heap.size ≤ k) (hg : g ≠ k) : RdA w g W' a c zs er :=
  ⟨(hb.block g hg (heap_lt h.1)).trans h.1, h.2.1, h.2.2.1, below_but' h.2.2.2 hk h.2.2.2.size hb⟩
theorem RdA.below {w : World} {g : Nat} {W W' : World} {a : Option Addr} {c : Nat} {zs : List Int} {er : Int} (h : RdA w g W a c zs er) (hb : Below W.heap.size W W') : RdA w g W' a c zs er :=
  ⟨(hb.block g (heap_lt h.1)).trans h.1, h.2.1, h.2.2.1, bstep h.2.2.2 hb⟩
theorem RdA.now {w : World} {g : Nat} {W : World} {a : Option Addr} {c : Nat} {zs : List Int} {er : Int} (h : RdA w g W a c zs er) : Part.ok W ⟨a, c, zs⟩ := Part.ok_below h.2.1 h.2.2.2
theorem RdA.set {w : World} {g : Nat} {W : World} {a : Option Addr} {c : Nat} {zs : List Int} {er : Int} (h : RdA w g W a c zs er) {a' : Option Addr} {c' : Nat} {zs' : List Int} (hp : Part.ok w ⟨a', c', zs'⟩) : RdA w g (W.setCell ⟨g, 0, none⟩ (.slice a' zs'.length c')) a' c' zs' er :=
  ⟨heap_setCell (j := 0) h.1, hp, h.2.2.1, below_but' h.2.2.2 h.2.2.1 h.2.2.2.size (But.setCell _ _ _ _)⟩
theorem Rd.below {w : World} {g : Nat} {W W' : World} {zs : List Int} {er : Int} (h : Rd w g W zs er) (hb : Below W.heap.size W W') : Rd w g W' zs er := by
  obtain ⟨b, o, c, h1⟩ := h
  exact ⟨b, o, c, h1.below hb⟩
theorem Rd.but {w : World} {g k : Nat} {W W' : World} {zs : List Int} {er : Int} (h : Rd w g W zs er) (hb : But k W W') (hk : w.heap.size ≤ k) (hg : g ≠ k) : Rd w g W' zs er := by
  obtain ⟨b, o, c, h1⟩ := h
  exact ⟨b, o, c, h1.but hb hk hg⟩
theorem Rd.lt {w : World} {g : Nat} {W : World} {zs : List Int} {er : Int} (h : Rd w g W zs er) : g < W.heap.size := by
  obtain ⟨b, o, c, h1⟩ := h
  exact heap_lt h1.1
theorem Rd.bel {w : World} {g : Nat} {W : World} {zs : List Int} {er : Int} (h : Rd w g W zs er) : Below w.heap.size w W := by
  obtain ⟨b, o, c, h1⟩ := h
  exact h1.2.2.2
theorem Rd.le {w : World} {g : Nat} {W : World} {zs : List Int} {er : Int} (h : Rd w g W zs er) : w.heap.size ≤ g := by
  obtain ⟨b, o, c, h1⟩ := h
  exact h1.2.2.1
theorem Rd.bd {w : World} {g : Nat} {W : World} {zs : List Int} {er : Int} (h : Rd w g W zs er) : ∀ z, z ∈ zs → 0 ≤ z ∧ z ≤ 255 := by
  obtain ⟨b, o, c, h1⟩ := h
  exact h1.2.1.1
theorem Rd.cell {w : World} {g : Nat} {W : World} {zs : List Int} {er : Int} (h : Rd w g W zs er) : W.cell? ⟨g, 1, none⟩ = some (.int .i64 er) := by
  obtain ⟨b, o, c, h1⟩ := h
  exact cell_of_heap h1.1 1
/-- the first fault stays. -/
def fstE (er x : Int) : Int := if er = 0 then x else er
set_option maxHeartbeats 1000000 in
theorem failA_any (w : World) (g : Nat) (W : World) (a : Option Addr) (c : Nat) (zs : List Int) (er x : Int) (h : RdA w g W a c zs er) :
    Calls Tryd.prog 45 #[.pointer (some ⟨g, 0, none⟩), .int .i64 x] W fun e w' => e = .returned (.tuple #[]) ∧ Hid (RdA w g w' a c zs (fstE er x)) ∧ Hid (But g W w') := by
  obtain ⟨h1, h2, h3, h4⟩ := h
  have hc1 : W.cell? ⟨g, 1, none⟩ = some (.int .i64 er) := cell_of_heap h1 1
  have hf : W.frozen? ⟨g, 1, none⟩ = false := frozen_of_heap' h1 (Or.inr rfl) 1 (by simp)
  unfold fstE
  by_cases he : er = 0
  · subst he
    rw [if_pos rfl]
    have hs := heap_setCell (j := 1) (v := .int .i64 x) h1
    have HB : Hid (But g W (W.setCell ⟨g, 1, none⟩ (.int .i64 x))) := But.setCell _ _ _ _
    have HR : Hid (RdA w g (W.setCell ⟨g, 1, none⟩ (.int .i64 x)) a c zs x) := ⟨hs, h2, h3, below_but' h4 h3 h4.size HB.out⟩
    clear h1 h2 h3 h4 hs
    go_enter Tryd.func45, Tryd.ntmps45
    go_wp2
    exact bodyPost_end (v := .tuple #[]) (by simp [results, Tryd.results45, go_sem]) rfl ⟨rfl, HR, HB⟩
  · rw [if_neg he]
    have hb : (er == 0) = false := by simpa using he
    have HR : Hid (RdA w g W a c zs er) := ⟨h1, h2, h3, h4⟩
    clear h1 h2 h3 h4 he
    go_enter Tryd.func45, Tryd.ntmps45
    go_wp2
    exact bodyPost_end (v := .tuple #[]) (by simp [results, Tryd.results45, go_sem]) rfl ⟨rfl, HR, But.refl _ _⟩
theorem fail_any (w : World) (g : Nat) (W : World) (zs : List Int) (er x : Int) (h : Rd w g W zs er) :
    Calls Tryd.prog 45 #[.pointer (some ⟨g, 0, none⟩), .int .i64 x] W fun e w' => e = .returned (.tuple #[]) ∧ Hid (Rd w g w' zs (fstE er x) ∧ But g W w') := by
  obtain ⟨b, o, c, h1⟩ := h
  refine (failA_any w g W _ c zs er x h1).mono ?_
  rintro e w' ⟨rfl, h2, h3⟩
  exact ⟨rfl, ⟨b, o, c, h2⟩, h3⟩
theorem get2_short {zs : List Int} (h : zs.length < 2) : getAns zs 0 2 = (0, 5) := by
  unfold getAns; rw [if_neg (by omega), if_pos (by omega)]
theorem get2_ok {zs : List Int} (h : ¬ zs.length < 2) : getAns zs 0 2 = (be2 zs, 0) := by
  unfold getAns; rw [if_neg (by omega), if_neg (by omega)]
  unfold be2
  simp [getTo]
set_option maxHeartbeats 2000000 in
theorem number_short (w : World) (g : Nat) (W : World) (a : Option Addr) (c : Nat) (zs : List Int) (er : Int) (h : RdA w g W a c zs er) (hl : zs.length < 2) :
    Calls Tryd.prog 39 #[.pointer (some ⟨g, 0, none⟩)] W fun e w' => e = .returned (.int .i64 0) ∧ Hid (RdA w g w' a c zs (fstE er 5)) ∧ Hid (But g W w') := by
  have C := hid (get_part ⟨a, c, zs⟩ 0 2 W h.now (by simp only; omega))
  simp only [get2_short hl, Part.val] at C
  have CF := hid (failA_any w g W a c zs er 5 h)
  have hc0 : W.cell? ⟨g, 0, none⟩ = some (.slice a zs.length c) := cell_of_heap h.1 0
  clear h
  generalize zs.length = n at *
  go_enter Tryd.func39, Tryd.ntmps39
  go_wp2_with (first
    | (go_at_call 66; refine C.out.mono ?_; rintro e w1 ⟨rfl, hw⟩; subst w1)
    | (go_at_call 45; refine CF.out.mono ?_; rintro e w2 ⟨rfl, HR, HB⟩)
    | fail)
  go_ret
  exact ⟨rfl, HR, HB⟩
set_option maxHeartbeats 2000000 in
theorem number_ok (w : World) (g : Nat) (W : World) (a : Option Addr) (c : Nat) (zs : List Int) (er : Int) (h : RdA w g W a c zs er) (hl : ¬ zs.length < 2) (hbig : zs.length ≤ 140737488353280) :
    Calls Tryd.prog 39 #[.pointer (some ⟨g, 0, none⟩)] W fun e w' => e = .returned (.int .i64 (be2 zs)) ∧ Hid (Rd w g w' (zs.drop 2) er ∧ But g W w') := by
  have C := hid (get_part ⟨a, c, zs⟩ 0 2 W h.now (by simp only; omega))
  simp only [get2_ok hl, Part.val] at C
  obtain ⟨b, o, rfl⟩ : ∃ b o, a = some ⟨b, o, none⟩ := by
    rcases h.2.1.2.2 with e | ⟨b, o, e, _⟩
    · simp only at e; rw [e] at hl; simp at hl
    · exact ⟨b, o, e⟩
  have hc0 : W.cell? ⟨g, 0, none⟩ = some (.slice (some ⟨b, o, none⟩) zs.length c) := cell_of_heap h.1 0
  have hf : W.frozen? ⟨g, 0, none⟩ = false := frozen_of_heap' h.1 (Or.inr rfl) 0 (by simp)
  have hbe : 0 ≤ be2 zs ∧ be2 zs ≤ 65535 := be2_bd h.2.1.1
  have hcap : zs.length ≤ c := h.2.1.2.1
  have hw : IntKind.i64.wrap (be2 zs) = be2 zs := by simp only [IntKind.wrap_i64]; omega
  have e1 : (zs.drop 2).length = zs.length - 2 := by simp
  have h1 := cut_ok h.2.1 2 (zs.length - 2) (by omega)
  rw [List.take_of_length_le (by simp)] at h1
  have h2 := h.set h1
  rw [e1] at h2
  by_cases hc : c = 2
  · rw [if_pos hc] at h2
    subst hc
    have HR : Hid (Rd w g (W.setCell ⟨g, 0, none⟩ (.slice (some ⟨b, o, none⟩) (zs.length - 2) 0)) (zs.drop 2) er) := ⟨b, o, 0, h2⟩
    have HB : Hid (But g W (W.setCell ⟨g, 0, none⟩ (.slice (some ⟨b, o, none⟩) (zs.length - 2) 0))) := But.setCell _ _ _ _
    clear h h1 h2 e1
    generalize zs.length = n at *
    have q1 : (2 : Int) ≤ (n : Int) := by omega
    have q2 : (n : Int) ≤ ((2 : Nat) : Int) := by omega
    obtain rfl : n = 2 := by omega
    go_enter Tryd.func39, Tryd.ntmps39
    go_wp2_with (first
      | (go_at_call 66; refine C.out.mono ?_; rintro e w1 ⟨rfl, hw1⟩; subst w1)
      | fail)
    go_ret
    exact ⟨rfl, HR, HB⟩
  · rw [if_neg hc] at h2
    have HR : Hid (Rd w g (W.setCell ⟨g, 0, none⟩ (.slice (some ⟨b, o + 2, none⟩) (zs.length - 2) (c - 2))) (zs.drop 2) er) := ⟨b, o + 2, c - 2, h2⟩
    have HB : Hid (But g W (W.setCell ⟨g, 0, none⟩ (.slice (some ⟨b, o + 2, none⟩) (zs.length - 2) (c - 2)))) := But.setCell _ _ _ _
    clear h h1 h2 e1
    generalize zs.length = n at *
    have q1 : (2 : Int) ≤ (n : Int) := by omega
    have q2 : (n : Int) ≤ (c : Int) := by omega
    go_enter Tryd.func39, Tryd.ntmps39
    go_wp2_with (first
      | (go_at_call 66; refine C.out.mono ?_; rintro e w1 ⟨rfl, hw1⟩; subst w1)
      | fail)
    go_ret
    exact ⟨rfl, HR, HB⟩
/-! ### text -/
def txtS (zs : List Int) : ByteArray := match cutG zs with | none => noS | some (t, _) => strOfNums t
def txtR (zs : List Int) : List Int := match cutG zs with | none => zs | some (_, r) => r
def txtF (zs : List Int) (er : Int) : Int := match cutG zs with | none => fstE er 5 | some _ => er
theorem txtR_le (zs : List Int) : (txtR zs).length ≤ zs.length := by
  unfold txtR
  cases h : cutG zs with
  | none => exact Nat.le_refl _
  | some x => exact Nat.le_of_lt (cutG_len (a := x.1) (b := x.2) h).1
theorem txtS_sz (zs : List Int) : (txtS zs).size ≤ zs.length := by
  unfold txtS
  cases h : cutG zs with
  | none => simp [noS, ByteArray.size]
  | some x =>
    have := (cutG_len (a := x.1) (b := x.2) h).2
    simp only
    rw [strOfNums_size]; omega
set_option maxRecDepth 20000 in
set_option maxHeartbeats 4000000 in
theorem text_any (w : World) (g : Nat) (W : World) (zs : List Int) (er : Int) (h : Rd w g W zs er) (hl : zs.length ≤ 140737488353280) :
    Calls Tryd.prog 67 #[.pointer (some ⟨g, 0, none⟩)] W fun e w' => e = .returned (.string (txtS zs)) ∧ Hid (Rd w g w' (txtR zs) (txtF zs er) ∧ But g W w') := by
  obtain ⟨b, o, c, hA⟩ := h
  have hlt := heap_lt hA.1
  obtain ⟨W1, hW1⟩ : ∃ W1, W1 = W.alloc (.cells #[.int .u8 0] 5) := ⟨_, rfl⟩
  have hb1 : Below W.heap.size W W1 := by rw [hW1]; exact bpush (Below.refl _ _) _
  have hA1 := hA.below hb1
  have h0 : W1.cell? ⟨W.heap.size, 0, none⟩ = some (.int .u8 0) := by rw [hW1]; exact cell_of_heap (heap_new _ _) 0
  have C := hid (pcut_any b o c W.heap.size zs W1 hA1.now hl h0)
  have hc0 : W.cell? ⟨g, 0, none⟩ = some (.slice (some ⟨b, o, none⟩) zs.length c) := cell_of_heap hA.1 0
  have HBT : Hid (∀ q, But g W (W1.drewN q)) := fun q => But.of_below (bstep hb1 (bdrewT W1 q))
  unfold txtS txtR txtF
  unfold cutV at C
  cases hcg : cutG zs with
  | none =>
    rw [hcg] at C
    simp only at C ⊢
    have CF : Hid (∀ q, Calls Tryd.prog 45 #[.pointer (some ⟨g, 0, none⟩), .int .i64 5] (W1.drewN q) fun e w' => e = .returned (.tuple #[]) ∧ Hid (RdA w g w' (some ⟨b, o, none⟩) c zs (fstE er 5)) ∧ Hid (But g (W1.drewN q) w')) := fun q => failA_any w g _ _ c zs er 5 (hA1.below (bdrewT W1 q))
    clear hA hA1 hcg hb1 h0
    subst hW1
    generalize zs.length = n at *
    go_enter Tryd.func67, Tryd.ntmps67
    go_wp2_with (first
      | (go_at_call 77; refine C.out.mono ?_; rintro e w1 ⟨rfl, q, hw⟩; subst w1)
      | (go_at_call 45; refine (CF.out _).mono ?_; rintro e w2 ⟨rfl, HR, HB⟩)
      | fail)
    go_ret
    exact ⟨rfl, ⟨b, o, c, HR.out⟩, (HBT.out q).trans HB.out⟩
  | some x =>
    obtain ⟨t, r⟩ := x
    rw [hcg] at C
    simp only at C ⊢
    obtain ⟨e1, e2⟩ := cutG_inv hcg
    have hlen := congrArg List.length e1
    simp only [List.length_append, List.length_cons] at hlen
    have hcap : zs.length ≤ c := hA.2.1.2.1
    have hr : r = (zs.drop (t.length + 1)).take r.length := by rw [e1]; simp
    have ht : t = (zs.drop 0).take t.length := by rw [e1]; simp
    have hpr : Part.ok w ⟨if c = t.length + 1 then some ⟨b, o, none⟩ else some ⟨b, o + (t.length + 1), none⟩, c - (t.length + 1), r⟩ := by
      have := cut_ok hA.2.1 (t.length + 1) r.length (by omega)
      rwa [← hr] at this
    have hpt : Part.ok w ⟨some ⟨b, o, none⟩, c, t⟩ := by
      have := Part.sub_ok hA.2.1 0 t.length c (by omega) (by omega)
      rw [← ht] at this
      simpa using this
    have hf : W1.frozen? ⟨g, 0, none⟩ = false := frozen_of_heap' hA1.1 (Or.inr rfl) 0 (by simp)
    have hc1 : W1.cell? ⟨g, 0, none⟩ = some (.slice (some ⟨b, o, none⟩) zs.length c) := cell_of_heap hA1.1 0
    have hset := fun q => (hA1.below (bdrewT W1 q)).set hpr
    by_cases hc : c = t.length + 1
    · rw [if_pos hc] at C hset
      have HR : Hid (∀ q, Rd w g ((W1.drewN q).setCell ⟨g, 0, none⟩ (.slice (some ⟨b, o, none⟩) r.length (c - (t.length + 1)))) r er) := fun q => ⟨b, o, _, hset q⟩
      have HB : Hid (∀ q, But g W ((W1.drewN q).setCell ⟨g, 0, none⟩ (.slice (some ⟨b, o, none⟩) r.length (c - (t.length + 1))))) := fun q => (HBT.out q).trans (But.setCell _ _ _ _)
      have hcv : ∀ q, (convert 24 9 (.slice (some ⟨b, o, none⟩) t.length c)).run Tryd.prog ((W1.drewN q).setCell ⟨g, 0, none⟩ (.slice (some ⟨b, o, none⟩) r.length (c - (t.length + 1)))) = .ok (.string (strOfNums t)) ((W1.drewN q).setCell ⟨g, 0, none⟩ (.slice (some ⟨b, o, none⟩) r.length (c - (t.length + 1)))) := fun q =>
        conv_part ⟨some ⟨b, o, none⟩, c, t⟩ _ (Part.ok_below hpt (HR.out q).bel)
      clear hA hA1 hcg hb1 h0 e1 e2 hr ht hpr hpt hlen HBT hset
      generalize c - (t.length + 1) = c2 at *
      clear hc hcap
      subst hW1
      generalize zs.length = n at *
      generalize t.length = tl at *
      generalize r.length = rl at *
      go_enter Tryd.func67, Tryd.ntmps67
      go_wp2_with (first
        | (go_at_call 77; refine C.out.mono ?_; rintro e w1 ⟨rfl, q, hw⟩; subst w1; have hcq := hcv q; clear hcv)
        | fail)
      go_ret
      exact ⟨rfl, HR.out q, HB.out q⟩
    · rw [if_neg hc] at C hset
      have HR : Hid (∀ q, Rd w g ((W1.drewN q).setCell ⟨g, 0, none⟩ (.slice (some ⟨b, o + (t.length + 1), none⟩) r.length (c - (t.length + 1)))) r er) := fun q => ⟨b, o + (t.length + 1), _, hset q⟩
      have HB : Hid (∀ q, But g W ((W1.drewN q).setCell ⟨g, 0, none⟩ (.slice (some ⟨b, o + (t.length + 1), none⟩) r.length (c - (t.length + 1))))) := fun q => (HBT.out q).trans (But.setCell _ _ _ _)
      have hcv : ∀ q, (convert 24 9 (.slice (some ⟨b, o, none⟩) t.length c)).run Tryd.prog ((W1.drewN q).setCell ⟨g, 0, none⟩ (.slice (some ⟨b, o + (t.length + 1), none⟩) r.length (c - (t.length + 1)))) = .ok (.string (strOfNums t)) ((W1.drewN q).setCell ⟨g, 0, none⟩ (.slice (some ⟨b, o + (t.length + 1), none⟩) r.length (c - (t.length + 1)))) := fun q =>
        conv_part ⟨some ⟨b, o, none⟩, c, t⟩ _ (Part.ok_below hpt (HR.out q).bel)
      clear hA hA1 hcg hb1 h0 e1 e2 hr ht hpr hpt hlen HBT hset
      generalize c - (t.length + 1) = c2 at *
      generalize o + (t.length + 1) = o2 at *
      clear hc hcap
      subst hW1
      generalize zs.length = n at *
      generalize t.length = tl at *
      generalize r.length = rl at *
      go_enter Tryd.func67, Tryd.ntmps67
      go_wp2_with (first
        | (go_at_call 77; refine C.out.mono ?_; rintro e w1 ⟨rfl, q, hw⟩; subst w1; have hcq := hcv q; clear hcv)
        | fail)
      go_ret
      exact ⟨rfl, HR.out q, HB.out q⟩
end Go.Proofs.YtdcppiknomoigaaDoor
