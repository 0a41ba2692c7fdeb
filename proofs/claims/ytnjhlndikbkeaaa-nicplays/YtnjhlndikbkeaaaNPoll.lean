/-
  The driver's Poll.
-/
import Derived.Test.YtnjhlndikbkeaaaNPollM
namespace Go.Proofs.Ytnjhlndikbkeaaa
open Go.RowKit
set_option linter.all false

theorem plOk' {w : World} {g : Nat} {ps : List Pl} {j : Nat} {p : Pl} (h : RingAt w g ps) (hp : ps[j]? = some p) : p.ok := by
  obtain ⟨C, _, _, h3⟩ := h
  exact (h3 _ _ hp).2.2.2
theorem cut4 {α β γ δ : Type} {G : Prop} {H : α → β → γ → δ → Prop} (P : α → β → γ → δ → Prop) (h1 : (∀ a b c d, H a b c d → P a b c d) → G) (h2 : ∀ a b c d, H a b c d → P a b c d) : G := h1 h2
/-- a driver and its card. -/
structure NicW (w : World) (q : Nat) (own : Mac) (c g h n m : Nat) (S : CS) (N : NS) : Prop where
  box : w.heap[q]? = some (.cells (N.box own c n m) 88 (0, 0))
  card : CardW w c g h S
  qc : ¬ CardK c g h q
  ln : S.R.length = n
  lm : S.T.length = m
  rt : N.rt < n
  tt : N.tt < m
def NicK (q c g h k : Nat) : Prop := k = q ∨ CardK c g h k
theorem NicW.keep {w w' : World} {q : Nat} {own : Mac} {c g h n m : Nat} {S : CS} {N : NS} (x : NicW w q own c g h n m S N) (hk : ∀ k, NicK q c g h k → w'.heap[k]? = w.heap[k]?) : NicW w' q own c g h n m S N :=
  ⟨(hk q (Or.inl rfl)).trans x.box, x.card.keep fun k hk' => hk k (Or.inr hk'), x.qc, x.ln, x.lm, x.rt, x.tt⟩
theorem NicW.lt {w : World} {q : Nat} {own : Mac} {c g h n m : Nat} {S : CS} {N : NS} (x : NicW w q own c g h n m S N) : ∀ k, NicK q c g h k → k < w.heap.size := fun k hk => by
  rcases hk with rfl | hk
  · exact heap_lt x.box
  · exact x.card.lt k hk
theorem NicW.below {w w' : World} {q : Nat} {own : Mac} {c g h n m : Nat} {S : CS} {N : NS} (x : NicW w q own c g h n m S N) (hb : Below w.heap.size w w') : NicW w' q own c g h n m S N := x.keep fun k hk => hb.block k (x.lt k hk)
theorem NicW.rtl {w : World} {q : Nat} {own : Mac} {c g h n m : Nat} {S : CS} {N : NS} (x : NicW w q own c g h n m S N) : N.rt < S.R.length := by rw [x.ln]; exact x.rt
/-- a descriptor that was looked at: its box in memory. -/
structure SawI (wr W : World) (gd : Nat) (b : Bool) (zs : List Int) (g' l : Nat) : Prop where
  bel : Below wr.heap.size wr W
  box : W.heap[gd]? = some (.cells #[.bool b, .slice (some ⟨g', 0, none⟩) l l] 80 (0, 0))
  dat : W.heap[g']? = some (.cells (u8s zs).toArray 5 (0, 0))
  len : l = zs.length
  new : wr.heap.size ≤ gd
/-- Rx at the tail. -/
theorem rx_tail {w : World} {q : Nat} {own : Mac} {c g h n m : Nat} {S : CS} {N : NS} (x : NicW w q own c g h n m S N) (b : Bool) (zs : List Int) (hp : S.R[N.rt]? = some ⟨b, zs⟩) :
    Calls Try.prog 33 #[.pointer (some ⟨c, 0, none⟩), .int .i64 N.rt] w fun e w' => ∃ g' l, e = .returned (.tuple #[.agg #[.bool b, .slice (some ⟨g', 0, none⟩) l l], .int .i64 0]) ∧ Below w.heap.size w w' ∧ w'.heap[g']? = some (.cells (u8s zs).toArray 5 (0, 0)) ∧ l = zs.length ∧ w.heap.size ≤ g' := by
  refine (rx_any c g h S _ w x.card).mono ?_
  rintro e w' ⟨b, a, l, cc, nn, rfl, hs⟩
  rcases hs with ⟨j, p', hj, hp', rfl, rfl, g', hv, h1, h2, h3⟩ | ⟨h1, _⟩
  · have : j = N.rt := by omega
    subst this
    rw [hp] at hp'
    simp only [Option.some.injEq] at hp'
    subst hp'
    rw [hv]
    exact ⟨_, _, rfl, h3, h2, rfl, h1⟩
  · have := x.rtl
    simp [hasB] at h1
    omega
theorem saw_a {wr w3 : World} {b : Bool} {zs : List Int} {g' l : Nat} (hb : Below wr.heap.size wr w3) (hd : w3.heap[g']? = some (.cells (u8s zs).toArray 5 (0, 0))) (hl : l = zs.length) :
    SawI wr (w3.alloc (.cells #[.bool b, .slice (some ⟨g', 0, none⟩) l l] 80)) w3.heap.size b zs g' l :=
  ⟨bpush hb _, heap_new _ _, kept hd (balloc w3 _), hl, hb.size⟩
theorem saw_b {wr w3 : World} {b : Bool} {zs : List Int} {g' l : Nat} (hb : Below wr.heap.size wr w3) (hd : w3.heap[g']? = some (.cells (u8s zs).toArray 5 (0, 0))) (hl : l = zs.length) (hg : w3.heap[wr.heap.size]? = some (.cells #[.bool false, .slice none 0 0] 80 (0, 0))) (hn : wr.heap.size + 1 ≤ g') :
    SawI wr ((w3.setCell ⟨wr.heap.size, 0, none⟩ (.bool b)).setCell ⟨wr.heap.size, 1, none⟩ (.slice (some ⟨g', 0, none⟩) l l)) wr.heap.size b zs g' l :=
  ⟨bset (bset hb (Nat.le_refl _) _ _) (Nat.le_refl _) _ _, heap_setCell (heap_setCell hg), by rw [Below.heap_setCell _ _ _ _ (by simp; omega), Below.heap_setCell _ _ _ _ (by simp; omega)]; exact hd, hl, Nat.le_refl _⟩
/-- what take hands out. -/
def seenR (own : Mac) (zs : List Int) : Opened := if goodB own zs then openR zs else ⟨zeroMac, zeroMac, 0, [], 0⟩
structure TookI (w w' : World) (q : Nat) (own : Mac) (c n m : Nat) (N : NS) (fa : Option Addr) (fl fc : Nat) (ys : List Int) : Prop where
  box : w'.heap[q]? = some (.cells (N.box own c n m) 88 (0, 0))
  but : But q w w'
  row : Row w' 5 (.slice fa fl fc) (u8s ys)
  new : ∀ b, (Value.slice fa fl fc).ownBlock = some b → w.heap.size ≤ b
theorem take_u (q : Nat) (own : Mac) (c n m : Nat) (N : NS) (zs : List Int) (g' l : Nat) (w : World) (hq : w.heap[q]? = some (.cells (N.box own c n m) 88 (0, 0))) (ho : own.ok) (hd : w.heap[g']? = some (.cells (u8s zs).toArray 5 (0, 0))) (hl : l = zs.length) (hz : zs.length ≤ 1514 ∧ ∀ z, z ∈ zs → 0 ≤ z ∧ z ≤ 255) (h1 : N.tk < 4611686018427387904) (h2 : N.th < 4611686018427387904) :
    Calls Try.prog 48 #[.pointer (some ⟨q, 0, none⟩), .slice (some ⟨g', 0, none⟩) l l] w fun e w' => ∃ fa fl fc, e = .returned (.tuple #[frameV (seenR own zs).d (seenR own zs).s (seenR own zs).k (.slice fa fl fc), .bool (goodB own zs)]) ∧ TookI w w' q own c n m (N.saw (goodB own zs)) fa fl fc (seenR own zs).ys := by
  subst hl
  refine (show Calls Try.prog 48 #[.pointer (some ⟨q, 0, none⟩), .slice (some ⟨g', 0, none⟩) zs.length zs.length] w _ from ntake_any q own c n m N ⟨some ⟨g', 0, none⟩, zs.length, zs⟩ w hq ho (Part.of_row hd (Nat.le_refl _) hz.2) hz.1 h1 h2).mono ?_
  rintro e w' (⟨hg, a, l, cc, rfl, h3, h4, h5, h6⟩ | ⟨hg, rfl, h3, h4⟩)
  · simp only at hg h5
    rw [hg]
    unfold seenR
    rw [if_pos hg]
    exact ⟨a, l, cc, rfl, h3, h4, h5, h6⟩
  · simp only at hg
    rw [hg]
    unfold seenR
    rw [hg]
    exact ⟨none, 0, 0, rfl, h3, h4, Row.nil _ _, by simp [Value.ownBlock]⟩
/-- the frame that was taken out lies in a box of its own. -/
structure GotI (W W5 : World) (q : Nat) (own : Mac) (c n m : Nat) (N : NS) (gf : Nat) (F : Array Value) (d : Value) (ys : List Int) : Prop where
  box : W5.heap[q]? = some (.cells (N.box own c n m) 88 (0, 0))
  but : But q W W5
  frm : W5.heap[gf]? = some (.cells F 51 (0, 0))
  row : Row W5 5 d (u8s ys)
  new : ∀ b, d.ownBlock = some b → W.heap.size ≤ b
  gfn : W.heap.size ≤ gf
theorem got_a {W w5 : World} {q : Nat} {own : Mac} {c n m : Nat} {N : NS} {F : Array Value} {fa : Option Addr} {fl fc : Nat} {ys : List Int} (t : TookI W w5 q own c n m N fa fl fc ys) : GotI W (w5.alloc (.cells F 51)) q own c n m N w5.heap.size F (.slice fa fl fc) ys :=
  ⟨kept t.box (balloc w5 _), t.but.trans (But.alloc q w5 _), heap_new _ _, t.row.below (balloc w5 _), t.new, t.but.size⟩
theorem NicW.got {wr W W5 : World} {q : Nat} {own : Mac} {c g h n m : Nat} {S : CS} {N : NS} {gf : Nat} {F : Array Value} {d : Value} {ys : List Int} {gb : Bool} (x : NicW wr q own c g h n m S N) (hb : Below wr.heap.size wr W) (t : GotI W W5 q own c n m (N.saw gb) gf F d ys) : NicW W5 q own c g h n m S (N.saw gb) :=
  ⟨t.box, (x.below hb).card.keep fun k hk => t.but.block k (fun e => x.qc (by rw [← e]; exact hk)) ((x.below hb).card.lt k hk), x.qc, x.ln, x.lm, by cases gb <;> exact x.rt, by cases gb <;> exact x.tt⟩
theorem pollF_step (own : Mac) (k : Nat) (S : CS) (N : NS) (zs : List Int) (hp : S.R[N.rt]? = some ⟨false, zs⟩) : pollF own (k + 1) S N = ((if goodB own zs then [zs] else []) ++ (pollF own k (S.given N.rt) ((N.saw (goodB own zs)).on S.R.length)).1, (pollF own k (S.given N.rt) ((N.saw (goodB own zs)).on S.R.length)).2) := by
  simp [pollF, hp]
/-- Give at the tail, and what is between it and the turn. -/
structure GaveI (w w' : World) (q : Nat) (own : Mac) (c g h n m : Nat) (S : CS) (N : NS) : Prop where
  box : w'.heap[q]? = some (.cells (N.box own c n m) 88 (0, 0))
  card : CardW w' c g h (S.given N.rt)
  was : NicW w q own c g h n m S N
  only : Only (CardK c g h) w w'
theorem GaveI.cells {w w' : World} {q : Nat} {own : Mac} {c g h n m : Nat} {S : CS} {N : NS} (t : GaveI w w' q own c g h n m S N) : w'.cell? ⟨q, 4, none⟩ = some (.pointer (some ⟨c, 0, none⟩)) ∧ w'.cell? ⟨q, 11, none⟩ = some (.int .i64 N.rt) := ⟨(nicC t.box).c4, (nicC t.box).c11⟩
theorem give_tail {w : World} {q : Nat} {own : Mac} {c g h n m : Nat} {S : CS} {N : NS} (x : NicW w q own c g h n m S N) {r : Nat} (hr : r = N.rt) (zs : List Int) (hp : S.R[r]? = some ⟨false, zs⟩) :
    Calls Try.prog 49 #[.pointer (some ⟨c, 0, none⟩), .int .i64 r] w.drew fun e w' => e = .returned (.int .i64 0) ∧ GaveI w w' q own c g h n m S N := by
  subst hr
  refine (give_yes c g h S N.rt _ w.drew (x.card.keep fun _ _ => rfl) hp rfl).mono ?_
  rintro e w' ⟨rfl, h3, h4⟩
  exact ⟨rfl, (h4.block q x.qc (heap_lt (w := w.drew) x.box)).trans x.box, h3, x, ⟨h4.os, h4.tape, h4.output, h4.size, h4.block⟩⟩
theorem box_on (N : NS) (own : Mac) (c n m : Nat) : (N.box own c n m).setIfInBounds 11 (.int .i64 ((N.rt + 1) % n : Nat)) = (N.on n).box own c n m := by simp [NS.box, NS.on]
theorem GaveI.turn {w w' : World} {q : Nat} {own : Mac} {c g h n m : Nat} {S : CS} {N : NS} (t : GaveI w w' q own c g h n m S N) :
    Calls Try.prog 50 #[.pointer (some ⟨q, 11, none⟩)] w' fun e w'' => e = .returned (.tuple #[]) ∧ NicW w'' q own c g h n m (S.given N.rt) (N.on n) ∧ Only (NicK q c g h) w w'' := by
  have hn := t.was.ln
  have hr2 := t.was.card.r2
  refine (nturn_any q 11 N.rt n _ _ w' t.box rfl rfl t.was.rt (by omega)).mono ?_
  rintro e w'' ⟨rfl, h1, h2⟩
  rw [box_on] at h1
  refine ⟨rfl, ⟨h1, t.card.keep fun k hk => h2.block k (fun e => t.was.qc (by rw [← e]; exact hk)) (t.card.lt k hk), t.was.qc, by simpa [CS.given] using hn, t.was.lm, Nat.mod_lt _ (by have := t.was.rt; omega), t.was.tt⟩, (t.only.mono fun k hk => Or.inr hk).trans (Only.of_but h2 (Or.inl rfl))⟩
/-- what Poll leaves. -/
def PollE (q : Nat) (own : Mac) (c g h n m : Nat) (S : CS) (N : NS) (k : Nat) (w : World) (e : Ending) (w' : World) : Prop :=
  ∃ (v : Value) (fs : List (List Int × Value)), e = .returned v ∧ fs.map Prod.fst = (pollF own k S N).1 ∧ NicW w' q own c g h n m (pollF own k S N).2.1 (pollF own k S N).2.2 ∧ Frs w.heap.size w' v fs ∧ Only (NicK q c g h) w w'
/-- a Poll under way. -/
structure PollI (w wr : World) (q : Nat) (own : Mac) (c g h n m : Nat) (S : CS) (N : NS) (k Z : Nat) (v : Value) (i : Nat) : Prop where
  ex : ∃ (S' : CS) (N' : NS) (fs : List (List Int × Value)), NicW wr q own c g h n m S' N' ∧ Frs w.heap.size wr v fs ∧ Only (NicK q c g h) w wr ∧ N'.tk + N'.th + free S'.R ≤ Z ∧ fs.length + free S'.R ≤ 64 ∧ pollF own k S N = (fs.map Prod.fst ++ (pollF own (k - i) S' N').1, (pollF own (k - i) S' N').2)
set_option maxRecDepth 20000 in
set_option maxHeartbeats 4000000 in
theorem poll_any (q : Nat) (own : Mac) (c g h n m : Nat) (S : CS) (N : NS) (b : Int) (Z : Nat) (w : World) (x : NicW w q own c g h n m S N) (ho : own.ok) (hb : b ≤ 9223372036854775807) (hz : N.tk + N.th + free S.R ≤ Z) (hZ : Z < 4611686018427387904) :
    Calls Try.prog 18 #[.pointer (some ⟨q, 0, none⟩), .int .i64 b] w (PollE q own c g h n m S N b.toNat w) := by
  have HX := hid x
  have HO := hid ho
  have HI0 : Hid (PollI w w q own c g h n m S N b.toNat Z (.slice none 0 0) 0) := ⟨S, N, [], x, Frs.nil _ _, Only.refl _ _, hz, by have := free_le S.R; have := x.card.r2; simp; omega, by simp⟩
  clear x ho hz
  go_enter Try.func18, Try.ntmps18
  go_wp2_with fail
  go_loopw [5, 11] (fun tv iv wr => ∃ (i : Nat) (a : Option Addr) (l cc : Nat), tv = .slice a l cc ∧ iv = .int .i64 i ∧ (i : Int) ≤ max b 0 ∧ Hid (PollI w wr q own c g h n m S N b.toNat Z (.slice a l cc) i)) (fun _ iv _ => b.toNat - (intOf iv).toNat)
  case atStart => exact ⟨0, none, 0, 0, rfl, rfl, by omega, HI0⟩
  case round =>
    obtain ⟨i, a, l, cc, rfl, rfl, hi, HI⟩ := hrel
    clear HI0
    by_cases hlt : (i : Int) < b
    · obtain ⟨⟨S1, N1, fs, hx1, hf1, ho1, hz1, hy1, hp1⟩⟩ := HI.out
      obtain ⟨⟨pb, zs⟩, hp⟩ : ∃ p, S1.R[N1.rt]? = some p := ⟨_, List.getElem?_eq_getElem hx1.rtl⟩
      have HX1 := hid hx1
      have HF1 := hid hf1
      have HO1 := hid ho1
      have HP1 := hid hp1
      have HP := hid hp
      have HPLO := hid (plOk' hx1.card.rx hp)
      clear hx1 hf1 ho1 hp1 hp
      have HXA : Hid (∀ W, Below wr.heap.size wr W → NicW W q own c g h n m S1 N1) := fun W hb => HX1.out.below hb
      have HSC : Hid (∀ W, Below wr.heap.size wr W → W.cell? ⟨q, 4, none⟩ = some (.pointer (some ⟨c, 0, none⟩)) ∧ W.cell? ⟨q, 11, none⟩ = some (.int .i64 N1.rt)) := fun W hb => ⟨(nicC (HXA.out W hb).box).c4, (nicC (HXA.out W hb).box).c11⟩
      have hql : q < wr.heap.size := heap_lt HX1.out.box
      go_wp2_with fail
      apply cut4 (H := fun W gd g3 l3 => Hid (SawI wr W gd pb zs g3 l3))
      · intro hcut
        go_region_held3 (fun x => x.cell? ⟨q, 4, none⟩ = some (.pointer (some ⟨c, 0, none⟩)) ∧ x.cell? ⟨q, 11, none⟩ = some (.int .i64 N1.rt)) (first | exact HSC.out _ (Below.refl _ _).drew | exact HSC.out _ ((Below.refl _ _).drew.alloc (Nat.le_refl _) _) | exact HS3.out | exact HSC.out _ (bpush HB3.out _) | exact HSC.out _ (bset (bset HB3.out (Nat.le_refl _) _ _) (Nat.le_refl _) _ _) | go_keep | fail) (first
          | (go_at_call 33; refine (rx_tail (w := wr.drew) (HXA.out _ (Below.refl _ _).drew) pb zs HP.out).mono ?_; rintro e w3 ⟨g3, l3, rfl, hb3, hp3, hl3, hg3⟩; have HS3 := hid (HSC.out w3 (bstep (Below.refl _ _).drew hb3)); have HB3 := hid (bstep (Below.refl wr.heap.size wr).drew hb3); have HD3 := hid hp3; have HL3 := hid hl3; have hql3 : q < w3.heap.size := (by have := hb3.size; simp at this; omega); clear hb3 hp3 hl3 hg3)
          | (go_at_call 33; refine (rx_tail (w := wr.drew.alloc (.cells #[.bool false, .slice none 0 0] 80)) (HXA.out _ ((Below.refl _ _).drew.alloc (Nat.le_refl _) _)) pb zs HP.out).mono ?_; rintro e w3 ⟨g3, l3, rfl, hb3, hp3, hl3, hg3⟩; have HB3 := hid (bstep ((Below.refl wr.heap.size wr).drew.alloc (Nat.le_refl _) _) hb3); have HS3 := hid (HSC.out w3 HB3.out); have HD3 := hid hp3; have HL3 := hid hl3; have HN3 := hid hg3; have HG3 : Hid (w3.heap[wr.heap.size]? = some (.cells #[.bool false, .slice none 0 0] 80 (0, 0))) := (hb3.block wr.heap.size (by simp)).trans (heap_new wr.drew _); have hd0 : w3.cell? ⟨wr.heap.size, 0, none⟩ = some (.bool false) := cellHeap HG3.out 0 rfl; have hd1 : w3.cell? ⟨wr.heap.size, 1, none⟩ = some (.slice none 0 0) := cellHeap HG3.out 1 rfl; have hdf : ∀ j, w3.frozen? ⟨wr.heap.size, j, none⟩ = false := (fun j => frozen_of_heap HG3.out j); have hgl3 : wr.heap.size < w3.heap.size := heap_lt HG3.out; clear hb3 hp3 hl3 hg3)
          | fail)
        · have HW := hid (saw_a (b := pb) HB3.out HD3.out HL3.out)
          clear HS3 HB3 HD3 HL3 hql3
          generalize w3.alloc _ = W at *
          generalize w3.heap.size = gd at *
          exact hcut W gd g3 l3 HW
        · have HW := hid (saw_b (b := pb) HB3.out HD3.out HL3.out HG3.out (by have := HN3.out; simp at this; omega))
          clear HS3 HB3 HD3 HL3 HN3 HG3 hd0 hd1 hdf hgl3
          exact hcut _ _ _ _ HW
      intro W gd g3 l3 HW
      have hc0 : W.cell? ⟨gd, 0, none⟩ = some (.bool pb) := cellHeap HW.out.box 0 rfl
      have hc1 : W.cell? ⟨gd, 1, none⟩ = some (.slice (some ⟨g3, 0, none⟩) l3 l3) := cellHeap HW.out.box 1 rfl
      have hgdl : gd < W.heap.size := heap_lt HW.out.box
      have hb1 : b.toNat - i = (b.toNat - (i + 1)) + 1 := by omega
      cases pb with
      | true =>
        go_wp2_with fail
        go_ret
        have hp1 := HP1.out
        rw [hb1] at hp1
        simp only [pollF, HP.out, if_true, List.append_nil] at hp1
        exact ⟨_, fs, rfl, by rw [hp1], by rw [hp1]; exact HXA.out W HW.out.bel, HF1.out.keep fun k _ hk => HW.out.bel.block k hk, HO1.out.trans (Only.of_below HW.out.bel)⟩
      | false =>
        have hqW : q < W.heap.size := by have := HW.out.bel.size; omega
        have HTK : Hid (∀ W' : World, Below W.heap.size W W' → Calls Try.prog 48 #[.pointer (some ⟨q, 0, none⟩), .slice (some ⟨g3, 0, none⟩) l3 l3] W' fun e w' => ∃ fa fl fc, e = .returned (.tuple #[frameV (seenR own zs).d (seenR own zs).s (seenR own zs).k (.slice fa fl fc), .bool (goodB own zs)]) ∧ TookI W' w' q own c n m (N1.saw (goodB own zs)) fa fl fc (seenR own zs).ys) := fun W' hb => take_u q own c n m N1 zs g3 l3 W' ((HXA.out W' (bstep HW.out.bel hb)).box) HO.out (kept HW.out.dat hb) HW.out.len HPLO.out (by omega) (by omega)
        have HGB : Hid (goodB own zs = goodB own zs) := rfl
        have HSR : Hid (goodB own zs = true → seenR own zs = openR zs) := fun hg => by unfold seenR; rw [if_pos hg]
        obtain ⟨gb, hgb⟩ : ∃ gb, gb = goodB own zs := ⟨_, rfl⟩
        have HGE := hid hgb
        rw [← hgb] at HTK HSR
        obtain ⟨R, hR⟩ : ∃ R, R = seenR own zs := ⟨_, rfl⟩
        rw [← hR] at HTK HSR
        clear hgb hR HGB
        obtain ⟨⟨d0, d1, d2, d3, d4, d5⟩, ⟨s0, s1, s2, s3, s4, s5⟩, k, ys, er⟩ := R
        simp only [frameV] at HTK
        go_wp2_with fail
        refine (HTK.out W (Below.refl _ _)).mono ?_
        rintro e w5 ⟨fa, fl, fc, rfl, ht⟩
        have HG := hid (got_a (F := #[.int .u8 d0, .int .u8 d1, .int .u8 d2, .int .u8 d3, .int .u8 d4, .int .u8 d5, .int .u8 s0, .int .u8 s1, .int .u8 s2, .int .u8 s3, .int .u8 s4, .int .u8 s5, .int .i64 k, .slice fa fl fc]) ht)
        clear ht
        have hlow : ∀ k, NicK q c g h k → k < w.heap.size := HX.out.lt
        have hqlow : q < w.heap.size := hlow q (Or.inl rfl)
        have hwr : w.heap.size ≤ wr.heap.size := HO1.out.size
        have HX5 : Hid (NicW (w5.alloc (.cells #[.int .u8 d0, .int .u8 d1, .int .u8 d2, .int .u8 d3, .int .u8 d4, .int .u8 d5, .int .u8 s0, .int .u8 s1, .int .u8 s2, .int .u8 s3, .int .u8 s4, .int .u8 s5, .int .i64 k, .slice fa fl fc] 51)) q own c g h n m S1 (N1.saw gb)) := HX1.out.got HW.out.bel HG.out
        have HF5 : Hid (Frs w.heap.size (w5.alloc (.cells #[.int .u8 d0, .int .u8 d1, .int .u8 d2, .int .u8 d3, .int .u8 d4, .int .u8 d5, .int .u8 s0, .int .u8 s1, .int .u8 s2, .int .u8 s3, .int .u8 s4, .int .u8 s5, .int .i64 k, .slice fa fl fc] 51)) (.slice a l cc) fs) := (HF1.out.keep fun k _ hk => HW.out.bel.block k hk).keep fun k h1 h2 => HG.out.but.block k (by omega) h2
        have HO5 : Hid (Only (NicK q c g h) w (w5.alloc (.cells #[.int .u8 d0, .int .u8 d1, .int .u8 d2, .int .u8 d3, .int .u8 d4, .int .u8 d5, .int .u8 s0, .int .u8 s1, .int .u8 s2, .int .u8 s3, .int .u8 s4, .int .u8 s5, .int .i64 k, .slice fa fl fc] 51))) := (HO1.out.trans (Only.of_below HW.out.bel)).trans (Only.of_but HG.out.but (Or.inl rfl))
        have hlen5 : l = fs.length := by
          obtain ⟨a9, c9, e9⟩ := HF1.out.form
          simp only [Value.slice.injEq] at e9
          exact e9.2.1
        subst hlen5
        have hc5 : w5.heap[w5.heap.size]? = none := by simp
        have ho5 : Hid (∀ o, (w5.alloc (.cells #[.int .u8 d0, .int .u8 d1, .int .u8 d2, .int .u8 d3, .int .u8 d4, .int .u8 d5, .int .u8 s0, .int .u8 s1, .int .u8 s2, .int .u8 s3, .int .u8 s4, .int .u8 s5, .int .i64 k, .slice fa fl fc] 51)).cell? ⟨w5.heap.size, o, none⟩ = (#[.int .u8 d0, .int .u8 d1, .int .u8 d2, .int .u8 d3, .int .u8 d4, .int .u8 d5, .int .u8 s0, .int .u8 s1, .int .u8 s2, .int .u8 s3, .int .u8 s4, .int .u8 s5, .int .i64 k, .slice fa fl fc] : Array Value)[o]?) := fun o => cell_of_heap (heap_new w5 _) o
        clear hc5 ho5
        cases gb with
        | true =>
          have hRR : openR zs = ⟨⟨d0, d1, d2, d3, d4, d5⟩, ⟨s0, s1, s2, s3, s4, s5⟩, k, ys, er⟩ := (HSR.out rfl).symm
          have hrow : Row (w5.alloc (.cells #[.int .u8 d0, .int .u8 d1, .int .u8 d2, .int .u8 d3, .int .u8 d4, .int .u8 d5, .int .u8 s0, .int .u8 s1, .int .u8 s2, .int .u8 s3, .int .u8 s4, .int .u8 s5, .int .i64 k, .slice fa fl fc] 51)) 5 (.slice fa fl fc) (u8s (openR zs).ys) := by rw [hRR]; exact HG.out.row
          obtain ⟨g6, cp6, w6, hrun, hf6, hb6, hk6⟩ := HF5.out.push zs (.slice fa fl fc) hrow (fun b' hb' => by have := HG.out.new b' hb'; have := HW.out.bel.size; omega) (fun p hp b' hb' e => by have h9 := HG.out.new b' hb'; have h8 := (HF1.out.dat p hp).1.lt e; have := HW.out.bel.size; omega) (by omega) HO5.out.size
          rw [hRR] at hrun
          simp only [frameC, World.size_alloc] at hrun
          have HRUN := hid hrun
          have HX6 : Hid (NicW w6 q own c g h n m S1 (N1.saw true)) := HX5.out.keep fun k hk => hk6 k (HX5.out.lt k hk) (fun e => by have := (HF5.out.lo e).1; have := hlow k hk; omega)
          have HF6 := hid hf6
          have HO6 : Hid (Only (NicK q c g h) w w6) := ⟨hb6.os.trans HO5.out.os, hb6.tape.trans HO5.out.tape, hb6.output.trans HO5.out.output, Nat.le_trans HO5.out.size hb6.size, fun k hk hl => (hb6.block k hl).trans (HO5.out.block k hk hl)⟩
          clear hrun hrow hf6 hb6 hk6 hRR
          go_wp2_with (first
            | (at_builtin; refine wpList_append_run _ rfl (.tmp 36) (.tmp 38) 58 58 rfl _ _ rfl rfl HRUN.out ?_))
          have HSC6 : Hid (w6.drew.cell? ⟨q, 4, none⟩ = some (.pointer (some ⟨c, 0, none⟩)) ∧ w6.drew.cell? ⟨q, 11, none⟩ = some (.int .i64 N1.rt)) := ⟨(nicC HX6.out.box).c4, (nicC HX6.out.box).c11⟩
          go_region_held3 (fun x => x.cell? ⟨q, 4, none⟩ = some (.pointer (some ⟨c, 0, none⟩)) ∧ x.cell? ⟨q, 11, none⟩ = some (.int .i64 N1.rt)) (first | exact HSC6.out | exact HS7.out | go_keep | fail) (first
            | (go_at_call 49; refine (give_tail HX6.out rfl zs HP.out).mono ?_; rintro e w7 ⟨rfl, hx7⟩; have HS7 := hid hx7.cells; have HX7 := hid hx7; clear hx7)
            | fail)
          go_wp2_with (first
            | (go_at_call 50; refine HX7.out.turn.mono ?_; rintro e w8 ⟨rfl, hx8, ho8⟩; have HX8 := hid hx8; have HO8 := hid ho8; clear hx8 ho8))
          go_roundw
          case rel =>
            refine ⟨i + 1, _, _, cp6, rfl, by go_num, by omega, ⟨S1.given N1.rt, (N1.saw true).on n, fs ++ [(zs, .slice fa fl fc)], HX8.out, HF6.out.only HO8.out hlow, HO6.out.trans HO8.out, ?_, ?_, ?_⟩⟩
            · have := free_given HP.out rfl
              simp only [NS.saw, NS.took, NS.on, CS.given, if_true]
              omega
            · have := free_given HP.out rfl
              simp only [CS.given, List.length_append, List.length_singleton]
              omega
            · have hp1 := HP1.out
              rw [hb1, pollF_step _ _ _ _ _ HP.out, ← HGE.out, HX1.out.ln] at hp1
              rw [hp1]
              simp
          case measure => simp [intOf]; omega
        | false =>
          have HSC6 : Hid ((w5.alloc (.cells #[.int .u8 d0, .int .u8 d1, .int .u8 d2, .int .u8 d3, .int .u8 d4, .int .u8 d5, .int .u8 s0, .int .u8 s1, .int .u8 s2, .int .u8 s3, .int .u8 s4, .int .u8 s5, .int .i64 k, .slice fa fl fc] 51)).drew.cell? ⟨q, 4, none⟩ = some (.pointer (some ⟨c, 0, none⟩)) ∧ (w5.alloc (.cells #[.int .u8 d0, .int .u8 d1, .int .u8 d2, .int .u8 d3, .int .u8 d4, .int .u8 d5, .int .u8 s0, .int .u8 s1, .int .u8 s2, .int .u8 s3, .int .u8 s4, .int .u8 s5, .int .i64 k, .slice fa fl fc] 51)).drew.cell? ⟨q, 11, none⟩ = some (.int .i64 N1.rt)) := ⟨(nicC HX5.out.box).c4, (nicC HX5.out.box).c11⟩
          go_wp2_with fail
          go_region_held3 (fun x => x.cell? ⟨q, 4, none⟩ = some (.pointer (some ⟨c, 0, none⟩)) ∧ x.cell? ⟨q, 11, none⟩ = some (.int .i64 N1.rt)) (first | exact HSC6.out | exact HS7.out | go_keep | fail) (first
            | (go_at_call 49; refine (give_tail HX5.out rfl zs HP.out).mono ?_; rintro e w7 ⟨rfl, hx7⟩; have HS7 := hid hx7.cells; have HX7 := hid hx7; clear hx7)
            | fail)
          go_wp2_with (first
            | (go_at_call 50; refine HX7.out.turn.mono ?_; rintro e w8 ⟨rfl, hx8, ho8⟩; have HX8 := hid hx8; have HO8 := hid ho8; clear hx8 ho8))
          go_roundw
          case rel =>
            refine ⟨i + 1, _, _, cc, rfl, by go_num, by omega, ⟨S1.given N1.rt, (N1.saw false).on n, fs, HX8.out, HF5.out.only HO8.out hlow, HO5.out.trans HO8.out, ?_, ?_, ?_⟩⟩
            · have := free_given HP.out rfl
              simp only [NS.saw, NS.threw, NS.on, CS.given]
              simp
              omega
            · have := free_given HP.out rfl
              simp only [CS.given]
              omega
            · have hp1 := HP1.out
              rw [hb1, pollF_step _ _ _ _ _ HP.out, ← HGE.out, HX1.out.ln] at hp1
              rw [hp1]
              simp
          case measure => simp [intOf]; omega
    · go_wp2_with fail
      go_ret
      obtain ⟨⟨S1, N1, fs, hx1, hf1, ho1, hz1, hy1, hp1⟩⟩ := HI.out
      have h0 : b.toNat - i = 0 := by omega
      rw [h0] at hp1
      simp only [pollF, List.append_nil] at hp1
      exact ⟨_, fs, rfl, by rw [hp1], by rw [hp1]; exact hx1, hf1, ho1⟩
end Go.Proofs.Ytnjhlndikbkeaaa
