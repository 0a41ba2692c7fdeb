/-
  The driver's lay.
-/
import Derived.Test.YtnjhlndikbkeaaaNPoll
namespace Go.Proofs.Ytnjhlndikbkeaaa
open Go.RowKit
set_option linter.all false

def sendV (d : Mac) (k : Int) (v : Value) : Value := .agg #[.int .u8 d.b0, .int .u8 d.b1, .int .u8 d.b2, .int .u8 d.b3, .int .u8 d.b4, .int .u8 d.b5, .int .i64 k, v]
def NS.ton (N : NS) (m : Nat) : NS := { N with tt := (N.tt + 1) % m }
def NS.sent (N : NS) : NS := { N with sn := N.sn + 1 }
def NS.refd (N : NS) : NS := { N with rf := N.rf + 1 }
/-- is the descriptor at the Tx tail the card's? -/
def fullB (S : CS) (N : NS) : Bool := (S.T.getD N.tt ⟨false, []⟩).b
def sendE (k : Int) (zs : List Int) (S : CS) (N : NS) : Int := if sealE k zs = 0 then (if fullB S N then 3 else 0) else sealE k zs
def sendL (own d : Mac) (k : Int) (zs : List Int) (S : CS) (N : NS) : List Int := if sendE k zs S N = 0 then sealB d own k zs else []
def sendS (own d : Mac) (k : Int) (zs : List Int) (S : CS) (N : NS) : CS := if sendE k zs S N = 0 then S.laid N.tt (sealB d own k zs) else S
/-- the driver's numbers behind lay. -/
def layN (k : Int) (zs : List Int) (S : CS) (N : NS) : NS := if sendE k zs S N = 0 then N.ton S.T.length else N
def sendN (k : Int) (zs : List Int) (S : CS) (N : NS) : NS := if sendE k zs S N = 0 then (N.ton S.T.length).sent else N.refd
theorem box_ton (N : NS) (own : Mac) (c n m : Nat) : (N.box own c n m).setIfInBounds 13 (.int .i64 ((N.tt + 1) % m : Nat)) = (N.ton m).box own c n m := by simp [NS.box, NS.ton]
theorem box_sent (N : NS) (own : Mac) (c n m : Nat) : (N.box own c n m).setIfInBounds 2 (.int .i64 (N.sn + 1 : Nat)) = N.sent.box own c n m := by simp [NS.box, NS.sent]
theorem box_refd (N : NS) (own : Mac) (c n m : Nat) : (N.box own c n m).setIfInBounds 3 (.int .i64 (N.rf + 1 : Nat)) = N.refd.box own c n m := by simp [NS.box, NS.refd]
theorem NicW.ttl {w : World} {q : Nat} {own : Mac} {c g h n m : Nat} {S : CS} {N : NS} (x : NicW w q own c g h n m S N) : N.tt < S.T.length := by rw [x.lm]; exact x.tt
/-- Tx at the tail. -/
theorem tx_tail {w : World} {q : Nat} {own : Mac} {c g h n m : Nat} {S : CS} {N : NS} (x : NicW w q own c g h n m S N) (b : Bool) (zs : List Int) (hp : S.T[N.tt]? = some ⟨b, zs⟩) :
    Calls Try.prog 35 #[.pointer (some ⟨c, 0, none⟩), .int .i64 N.tt] w fun e w' => ∃ g' l, e = .returned (.tuple #[.agg #[.bool b, .slice (some ⟨g', 0, none⟩) l l], .int .i64 0]) ∧ Below w.heap.size w w' ∧ w'.heap[g']? = some (.cells (u8s zs).toArray 5 (0, 0)) ∧ l = zs.length ∧ w.heap.size ≤ g' := by
  refine (tx_any c g h S _ w x.card).mono ?_
  rintro e w' ⟨b, a, l, cc, nn, rfl, hs⟩
  rcases hs with ⟨j, p', hj, hp', rfl, rfl, g', hv, h1, h2, h3⟩ | ⟨h1, _⟩
  · have : j = N.tt := by omega
    subst this
    rw [hp] at hp'
    simp only [Option.some.injEq] at hp'
    subst hp'
    rw [hv]
    exact ⟨_, _, rfl, h3, h2, rfl, h1⟩
  · have := x.ttl
    simp [hasB] at h1
    omega
/-- Lay at the tail, and what is between it and the turn. -/
structure LaidI (w w' : World) (q : Nat) (own : Mac) (c g h n m : Nat) (S : CS) (N : NS) (zs : List Int) : Prop where
  box : w'.heap[q]? = some (.cells (N.box own c n m) 88 (0, 0))
  card : CardW w' c g h (S.laid N.tt zs)
  was : NicW w q own c g h n m S N
  only : Only (CardK c g h) w w'
theorem LaidI.cells {w w' : World} {q : Nat} {own : Mac} {c g h n m : Nat} {S : CS} {N : NS} {zs : List Int} (t : LaidI w w' q own c g h n m S N zs) : w'.cell? ⟨q, 4, none⟩ = some (.pointer (some ⟨c, 0, none⟩)) ∧ w'.cell? ⟨q, 13, none⟩ = some (.int .i64 N.tt) := ⟨(nicC t.box).c4, (nicC t.box).c13⟩
theorem lay_tail {w : World} {q : Nat} {own : Mac} {c g h n m : Nat} {S : CS} {N : NS} (x : NicW w q own c g h n m S N) {r : Nat} (hr : r = N.tt) (ps : List Int) (hp : S.T[r]? = some ⟨false, ps⟩) (a : Option Addr) (l cc : Nat) (zs : List Int) (hok : Row w 5 (.slice a l cc) (u8s zs)) (hz : ∀ z, z ∈ zs → 0 ≤ z ∧ z ≤ 255) (h1 : 60 ≤ zs.length) (h2 : zs.length ≤ 1514) :
    Calls Try.prog 63 #[.pointer (some ⟨c, 0, none⟩), .int .i64 r, .slice a l cc] w.drew fun e w' => e = .returned (.int .i64 0) ∧ LaidI w w' q own c g h n m S N zs := by
  subst hr
  obtain ⟨pt, hv, rfl, hpk⟩ := hok.part hz
  rw [hv]
  refine (lay_yes c g h S N.tt _ pt w.drew (x.card.keep fun _ _ => rfl) (Part.ok_drewN hpk 1) hp rfl h1 h2).mono ?_
  rintro e w' ⟨rfl, h3, h4⟩
  exact ⟨rfl, (h4.block q x.qc (heap_lt (w := w.drew) x.box)).trans x.box, h3, x, ⟨h4.os, h4.tape, h4.output, h4.size, h4.block⟩⟩
theorem LaidI.turn {w w' : World} {q : Nat} {own : Mac} {c g h n m : Nat} {S : CS} {N : NS} {zs : List Int} (t : LaidI w w' q own c g h n m S N zs) :
    Calls Try.prog 50 #[.pointer (some ⟨q, 13, none⟩)] w' fun e w'' => e = .returned (.tuple #[]) ∧ NicW w'' q own c g h n m (S.laid N.tt zs) (N.ton m) ∧ Only (NicK q c g h) w w'' := by
  have hn := t.was.lm
  have hr2 := t.was.card.t2
  refine (nturn_any q 13 N.tt m _ _ w' t.box rfl rfl t.was.tt (by omega)).mono ?_
  rintro e w'' ⟨rfl, h1, h2⟩
  rw [box_ton] at h1
  refine ⟨rfl, ⟨h1, t.card.keep fun k hk => h2.block k (fun e => t.was.qc (by rw [← e]; exact hk)) (t.card.lt k hk), t.was.qc, t.was.ln, by simpa [CS.laid] using hn, t.was.rt, Nat.mod_lt _ (by have := t.was.tt; omega)⟩, (t.only.mono fun k hk => Or.inr hk).trans (Only.of_but h2 (Or.inl rfl))⟩
/-- what lay and Send leave. -/
structure SentI (w w' : World) (q : Nat) (own : Mac) (c g h n m : Nat) (S : CS) (N : NS) (a : Option Addr) (l cc : Nat) (zs : List Int) : Prop where
  nic : NicW w' q own c g h n m S N
  row : Row w' 5 (.slice a l cc) (u8s zs)
  new : ∀ b, (Value.slice a l cc).ownBlock = some b → w.heap.size ≤ b
  only : Only (NicK q c g h) w w'
set_option maxRecDepth 20000 in
set_option maxHeartbeats 4000000 in
theorem lay_any' (q : Nat) (own : Mac) (c g h n m : Nat) (S : CS) (N : NS) (d : Mac) (k : Int) (pt : Part) (w : World) (x : NicW w q own c g h n m S N) (ho : own.ok) (hd : d.ok) (hok : pt.ok w) (hl : pt.zs.length ≤ 140737488351232) :
    Calls Try.prog 52 #[.pointer (some ⟨q, 0, none⟩), sendV d k pt.val] w fun e w' => ∃ a l cc, e = .returned (.tuple #[.slice a l cc, .int .i64 (sendE k pt.zs S N)]) ∧ SentI w w' q own c g h n m (sendS own d k pt.zs S N) (layN k pt.zs S N) a l cc (sendL own d k pt.zs S N) := by
  obtain ⟨⟨pb, ps⟩, hp⟩ : ∃ p, S.T[N.tt]? = some p := ⟨_, List.getElem?_eq_getElem x.ttl⟩
  have hfull : fullB S N = pb := by simp [fullB, List.getD_eq_getElem?_getD, hp]
  have HSL : Hid (∀ w', Below w.heap.size w w' → Calls Try.prog 62 #[frameV d own k pt.val] w' fun e w'' => ∃ a n c, e = .returned (.tuple #[.slice a n c, .int .i64 (sealE k pt.zs)]) ∧ Ans w' w'' (sealB d own k pt.zs) a n c) := fun w' hb => seal_u d own k pt w' hd ho hl (Part.ok_below hok hb)
  have HBD := hid (sealB_bd d own k pt.zs hd ho hok.1)
  have hE : sealE k pt.zs = 0 ∨ sealE k pt.zs = 30 ∨ sealE k pt.zs = 2 := by
    unfold sealE; split
    · simp
    · split <;> simp
  have HLN : Hid (sealE k pt.zs = 0 → 60 ≤ (sealB d own k pt.zs).length) := fun he => by
    unfold sealE at he
    unfold sealB
    split at he
    · simp at he
    · split at he
      · simp at he
      · rw [if_neg (by assumption), if_neg (by assumption), sealL_len]; omega
  have HX := hid x
  have HP := hid hp
  unfold sendS layN sendL sendE
  rw [hfull]
  generalize sealE k pt.zs = E at *
  generalize sealB d own k pt.zs = Y at *
  have hv : pt.val = .slice pt.a pt.zs.length pt.c := rfl
  rw [hv] at HSL ⊢
  generalize pt.zs.length = l at *
  generalize pt.c = pc at *
  generalize pt.a = pa at *
  clear hv hok hd hl hfull ho x hp
  obtain ⟨d0, d1, d2, d3, d4, d5⟩ := d
  have HC : Hid (∀ w', Below w.heap.size w w' → NicC w' q own c n m N) := fun w' hb => nicC (HX.out.below hb).box
  simp only [frameV, sendV] at *
  have hql := heap_lt HX.out.box
  have HS : Hid (∀ w', Below (w.alloc (.cells #[.int .u8 d0, .int .u8 d1, .int .u8 d2, .int .u8 d3, .int .u8 d4, .int .u8 d5, .int .i64 k, .slice pa l pc] 45)).heap.size (w.alloc (.cells #[.int .u8 d0, .int .u8 d1, .int .u8 d2, .int .u8 d3, .int .u8 d4, .int .u8 d5, .int .i64 k, .slice pa l pc] 45)) w' → (∀ o, w'.cell? ⟨w.heap.size, o, none⟩ = (#[.int .u8 d0, .int .u8 d1, .int .u8 d2, .int .u8 d3, .int .u8 d4, .int .u8 d5, .int .i64 k, .slice pa l pc] : Array Value)[o]?) ∧ (∀ o, w'.cell? ⟨q, o, none⟩ = (#[.int .i64 N.tk, .int .i64 N.th, .int .i64 N.sn, .int .i64 N.rf, .pointer (some ⟨c, 0, none⟩), .int .u8 own.b0, .int .u8 own.b1, .int .u8 own.b2, .int .u8 own.b3, .int .u8 own.b4, .int .u8 own.b5, .int .i64 N.rt, .int .i64 n, .int .i64 N.tt, .int .i64 m] : Array Value)[o]?)) := fun w' hb => ⟨fun o => cell_of_heap (kept (heap_new w _) hb) o, fun o => cell_of_heap (HX.out.below (bstep (balloc w _) hb)).box o⟩
  have HXA : Hid (∀ W, Below w.heap.size w W → NicW W q own c g h n m S N) := fun W hb => HX.out.below hb
  go_enter Try.func52, Try.ntmps52
  go_wp2_with fail
  go_region_held3 (fun x => (∀ o, x.cell? ⟨w.heap.size, o, none⟩ = (#[.int .u8 d0, .int .u8 d1, .int .u8 d2, .int .u8 d3, .int .u8 d4, .int .u8 d5, .int .i64 k, .slice pa l pc] : Array Value)[o]?) ∧ (∀ o, x.cell? ⟨q, o, none⟩ = (#[.int .i64 N.tk, .int .i64 N.th, .int .i64 N.sn, .int .i64 N.rf, .pointer (some ⟨c, 0, none⟩), .int .u8 own.b0, .int .u8 own.b1, .int .u8 own.b2, .int .u8 own.b3, .int .u8 own.b4, .int .u8 own.b5, .int .i64 N.rt, .int .i64 n, .int .i64 N.tt, .int .i64 m] : Array Value)[o]?)) (first | exact HS.out _ (Below.refl _ _).drew | exact HS1.out | go_keep | fail) (first
    | (go_at_call 62; refine (HSL.out _ (balloc w _).drew).mono ?_; rintro e w1 ⟨a1, l1, c1, rfl, hr1, ho1, hb1⟩; have HS1 := hid (HS.out w1 (bstep (Below.refl _ _).drew hb1)); have HR1 := hid hr1; have HN1 := hid ho1; have HB1 := hid (bstep (balloc w (.cells #[.int .u8 d0, .int .u8 d1, .int .u8 d2, .int .u8 d3, .int .u8 d4, .int .u8 d5, .int .i64 k, .slice pa l pc] 45)).drew hb1); clear hr1 ho1 hb1)
    | fail)
  clear HSL HS HS1
  have hsz1 := HB1.out.size
  have HSC : Hid (∀ W, Below w1.heap.size w1 W → W.cell? ⟨q, 4, none⟩ = some (.pointer (some ⟨c, 0, none⟩)) ∧ W.cell? ⟨q, 13, none⟩ = some (.int .i64 N.tt)) := fun W hb => ⟨(nicC (HXA.out W (bstep HB1.out hb)).box).c4, (nicC (HXA.out W (bstep HB1.out hb)).box).c13⟩
  have HXB : Hid (∀ W, Below w1.heap.size w1 W → NicW W q own c g h n m S N) := fun W hb => HXA.out W (bstep HB1.out hb)
  by_cases hE0 : E = 0
  · subst hE0
    go_wp2_with fail
    apply cut4 (H := fun W gd g3 l3 => Hid (SawI w1 W gd pb ps g3 l3))
    · intro hcut
      have hql1 : q < w1.heap.size := by omega
      go_region_held3 (fun x => x.cell? ⟨q, 4, none⟩ = some (.pointer (some ⟨c, 0, none⟩)) ∧ x.cell? ⟨q, 13, none⟩ = some (.int .i64 N.tt)) (first | exact HSC.out _ (Below.refl _ _).drew | exact HSC.out _ ((Below.refl _ _).drew.alloc (Nat.le_refl _) _) | exact HS3.out | exact HSC.out _ (bpush HB3.out _) | exact HSC.out _ (bset (bset HB3.out (Nat.le_refl _) _ _) (Nat.le_refl _) _ _) | go_keep | fail) (first
        | (go_at_call 35; refine (tx_tail (w := w1.drew) (HXB.out _ (Below.refl _ _).drew) pb ps HP.out).mono ?_; rintro e w3 ⟨g3, l3, rfl, hb3, hp3, hl3, hg3⟩; have HS3 := hid (HSC.out w3 (bstep (Below.refl _ _).drew hb3)); have HB3 := hid (bstep (Below.refl w1.heap.size w1).drew hb3); have HD3 := hid hp3; have HL3 := hid hl3; have hql3 : q < w3.heap.size := (by have := hb3.size; simp at this; omega); clear hb3 hp3 hl3 hg3)
        | (go_at_call 35; refine (tx_tail (w := w1.drew.alloc (.cells #[.bool false, .slice none 0 0] 80)) (HXB.out _ ((Below.refl _ _).drew.alloc (Nat.le_refl _) _)) pb ps HP.out).mono ?_; rintro e w3 ⟨g3, l3, rfl, hb3, hp3, hl3, hg3⟩; have HB3 := hid (bstep ((Below.refl w1.heap.size w1).drew.alloc (Nat.le_refl _) _) hb3); have HS3 := hid (HSC.out w3 HB3.out); have HD3 := hid hp3; have HL3 := hid hl3; have HN3 := hid hg3; have HG3 : Hid (w3.heap[w1.heap.size]? = some (.cells #[.bool false, .slice none 0 0] 80 (0, 0))) := (hb3.block w1.heap.size (by simp)).trans (heap_new w1.drew _); have hd0 : w3.cell? ⟨w1.heap.size, 0, none⟩ = some (.bool false) := cellHeap HG3.out 0 rfl; have hd1 : w3.cell? ⟨w1.heap.size, 1, none⟩ = some (.slice none 0 0) := cellHeap HG3.out 1 rfl; have hdf : ∀ j, w3.frozen? ⟨w1.heap.size, j, none⟩ = false := (fun j => frozen_of_heap HG3.out j); have hgl3 : w1.heap.size < w3.heap.size := heap_lt HG3.out; clear hb3 hp3 hl3 hg3)
        | fail)
      · have HW := hid (saw_a (b := pb) HB3.out HD3.out HL3.out)
        clear HS3 HB3 HD3 HL3 hql3
        generalize w3.alloc _ = W at *
        generalize w3.heap.size = gd at *
        exact hcut W gd g3 l3 HW
      · have HW := hid (saw_b (b := pb) HB3.out HD3.out HL3.out HG3.out (by have := HN3.out; simp at this; omega))
        clear HS3 HB3 HD3 HL3 HN3 HG3 hd0 hd1 hdf hgl3
        exact hcut _ _ _ _ HW
    intro W gd g3 l3 HW
    have hc0 : W.cell? ⟨gd, 0, none⟩ = some (.bool pb) := cellHeap HW.out.box 0 rfl
    have hgdl : gd < W.heap.size := heap_lt HW.out.box
    cases pb with
    | true =>
      go_wp2_with fail
      go_ret2
      exact ⟨none, 0, 0, rfl, ⟨HXB.out W HW.out.bel, Row.nil _ _, by simp [Value.ownBlock], Only.of_below (bstep HB1.out HW.out.bel)⟩⟩
    | false =>
      have HXW := hid (HXB.out W HW.out.bel)
      have HRW := hid (HR1.out.below HW.out.bel)
      have HSC6 : Hid (W.drew.cell? ⟨q, 4, none⟩ = some (.pointer (some ⟨c, 0, none⟩)) ∧ W.drew.cell? ⟨q, 13, none⟩ = some (.int .i64 N.tt)) := ⟨(nicC HXW.out.box).c4, (nicC HXW.out.box).c13⟩
      have HLAY := hid (lay_tail HXW.out rfl ps HP.out a1 l1 c1 Y HRW.out HBD.out.1 (HLN.out (by simp)) HBD.out.2)
      go_wp2_with fail
      go_region_held3 (fun x => x.cell? ⟨q, 4, none⟩ = some (.pointer (some ⟨c, 0, none⟩)) ∧ x.cell? ⟨q, 13, none⟩ = some (.int .i64 N.tt)) (first | exact HSC6.out | exact HS7.out | go_keep | fail) (first
        | (go_at_call 63; refine HLAY.out.mono ?_; rintro e w7 ⟨rfl, hx7⟩; have HS7 := hid hx7.cells; have HX7 := hid hx7; clear hx7)
        | fail)
      go_wp2_with (first
        | (go_at_call 50; refine HX7.out.turn.mono ?_; rintro e w8 ⟨rfl, hx8, ho8⟩; have HX8 := hid hx8; have HO8 := hid ho8; clear hx8 ho8))
      go_ret2
      have hm := HX.out.lm
      refine ⟨a1, l1, c1, rfl, ⟨?_, ?_, fun b hb => ?_, (Only.of_below (bstep HB1.out HW.out.bel)).trans HO8.out⟩⟩
      · try simp only [if_true, Bool.false_eq_true, if_false, hm]
        exact HX8.out
      · try simp only [if_true, Bool.false_eq_true, if_false]
        exact HRW.out.keep fun b hb => HO8.out.block b (fun e => by have := HX.out.lt b e; have := HN1.out b hb; simp at this; omega) (HRW.out.lt hb)
      · have := HN1.out b hb; simp at this; omega
  · have hE2 : (E == (0 : Int)) = false := by simpa using hE0
    go_wp2_with fail
    go_ret2
    refine ⟨none, 0, 0, by first | rfl | (rw [if_neg hE0]; rfl), ⟨?_, ?_, by simp [Value.ownBlock], Only.of_below HB1.out⟩⟩
    · try simp only [hE0, if_false]
      exact HXA.out _ HB1.out
    · try simp only [hE0, if_false]
      exact Row.nil _ _
end Go.Proofs.Ytnjhlndikbkeaaa
