/-
  Tftp: the statement's live.
-/
import Derived.Test.YtdcppiknomoigaaDoorTgD
import Derived.Test.YtdcppiknomoigaaDoorTgH
import Derived.Test.YtdcppiknomoigaaDoorTgL
import Derived.Test.YtdcppiknomoigaaDoorTfZ
namespace Go.Proofs.YtdcppiknomoigaaDoor
open Go.RowKit
set_option linter.all false

def cL : List Ch := [⟨nBlk, 1428⟩, ⟨nTsz, 0⟩]
def aL : List Ch := [⟨nBlk, 1024⟩, ⟨nTsz, 70000⟩]
def tL : Tp := ⟨1, ⟨#[97]⟩, nOct, cL, 0, [], 0, noS⟩
def eL : List Int := [0, 1, 97, 0, 111, 99, 116, 101, 116, 0, 98, 108, 107, 115, 105, 122, 101, 0, 49, 52, 50, 56, 0, 116, 115, 105, 122, 101, 0, 48, 0]
theorem tL_may : tL.may = 0 := by decide
theorem tL_enc : tL.enc = eL := by
  have h1 : decB 1428 = [49, 52, 50, 56] := by simp [decB]
  have h2 : decB 0 = [48] := by simp [decB]
  simp [Tp.enc, tL, cL, eL, chsB, chB, nums, nOct, nBlk, nTsz, op2, h1, h2]
theorem tL_norm : tL.norm = tL := rfl
theorem dL : decQ eL = tL ∧ decE eL = 0 := by
  have := enc_back tL_may
  rw [tL_enc, tL_norm] at this
  exact dec_ok_of this
theorem agL : agT 1024 4 70000 (fstL cL 2) = (1024, 1, aL) := by rfl
theorem acL1 : accP cL aL 100000 = (1024, 1, 0) := by decide
theorem acL2 : accP cL aL 69999 = (0, 0, 2) := by decide
theorem wL1 : wantV aL nTsz = 70000 ∧ wantB aL nTsz = true := by decide
theorem wL2 : wantB aL nWin = false := by decide
def t2 : Tp := ⟨2, noS, noS, [], 0, [], 0, noS⟩
theorem t2_may : t2.may = 170 := by decide
theorem d0L : decQ [] = Tp.nil ∧ decE [] = 5 := dec_er_of (by unfold decT; rfl)
theorem eL_str : strOfNums eL = ⟨#[0, 1, 97, 0, 111, 99, 116, 101, 116, 0, 98, 108, 107, 115, 105, 122, 101, 0, 49, 52, 50, 56, 0, 116, 115, 105, 122, 101, 0, 48, 0]⟩ := by decide
theorem eL_bd : ∀ z, z ∈ eL → 0 ≤ z ∧ z ≤ 255 := by decide
/-- what an answer's bytes are, as a part that is read. -/
theorem Ans.part {w W : World} {ys : List Int} {a : Option Addr} {n c : Nat} (h : Ans w W ys a n c) (hz : ∀ z, z ∈ ys → 0 ≤ z ∧ z ≤ 255) : n = ys.length ∧ Part.ok W ⟨a, c, ys⟩ := by
  obtain ⟨pt, e1, e2, e3⟩ := h.1.part hz
  obtain ⟨a', c', zs⟩ := pt
  simp only [Part.val] at e1 e2
  subst e2
  simp only [Value.slice.injEq] at e1
  obtain ⟨rfl, rfl, rfl⟩ := e1
  exact ⟨rfl, e3⟩
theorem RowB.cap {w wr : World} {a : Option Addr} {n cp : Nat} {xs : List Value} (h : RowB 56 2 w wr a n cp xs) : n ≤ cp := by
  rcases h.row.2 with ⟨h1, h2⟩ | ⟨g, cap, cur, hv, _, _, h3, _⟩
  · simp only [Value.slice.injEq] at h1; omega
  · simp only [Value.slice.injEq] at hv; omega
set_option maxRecDepth 20000 in
set_option maxHeartbeats 16000000 in
theorem live_any (w : World) (hE : Env w) : Calls Tryd.prog 8 #[] w fun e w' => e = .returned (.bool true) ∧ Hid (Below w.heap.size w w') := by
  obtain ⟨W0, hW0⟩ : ∃ W0, W0 = w.alloc (.cells #[.string ⟨#[98, 108, 107, 115, 105, 122, 101]⟩, .int .i64 1428, .string ⟨#[116, 115, 105, 122, 101]⟩, .int .i64 0] 56) := ⟨_, rfl⟩
  have hb0 : Below w.heap.size w W0 := by rw [hW0]; exact bpush (Below.refl _ _) _
  have hh0 : W0.heap[w.heap.size]? = some (.cells #[.string ⟨#[98, 108, 107, 115, 105, 122, 101]⟩, .int .i64 1428, .string ⟨#[116, 115, 105, 122, 101]⟩, .int .i64 0] 56 (0, 0)) := by rw [hW0]; exact heap_new _ _
  have hch : ChV W0 (some ⟨w.heap.size, 0, none⟩) cL := by
    refine Or.inr ⟨_, 0, rfl, fun k x hx => ?_⟩
    rw [Nat.zero_add]
    match k, hx with
    | 0, hx => simp only [cL, List.getElem?_cons_zero, Option.some.injEq] at hx; subst hx; exact ⟨(cell_of_heap hh0 0).trans rfl, (cell_of_heap hh0 1).trans rfl⟩
    | 1, hx => simp only [cL, List.getElem?_cons_succ, List.getElem?_cons_zero, Option.some.injEq] at hx; subst hx; exact ⟨(cell_of_heap hh0 2).trans rfl, (cell_of_heap hh0 3).trans rfl⟩
    | k + 2, hx => simp [cL] at hx
  have HB0 := hid hb0
  have HENV : Hid (∀ W, Below W0.heap.size W0 W → Env W) := fun W hb => hE.below (hb0.trans (hb.mono hb0.size))
  have CE : Hid (Calls Tryd.prog 11 #[.agg #[.int .i64 1, .string ⟨#[97]⟩, .string ⟨#[111, 99, 116, 101, 116]⟩, .slice (some ⟨w.heap.size, 0, none⟩) 2 2, .int .i64 0, .slice none 0 0, .int .i64 0, .string ⟨#[]⟩]] W0 fun e w' => ∃ a c, e = .returned (.tuple #[.slice a 31 c, .int .i64 0]) ∧ Hid (Part.ok w' ⟨a, c, eL⟩ ∧ Below W0.heap.size W0 w')) := by
    refine (encode_any tL (some ⟨w.heap.size, 0, none⟩) 2 none 0 W0 (hE.below hb0) ⟨hch, by decide, by decide, Part.nil_ok _, by decide, by decide, by decide, by decide⟩).mono ?_
    rintro e w' ⟨a, n, c, rfl, h1⟩
    rw [tL_may, if_pos rfl, tL_enc] at h1
    obtain ⟨h2, h3⟩ := Ans.part h1.out eL_bd
    subst h2
    exact ⟨a, c, by rw [tL_may]; rfl, h3, h1.out.2.2⟩
  have CD : Hid (∀ W a c, Part.ok W ⟨a, c, eL⟩ → Below W0.heap.size W0 W → Calls Tryd.prog 17 #[.slice a 31 c] W fun e w' => ∃ ca cc da dc, e = .returned (.tuple #[.agg #[.int .i64 1, .string ⟨#[97]⟩, .string ⟨#[111, 99, 116, 101, 116]⟩, .slice ca 2 cc, .int .i64 0, .slice da 0 dc, .int .i64 0, .string ⟨#[]⟩], .int .i64 0]) ∧ Hid (Below W.heap.size W w')) := fun W a c hp hb => by
    refine (decode_any ⟨a, c, eL⟩ W (HENV.out W hb) hp (show eL.length ≤ 140737488353280 by decide)).mono ?_
    rintro e w' ⟨ca, cc, da, dc, rfl, h1⟩
    exact ⟨ca, cc, da, dc, by rw [dL.1, dL.2]; rfl, h1.out.below⟩
  have CA : Hid (∀ W, Below W0.heap.size W0 W → Calls Tryd.prog 22 #[.slice (some ⟨w.heap.size, 0, none⟩) 2 2, .int .i64 1024, .int .i64 4, .int .i64 70000] W fun e w' => ∃ a c, e = .returned (.tuple #[.int .i64 1024, .int .i64 1, .slice a 2 c]) ∧ Hid (ChV w' a aL ∧ 2 ≤ c ∧ Below W.heap.size W w')) := fun W hb => by
    refine (pagree_any cL (some ⟨w.heap.size, 0, none⟩) 2 2 1024 4 70000 W (hch.below hb) rfl (by omega)).mono ?_
    rintro e w' ⟨a, n, c, rfl, h1⟩
    rw [agL] at h1 ⊢
    obtain ⟨h2, h3⟩ := h1.out.chv
    have h4 := h1.out.cap
    rw [show aL.length = 2 from rfl] at h2
    subst h2
    exact ⟨a, c, rfl, h3, h4, h1.out.below⟩
  have CC1 : Hid (∀ W a c, ChV W a aL → 2 ≤ c → Below W0.heap.size W0 W → Calls Tryd.prog 23 #[.slice (some ⟨w.heap.size, 0, none⟩) 2 2, .slice a 2 c, .int .i64 100000] W fun e w' => e = .returned (.tuple #[.int .i64 1024, .int .i64 1, .int .i64 0]) ∧ Hid (Below W.heap.size W w')) := fun W a c h1 h2 hb => by
    have := paccept_any cL aL (some ⟨w.heap.size, 0, none⟩) a 2 2 2 c 100000 W (hch.below hb) h1 rfl rfl h2 (by omega) (by omega)
    rw [acL1] at this
    exact this
  have CC2 : Hid (∀ W a c, ChV W a aL → 2 ≤ c → Below W0.heap.size W0 W → Calls Tryd.prog 23 #[.slice (some ⟨w.heap.size, 0, none⟩) 2 2, .slice a 2 c, .int .i64 69999] W fun e w' => e = .returned (.tuple #[.int .i64 0, .int .i64 0, .int .i64 2]) ∧ Hid (Below W.heap.size W w')) := fun W a c h1 h2 hb => by
    have := paccept_any cL aL (some ⟨w.heap.size, 0, none⟩) a 2 2 2 c 69999 W (hch.below hb) h1 rfl rfl h2 (by omega) (by omega)
    rw [acL2] at this
    exact this
  have CW1 : Hid (∀ W a c, ChV W a aL → Calls Tryd.prog 21 #[.slice a 2 c, .string ⟨#[116, 115, 105, 122, 101]⟩] W fun e w' => e = .returned (.tuple #[.int .i64 70000, .bool true]) ∧ Hid (Below W.heap.size W w')) := fun W a c h1 => by
    have := pwant_any aL a 2 c nTsz W h1 rfl (by omega)
    rw [wL1.1, wL1.2] at this
    exact this
  have CW2 : Hid (∀ W a c, ChV W a aL → Calls Tryd.prog 21 #[.slice a 2 c, .string ⟨#[119, 105, 110, 100, 111, 119, 115, 105, 122, 101]⟩] W fun e w' => e = .returned (.tuple #[.int .i64 (wantV aL nWin), .bool false]) ∧ Hid (Below W.heap.size W w')) := fun W a c h1 => by
    have := pwant_any aL a 2 c nWin W h1 rfl (by omega)
    rw [wL2] at this
    exact this
  have CE2 : Hid (∀ W, Below W0.heap.size W0 W → Calls Tryd.prog 11 #[.agg #[.int .i64 2, .string ⟨#[]⟩, .string ⟨#[]⟩, .slice none 0 0, .int .i64 0, .slice none 0 0, .int .i64 0, .string ⟨#[]⟩]] W fun e w' => ∃ a n c, e = .returned (.tuple #[.slice a n c, .int .i64 170]) ∧ Hid (Below W.heap.size W w')) := fun W hb => by
    refine (encode_any t2 none 0 none 0 W (HENV.out W hb) ⟨Or.inl rfl, by decide, by decide, Part.nil_ok _, by decide, by decide, by decide, by decide⟩).mono ?_
    rintro e w' ⟨a, n, c, rfl, h1⟩
    exact ⟨a, n, c, by rw [t2_may], h1.out.2.2⟩
  have CD0 : Hid (∀ W, Below W0.heap.size W0 W → Calls Tryd.prog 17 #[.slice none 0 0] W fun e w' => ∃ ca cc da dc, e = .returned (.tuple #[.agg #[.int .i64 0, .string ⟨#[]⟩, .string ⟨#[]⟩, .slice ca 0 cc, .int .i64 0, .slice da 0 dc, .int .i64 0, .string ⟨#[]⟩], .int .i64 5]) ∧ Hid (Below W.heap.size W w')) := fun W hb => by
    refine (decode_any Part.nil W (HENV.out W hb) (Part.nil_ok W) (by decide)).mono ?_
    rintro e w' ⟨ca, cc, da, dc, rfl, h1⟩
    rw [show Part.nil.zs = [] from rfl] at h1 ⊢
    exact ⟨ca, cc, da, dc, by rw [d0L.1, d0L.2]; rfl, h1.out.below⟩
  have hCE := hid (hW0 ▸ CE.out)
  clear hch hh0 hE hb0 HENV CE
  go_enter Tryd.func8, Tryd.ntmps8
  go_upto_region 3 with (first
    | (go_at_call 11; refine hCE.out.mono ?_; go_loud (rintro e w1 ⟨a1, c1, rfl, H1⟩))
    | fail)
  rw [← hW0] at H1
  clear hCE hW0
  have CD1 := hid (CD.out w1 a1 c1 H1.out.1 H1.out.2)
  go_upto_region 4 with (first
    | (go_at_call 17; refine CD1.out.mono ?_; go_loud (rintro e w2 ⟨ca, cc, da, dc, rfl, HB2⟩))
    | (refine wpList_store_row rfl 26 _ _ rfl w2.heap.size #[.int .i64 1, .string ⟨#[97]⟩, .string ⟨#[111, 99, 116, 101, 116]⟩, .slice ca 2 cc, .int .i64 0, .slice da 0 dc, .int .i64 0, .string ⟨#[]⟩] rfl rfl 26 _ (heap_new w2 _) (by kernel_rfl) rfl (by first | kernel_rfl | simp [Value.oneCell']) ?_)
    | fail)
  clear CD CD1
  have HBX : Hid (((w2.alloc (.cells #[.int .i64 0, .string ⟨#[]⟩, .string ⟨#[]⟩, .slice none 0 0, .int .i64 0, .slice none 0 0, .int .i64 0, .string ⟨#[]⟩] 26)).setRow w2.heap.size #[.int .i64 1, .string ⟨#[97]⟩, .string ⟨#[111, 99, 116, 101, 116]⟩, .slice ca 2 cc, .int .i64 0, .slice da 0 dc, .int .i64 0, .string ⟨#[]⟩]).heap[w2.heap.size]? = some (.cells #[.int .i64 1, .string ⟨#[97]⟩, .string ⟨#[111, 99, 116, 101, 116]⟩, .slice ca 2 cc, .int .i64 0, .slice da 0 dc, .int .i64 0, .string ⟨#[]⟩] 26 (0, 0))) := setRow_heap _ _ _ _ _ _ (heap_new w2 _)
  have HB3 : Hid (Below w2.heap.size w2 ((w2.alloc (.cells #[.int .i64 0, .string ⟨#[]⟩, .string ⟨#[]⟩, .slice none 0 0, .int .i64 0, .slice none 0 0, .int .i64 0, .string ⟨#[]⟩] 26)).setRow w2.heap.size #[.int .i64 1, .string ⟨#[97]⟩, .string ⟨#[111, 99, 116, 101, 116]⟩, .slice ca 2 cc, .int .i64 0, .slice da 0 dc, .int .i64 0, .string ⟨#[]⟩])) := bbut (bpush (Below.refl _ _) _) (But.setRow _ _ _) (Nat.le_refl _)
  generalize (w2.alloc (.cells #[.int .i64 0, .string ⟨#[]⟩, .string ⟨#[]⟩, .slice none 0 0, .int .i64 0, .slice none 0 0, .int .i64 0, .string ⟨#[]⟩] 26)).setRow w2.heap.size #[.int .i64 1, .string ⟨#[97]⟩, .string ⟨#[111, 99, 116, 101, 116]⟩, .slice ca 2 cc, .int .i64 0, .slice da 0 dc, .int .i64 0, .string ⟨#[]⟩] = W3 at *
  obtain ⟨g4, hg4⟩ : ∃ g4, g4 = w2.heap.size := ⟨_, rfl⟩
  rw [← hg4] at HBX ⊢
  clear hg4
  have HB03 := hid (bstep (bstep H1.out.2 HB2.out) HB3.out)
  have HP3 := hid (Part.ok_below (Part.ok_below H1.out.1 HB2.out) HB3.out)
  clear H1 HB2 HB3
  have CA3 := hid (CA.out W3 HB03.out)
  go_upto_region 10 with (first
    | (go_at_call 22; (with_reducible refine CA3.out.mono ?_); go_loud (rintro e w4 ⟨a4, c4, rfl, H4⟩; have HB04 := hid (bstep HB03.out H4.out.2.2); have CX5 := hid (CC1.out w4 a4 c4 H4.out.1 H4.out.2.1 HB04.out); clear CA3))
    | (go_at_call 23; (with_reducible refine CX5.out.mono ?_); go_loud (rintro e w5 ⟨rfl, HB5⟩; have HB05 := hid (bstep HB04.out HB5.out); have HC5 := hid (H4.out.1.below HB5.out); have CX6 := hid (CC2.out w5 a4 c4 HC5.out H4.out.2.1 HB05.out); clear CX5))
    | (go_at_call 23; (with_reducible refine CX6.out.mono ?_); go_loud (rintro e w6 ⟨rfl, HB6⟩; have HB06 := hid (bstep HB05.out HB6.out); have HC6 := hid (HC5.out.below HB6.out); have CX7 := hid (CW1.out w6 a4 c4 HC6.out); clear CX6))
    | (go_at_call 21; (with_reducible refine CX7.out.mono ?_); go_loud (rintro e w7 ⟨rfl, HB7⟩; have HB07 := hid (bstep HB06.out HB7.out); have HC7 := hid (HC6.out.below HB7.out); have CX8 := hid (CW2.out w7 a4 c4 HC7.out); clear CX7))
    | (go_at_call 21; (with_reducible refine CX8.out.mono ?_); go_loud (rintro e w8 ⟨rfl, HB8⟩; have HB08 := hid (bstep HB07.out HB8.out); have CX9 := hid (CE2.out w8 HB08.out); clear CX8))
    | (go_at_call 11; (with_reducible refine CX9.out.mono ?_); go_loud (rintro e w9 ⟨a9, n9, c9, rfl, HB9⟩; have HB09 := hid (bstep HB08.out HB9.out)))
    | fail)
  have HB39 := hid (bstep (bstep (bstep (bstep (bstep H4.out.2.2 HB5.out) HB6.out) HB7.out) HB8.out) HB9.out)
  have CX0 := hid (CD0.out w9 HB09.out)
  have HFW : Hid (∀ W, Below w9.heap.size w9 W → Below w.heap.size w W ∧ (∀ q, W.cell? ⟨g4, q, none⟩ = (#[.int .i64 1, .string ⟨#[97]⟩, .string ⟨#[111, 99, 116, 101, 116]⟩, .slice ca 2 cc, .int .i64 0, .slice da 0 dc, .int .i64 0, .string ⟨#[]⟩] : Array Value)[q]?) ∧ (convert 24 9 (.slice a1 31 c1)).run Tryd.prog W = .ok (.string ⟨#[0, 1, 97, 0, 111, 99, 116, 101, 116, 0, 98, 108, 107, 115, 105, 122, 101, 0, 49, 52, 50, 56, 0, 116, 115, 105, 122, 101, 0, 48, 0]⟩) W) := fun W hb => by
    have h1 := bstep HB39.out hb
    refine ⟨HB0.out.trans ((bstep HB09.out hb).mono HB0.out.size), fun q => cell_of_heap ((h1.block _ (heap_lt HBX.out)).trans HBX.out) q, ?_⟩
    have h2 := conv_part ⟨a1, c1, eL⟩ W (Part.ok_below HP3.out h1)
    rw [eL_str] at h2
    exact h2
  clear CA CC1 CC2 CW1 CW2 CE2 CD0 CX9 HB03 HB04 HB05 HB06 HB07 HB08 HB09 HB39 HB5 HB6 HB7 HB8 HB9 HC5 HC6 HC7 H4 HP3 HBX HB0
  go_wp2_with (first
    | (go_at_call 17; refine CX0.out.mono ?_; go_loud (rintro e wa ⟨ca0, cc0, da0, dc0, rfl, HBa⟩))
    | (refine wpList_store_row rfl 26 _ _ rfl wa.heap.size #[.int .i64 0, .string ⟨#[]⟩, .string ⟨#[]⟩, .slice ca0 0 cc0, .int .i64 0, .slice da0 0 dc0, .int .i64 0, .string ⟨#[]⟩] rfl rfl 26 _ (heap_new wa _) (by kernel_rfl) rfl (by first | kernel_rfl | simp [Value.oneCell']) ?_; go_loud (obtain ⟨hf1, hf2, hf3⟩ := HFW.out _ (bstep HBa.out (show Below wa.heap.size wa ((wa.alloc (.cells #[.int .i64 0, .string ⟨#[]⟩, .string ⟨#[]⟩, .slice none 0 0, .int .i64 0, .slice none 0 0, .int .i64 0, .string ⟨#[]⟩] 26)).setRow wa.heap.size #[.int .i64 0, .string ⟨#[]⟩, .string ⟨#[]⟩, .slice ca0 0 cc0, .int .i64 0, .slice da0 0 dc0, .int .i64 0, .string ⟨#[]⟩]) from bbut (bpush (Below.refl _ _) _) (But.setRow _ _ _) (Nat.le_refl _))); have HF1 := hid hf1; clear hf1; generalize (wa.alloc (.cells #[.int .i64 0, .string ⟨#[]⟩, .string ⟨#[]⟩, .slice none 0 0, .int .i64 0, .slice none 0 0, .int .i64 0, .string ⟨#[]⟩] 26)).setRow wa.heap.size #[.int .i64 0, .string ⟨#[]⟩, .string ⟨#[]⟩, .slice ca0 0 cc0, .int .i64 0, .slice da0 0 dc0, .int .i64 0, .string ⟨#[]⟩] = WZ at *))
    | fail)
  go_ret
  exact ⟨rfl, HF1⟩
set_option maxRecDepth 20000 in
set_option maxHeartbeats 4000000 in
theorem tftpNumbers_walk (w : World) (hE : Env w) : Calls Tryd.prog 3 #[] w fun e w' => e = .returned (.bool true) ∧ Below w.heap.size w w' := by
  have CL := hid (live_any w hE)
  clear hE
  go_enter Tryd.func3, Tryd.ntmps3
  go_wp2_with (first
    | (go_at_call 8; refine CL.out.mono ?_; rintro e w1 ⟨rfl, HB1⟩)
    | fail)
  go_ret
  exact ⟨rfl, HB1.out⟩
end Go.Proofs.YtdcppiknomoigaaDoor
