/-
  What the eight words become by a block: digest.mix.
-/
import Derived.Test.YtlephdpplfpliaaDSpread
import Derived.Deep.QuietTactic
import Derived.BigQuiet
namespace Go.Proofs.Ytlephdpplfpliaa
open Go.RowKit
set_option linter.unusedVariables false

theorem size8 : (Try.prog.info? 48).map (·.size) = some 8 := by kernel_rfl
theorem sizeB64 : (Try.prog.info? 49).map (·.size) = some 64 := by kernel_rfl
def z8 : List Int := List.replicate 8 0
theorem z8_len : (u32s z8).length = 8 := by kernel_rfl
theorem u32s_at (zs : List Int) (j : Nat) (h : j < zs.length) : (u32s zs).toArray[j]? = some (.int .u32 (zs.getD j 0)) := by
  simp [u32s, List.getD_eq_getElem?_getD, h]

/-- the eight words. -/
structure St where
  a : Int
  b : Int
  c : Int
  d : Int
  e : Int
  f : Int
  g : Int
  h : Int
def St.l (s : St) : List Int := [s.a, s.b, s.c, s.d, s.e, s.f, s.g, s.h]
def St.ok (s : St) : Prop := (0 ≤ s.a ∧ s.a ≤ 4294967295) ∧ (0 ≤ s.b ∧ s.b ≤ 4294967295) ∧ (0 ≤ s.c ∧ s.c ≤ 4294967295) ∧ (0 ≤ s.d ∧ s.d ≤ 4294967295) ∧ (0 ≤ s.e ∧ s.e ≤ 4294967295) ∧ (0 ≤ s.f ∧ s.f ≤ 4294967295) ∧ (0 ≤ s.g ∧ s.g ≤ 4294967295) ∧ (0 ≤ s.h ∧ s.h ≤ 4294967295)
def uS (e f g h k w : Int) : Int :=
  IntKind.u32.wrap (IntKind.u32.wrap (IntKind.u32.wrap (IntKind.u32.wrap (h + bits .xor .u32 (bits .xor .u32 (rr e 6) (rr e 11)) (rr e 25)) + bits .xor .u32 (bits .and .u32 e f) (bits .and .u32 (bits .xor .u32 IntKind.u32.max e) g)) + k) + w)
theorem wrap_bd (n : Int) : 0 ≤ IntKind.u32.wrap n ∧ IntKind.u32.wrap n ≤ 4294967295 := by rw [IntKind.wrap_u32]; omega
theorem uS_bd (e f g h k w : Int) : 0 ≤ uS e f g h k w ∧ uS e f g h k w ≤ 4294967295 := wrap_bd _
def vS (a b c : Int) : Int := (bits .xor .u32 (bits .xor .u32 (rr a 2) (rr a 13)) (rr a 22) + bits .xor .u32 (bits .xor .u32 (bits .and .u32 a b) (bits .and .u32 a c)) (bits .and .u32 b c)) % 4294967296
def rnd (k w : Int) (s : St) : St :=
  ⟨(uS s.e s.f s.g s.h k w + vS s.a s.b s.c) % 4294967296, s.a, s.b, s.c, (s.d + uS s.e s.f s.g s.h k w) % 4294967296, s.e, s.f, s.g⟩
/-- the words behind the first t rounds. -/
def rnds (W : List Int) (s : St) : Nat → St
  | 0 => s
  | t + 1 => rnd (kL.getD t 0) (W.getD t 0) (rnds W s t)
theorem rnd_ok (k w : Int) (s : St) (h : s.ok) : (rnd k w s).ok := by
  obtain ⟨h1, h2, h3, h4, h5, h6, h7, h8⟩ := h
  refine ⟨?_, h1, h2, h3, ?_, h5, h6, h7⟩ <;> simp only [rnd] <;> omega
theorem rnds_ok (W : List Int) (s : St) (h : s.ok) : ∀ t, (rnds W s t).ok
  | 0 => h
  | t + 1 => rnd_ok _ _ _ (rnds_ok W s h t)
def addS (s t : St) : St := ⟨(s.a + t.a) % 4294967296, (s.b + t.b) % 4294967296, (s.c + t.c) % 4294967296, (s.d + t.d) % 4294967296, (s.e + t.e) % 4294967296, (s.f + t.f) % 4294967296, (s.g + t.g) % 4294967296, (s.h + t.h) % 4294967296⟩
def comp (s : St) (B : List Int) : St := addS s (rnds (schedL B 64) s 64)
theorem comp_ok (s : St) (B : List Int) : (comp s B).ok := by
  refine ⟨?_, ?_, ?_, ?_, ?_, ?_, ?_, ?_⟩ <;> simp only [comp, addS] <;> omega

def part8 (s t : St) (k : Nat) : List Int := (addS s t).l.take k ++ s.l.drop k
theorem l_len (s : St) : s.l.length = 8 := rfl
theorem part8_len (s t : St) (k : Nat) (h : k ≤ 8) : (part8 s t k).length = 8 := by simp [part8, l_len]; omega
theorem part8_at (s t : St) (k : Nat) (h : k < 8) : (part8 s t k).getD k 0 = s.l.getD k 0 := by
  simp [part8, List.getD_eq_getElem?_getD, List.getElem?_append, l_len, Nat.min_eq_left (Nat.le_of_lt h)]
theorem addS_at (s t : St) : ∀ k : Nat, k < 8 → (addS s t).l.getD k 0 = (s.l.getD k 0 + t.l.getD k 0) % 4294967296
  | 0, _ => rfl
  | 1, _ => rfl
  | 2, _ => rfl
  | 3, _ => rfl
  | 4, _ => rfl
  | 5, _ => rfl
  | 6, _ => rfl
  | 7, _ => rfl
  | k + 8, h => by omega
theorem part8_next (s t : St) : ∀ k : Nat, k < 8 → (part8 s t k).set k ((s.l.getD k 0 + t.l.getD k 0) % 4294967296) = part8 s t (k + 1)
  | 0, _ => rfl
  | 1, _ => rfl
  | 2, _ => rfl
  | 3, _ => rfl
  | 4, _ => rfl
  | 5, _ => rfl
  | 6, _ => rfl
  | 7, _ => rfl
  | k + 8, h => by omega
theorem part8_end (s t : St) : part8 s t 8 = (addS s t).l := rfl
theorem ok_at (s : St) (h : s.ok) : ∀ z, z ∈ s.l → 0 ≤ z ∧ z ≤ 4294967295 := by
  intro z hz
  obtain ⟨h1, h2, h3, h4, h5, h6, h7, h8⟩ := h
  simp only [St.l, List.mem_cons, List.not_mem_nil, or_false] at hz
  rcases hz with rfl | rfl | rfl | rfl | rfl | rfl | rfl | rfl <;> assumption
/-- what the loops of mix keep: the words, the answer's place, the block's words, the table. -/
structure Mx (W : List Int) (w : World) (g : Nat) (H : List Int) (wr : World) : Prop where
  words : wr.heap[w.heap.size]? = some (.cells (u32s H).toArray 48 (0, 0))
  res : wr.heap[w.heap.size + 2]? = some (.cells (u32s z8).toArray 48 (0, 0))
  ws : wr.heap[g]? = some (.cells (u32s W).toArray 61 (0, 0))
  ks : wr.heap[g + 1]? = some (.cells (u32s kL).toArray 61 (0, 0))
  far : w.heap.size + 3 ≤ g
  below : Below w.heap.size w wr
theorem Mx.drew {W : List Int} {w : World} {g : Nat} {H : List Int} {wr : World} (h : Mx W w g H wr) : Mx W w g H wr.drew := ⟨h.words, h.res, h.ws, h.ks, h.far, h.below.drew⟩
theorem Mx.drewN {W : List Int} {w : World} {g : Nat} {H : List Int} {wr : World} (h : Mx W w g H wr) (n : Nat) : Mx W w g H (wr.drewN n) := ⟨h.words, h.res, h.ws, h.ks, h.far, h.below.trans ⟨rfl, rfl, rfl, Nat.le_refl _, fun _ _ => rfl⟩⟩
theorem Mx.set {W : List Int} {w : World} {g : Nat} {H : List Int} {wr : World} (h : Mx W w g H wr) (j : Nat) (x : Int) : Mx W w g (H.set j x) (wr.setCell ⟨w.heap.size, j, none⟩ (.int .u32 x)) := by
  have hf := h.far
  refine ⟨?_, ?_, ?_, ?_, hf, ?_⟩
  · rw [heap_setCell_at h.words]; simp [u32s, List.map_set]
  · rw [Below.heap_setCell _ _ _ _ (by simp)]; exact h.res
  · rw [Below.heap_setCell _ _ _ _ (by simp; omega)]; exact h.ws
  · rw [Below.heap_setCell _ _ _ _ (by simp; omega)]; exact h.ks
  · exact h.below.trans ⟨rfl, rfl, rfl, by simp [World.setCell], fun k hk => Below.heap_setCell _ _ _ _ (by simp; omega)⟩
theorem below_setRow {B : Nat} {a w : World} (h : Below B a w) {g : Nat} (hg : B ≤ g) (cs : Array Value) : Below B a (w.setRow g cs) :=
  h.trans ⟨rfl, rfl, rfl, by simp [World.setRow], fun j hj => setRow_other _ _ _ _ (by omega)⟩
theorem Mx.start {W : List Int} {w w1 w2 : World} {H B : List Int} (h1 : Below (((w.alloc (.cells (u32s H).toArray 48)).alloc (.cells (u8s B).toArray 49)).alloc (.cells (u32s z8).toArray 48)).heap.size (((w.alloc (.cells (u32s H).toArray 48)).alloc (.cells (u8s B).toArray 49)).alloc (.cells (u32s z8).toArray 48)) w1) (h2 : Below w1.heap.size w1 w2) :
    Mx W w w2.heap.size H ((((w2.alloc (.cells (u32s z64).toArray 61)).alloc (.cells (u32s z64).toArray 61)).setRow w2.heap.size (u32s W).toArray).setRow (w2.heap.size + 1) (u32s kL).toArray) := by
  have z1 := h1.size
  have z2 := h2.size
  replace h1 := h1.mono (B' := w.heap.size + 1 + 1 + 1) (by simp)
  simp only [World.size_alloc] at z1
  have old : ∀ k o, k < w.heap.size + 3 → (((w.alloc (.cells (u32s H).toArray 48)).alloc (.cells (u8s B).toArray 49)).alloc (.cells (u32s z8).toArray 48)).heap[k]? = o →
      ((((w2.alloc (.cells (u32s z64).toArray 61)).alloc (.cells (u32s z64).toArray 61)).setRow w2.heap.size (u32s W).toArray).setRow (w2.heap.size + 1) (u32s kL).toArray).heap[k]? = o := fun k o hk h => by
    rw [setRow_other _ _ _ _ (by omega), setRow_other _ _ _ _ (by omega), heap_alloc_old (h := by simp; omega), heap_alloc_old (h := by omega), h2.block k (by omega), h1.block k (by omega), h]
  refine ⟨old _ _ (by omega) ?_, old _ _ (by omega) ?_, ?_, ?_, by omega, ?_⟩
  · rw [heap_alloc_old (h := by simp; omega), heap_alloc_old (h := by simp), heap_alloc_new]
  · have := heap_alloc_new ((w.alloc (.cells (u32s H).toArray 48)).alloc (.cells (u8s B).toArray 49)) (.cells (u32s z8).toArray 48)
    rw [World.size_alloc, World.size_alloc] at this
    exact this
  · rw [setRow_other _ _ _ _ (by omega), setRow_heap _ _ _ _ _ _ (heap_alloc2_old w2 _ _)]
  · rw [setRow_heap _ _ (u32s z64).toArray _ 61 (0, 0) (by rw [setRow_other _ _ _ _ (by omega)]; exact heap_alloc2_new w2 _ _)]
  · have e := ((((Below.refl w.heap.size w).alloc (Nat.le_refl _) (.cells (u32s H).toArray 48)).alloc (by simp) (.cells (u8s B).toArray 49)).alloc (by simp; omega) (.cells (u32s z8).toArray 48)).trans (h1.mono (by omega))
    have e2 := e.trans (h2.mono (by omega))
    have e3 := (e2.alloc (by omega) (.cells (u32s z64).toArray 61)).alloc (by simp; omega) (.cells (u32s z64).toArray 61)
    exact below_setRow (below_setRow e3 (by omega) _) (by omega) _

theorem kL_bd : ∀ z, z ∈ kL → 0 ≤ z ∧ z ≤ 4294967295 := by decide +kernel
set_option maxHeartbeats 2000000 in
set_option maxRecDepth 20000 in
theorem mix_any (s : St) (B : List Int) (w : World) (hs : s.ok) (hB : B.length = 64) (hb : ∀ z, z ∈ B → 0 ≤ z ∧ z ≤ 255) :
    Calls Try.prog 22 #[.agg (u32s s.l).toArray, .agg (u8s B).toArray] w fun e w' => e = .returned (.agg (u32s (comp s B).l).toArray) ∧ Below w.heap.size w w' := by
  have HCO : Hid (comp s B = addS s (rnds (schedL B 64) s 64)) := rfl
  have HSP : Hid (∀ w, Calls Try.prog 27 #[.agg (u8s B).toArray] w fun e w' => e = .returned (.agg (u32s (schedL B 64)).toArray) ∧ Below w.heap.size w w') := fun w => spread_any B w hB hb
  have HL : Hid ((u8s B).length = 64) := by unfold Hid; rw [u8s_len, hB]
  have HWL : Hid ((schedL B 64).length = 64) := schedL_len B 64
  have HWB : Hid (∀ z, z ∈ schedL B 64 → 0 ≤ z ∧ z ≤ 4294967295) := schedL_bd B 64
  have HOK : Hid s.ok := hs
  generalize schedL B 64 = W at *
  have HL64 : Hid ((u32s W).length = 64) := by unfold Hid; rw [u32s_len, HWL.out]
  clear hs hB hb
  go_enter Try.func22, Try.ntmps22
  go_wp2_with (first
    | (refine wpList_alloc_to rfl 61 rfl (u32s z64).toArray (by kernel_rfl) ?_)
    | (refine wpList_alloc_to rfl 48 rfl (u32s z8).toArray (by kernel_rfl) ?_)
    | (refine wpList_load_row rfl 49 _ rfl (w.heap.size + 1) rfl 49 (u8s B).toArray (0, 0) _ (by rw [heap_alloc_old (h := by simp)]; exact heap_alloc2_new w _ _) Try.underlying49 rfl (by rw [sizeB64]; simp [HL.out]) ?_)
    | (refine wpList_store_row rfl 61 _ _ rfl w2.heap.size (u32s W).toArray rfl rfl 61 _ (heap_alloc2_old w2 _ _) (by rw [size64]; simp [HL64.out]) (by simp [HL64.out, z64_len]) (all_oneCell_toArray (u32s_one _)) ?_)
    | (go_at_call 27; refine (HSP.out _).mono ?_; rintro e w1 ⟨rfl, hb1⟩; have HB1 : Hid (Below _ _ w1) := hb1; clear hb1)
    | (go_at_call 28; refine (roundWords_any _).mono ?_; rintro e w2 ⟨rfl, hb2⟩; have HB2 : Hid (Below _ _ w2) := hb2; clear hb2))
  rw [store_at (u32s kL) (u32s_one kL) (w2.heap.size + 1) 61 (u32s z64).toArray _ (by rw [setRow_other _ _ _ _ (by omega)]; exact heap_alloc2_new w2 _ _) (by simp [kL_len, z64_len])]
  go_wp2_with fail
  generalize hW4 : (((w2.alloc (.cells (u32s z64).toArray 61)).alloc (.cells (u32s z64).toArray 61)).setRow w2.heap.size (u32s W).toArray).setRow (w2.heap.size + 1) (u32s kL).toArray = W4
  have HMX : Hid (Mx W w w2.heap.size s.l W4) := by rw [← hW4]; exact Mx.start HB1.out HB2.out
  clear hW4 HB1 HB2 HSP
  generalize w2.heap.size = g at *
  have cs : ∀ j, j < 8 → W4.cell? ⟨w.heap.size, j, none⟩ = some (.int .u32 (s.l.getD j 0)) := fun j hj => by rw [cell_of_heap HMX.out.words, u32s_at _ _ hj]
  have ca : W4.cell? ⟨w.heap.size, 0, none⟩ = some (.int .u32 s.a) := cs 0 (by omega)
  have cb : W4.cell? ⟨w.heap.size, 1, none⟩ = some (.int .u32 s.b) := cs 1 (by omega)
  have cc : W4.cell? ⟨w.heap.size, 2, none⟩ = some (.int .u32 s.c) := cs 2 (by omega)
  have cd : W4.cell? ⟨w.heap.size, 3, none⟩ = some (.int .u32 s.d) := cs 3 (by omega)
  have ce : W4.cell? ⟨w.heap.size, 4, none⟩ = some (.int .u32 s.e) := cs 4 (by omega)
  have cf : W4.cell? ⟨w.heap.size, 5, none⟩ = some (.int .u32 s.f) := cs 5 (by omega)
  have cg : W4.cell? ⟨w.heap.size, 6, none⟩ = some (.int .u32 s.g) := cs 6 (by omega)
  have ch : W4.cell? ⟨w.heap.size, 7, none⟩ = some (.int .u32 s.h) := cs 7 (by omega)
  clear cs
  go_quiet (fail)
  go_wp2
  go_quiet (fail)
  go_wp2
  clear ca cb cc cd ce cf cg ch
  go_loopw [7, 8, 9, 10, 11, 12, 13, 14, 39] (fun a b c d e f g' h i wr => ∃ k : Nat, k ≤ 64 ∧ i = .int .i64 k ∧ a = .int .u32 (rnds W s k).a ∧ b = .int .u32 (rnds W s k).b ∧ c = .int .u32 (rnds W s k).c ∧ d = .int .u32 (rnds W s k).d ∧ e = .int .u32 (rnds W s k).e ∧ f = .int .u32 (rnds W s k).f ∧ g' = .int .u32 (rnds W s k).g ∧ h = .int .u32 (rnds W s k).h ∧ Mx W w g s.l wr) (fun _ _ _ _ _ _ _ _ i _ => 64 - (intOf i).toNat)
  case atStart => exact ⟨0, by omega, rfl, rfl, rfl, rfl, rfl, rfl, rfl, rfl, rfl, (HMX.out.drewN _).drewN _⟩
  case round =>
    obtain ⟨k, hk, rfl, rfl, rfl, rfl, rfl, rfl, rfl, rfl, rfl, hm⟩ := hrel
    have HM : Hid (Mx W w g s.l wr) := hm
    have hok := rnds_ok W s HOK.out k
    by_cases hlt : k < 64
    · have hlt2 : (k : Int) < 64 := by omega
      have ck : wr.cell? ⟨g + 1, k, none⟩ = some (.int .u32 (kL.getD k 0)) := by rw [cell_of_heap hm.ks, u32s_at _ _ (by rw [show kL.length = 64 from rfl]; exact hlt)]
      have cw : wr.cell? ⟨g, k, none⟩ = some (.int .u32 (W.getD k 0)) := by rw [cell_of_heap hm.ws, u32s_at _ _ (by rw [HWL.out]; exact hlt)]
      have bk := getD_bd (by omega) kL_bd k
      have bw := getD_bd (by omega) HWB.out k
      have HN : Hid (rnds W s (k + 1) = rnd (kL.getD k 0) (W.getD k 0) (rnds W s k)) := rfl
      obtain ⟨⟨a, b, c, d, ee, ff, gg, hh⟩, hS⟩ : ∃ S, S = rnds W s k := ⟨_, rfl⟩
      rw [← hS] at hok HN ⊢
      have oa : 0 ≤ a ∧ a ≤ 4294967295 := hok.1
      have ob : 0 ≤ b ∧ b ≤ 4294967295 := hok.2.1
      have oc : 0 ≤ c ∧ c ≤ 4294967295 := hok.2.2.1
      have od : 0 ≤ d ∧ d ≤ 4294967295 := hok.2.2.2.1
      have oe : 0 ≤ ee ∧ ee ≤ 4294967295 := hok.2.2.2.2.1
      have of : 0 ≤ ff ∧ ff ≤ 4294967295 := hok.2.2.2.2.2.1
      have og : 0 ≤ gg ∧ gg ≤ 4294967295 := hok.2.2.2.2.2.2.1
      have oh : 0 ≤ hh ∧ hh ≤ 4294967295 := hok.2.2.2.2.2.2.2
      clear hok
      generalize kL.getD k 0 = kt at *
      generalize W.getD k 0 = wt at *
      clear hS hm
      go_wp2
      go_region_held3 (fun w' => w'.cell? ⟨g + 1, k, none⟩ = some (.int .u32 kt) ∧ w'.cell? ⟨g, k, none⟩ = some (.int .u32 wt)) (first | (refine ⟨?_, ?_⟩ <;> assumption) | go_keep) (first
        | (go_at_call 29; refine (right_i _ _ _ (by omega) (by omega) (by omega) (by omega)).mono ?_; rintro en w' ⟨rfl, rfl⟩))
      have bu := uS_bd ee ff gg hh kt wt
      have HU : Hid (uS ee ff gg hh kt wt = IntKind.u32.wrap (IntKind.u32.wrap (IntKind.u32.wrap (IntKind.u32.wrap (hh + bits .xor .u32 (bits .xor .u32 (rr ee 6) (rr ee 11)) (rr ee 25)) + bits .xor .u32 (bits .and .u32 ee ff) (bits .and .u32 (bits .xor .u32 IntKind.u32.max ee) gg)) + kt) + wt)) := rfl
      rw [← HU.out]
      have HN2 : Hid (rnds W s (k + 1) = ⟨(uS ee ff gg hh kt wt + vS a b c) % 4294967296, a, b, c, (d + uS ee ff gg hh kt wt) % 4294967296, ee, ff, gg⟩) := HN.out
      generalize uS ee ff gg hh kt wt = u at *
      clear HN HU
      go_wp2_with (go_at_call 29; refine (right_i _ _ _ (by omega) (by omega) (by omega) (by omega)).mono ?_; rintro en w' ⟨rfl, rfl⟩)
      refine ⟨⟨k + 1, by omega, by go_num, ?_⟩, by simp [intOf]; omega⟩
      rw [HN2.out]
      exact ⟨rfl, rfl, rfl, rfl, rfl, rfl, rfl, rfl, HM.out.drew⟩
    · obtain rfl : k = 64 := by omega
      have HA : Hid (comp s B = addS s (rnds W s 64)) := HCO.out
      have HAO : Hid (rnds W s 64).ok := hok
      generalize rnds W s 64 = A at *
      have hge : ¬ ((64 : Nat) : Int) < 64 := by omega
      clear hm hok HCO hlt
      go_wp2_with (first
        | (refine wpList_build_to rfl 48 _ rfl (u32s A.l).toArray (by kernel_rfl) ?_))
      go_loopw [111] (fun i wr => ∃ k : Nat, k ≤ 8 ∧ i = .int .i64 k ∧ Mx W w g (part8 s A k) wr) (fun i _ => 8 - (intOf i).toNat)
      case atStart => exact ⟨0, by omega, rfl, HM.out⟩
      case round =>
        obtain ⟨k, hk, rfl, hm⟩ := hrel
        have HMM : Hid (Mx W w g (part8 s A k) wr) := hm
        by_cases hlt : k < 8
        · have hlt2 : (k : Int) < 8 := by omega
          have cw : wr.cell? ⟨w.heap.size, k, none⟩ = some (.int .u32 (s.l.getD k 0)) := by rw [cell_of_heap hm.words, u32s_at _ _ (by rw [part8_len s A k hk]; exact hlt), part8_at s A k hlt]
          have fw : wr.frozen? ⟨w.heap.size, k, none⟩ = false := frozen_of_heap hm.words k
          have hx := index_arr Try.underlying48 sizeU32 aggU32 (u32s A.l).toArray k hlt _ (u32s_at A.l k hlt)
          have HN : Hid (Mx W w g (part8 s A (k + 1)) (wr.setCell ⟨w.heap.size, k, none⟩ (.int .u32 ((s.l.getD k 0 + A.l.getD k 0) % 4294967296)))) := by
            have := hm.set k ((s.l.getD k 0 + A.l.getD k 0) % 4294967296)
            rw [part8_next s A k hlt] at this
            exact this
          have bs := getD_bd (by omega) (ok_at s HOK.out) k
          have ba := getD_bd (by omega) (ok_at A HAO.out) k
          generalize s.l.getD k 0 = p at *
          generalize A.l.getD k 0 = q at *
          clear hm
          go_wp2
          go_roundw
          case rel => exact ⟨k + 1, by omega, by go_num, HN.out⟩
          case measure => simp [intOf]; omega
        · obtain rfl : k = 8 := by omega
          have HA8 : Hid (wr.heap[w.heap.size]? = some (.cells (u32s (comp s B).l).toArray 48 (0, 0))) := by
            unfold Hid
            rw [hm.words, part8_end, HA.out]
          have HRS : Hid (wr.heap[w.heap.size + 2]? = some (.cells (u32s z8).toArray 48 (0, 0))) := hm.res
          have hcl : (u32s (comp s B).l).length = 8 := by rw [u32s_len]; rfl
          have hge : ¬ ((8 : Nat) : Int) < 8 := by omega
          obtain ⟨R, hR⟩ : ∃ R, R = (comp s B).l := ⟨_, rfl⟩
          have HR : Hid (R = (comp s B).l) := hR
          rw [← hR] at HA8 hcl
          clear hR
          clear hm hlt
          go_wp2_with (first
            | (refine wpList_load_row rfl 48 _ rfl w.heap.size rfl 48 (u32s R).toArray (0, 0) _ HA8.out Try.underlying48 rfl (by rw [size8]; simp [hcl]) ?_)
            | (refine wpList_store_row rfl 48 _ _ rfl (w.heap.size + 2) (u32s R).toArray rfl rfl 48 (u32s z8).toArray HRS.out (by rw [size8]; simp [hcl]) (by simp [hcl, z8_len]) (all_oneCell_toArray (u32s_one _)) ?_))
          refine bodyPost_ret (results_cell_row (P := Try.prog) rfl _ _ (w.heap.size + 2) 48 (u32s R).toArray (0, 0) _ rfl (setRow_heap _ _ _ _ _ _ HRS.out) Try.underlying48 rfl (by rw [size8]; simp [hcl])) rfl ⟨by rw [HR.out], ?_⟩
          exact below_setRow HMM.out.below (by omega) _
end Go.Proofs.Ytlephdpplfpliaa
