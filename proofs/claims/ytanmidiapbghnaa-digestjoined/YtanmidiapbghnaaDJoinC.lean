/-
  What DigestJoined needs: the document's Beyond, slices cut, texts there and back.
-/
import Derived.Test.YtanmidiapbghnaaDOpen
import Derived.Test.YtanmidiapbghnaaDTextsW
namespace Go.Proofs.Ytanmidiapbghnaa
open Go.RowKit
set_option linter.unusedVariables false
set_option linter.unusedSimpArgs false

/-! ### Texts there and back -/
theorem hv_fin : ∀ y : Fin 16, hvI ((UInt8.ofNat (hexd (y.val : Int)).toNat).toNat : Int) = (y.val : Int) := by decide +kernel
theorem hv_of (y : Int) (h0 : 0 ≤ y) (h1 : y < 16) : hvI ((UInt8.ofNat (hexd y).toNat).toNat : Int) = y := by
  obtain ⟨u, rfl⟩ := Int.eq_ofNat_of_zero_le h0
  exact hv_fin ⟨u, by omega⟩
theorem of_fin : ∀ c : Fin 256, 0 ≤ hvI (c.val : Int) → UInt8.ofNat (hexd (hvI (c.val : Int))).toNat = UInt8.ofNat c.val := by decide +kernel
theorem of_hv (c : UInt8) (h : 0 ≤ hvI (c.toNat : Int)) : UInt8.ofNat (hexd (hvI (c.toNat : Int))).toNat = c := by
  have := of_fin ⟨c.toNat, c.toNat_lt⟩ h
  simpa using this
theorem hexL_two : ∀ (d : List Int) (j : Nat), j < d.length → (hexL d).getD (2 * j) 0 = hexd (d.getD j 0 / 16) ∧ (hexL d).getD (2 * j + 1) 0 = hexd (d.getD j 0 % 16)
  | [], j, h => by simp at h
  | z :: r, 0, h => ⟨rfl, rfl⟩
  | z :: r, j + 1, h => by
    have ih := hexL_two r j (by simpa using h)
    have e : hexL (z :: r) = hexd (z / 16) :: hexd (z % 16) :: hexL r := by simp [hexL, hx2]
    rw [e, show 2 * (j + 1) = 2 * j + 1 + 1 by omega]
    simpa using ih
theorem str_at (zs : List Int) (i : Nat) (h : i < zs.length) : (strOfNums zs).data.toList.getD i 0 = UInt8.ofNat (zs.getD i 0).toNat := by
  rw [strOfNums_data]
  simp [List.getD_eq_getElem?_getD, h]
theorem sgn_hex (d : List Int) (hd : d.length = 32) (hb : ∀ z, z ∈ d → 0 ≤ z ∧ z ≤ 255) (j : Nat) (hj : j < 32) : sgn (strOfNums (hexL d)) (2 * j) = d.getD j 0 / 16 ∧ sgn (strOfNums (hexL d)) (2 * j + 1) = d.getD j 0 % 16 := by
  have hl := hexL_len d
  have bz := getD_bd (by omega) hb j
  have h2 := hexL_two d j (by omega)
  unfold sgn
  rw [str_at _ _ (by omega), str_at _ _ (by omega), h2.1, h2.2]
  exact ⟨hv_of _ (by omega) (by omega), hv_of _ (by omega) (by omega)⟩
theorem str_size (zs : List Int) : (strOfNums zs).size = zs.length := strOfNums_size zs
theorem good_hex (d : List Int) (hd : d.length = 32) (hb : ∀ z, z ∈ d → 0 ≤ z ∧ z ≤ 255) : goodS (strOfNums (hexL d)) := by
  refine ⟨by rw [str_size, hexL_len, hd], fun i hi => ?_⟩
  have h := sgn_hex d hd hb (i / 2) (by omega)
  have bz := getD_bd (by omega) hb (i / 2)
  rcases Nat.mod_two_eq_zero_or_one i with e | e
  · rw [show i = 2 * (i / 2) by omega, h.1]; omega
  · rw [show i = 2 * (i / 2) + 1 by omega, h.2]; omega
theorem unhex_hex (d : List Int) (hd : d.length = 32) (hb : ∀ z, z ∈ d → 0 ≤ z ∧ z ≤ 255) : unK (sgn (strOfNums (hexL d))) 64 = d := by
  apply List.ext_getElem?
  intro j
  by_cases hj : j < 32
  · have h := sgn_hex d hd hb j hj
    have e := unK_at (sgn (strOfNums (hexL d))) 64 j hj
    rw [List.getElem?_eq_getElem (by rw [unK_len]; exact hj), List.getElem?_eq_getElem (by omega)]
    congr 1
    have e1 : (unK (sgn (strOfNums (hexL d))) 64).getD j 0 = (unK (sgn (strOfNums (hexL d))) 64)[j]'(by rw [unK_len]; exact hj) := by simp [List.getD_eq_getElem?_getD, unK_len, hj]
    have e2 : d.getD j 0 = d[j]'(by omega) := by simp [List.getD_eq_getElem?_getD, hd, hj]
    rw [← e1, e, ← e2]
    unfold unV
    rw [if_pos (by omega), h.1, h.2]
    omega
  · rw [List.getElem?_eq_none (by rw [unK_len]; omega), List.getElem?_eq_none (by omega)]
theorem hex_unhex (s : ByteArray) (h : goodS s) : strOfNums (hexL (unK (sgn s) 64)) = s := by
  have hl : s.data.toList.length = 64 := by have := h.1; simpa using this
  have e : (strOfNums (hexL (unK (sgn s) 64))).data.toList = s.data.toList := by
    apply List.ext_getElem?
    intro i
    have hl1 : (strOfNums (hexL (unK (sgn s) 64))).data.toList.length = 64 := by rw [strOfNums_data]; simp [hexL_len, unK_len]
    by_cases hi : i < 64
    · rw [List.getElem?_eq_getElem (by omega), List.getElem?_eq_getElem (by omega)]
      congr 1
      have a1 : (strOfNums (hexL (unK (sgn s) 64))).data.toList.getD i 0 = (strOfNums (hexL (unK (sgn s) 64))).data.toList[i]'(by omega) := by rw [List.getD_eq_getElem?_getD, List.getElem?_eq_getElem (by omega)]; rfl
      have a2 : s.data.toList.getD i 0 = s.data.toList[i]'(by omega) := by rw [List.getD_eq_getElem?_getD, List.getElem?_eq_getElem (by omega)]; rfl
      rw [← a1, ← a2, str_at _ _ (by rw [hexL_len, unK_len]; omega)]
      have h2 := hexL_two (unK (sgn s) 64) (i / 2) (by rw [unK_len]; omega)
      have hv : (unK (sgn s) 64).getD (i / 2) 0 = 16 * sgn s (2 * (i / 2)) + sgn s (2 * (i / 2) + 1) := by rw [unK_at _ _ _ (by omega)]; unfold unV; rw [if_pos (by omega)]
      have g1 := h.2 (2 * (i / 2)) (by omega)
      have g2 := h.2 (2 * (i / 2) + 1) (by omega)
      have g3 := sgn_le s (2 * (i / 2))
      have g4 := sgn_le s (2 * (i / 2) + 1)
      have key : (hexL (unK (sgn s) 64)).getD i 0 = hexd (sgn s i) := by
        rcases Nat.mod_two_eq_zero_or_one i with e | e
        · have ei : 2 * (i / 2) = i := by omega
          rw [ei] at h2 hv g1 g2 g3 g4
          rw [h2.1, hv]; congr 1; omega
        · have ei : 2 * (i / 2) + 1 = i := by omega
          rw [ei] at h2 hv g2 g4
          rw [h2.2, hv]; congr 1; omega
      rw [key]
      exact of_hv _ (h.2 i hi)
    · rw [List.getElem?_eq_none (by omega), List.getElem?_eq_none (by omega)]
  have : (strOfNums (hexL (unK (sgn s) 64))).data = s.data := Array.ext' e
  exact ByteArray.ext this

/-! ### Slices cut -/
def Part.to (p : Part) (m : Nat) : Part := ⟨p.a, p.c, p.zs.take m⟩
def Part.mid (p : Part) (l h : Nat) : Part := (p.to h).from l
theorem Part.to_ok {p : Part} {w : World} (h : p.ok w) (m : Nat) (hm : m ≤ p.zs.length) : (p.to m).ok w := by
  refine ⟨fun z hz => h.1 z (List.mem_of_mem_take hz), by have := h.2.1; simp [Part.to]; omega, ?_⟩
  rcases h.2.2 with he | ⟨b, o, ha, hc⟩
  · left; simp [Part.to, he]
  · right
    refine ⟨b, o, ha, fun j hj => ?_⟩
    have hj' : j < m := by simp [Part.to] at hj; omega
    rw [hc j (by omega)]
    simp [Part.to, List.getD_eq_getElem?_getD, List.getElem?_take, hj']
theorem Part.mid_ok {p : Part} {w : World} (h : p.ok w) (l m : Nat) (hm : m ≤ p.zs.length) (hl : l ≤ m) : (p.mid l m).ok w := Part.from_ok (Part.to_ok h m hm) l (by simp [Part.to]; omega)
theorem part_to (p : Part) (m : Nat) (hm : m ≤ p.zs.length) (hc : p.zs.length ≤ p.c) (w : World) (x : Int) (hx : x = m) : (Instr.sliceAt 37 p.val none (some (.int .i64 x)) none).run Try.prog w = .ok (p.to m).val w := by
  subst hx
  obtain ⟨a, c, zs⟩ := p
  simp only at hm hc
  cases hq : Try.prog.info? 5 with
  | none => have := sizeU8; rw [hq] at this; simp at this
  | some i =>
    have hs : i.size = 1 := by have := sizeU8; rw [hq] at this; simpa using this
    have h1 : ¬ c < m := by omega
    have ea : (if c = 0 then a else Option.map (fun x => x.add 0) a) = a := by
      split
      · rfl
      · cases a with
        | none => rfl
        | some x => simp [Addr.add]
    have em : min m zs.length = m := by omega
    simp [Instr.sliceAt, Instr.slice, run_underlying Try.underlying37, Instr.sliceBounds, Instr.sliceBound, asIntOf, sizeOf, typeInfo, hq, hs, Part.val, Part.to, h1, em]
    first | exact ea | (split <;> simp_all)
theorem part_mid (p : Part) (l m : Nat) (hl : l ≤ m) (hm : m ≤ p.zs.length) (hc : p.zs.length ≤ p.c) (w : World) (x y : Int) (hx : x = l) (hy : y = m) : (Instr.sliceAt 37 p.val (some (.int .i64 x)) (some (.int .i64 y)) none).run Try.prog w = .ok (p.mid l m).val w := by
  subst hx hy
  obtain ⟨a, c, zs⟩ := p
  simp only at hm hc
  cases hq : Try.prog.info? 5 with
  | none => have := sizeU8; rw [hq] at this; simp at this
  | some i =>
    have hs : i.size = 1 := by have := sizeU8; rw [hq] at this; simpa using this
    have h1 : ¬ c < m := by omega
    have h2 : ¬ m < l := by omega
    have em : min m zs.length = m := by omega
    simp [Instr.sliceAt, Instr.slice, run_underlying Try.underlying37, Instr.sliceBounds, Instr.sliceBound, asIntOf, sizeOf, typeInfo, hq, hs, Part.val, Part.mid, Part.to, Part.from, h1, h2, em]
    rw [if_pos (by omega), if_pos hl]
    rfl

/-! ### The document's bound, of one part -/
set_option maxHeartbeats 800000 in
theorem beyond1 (g : Nat) (pt : Part) (w : World) (hg : w.cell? ⟨g, 0, none⟩ = some pt.val) (hl : pt.zs.length ≤ 140737488351232) :
    Calls Try.prog 9 #[.slice (some ⟨g, 0, none⟩) 1 1] w fun e w' => e = .returned (.bool (decide (2147483647 ≤ pt.zs.length))) ∧ w' = w := by
  unfold Part.val at hg
  generalize pt.zs.length = L at *
  by_cases hL : L ≤ 2147483647
  · have hmin : min (L : Int) 2147483647 = L := by omega
    have HR : Hid (decide (2147483647 ≤ L) = decide ((2147483647 : Int) < 1 + (L : Int))) := by unfold Hid; rw [Bool.eq_iff_iff]; simp; omega
    go_enter Try.func9, Try.ntmps9
    go_wp2
    refine wp_loop_rounds 2 ?_
    rw [rounds_succ]
    go_wp2
    rw [rounds_succ]
    go_wp2
    go_ret
    exact ⟨by rw [HR.out]; rfl, rfl⟩
  · have hmin : min (L : Int) 2147483647 = 2147483647 := by omega
    have HR : Hid (decide (2147483647 ≤ L) = true) := by unfold Hid; simp; omega
    go_enter Try.func9, Try.ntmps9
    go_wp2
    refine wp_loop_rounds 2 ?_
    rw [rounds_succ]
    go_wp2
    rw [rounds_succ]
    go_wp2
    go_ret
    exact ⟨by rw [HR.out]; rfl, rfl⟩

/-! ### One part, four parts -/
theorem sum1 (g : Nat) (pt : Part) (w : World) (hg : w.cell? ⟨g, 0, none⟩ = some pt.val) (hok : pt.ok w) (hl : pt.zs.length ≤ 140737488351232) :
    Calls Try.prog 11 #[.slice (some ⟨g, 0, none⟩) 1 1] w fun e w' => e = .returned (.agg (u8s (sha pt.zs)).toArray) ∧ Below w.heap.size w w' := by
  have h := sum_any (some ⟨g, 0, none⟩) 1 [pt] w ⟨fun i hi => by
    have : i = 0 := by simp at hi; omega
    subst this
    exact ⟨g, 0, rfl, by simpa using hg⟩, fun p hp => by simp at hp; subst hp; exact hok⟩ (by simp [flat]; omega) (by simp)
  have e : flat [pt] = pt.zs := by simp [flat]
  rw [e] at h
  exact h
theorem cut3 (zs : List Int) (I K : Nat) (h1 : I ≤ K) (h2 : K ≤ zs.length) : zs.take I ++ ((zs.take K).drop I ++ zs.drop K) = zs := by
  have e : (zs.take K).take I = zs.take I := by rw [List.take_take, Nat.min_eq_left h1]
  rw [← List.append_assoc, ← e, List.take_append_drop, List.take_append_drop]
theorem sum4 (g I K : Nat) (pt : Part) (w : World) (h1 : I ≤ K) (h2 : K ≤ pt.zs.length) (hg : w.heap[g]? = some (.cells #[(pt.to I).val, .slice none 0 0, (pt.mid I K).val, (pt.from K).val] 37 (0, 0))) (hok : pt.ok w) (hl : pt.zs.length ≤ 140737488351232) :
    Calls Try.prog 11 #[.slice (some ⟨g, 0, none⟩) 4 4] w fun e w' => e = .returned (.agg (u8s (sha pt.zs)).toArray) ∧ Below w.heap.size w w' := by
  have e : flat [pt.to I, Part.nil, pt.mid I K, pt.from K] = pt.zs := by
    have := cut3 pt.zs I K h1 h2
    simpa [flat, Part.to, Part.mid, Part.from, Part.nil] using this
  have h := sum_any (some ⟨g, 0, none⟩) 4 [pt.to I, Part.nil, pt.mid I K, pt.from K] w ⟨fun i hi => by
    refine ⟨g, 0, rfl, ?_⟩
    rw [cell_of_heap hg, Nat.zero_add]
    have : i = 0 ∨ i = 1 ∨ i = 2 ∨ i = 3 := by simp at hi; omega
    rcases this with rfl | rfl | rfl | rfl <;> rfl, fun p hp => by
    simp only [List.mem_cons, List.not_mem_nil, or_false] at hp
    rcases hp with rfl | rfl | rfl | rfl
    · exact Part.to_ok hok I (by omega)
    · exact ⟨by simp [Part.nil], by simp [Part.nil], Or.inl rfl⟩
    · exact Part.mid_ok hok I K h2 h1
    · exact Part.from_ok hok K h2⟩ (by rw [e]; omega) (by simp)
  rw [e] at h
  exact h
theorem write_p (g : Nat) (w : World) (ys : List Int) (p : Part) (hy : ∀ z, z ∈ ys → 0 ≤ z ∧ z ≤ 255) (hn : ys.length + p.zs.length ≤ 140737488351232) (hg : w.heap[g]? = some (.cells (absorb hsI ys).cells.toArray 56 (0, 0))) (hok : p.ok w) (hf : p.off g) :
    Calls Try.prog 17 #[.pointer (some ⟨g, 0, none⟩), p.val] w fun e w' => e = .returned (.tuple #[]) ∧ w'.heap[g]? = some (.cells (absorb hsI (ys ++ p.zs)).cells.toArray 56 (0, 0)) ∧ But g w w' := by
  rw [absorb_app]
  exact write_any g (absorb hsI ys) p w (absorb_ok _ _ hsI_ok hy) hg hok hf (by rw [absorb_n]; show 0 + _ + _ ≤ _; omega)
theorem hsum_p (g : Nat) (w : World) (zs : List Int) (hz : ∀ z, z ∈ zs → 0 ≤ z ∧ z ≤ 255) (hn : zs.length ≤ 140737488351232) (hg : w.heap[g]? = some (.cells (absorb hsI zs).cells.toArray 56 (0, 0))) :
    Calls Try.prog 19 #[.pointer (some ⟨g, 0, none⟩)] w fun e w' => e = .returned (.agg (u8s (sha zs)).toArray) ∧ Below w.heap.size w w' :=
  hsum_any g (absorb hsI zs) w (absorb_ok _ _ hsI_ok hz) hg (by rw [absorb_n]; show 0 + _ ≤ _; omega)
end Go.Proofs.Ytanmidiapbghnaa
