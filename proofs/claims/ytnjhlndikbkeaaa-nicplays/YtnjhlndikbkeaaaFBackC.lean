/-
  What the walk of FrameBack leans on.
-/
import Derived.Test.YtnjhlndikbkeaaaFMineW
import Derived.Test.YtnjhlndikbkeaaaFSealW
import Derived.Test.YtnjhlndikbkeaaaFOpenW
namespace Go.Proofs.Ytnjhlndikbkeaaa
open Go.RowKit
set_option linter.all false

theorem sealL_bd (d s : Mac) (k : Int) (zs : List Int) (hd : d.ok) (hs : s.ok) (h1 : 1536 ≤ k) (h2 : k ≤ 65535) (hz : ∀ z, z ∈ zs → 0 ≤ z ∧ z ≤ 255) : ∀ z, z ∈ sealL d s k zs → 0 ≤ z ∧ z ≤ 255 := fun z h => by
  simp only [sealL, List.mem_append, List.mem_replicate] at h
  rcases h with (((h | h) | h) | h) | ⟨_, rfl⟩
  · exact Mac.bytes hd z h
  · exact Mac.bytes hs z h
  · simp at h; omega
  · exact hz z h
  · omega
theorem sealL_drop (d s : Mac) (k : Int) (zs : List Int) : (sealL d s k zs).drop 14 = zs ++ List.replicate (46 - zs.length) 0 := by
  simp [sealL, Mac.zs]
theorem sealL_d (d s : Mac) (k : Int) (zs : List Int) : macAt (sealL d s k zs) 0 = d := by
  cases d; simp [sealL, Mac.zs, macAt]
theorem sealL_s (d s : Mac) (k : Int) (zs : List Int) : macAt (sealL d s k zs) 6 = s := by
  cases s; simp [sealL, Mac.zs, macAt]
theorem sealL_k (d s : Mac) (k : Int) (zs : List Int) : kindAt (sealL d s k zs) = k := by
  simp [sealL, Mac.zs, kindAt]; omega
def frameGood (zs : List Int) : Prop := 60 ≤ zs.length ∧ zs.length ≤ 1514 ∧ 1536 ≤ kindAt zs
/-- bytes that were opened, sealed again. -/
theorem sealL_back (zs : List Int) (h : frameGood zs) (hz : ∀ z, z ∈ zs → 0 ≤ z ∧ z ≤ 255) : sealL (macAt zs 0) (macAt zs 6) (kindAt zs) (zs.drop 14) = zs := by
  obtain ⟨h1, h2, h3⟩ := h
  have b12 := getD_mem_bd hz 12
  have b13 := getD_mem_bd hz 13
  unfold sealL
  rw [macAt_zs zs 0 (by omega), macAt_zs zs 6 (by omega)]
  have e : [kindAt zs / 256, kindAt zs % 256] = (zs.drop 12).take 2 := by
    have e1 : kindAt zs / 256 = zs.getD 12 0 := by unfold kindAt; omega
    have e2 : kindAt zs % 256 = zs.getD 13 0 := by unfold kindAt; omega
    rw [e1, e2]
    apply List.ext_getElem
    · simp; omega
    · intro j hj1 hj2
      simp only [List.length_cons, List.length_nil] at hj1
      rcases (show j = 0 ∨ j = 1 by omega) with rfl | rfl
      all_goals
        simp [List.getD_eq_getElem?_getD]
        rw [List.getElem?_eq_getElem (by omega)]
        rfl
  rw [e]
  have e3 : 46 - (zs.drop 14).length = 0 := by simp; omega
  rw [e3]
  simp only [List.replicate_zero, List.append_nil, List.drop_zero]
  have s1 : ∀ (i n : Nat), (zs.drop i).take n ++ zs.drop (i + n) = zs.drop i := fun i n => by
    rw [← List.drop_drop, List.take_append_drop]
  rw [List.append_assoc, List.append_assoc, s1 12 2, s1 6 6]
  exact List.take_append_drop 6 zs
theorem seal_any (d s : Mac) (k : Int) (pt : Part) (w : World) (hd : d.ok) (hs : s.ok) (hl : pt.zs.length ≤ 140737488351232) (hok : pt.ok w) :
    Calls Try.prog 62 #[frameV d s k pt.val] w fun e w' => (∃ er : Int, (er = 30 ∧ (k < 1536 ∨ 65535 < k) ∨ er = 2 ∧ 1500 < pt.zs.length ∧ 1536 ≤ k ∧ k ≤ 65535) ∧ e = .returned (.tuple #[.slice none 0 0, .int .i64 er]) ∧ Below w.heap.size w w') ∨
      (1536 ≤ k ∧ k ≤ 65535 ∧ pt.zs.length ≤ 1500 ∧ ∃ g, e = .returned (.tuple #[.slice (some ⟨g, 0, none⟩) (max (14 + pt.zs.length) 60) (max (14 + pt.zs.length) 60), .int .i64 0]) ∧ w.heap.size ≤ g ∧ w'.heap[g]? = some (.cells (u8s (sealL d s k pt.zs)).toArray 5 (0, 0)) ∧ Below w.heap.size w w') := by
  by_cases h1 : k < 1536 ∨ 65535 < k
  · exact (seal_kind d s k pt.val w h1).mono fun e w' ⟨he, hb⟩ => Or.inl ⟨30, Or.inl ⟨rfl, h1⟩, he, hb⟩
  · by_cases h2 : 1500 < pt.zs.length
    · exact (seal_long d s k pt.a pt.zs.length pt.c w (by omega) (by omega) h2 (by omega)).mono fun e w' ⟨he, hb⟩ => Or.inl ⟨2, Or.inr ⟨rfl, h2, by omega, by omega⟩, he, hb⟩
    · exact (seal_ok d s k pt w hd hs (by omega) (by omega) (by omega) hok).mono fun e w' h => Or.inr ⟨by omega, by omega, by omega, h⟩
theorem open_any (pt : Part) (w : World) (hok : pt.ok w) (hl : pt.zs.length ≤ 140737488351232) :
    Calls Try.prog 59 #[pt.val] w fun e w' => (∃ er : Int, (er = 5 ∧ pt.zs.length < 60 ∨ er = 2 ∧ 1514 < pt.zs.length ∨ er = 30 ∧ 60 ≤ pt.zs.length ∧ pt.zs.length ≤ 1514 ∧ kindAt pt.zs < 1536) ∧ e = .returned (.tuple #[frameV zeroMac zeroMac 0 (.slice none 0 0), .int .i64 er]) ∧ Below w.heap.size w w') ∨
      (frameGood pt.zs ∧ ∃ g, e = .returned (.tuple #[frameV (macAt pt.zs 0) (macAt pt.zs 6) (kindAt pt.zs) (.slice (some ⟨g, 0, none⟩) (pt.zs.length - 14) (pt.zs.length - 14)), .int .i64 0]) ∧ w.heap.size ≤ g ∧ w'.heap[g]? = some (.cells (u8s (pt.zs.drop 14)).toArray 5 (0, 0)) ∧ Below w.heap.size w w') := by
  by_cases h1 : pt.zs.length < 60
  · exact (open_short pt.a pt.zs.length pt.c w h1).mono fun e w' ⟨he, hb⟩ => Or.inl ⟨5, Or.inl ⟨rfl, h1⟩, he, hb⟩
  · by_cases h2 : 1514 < pt.zs.length
    · exact (open_long pt.a pt.zs.length pt.c w h2 (by omega)).mono fun e w' ⟨he, hb⟩ => Or.inl ⟨2, Or.inr (Or.inl ⟨rfl, h2⟩), he, hb⟩
    · by_cases h3 : kindAt pt.zs < 1536
      · exact (open_kind pt w hok (by omega) (by omega) h3).mono fun e w' ⟨he, hb⟩ => Or.inl ⟨30, Or.inr (Or.inr ⟨rfl, by omega, by omega, h3⟩), he, hb⟩
      · exact (open_ok pt w hok (by omega) (by omega) (by omega)).mono fun e w' h => Or.inr ⟨⟨by omega, by omega, by omega⟩, h⟩
theorem open_sealed (d s : Mac) (k : Int) (zs : List Int) (g : Nat) (w : World) (hd : d.ok) (hs : s.ok) (h1 : 1536 ≤ k) (h2 : k ≤ 65535) (hl : zs.length ≤ 1500) (hz : ∀ z, z ∈ zs → 0 ≤ z ∧ z ≤ 255) (hg : w.heap[g]? = some (.cells (u8s (sealL d s k zs)).toArray 5 (0, 0))) :
    Calls Try.prog 59 #[.slice (some ⟨g, 0, none⟩) (max (14 + zs.length) 60) (max (14 + zs.length) 60)] w fun e w' => ∃ g', e = .returned (.tuple #[frameV d s k (.slice (some ⟨g', 0, none⟩) (max (14 + zs.length) 60 - 14) (max (14 + zs.length) 60 - 14)), .int .i64 0]) ∧ w.heap.size ≤ g' ∧ w'.heap[g']? = some (.cells (u8s (zs ++ List.replicate (46 - zs.length) 0)).toArray 5 (0, 0)) ∧ Below w.heap.size w w' := by
  have hln := sealL_len d s k zs
  have h := open_ok ⟨some ⟨g, 0, none⟩, max (14 + zs.length) 60, sealL d s k zs⟩ w (Part.of_row hg (by omega) (sealL_bd d s k zs hd hs h1 h2 hz)) (by simp only; omega) (by simp only; omega) (by simp only [sealL_k]; exact h1)
  simp only [Part.val, sealL_d, sealL_s, sealL_k, sealL_drop, hln] at h
  exact h
theorem padded_at (ps : List Int) (n j : Nat) (h : j < ps.length) : (u8s (ps ++ List.replicate n 0)).toArray[j]? = some (.int .u8 (ps.getD j 0)) := by
  rw [u8s_at _ _ (by simp; omega)]
  congr 2
  rw [List.getD_eq_getElem?_getD, List.getD_eq_getElem?_getD, List.getElem?_append_left h]
theorem padded_zero (ps : List Int) (n j : Nat) (h : ps.length ≤ j) (h2 : j < ps.length + n) : (u8s (ps ++ List.replicate n 0)).toArray[j]? = some (.int .u8 0) := by
  rw [u8s_at _ _ (by simp; omega)]
  congr 2
  rw [List.getD_eq_getElem?_getD, List.getElem?_append_right h]
  simp only [List.getElem?_replicate]
  split <;> rfl
theorem padded_conv (ps : List Int) (n g l M : Nat) (w : World) (hl : ps.length = l) (hz : ∀ z, z ∈ ps → 0 ≤ z ∧ z ≤ 255) (hM : l ≤ M) (hg : w.heap[g]? = some (.cells (u8s (ps ++ List.replicate n 0)).toArray 5 (0, 0))) :
    (convert 43 9 (.slice (some ⟨g, 0, none⟩) l M)).run Try.prog w = .ok (.string (strOfNums ps)) w := by
  have hh := conv_part ⟨some ⟨g, 0, none⟩, M, ps⟩ w (Part.of_heap hg 0 (by rw [hl]; exact hM) (fun j hj => by rw [Nat.zero_add]; exact padded_at ps n j hj) hz)
  simp only [Part.val, hl] at hh
  exact hh
theorem seal_opened (zs : List Int) (g : Nat) (w : World) (h : frameGood zs) (hz : ∀ z, z ∈ zs → 0 ≤ z ∧ z ≤ 255) (hg : w.heap[g]? = some (.cells (u8s (zs.drop 14)).toArray 5 (0, 0))) :
    Calls Try.prog 62 #[frameV (macAt zs 0) (macAt zs 6) (kindAt zs) (.slice (some ⟨g, 0, none⟩) (zs.length - 14) (zs.length - 14))] w fun e w' => ∃ g', e = .returned (.tuple #[.slice (some ⟨g', 0, none⟩) zs.length zs.length, .int .i64 0]) ∧ w'.heap[g']? = some (.cells (u8s zs).toArray 5 (0, 0)) ∧ Below w.heap.size w w' := by
  have hb := sealL_back zs h hz
  obtain ⟨h1, h2, h3⟩ := h
  have b12 := getD_mem_bd hz 12
  have b13 := getD_mem_bd hz 13
  have hk : kindAt zs ≤ 65535 := by unfold kindAt; omega
  have hl : (zs.drop 14).length = zs.length - 14 := by simp
  have hh := seal_ok (macAt zs 0) (macAt zs 6) (kindAt zs) ⟨some ⟨g, 0, none⟩, zs.length - 14, zs.drop 14⟩ w (macAt_ok hz 0) (macAt_ok hz 6) h3 hk (by simp only [hl]; omega) (Part.of_row hg (by omega) (fun z hm => hz z (List.mem_of_mem_drop hm)))
  have hm : max (14 + (zs.length - 14)) 60 = zs.length := by omega
  simp only [Part.val, hl, hm, hb] at hh
  exact hh.mono fun e w' ⟨g', he, _, hg', hbb⟩ => ⟨g', he, hg', hbb⟩
theorem bdrewN {B : Nat} {a w : World} (h : Below B a w) (n : Nat) : Below B a (w.drewN n) := ⟨h.os, h.tape, h.output, h.size, h.block⟩
end Go.Proofs.Ytnjhlndikbkeaaa
