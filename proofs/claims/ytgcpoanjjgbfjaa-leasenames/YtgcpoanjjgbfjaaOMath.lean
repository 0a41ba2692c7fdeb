/-
  Options, without memory: how they are laid, how they are read.
-/
import Derived.Test.YtgcpoanjjgbfjaaBMem
namespace Go.Proofs.Ytgcpoanjjgbfjaa
open Go.RowKit
set_option linter.all false

/-- an option: its code, its bytes. -/
abbrev Opt := Int × List Int
/-- the pieces of an option's bytes. -/
def chop (zs : List Int) : List (List Int) := if h : zs.length ≤ 255 then [zs] else zs.take 255 :: chop (zs.drop 255)
termination_by zs.length
decreasing_by simp; omega
def layP (c : Int) (p : List Int) : List Int := c :: (p.length : Int) :: p
def layO (o : Opt) : List Int := (chop o.2).flatMap (layP o.1)
def layL (L : List Opt) : List Int := L.flatMap layO
def packB (L : List Opt) : List Int := layL L ++ [255]
theorem chop_short {zs : List Int} (h : zs.length ≤ 255) : chop zs = [zs] := by rw [chop, dif_pos h]
theorem chop_long {zs : List Int} (h : ¬ zs.length ≤ 255) : chop zs = zs.take 255 :: chop (zs.drop 255) := by rw [chop, dif_neg h]
theorem chop_join (zs : List Int) : (chop zs).flatten = zs := by
  fun_induction chop zs with
  | case1 zs h => simp
  | case2 zs h ih => simp [ih]
theorem chop_mem {p zs : List Int} (h : p ∈ chop zs) : p.length ≤ 255 ∧ ∀ z, z ∈ p → z ∈ zs := by
  fun_induction chop zs with
  | case1 zs hl => simp at h; subst h; exact ⟨hl, fun z hz => hz⟩
  | case2 zs hl ih =>
    rcases List.mem_cons.1 h with rfl | h
    · exact ⟨by simp; omega, fun z hz => List.mem_of_mem_take hz⟩
    · exact ⟨(ih h).1, fun z hz => List.mem_of_mem_drop ((ih h).2 z hz)⟩
/-- how many pieces there are. -/
def pieceN (n : Nat) : Nat := max 1 ((n + 254) / 255)
theorem chop_len (zs : List Int) : (chop zs).length = pieceN zs.length := by
  fun_induction chop zs with
  | case1 zs h => simp [pieceN]; omega
  | case2 zs h ih => simp only [List.length_cons, ih, pieceN, List.length_drop]; omega
theorem layP_len (c : Int) (p : List Int) : (layP c p).length = p.length + 2 := by simp [layP]
theorem flatP_len (c : Int) : ∀ ps : List (List Int), (ps.flatMap (layP c)).length = ps.flatten.length + 2 * ps.length
  | [] => rfl
  | p :: ps => by rw [List.flatMap_cons, List.length_append, flatP_len c ps, layP_len, List.flatten_cons, List.length_append, List.length_cons]; omega
theorem layO_len (o : Opt) : (layO o).length = o.2.length + 2 * pieceN o.2.length := by
  unfold layO
  rw [flatP_len, chop_join, chop_len]
theorem layL_cons (o : Opt) (L : List Opt) : layL (o :: L) = layO o ++ layL L := by simp [layL]
theorem layL_app (K L : List Opt) : layL (K ++ L) = layL K ++ layL L := by simp [layL]
theorem layO_bd {o : Opt} (hc : 0 ≤ o.1 ∧ o.1 ≤ 255) (hz : ∀ z, z ∈ o.2 → 0 ≤ z ∧ z ≤ 255) : ∀ z, z ∈ layO o → 0 ≤ z ∧ z ≤ 255 := fun z h => by
  obtain ⟨p, hp, h⟩ := List.mem_flatMap.1 h
  have hm := chop_mem hp
  simp only [layP, List.mem_cons] at h
  rcases h with rfl | rfl | h
  · exact hc
  · omega
  · exact hz z (hm.2 z h)

/-- codes that may be written, none of which stands twice. -/
def Apart (L : List Opt) : Prop := (∀ o ∈ L, 1 ≤ o.1 ∧ o.1 ≤ 254) ∧ (L.map Prod.fst).Nodup
instance (L : List Opt) : Decidable (Apart L) := by unfold Apart; infer_instance
theorem apart_nil : Apart [] := ⟨by simp, by simp⟩
theorem apart_snoc {L : List Opt} {o : Opt} : Apart (L ++ [o]) ↔ Apart L ∧ (1 ≤ o.1 ∧ o.1 ≤ 254) ∧ o.1 ∉ L.map Prod.fst := by
  unfold Apart
  simp only [List.mem_append, List.mem_singleton, List.map_append, List.map_cons, List.map_nil, List.nodup_append]
  constructor
  · rintro ⟨h1, h2, _, h3⟩
    exact ⟨⟨fun x hx => h1 x (Or.inl hx), h2⟩, h1 o (Or.inr rfl), fun hm => h3 _ hm _ (by simp) rfl⟩
  · rintro ⟨⟨h1, h2⟩, h3, h4⟩
    refine ⟨fun x hx => ?_, h2, by simp, fun x hx y hy e => ?_⟩
    · rcases hx with hx | rfl
      · exact h1 x hx
      · exact h3
    · subst hy e
      exact h4 hx
theorem apart_left {K L : List Opt} (h : Apart (K ++ L)) : Apart K := ⟨fun o ho => h.1 o (by simp [ho]), by have := h.2; rw [List.map_append, List.nodup_append] at this; exact this.1⟩
/-- the error of Pack. -/
def packE (L : List Opt) (room : Int) : Int := if Apart L then (if 64 < L.length then 2 else if room < ((packB L).length : Int) then 2 else 0) else 150
def packA (L : List Opt) (room : Int) : List Int := if packE L room = 0 then packB L else []

/-! ### Parse -/
/-- the place of a code; the list's length: none. -/
def plc (g : List Opt) (c : Int) : Nat := g.findIdx (fun o => o.1 == c)
def layG (g : List Opt) (c : Int) (zs : List Int) : List Opt := if plc g c < g.length then g.set (plc g c) (c, (g.getD (plc g c) (0, [])).2 ++ zs) else g ++ [(c, zs)]
def readG (g : List Opt) (l : List Int) : Except Int (List Opt) :=
  match l with
  | [] => .ok g
  | c :: r => if c = 255 then .ok g else if c = 0 then readG g r else if g.length ≤ plc g c ∧ g.length = 64 then .error 2 else
    match r with
    | [] => .error 5
    | n :: r' => if r'.length < n.toNat then .error 5 else readG (layG g c (r'.take n.toNat)) (r'.drop n.toNat)
termination_by l.length
decreasing_by all_goals (simp; try omega)
def parseG (g : List Opt) : List (List Int) → Except Int (List Opt)
  | [] => .ok g
  | p :: ps => match readG g p with
    | .ok g' => parseG g' ps
    | .error e => .error e
theorem readG_nil (g : List Opt) : readG g [] = .ok g := by rw [readG]
theorem readG_end (g : List Opt) (r : List Int) : readG g (255 :: r) = .ok g := by rw [readG.eq_def]; simp
theorem readG_pad (g : List Opt) (r : List Int) : readG g (0 :: r) = readG g r := by rw [readG.eq_def]; simp
theorem readG_long {g : List Opt} {c : Int} {r : List Int} (h1 : c ≠ 255) (h0 : c ≠ 0) (h : g.length ≤ plc g c ∧ g.length = 64) : readG g (c :: r) = .error 2 := by rw [readG.eq_def]; simp only [if_neg h1, if_neg h0, if_pos h]
theorem readG_bare {g : List Opt} {c : Int} (h1 : c ≠ 255) (h0 : c ≠ 0) (h : ¬ (g.length ≤ plc g c ∧ g.length = 64)) : readG g [c] = .error 5 := by rw [readG.eq_def]; simp only [if_neg h1, if_neg h0, if_neg h]
theorem readG_short {g : List Opt} {c n : Int} {r : List Int} (h1 : c ≠ 255) (h0 : c ≠ 0) (h : ¬ (g.length ≤ plc g c ∧ g.length = 64)) (hn : r.length < n.toNat) : readG g (c :: n :: r) = .error 5 := by rw [readG.eq_def]; simp only [if_neg h1, if_neg h0, if_neg h, if_pos hn]
theorem readG_lay {g : List Opt} {c n : Int} {r : List Int} (h1 : c ≠ 255) (h0 : c ≠ 0) (h : ¬ (g.length ≤ plc g c ∧ g.length = 64)) (hn : ¬ r.length < n.toNat) : readG g (c :: n :: r) = readG (layG g c (r.take n.toNat)) (r.drop n.toNat) := by rw [readG.eq_def]; simp only [if_neg h1, if_neg h0, if_neg h, if_neg hn]
theorem plc_le (g : List Opt) (c : Int) : plc g c ≤ g.length := List.findIdx_le_length
theorem plc_at {g : List Opt} {c : Int} (h : plc g c < g.length) : (g.getD (plc g c) (0, [])).1 = c := by
  have := List.findIdx_getElem (w := h)
  rw [List.getD_eq_getElem?_getD, List.getElem?_eq_getElem h]
  simp only [beq_iff_eq] at this
  exact this
theorem plc_not {g : List Opt} {c : Int} : ¬ plc g c < g.length ↔ c ∉ g.map Prod.fst := by
  unfold plc
  rw [List.findIdx_lt_length]
  simp
theorem plc_new {g : List Opt} {c d : Int} (zs : List Int) (h : d ≠ c) : plc (g ++ [(c, zs)]) d = if plc g d < g.length then plc g d else g.length + 1 := by
  unfold plc
  rw [List.findIdx_append]
  split
  · rfl
  · have : (c == d) = false := by simp; exact fun e => h e.symm
    rw [List.findIdx_cons, this]
    simp
    omega
theorem plc_self {g : List Opt} {c : Int} (zs : List Int) (h : ¬ plc g c < g.length) : plc (g ++ [(c, zs)]) c = g.length := by
  unfold plc at h ⊢
  rw [List.findIdx_append, if_neg h, List.findIdx_cons]
  simp
theorem set_codes {g : List Opt} {k : Nat} {o : Opt} (h : (g.getD k (0, [])).1 = o.1) : (g.set k o).map Prod.fst = g.map Prod.fst := by
  apply List.ext_getElem?
  intro j
  simp only [List.getElem?_map, List.getElem?_set]
  by_cases hj : k = j
  · subst hj
    by_cases hl : k < g.length
    · rw [List.getD_eq_getElem?_getD, List.getElem?_eq_getElem hl] at h
      simp at h
      simp [hl, h]
    · simp [hl]
  · simp [hj]
theorem plc_codes {g g' : List Opt} (h : g'.map Prod.fst = g.map Prod.fst) (c : Int) : plc g' c = plc g c := by
  have e : ∀ l : List Opt, plc l c = (l.map Prod.fst).findIdx (· == c) := fun l => by
    unfold plc
    rw [List.findIdx_map]
    rfl
  rw [e, e, h]
theorem layG_codes {g : List Opt} {c : Int} (zs : List Int) (h : plc g c < g.length) : (layG g c zs).map Prod.fst = g.map Prod.fst := by
  unfold layG
  rw [if_pos h]
  exact set_codes (plc_at h)
theorem layG_len (g : List Opt) (c : Int) (zs : List Int) : (layG g c zs).length = if plc g c < g.length then g.length else g.length + 1 := by
  unfold layG
  split <;> simp
/-- twice the same code. -/
theorem layG_twice (g : List Opt) (c : Int) (xs ys : List Int) : layG (layG g c xs) c ys = layG g c (xs ++ ys) := by
  by_cases h : plc g c < g.length
  · have h2 : plc (layG g c xs) c = plc g c := plc_codes (layG_codes xs h) c
    have hl : (layG g c xs).length = g.length := by rw [layG_len, if_pos h]
    rw [layG, h2, hl, if_pos h]
    simp only [layG, if_pos h]
    rw [List.set_set, List.getD_eq_getElem?_getD, List.getElem?_set_self (by simpa using h)]
    simp
  · have h2 : layG g c xs = g ++ [(c, xs)] := by rw [layG, if_neg h]
    rw [h2, layG, plc_self xs h, if_pos (by simp), layG, if_neg h]
    rw [List.set_append_right _ _ (Nat.le_refl _), List.getD_eq_getElem?_getD]
    simp
def noLong (g : List Opt) (c : Int) : Prop := ¬ (g.length ≤ plc g c ∧ g.length = 64)
theorem noLong_lay {g : List Opt} {c : Int} (zs : List Int) (h : noLong g c) : noLong (layG g c zs) c := by
  by_cases hp : plc g c < g.length
  · have h2 : plc (layG g c zs) c = plc g c := plc_codes (layG_codes zs hp) c
    have hl : (layG g c zs).length = g.length := by rw [layG_len, if_pos hp]
    unfold noLong
    rw [h2, hl]
    omega
  · have h2 : layG g c zs = g ++ [(c, zs)] := by rw [layG, if_neg hp]
    unfold noLong
    rw [h2, plc_self zs hp]
    simp only [List.length_append, List.length_cons, List.length_nil]
    omega
/-- a piece is read. -/
theorem readG_piece {g : List Opt} {c : Int} {p : List Int} (r : List Int) (h1 : c ≠ 255) (h0 : c ≠ 0) (h : noLong g c) : readG g (layP c p ++ r) = readG (layG g c p) r := by
  unfold layP
  rw [List.cons_append, List.cons_append, readG_lay h1 h0 h (by simp)]
  simp
theorem readG_opt {g : List Opt} {c : Int} {zs : List Int} (r : List Int) (h1 : c ≠ 255) (h0 : c ≠ 0) (h : noLong g c) : readG g (layO (c, zs) ++ r) = readG (layG g c zs) r := by
  unfold layO
  simp only
  fun_induction chop zs generalizing g with
  | case1 zs hl => simp only [List.flatMap_cons, List.flatMap_nil, List.append_nil]; exact readG_piece r h1 h0 h
  | case2 zs hl ih =>
    rw [List.flatMap_cons, List.append_assoc, readG_piece _ h1 h0 h, ih (noLong_lay _ h), layG_twice, List.take_append_drop]
theorem readG_all : ∀ (L g : List Opt) (r : List Int), Apart (g ++ L) → (g ++ L).length ≤ 64 → readG g (layL L ++ r) = readG (g ++ L) r
  | [], g, r, _, _ => by simp [layL]
  | o :: L, g, r, ha, hl => by
    have ha' : Apart ((g ++ [o]) ++ L) := by simpa using ha
    have hs := apart_snoc.1 (apart_left ha')
    have hn : ¬ plc g o.1 < g.length := plc_not.2 hs.2.2
    simp only [List.length_append, List.length_cons] at hl
    rw [layL_cons, List.append_assoc, show o = (o.1, o.2) from rfl, readG_opt _ (by have := hs.2.1; omega) (by have := hs.2.1; omega) (by unfold noLong; omega)]
    rw [layG, if_neg hn, readG_all L _ r ha' (by simp; omega)]
    simp
/-- what was packed is read, whatever stands behind it. -/
theorem read_pack {L : List Opt} (h : Apart L) (hl : L.length ≤ 64) (r : List Int) : readG [] (packB L ++ r) = .ok L := by
  have := readG_all L [] (255 :: r) (by simpa using h) (by simpa using hl)
  unfold packB
  rw [List.append_assoc]
  rw [show [255] ++ r = 255 :: r from rfl, this]
  simpa using readG_end L r
/-- what was read: codes that may be written, at most 64. -/
structure Took (g : List Opt) : Prop where
  apart : Apart g
  few : g.length ≤ 64
  oks : ∀ o ∈ g, ∀ z ∈ o.2, 0 ≤ z ∧ z ≤ 255
theorem took_nil : Took [] := ⟨apart_nil, by simp, by simp⟩
theorem took_lay {g : List Opt} {c : Int} {zs : List Int} (h : Took g) (hc : 1 ≤ c ∧ c ≤ 254) (hl : noLong g c) (hz : ∀ z ∈ zs, 0 ≤ z ∧ z ≤ 255) : Took (layG g c zs) := by
  by_cases hp : plc g c < g.length
  · have hm := layG_codes zs hp
    refine ⟨⟨fun o ho => ?_, by rw [hm]; exact h.apart.2⟩, by rw [layG_len, if_pos hp]; exact h.few, fun o ho => ?_⟩
    · have : o.1 ∈ (layG g c zs).map Prod.fst := List.mem_map.2 ⟨o, ho, rfl⟩
      rw [hm] at this
      obtain ⟨x, hx, e⟩ := List.mem_map.1 this
      rw [← e]
      exact h.apart.1 x hx
    · rw [layG, if_pos hp] at ho
      rcases List.mem_or_eq_of_mem_set ho with ho | rfl
      · exact h.oks o ho
      · intro z hz'
        rcases List.mem_append.1 hz' with h1 | h1
        · rw [List.getD_eq_getElem?_getD, List.getElem?_eq_getElem hp] at h1
          exact h.oks _ (List.getElem_mem hp) z h1
        · exact hz z h1
  · have h2 : layG g c zs = g ++ [(c, zs)] := by rw [layG, if_neg hp]
    have hle := plc_le g c
    unfold noLong at hl
    have hf := h.few
    rw [h2]
    refine ⟨apart_snoc.2 ⟨h.apart, hc, plc_not.1 hp⟩, by simp; omega, fun o ho => ?_⟩
    rcases List.mem_append.1 ho with ho | ho
    · exact h.oks o ho
    · simp at ho
      subst ho
      exact hz
def sumO (g : List Opt) : Nat := (g.map fun o => o.2.length).sum
theorem sumO_lay (g : List Opt) (c : Int) (zs : List Int) : sumO (layG g c zs) = sumO g + zs.length := by
  by_cases hp : plc g c < g.length
  · rw [layG, if_pos hp]
    have key : ∀ (l : List Opt) (k : Nat) (xs : List Int), k < l.length → sumO (l.set k (c, (l.getD k (0, [])).2 ++ xs)) = sumO l + xs.length := by
      intro l
      induction l with
      | nil => intro k xs hk; simp at hk
      | cons o l ih =>
        intro k xs hk
        cases k with
        | zero => simp [sumO]; omega
        | succ k =>
          have := ih k xs (by simpa using hk)
          simp only [List.set_cons_succ, sumO, List.map_cons, List.sum_cons, List.getD_cons_succ] at this ⊢
          omega
    exact key g _ zs hp
  · rw [layG, if_neg hp]
    simp [sumO]
theorem readG_took {g : List Opt} {l : List Int} (h : Took g) (hz : ∀ z ∈ l, 0 ≤ z ∧ z ≤ 255) : ∀ g', readG g l = .ok g' → Took g' ∧ sumO g' ≤ sumO g + l.length := by
  fun_induction readG g l with
  | case1 g => rintro g' ⟨⟩; exact ⟨h, by omega⟩
  | case2 g r => rintro g' ⟨⟩; exact ⟨h, by omega⟩
  | case3 g r h1 ih =>
    intro g' hg
    obtain ⟨a, b⟩ := ih h (fun z hz' => hz z (by simp [hz'])) g' hg
    exact ⟨a, by simp; omega⟩
  | case4 => intro g' hg; simp at hg
  | case5 => intro g' hg; simp at hg
  | case6 => intro g' hg; simp at hg
  | case7 g c h1 h0 hn n r hl ih =>
    intro g' hg
    have hc := hz c (by simp)
    obtain ⟨a, b⟩ := ih (took_lay h ⟨by omega, by omega⟩ hn (fun z hz' => hz z (by simp [List.mem_of_mem_take hz']))) (fun z hz' => hz z (by simp [List.mem_of_mem_drop hz'])) g' hg
    refine ⟨a, ?_⟩
    rw [sumO_lay] at b
    simp at b ⊢
    omega
def sumB (ps : List (List Int)) : Nat := (ps.map List.length).sum
theorem parseG_took : ∀ (ps : List (List Int)) (g : List Opt), Took g → (∀ p ∈ ps, ∀ z ∈ p, 0 ≤ z ∧ z ≤ 255) → ∀ g', parseG g ps = .ok g' → Took g' ∧ sumO g' ≤ sumO g + sumB ps
  | [], g, h, _, g', hg => by
    simp only [parseG, Except.ok.injEq] at hg
    subst hg
    exact ⟨h, by omega⟩
  | p :: ps, g, h, hz, g', hg => by
    unfold parseG at hg
    cases hr : readG g p with
    | error e => rw [hr] at hg; simp at hg
    | ok g1 =>
      rw [hr] at hg
      obtain ⟨a, b⟩ := readG_took h (hz p (by simp)) g1 hr
      obtain ⟨a', b'⟩ := parseG_took ps g1 a (fun q hq => hz q (by simp [hq])) g' hg
      refine ⟨a', ?_⟩
      simp only [sumB, List.map_cons, List.sum_cons] at b' ⊢
      omega
theorem layL_len : ∀ L : List Opt, (layL L).length ≤ sumO L + L.length * 2 + sumO L
  | [] => by simp [layL, sumO]
  | o :: L => by
    have := layL_len L
    rw [layL_cons, List.length_append, layO_len]
    simp only [sumO, List.map_cons, List.sum_cons, List.length_cons, pieceN] at this ⊢
    omega
/-- is a part whole, without an end? -/
def openB (l : List Int) : Bool :=
  match l with
  | [] => true
  | c :: r => if c = 255 then false else if c = 0 then openB r else
    match r with
    | [] => false
    | n :: r' => if r'.length < n.toNat then false else openB (r'.drop n.toNat)
termination_by l.length
decreasing_by all_goals (simp; try omega)
theorem open_read (g : List Opt) (l r : List Int) (h : openB l = true) : readG g (l ++ r) = match readG g l with | .ok g' => readG g' r | .error e => .error e := by
  fun_induction readG g l with
  | case1 g => rfl
  | case2 g r' => rw [openB.eq_def] at h; simp at h
  | case3 g r' h1 ih =>
    rw [openB.eq_def] at h
    simp only [if_neg h1] at h
    rw [List.cons_append, readG_pad]
    exact ih (by simpa using h)
  | case4 g c r' h1 h0 hl => rw [List.cons_append, readG_long h1 h0 hl]
  | case5 g c h1 h0 hl => rw [openB.eq_def] at h; simp [h1, h0] at h
  | case6 g c h1 h0 hl n r' hn => rw [openB.eq_def] at h; simp [h1, h0, hn] at h
  | case7 g c h1 h0 hl n r' hn ih =>
    rw [openB.eq_def] at h
    simp only [if_neg h1, if_neg h0, if_neg hn] at h
    rw [List.cons_append, List.cons_append, readG_lay h1 h0 hl (by simp; omega), List.take_append_of_le_length (by omega), List.drop_append_of_le_length (by omega)]
    exact ih h
/-- the first option of a code. -/
def findO (L : List Opt) (c : Int) : Option (List Int) := (L.find? (fun o => o.1 == c)).map Prod.snd
end Go.Proofs.Ytgcpoanjjgbfjaa
