/-
  The contract of gathered.read.
-/
import Derived.Test.YtmdkanbfpmdimaaOMeet
namespace Go.Proofs.Ytmdkanbfpmdimaa
open Go.RowKit
set_option linter.all false

def exR : Except Int (List Opt) → Int
  | .ok _ => 0
  | .error x => x
theorem metE_at (E : List (Opt × Value)) (q : Nat) : ∃ p, (metE E q)[plc (codes E) q]? = some p ∧ p.1.1 = (q : Int) ∧ (∀ zs d, codes ((metE E q).set (plc (codes E) q) (((q : Int), p.1.2 ++ zs), d)) = layG (codes E) q zs) ∧ sumO (codes (metE E q)) = sumO (codes E) := by
  unfold metE
  by_cases h : plc (codes E) q < (codes E).length
  · rw [if_pos h]
    have hl : plc (codes E) q < E.length := by simpa [codes] using h
    have hc : (codes E).getD (plc (codes E) q) (0, []) = E[plc (codes E) q].1 := by
      rw [List.getD_eq_getElem?_getD, List.getElem?_eq_getElem h]
      simp [codes]
    refine ⟨E[plc (codes E) q], List.getElem?_eq_getElem hl, ?_, fun zs d => ?_, rfl⟩
    · rw [← hc]; exact plc_at h
    · rw [layG, if_pos h, hc, codes, List.map_set]
  · rw [if_neg h]
    have hk : plc (codes E) q = E.length := by have := plc_le (codes E) q; simp only [codes, List.length_map] at *; omega
    refine ⟨((q, []), .slice none 0 0), by rw [hk]; simp, rfl, fun zs d => ?_, ?_⟩
    · rw [layG, if_neg h, hk, List.set_append_right _ _ (Nat.le_refl _)]
      simp [codes]
    · simp [codes, sumO]
theorem meet_ok (B gb : Nat) (v : Value) (E : List (Opt × Value)) (C : Array Value) (q : Nat) (w : World) (h : GI B w gb v E C) (hq : q < 255) (hf : E.length ≤ 64) (hl : noLong (codes E) q) :
    Calls Try.prog 34 #[.pointer (some ⟨gb, 0, none⟩), .int .i64 q] w fun e w' => e = .returned (.tuple #[.int .i64 (plc (codes E) q), .bool true]) ∧ Hid (∃ v' C', GI B w' gb v' (metE E q) C' ∧ Below B w w') := by
  by_cases hp : plc (codes E) q < (codes E).length
  · refine (meet_is B gb v E C q w h hq hp hf).mono ?_
    rintro e w' ⟨rfl, rfl⟩
    unfold metE
    rw [if_pos hp]
    exact ⟨rfl, v, C, h, Below.refl _ _⟩
  · have hk : plc (codes E) q = E.length := by have := plc_le (codes E) q; simp only [codes, List.length_map] at *; omega
    have h64 : E.length < 64 := by
      unfold noLong at hl
      simp only [codes, List.length_map] at hl hk
      omega
    refine (meet_new B gb v E C q w h hq hp h64).mono ?_
    rintro e w' ⟨rfl, H⟩
    unfold metE
    rw [if_neg hp, hk]
    exact ⟨rfl, H⟩
/-- the rest of a slice, from a place on. -/
theorem cut_ok {w : World} {b o c : Nat} {zs : List Int} (h : Part.ok w ⟨some ⟨b, o, none⟩, c, zs⟩) (k l : Nat) (hk : k + l ≤ zs.length) : Part.ok w ⟨if c = k then some ⟨b, o, none⟩ else some ⟨b, o + k, none⟩, c - k, (zs.drop k).take l⟩ := by
  have hc : zs.length ≤ c := h.2.1
  refine ⟨fun z hz => h.1 z (List.mem_of_mem_drop (List.mem_of_mem_take hz)), by simp; omega, ?_⟩
  by_cases he : c = k
  · left
    have : zs.drop k = [] := List.drop_eq_nil_of_le (by omega)
    rw [this]; simp
  · rw [if_neg he]
    exact (Part.sub_ok h k l (c - k) hk (by omega)).2.2
theorem cut_low {b o c k B : Nat} {zs ys : List Int} (h : ∀ b' off, (some ⟨b, o, none⟩ : Option Addr) = some ⟨b', off, none⟩ → zs ≠ [] → b' < B) (hz : ys ≠ [] → zs ≠ []) : ∀ b' off, (if c = k then some (⟨b, o, none⟩ : Addr) else some ⟨b, o + k, none⟩) = some ⟨b', off, none⟩ → ys ≠ [] → b' < B := by
  intro b' off e hy
  have : b = b' := by split at e <;> simp at e <;> exact e.1
  subst this
  exact h b o rfl (hz hy)
/-- behind a part. -/
def ReadI (B : Nat) (w : World) (gb : Nat) (R : Except Int (List Opt)) (w' : World) : Prop := (∀ g', R = .ok g' → ∃ v' E' C', GI B w' gb v' E' C' ∧ codes E' = g') ∧ Below B w w'
theorem ReadI.err {B : Nat} {w w' : World} {gb : Nat} {R : Except Int (List Opt)} {x : Int} (h : R = .error x) (hb : Below B w w') : ReadI B w gb R w' := ⟨fun g' hg => by rw [h] at hg; simp at hg, hb⟩
theorem ReadI.ok {B : Nat} {w w' : World} {gb : Nat} {R : Except Int (List Opt)} {v : Value} {E : List (Opt × Value)} {C : Array Value} (h : R = .ok (codes E)) (hg : GI B w' gb v E C) (hb : Below B w w') : ReadI B w gb R w' := ⟨fun g' e => ⟨v, E, C, hg, by rw [h] at e; simpa using e⟩, hb⟩
def lenV : Value → Nat
  | .slice _ n _ => n
  | _ => 0
set_option maxRecDepth 20000 in
set_option maxHeartbeats 4000000 in
theorem read_any (B gb : Nat) (v : Value) (E : List (Opt × Value)) (C : Array Value) (pt : Part) (w : World) (h : GI B w gb v E C) (hf : E.length ≤ 64) (hok : pt.ok w) (hlow : ∀ b off, pt.a = some ⟨b, off, none⟩ → pt.zs ≠ [] → b < B) (hl : sumO (codes E) + pt.zs.length ≤ 140737488353280) :
    Calls Try.prog 23 #[.pointer (some ⟨gb, 0, none⟩), pt.val] w fun e w' => e = .returned (.int .i64 (exR (readG (codes E) pt.zs))) ∧ Hid (ReadI B w gb (readG (codes E) pt.zs) w') := by
  unfold Part.val
  obtain ⟨R, hR⟩ : ∃ R, R = readG (codes E) pt.zs := ⟨_, rfl⟩
  rw [← hR]
  have HI0 : Hid (GI B w gb v E C ∧ readG (codes E) pt.zs = R ∧ E.length ≤ 64 ∧ sumO (codes E) + pt.zs.length ≤ 140737488353280 ∧ Below B w w) := ⟨h, hR.symm, hf, hl, Below.refl _ _⟩
  have HQ0 : Hid (pt.ok w ∧ ∀ b off, pt.a = some ⟨b, off, none⟩ → pt.zs ≠ [] → b < B) := ⟨hok, hlow⟩
  clear hR h hf hl hok hlow
  go_enter Try.func23, Try.ntmps23
  go_wp2
  go_loopw [5] (fun r wr => ∃ (q : Part) (v : Value) (E : List (Opt × Value)) (C : Array Value), r = .slice q.a q.zs.length q.c ∧ Hid (q.ok w ∧ ∀ b off, q.a = some ⟨b, off, none⟩ → q.zs ≠ [] → b < B) ∧ Hid (GI B wr gb v E C ∧ readG (codes E) q.zs = R ∧ E.length ≤ 64 ∧ sumO (codes E) + q.zs.length ≤ 140737488353280 ∧ Below B w wr)) (fun r _ => lenV r)
  case atStart => exact ⟨pt, v, E, C, rfl, HQ0, HI0⟩
  case round =>
    clear HI0 HQ0
    obtain ⟨⟨qa, qc, qz⟩, v, E, C, rfl, HQ, HG⟩ := hrel
    cases qz with
    | nil =>
      have HR : Hid (R = .ok (codes E)) := by rw [← HG.out.2.1]; exact readG_nil _
      simp only [List.length_nil]
      go_wp2
      go_ret
      exact ⟨by rw [HR.out]; rfl, ReadI.ok HR.out HG.out.1 HG.out.2.2.2.2⟩
    | cons c r =>
      obtain ⟨b, o, hqa⟩ : ∃ b o, qa = some ⟨b, o, none⟩ := by
        rcases HQ.out.1.2.2 with h | ⟨b, o, ha, _⟩
        · simp at h
        · exact ⟨b, o, ha⟩
      subst hqa
      have HW : Hid (∀ wx, Below B w wx → Part.ok wx ⟨some ⟨b, o, none⟩, qc, c :: r⟩) := fun wx hb => Part.ok_lo HQ.out.1 HQ.out.2 hb
      have HC : Hid (∀ wx, Below B w wx → ∀ j, j < (c :: r).length → wx.cell? ⟨b, o + j, none⟩ = some (.int .u8 ((c :: r).getD j 0))) := fun wx hb j hj => by
        rcases (HW.out wx hb).2.2 with h | ⟨b', o', ha, hc⟩
        · simp at h
        · simp only [Option.some.injEq, Addr.mk.injEq] at ha
          obtain ⟨rfl, rfl, _⟩ := ha
          exact hc j hj
      have hc0 : wr.cell? ⟨b, o, none⟩ = some (.int .u8 c) := HC.out wr HG.out.2.2.2.2 0 (by simp)
      have hcb := HQ.out.1.1 c (by simp)
      have hcap : (c :: r).length ≤ qc := HQ.out.1.2.1
      have hlen : (c :: r).length ≤ 140737488353280 := by have := HG.out.2.2.2.1; simp only at this; omega
      simp only [List.length_cons] at hcap hlen ⊢
      obtain ⟨n, hn⟩ : ∃ n, n = r.length := ⟨_, rfl⟩
      have HN := hid hn
      rw [← hn] at hcap hlen ⊢
      clear hn
      obtain ⟨hcb0, hcb1⟩ := hcb
      by_cases h255 : c = 255
      · subst h255
        have HR : Hid (R = .ok (codes E)) := by rw [← HG.out.2.1]; exact readG_end _ _
        go_wp2
        go_ret
        exact ⟨by rw [HR.out]; rfl, ReadI.ok HR.out HG.out.1 HG.out.2.2.2.2⟩
      · have hne : (c != 255) = true := by simpa using h255
        by_cases h0 : c = 0
        · subst h0
          clear h255
          go_wp2
          go_roundw
          case rel =>
            refine ⟨⟨if qc = 1 then some ⟨b, o, none⟩ else some ⟨b, o + 1, none⟩, qc - 1, r⟩, v, E, C, by simp [HN.out], ⟨?_, cut_low HQ.out.2 (fun _ => by simp)⟩, HG.out.1, ?_, HG.out.2.2.1, ?_, HG.out.2.2.2.2⟩
            · have := cut_ok HQ.out.1 1 r.length (by simp; omega)
              simpa using this
            · rw [← HG.out.2.1]; exact (readG_pad _ _).symm
            · have := HG.out.2.2.2.1; simp at this ⊢; omega
          case measure => simp [lenV]
        · have hne0 : (c == 0) = false := by simpa using h0
          obtain ⟨q, rfl⟩ : ∃ q : Nat, c = (q : Int) := ⟨c.toNat, by omega⟩
          have hq : q < 255 := by omega
          have hqv : (q : Int) ≠ 255 := h255
          have hqz : (q : Int) ≠ 0 := h0
          have H0 := hid h0
          have H255 := hid h255
          clear h0 h255
          by_cases hlong : noLong (codes E) q
          · have CM := meet_ok B gb v E C q wr HG.out.1 hq HG.out.2.2.1 hlong
            obtain ⟨p, hp1, hp2, hp3, hp4⟩ := metE_at E q
            obtain ⟨K, hK⟩ : ∃ K, K = plc (codes E) q := ⟨_, rfl⟩
            rw [← hK] at CM hp1 hp3
            have HP := hid (And.intro hp1 (And.intro hp2 (And.intro hp3 hp4)))
            clear hp1 hp2 hp3 hp4 hK
            cases r with
            | nil =>
              have HR : Hid (R = .error 5) := by rw [← HG.out.2.1]; exact readG_bare H255.out H0.out hlong
              have hn0 : n = 0 := HN.out
              subst hn0
              go_wp2_with (first
                | (go_at_call 34; refine CM.mono ?_; rintro e w1 ⟨rfl, H1⟩))
              go_ret
              obtain ⟨v', C', h1, h2⟩ := H1.out
              exact ⟨by rw [HR.out]; rfl, ReadI.err HR.out (HG.out.2.2.2.2.trans h2)⟩
            | cons m r =>
              have hmb := HQ.out.1.1 m (by simp)
              obtain ⟨mm, rfl⟩ : ∃ mm : Nat, m = (mm : Int) := ⟨m.toNat, by omega⟩
              have CC : Calls Try.prog 34 #[.pointer (some ⟨gb, 0, none⟩), .int .i64 q] wr fun e w' => e = .returned (.tuple #[.int .i64 K, .bool true]) ∧ w'.cell? ⟨b, o + 1, none⟩ = some (.int .u8 mm) ∧ Hid (∃ v' C', GI B w' gb v' (metE E q) C' ∧ Below B wr w') := by
                refine CM.mono ?_
                rintro e w' ⟨h1, h2⟩
                obtain ⟨v', C', h3, h4⟩ := h2.out
                exact ⟨h1, by simpa using HC.out w' (HG.out.2.2.2.2.trans h4) 1 (by simp), h2⟩
              obtain ⟨n1, hn1⟩ : ∃ n1, n1 = r.length := ⟨_, rfl⟩
              have hnn : n = n1 + 1 := by rw [HN.out, hn1]; simp
              subst hnn
              have HN1 := hid hn1
              clear hn1 CM
              by_cases hsh : n1 < mm
              · have HR : Hid (R = .error 5) := by rw [← HG.out.2.1]; exact readG_short H255.out H0.out hlong (by rw [← HN1.out]; simpa using hsh)
                go_wp2_with (first
                  | (go_at_call 34; refine CC.mono ?_; rintro e w1 ⟨rfl, hm1, H1⟩))
                go_ret
                obtain ⟨v', C', h1, h2⟩ := H1.out
                exact ⟨by rw [HR.out]; rfl, ReadI.err HR.out (HG.out.2.2.2.2.trans h2)⟩
              · have HRL : Hid (readG (layG (codes E) q (r.take mm)) (r.drop mm) = R) := by
                  have := readG_lay (r := r) H255.out H0.out hlong (n := (mm : Int)) (by rw [← HN1.out]; simpa using hsh)
                  rw [Int.toNat_natCast] at this
                  rw [← this]
                  exact HG.out.2.1
                have CC2 : Calls Try.prog 34 #[.pointer (some ⟨gb, 0, none⟩), .int .i64 q] wr fun e w' => e = .returned (.tuple #[.int .i64 K, .bool true]) ∧ w'.cell? ⟨b, o + 1, none⟩ = some (.int .u8 mm) ∧
                    ∃ g1 n1 c1 da dn dc a2 n2 c2 w2 u, K < n1 ∧ w'.cell? ⟨gb, 0, none⟩ = some (.slice (some ⟨g1, 0, none⟩) n1 c1) ∧ w'.cell? ⟨g1, K * 2 + 1, none⟩ = some (.slice da dn dc) ∧
                      Hid ((Builtin.append_ #[41, 41] 41 #[.slice da dn dc, .slice (if qc = 2 then some ⟨b, o, none⟩ else some ⟨b, o + 2, none⟩) mm (qc - 2)]).run Try.prog w'.drew = .ok (.slice a2 n2 c2) w2) ∧
                      w2.cell? ⟨g1, K * 2 + 1, none⟩ = some u ∧ w2.frozen? ⟨g1, K * 2 + 1, none⟩ = false ∧ w2.cell? ⟨gb, 0, none⟩ = some (.slice (some ⟨g1, 0, none⟩) n1 c1) ∧
                      Hid (∃ v' E' C', GI B (w2.setCell ⟨g1, K * 2 + 1, none⟩ (.slice a2 n2 c2)) gb v' E' C' ∧ codes E' = layG (codes E) q (r.take mm) ∧ E'.length ≤ 64 ∧ Below B w (w2.setCell ⟨g1, K * 2 + 1, none⟩ (.slice a2 n2 c2))) := by
                  refine CC.mono ?_
                  rintro e w' ⟨h1, h2, h3⟩
                  obtain ⟨v', C', G1, hb1⟩ := h3.out
                  obtain ⟨p1, p2, p3, p4⟩ := HP.out
                  have hKl : K < (metE E q).length := (List.getElem?_eq_some_iff.1 p1).1
                  obtain ⟨g1, c1, e1, _, _⟩ := G1.own.row.some_of (by omega)
                  subst e1
                  have hpm := List.mem_of_getElem? p1
                  obtain ⟨da, dc, e2, _⟩ := (G1.own.data p hpm).form
                  rw [u8s_len] at e2
                  have hbw := HG.out.2.2.2.2.trans hb1
                  have hpo : Part.ok w'.drew ⟨if qc = 2 then some ⟨b, o, none⟩ else some ⟨b, o + 2, none⟩, qc - 2, r.take mm⟩ := by
                    have := cut_ok (HW.out w'.drew hbw.drew) 2 mm (by simp only [List.length_cons, ← HN1.out]; omega)
                    simpa using this
                  have hml : (r.take mm).length = mm := by rw [List.length_take, ← HN1.out]; omega
                  have hsum : p.1.2.length ≤ sumO (codes (metE E q)) := by
                    unfold sumO
                    have : p.1 ∈ codes (metE E q) := List.mem_map.2 ⟨p, hpm, rfl⟩
                    obtain ⟨s, t, hst⟩ := List.append_of_mem this
                    rw [hst]
                    simp
                    omega
                  have hbd : p.1.2.length + mm ≤ 140737488355328 := by
                    have := HG.out.2.2.2.1
                    simp only [List.length_cons, ← HN1.out] at this
                    rw [p4] at hsum
                    omega
                  obtain ⟨v2, w2, r2, row2, gr2, loc2⟩ := append_part ((G1.own.data p hpm).keep (w' := w'.drew) (fun _ _ => rfl)) _ hpo (by rw [hml]; exact hbd) 41
                  obtain ⟨a2, c2, e3, _⟩ := row2.form
                  rw [u8s_len] at e3
                  obtain ⟨⟨u, hu⟩, hfz, O2, B2⟩ := (G1.own.below (Below.refl _ _).drew).turn (w1 := w2) (zs := p.1.2 ++ r.take mm) (d := v2) G1.base p1 (fun z hz => by
                    rcases List.mem_append.1 hz with hz | hz
                    · exact G1.own.oks p hpm z hz
                    · exact hpo.1 z hz) row2 gr2 loc2
                  rw [e3] at r2 O2 B2
                  rw [e2] at r2
                  simp only [Part.val, hml] at r2
                  have hgne : ∀ b, p.2.ownBlock = some b → b ≠ gb := fun b hb => G1.off (Or.inr ⟨p, hpm, hb⟩)
                  have hg1 : g1 ≠ gb := G1.off (Or.inl rfl)
                  have hbox2 : (w2.setCell ⟨g1, K * 2 + 1, none⟩ (.slice a2 (p.1.2 ++ r.take mm).length c2)).heap[gb]? = some (.cells C' 61 (0, 0)) := by
                    rw [Below.heap_setCell _ _ _ _ (by simpa using fun e => hg1 e.symm), gr2.block gb (heap_lt G1.box) (fun e => hgne gb e.symm rfl)]
                    exact G1.box
                  have hcd : codes ((metE E q).set K ((p.1.1, p.1.2 ++ r.take mm), .slice a2 (p.1.2 ++ r.take mm).length c2)) = layG (codes E) q (r.take mm) := by rw [p2]; exact p3 _ _
                  have hcodes : (codes ((metE E q).set K ((p.1.1, p.1.2 ++ r.take mm), .slice a2 (p.1.2 ++ r.take mm).length c2))).map Prod.fst = (codes (metE E q)).map Prod.fst := by
                    show ((((metE E q).set K ((p.1.1, p.1.2 ++ r.take mm), .slice a2 (p.1.2 ++ r.take mm).length c2)).map Prod.fst)).map Prod.fst = _
                    rw [List.map_set]
                    refine set_codes ?_
                    rw [List.getD_eq_getElem?_getD, List.getElem?_map, p1]
                    rfl
                  refine ⟨h1, h2, g1, _, c1, da, _, dc, a2, _, c2, w2, u, hKl, by rw [cell_of_heap G1.box]; exact G1.at0, ?_, r2, hu, hfz, ?_, _, _, C', ⟨hbox2, G1.size, G1.at0, fun j hj => ?_, O2, G1.low, ?_⟩, hcd, ?_, (hbw.trans (Below.refl _ w').drew).trans B2⟩
                  · rw [← e2]
                    exact G1.own.row.cell (flatE_at _ K p p1).2
                  · have hb2 : w2.heap[gb]? = some (.cells C' 61 (0, 0)) := by
                      rw [gr2.block gb (heap_lt G1.box) (fun e => hgne gb e.symm rfl)]
                      exact G1.box
                    rw [cell_of_heap hb2]
                    exact G1.at0
                  · rw [G1.at_ j hj]
                    unfold plV
                    rw [plc_codes hcodes]
                    simp [codes]
                  · exact Nat.le_trans G1.base (by have := gr2.size; simpa [World.setCell] using this)
                  · rw [List.length_set]
                    have := layG_len (codes E) q (r.take mm)
                    rw [← hcd] at this
                    simp only [codes, List.length_map, List.length_set] at this
                    have h64 := HG.out.2.2.1
                    have hno := hlong
                    unfold noLong at hno
                    have hle := plc_le (codes E) q
                    simp only [codes, List.length_map] at hno hle
                    rw [this]
                    split <;> omega
                clear CC HP
                have hend : (2 : Int) + mm ≤ (n1 : Int) + 1 + 1 := by omega
                have hend2 : 2 + mm ≤ qc := by omega
                have hend3 : (2 : Int) + mm ≤ (qc : Int) := by omega
                have hend4 : (0 : Int) ≤ 2 + mm := by omega
                have hend5 : (2 : Int) ≤ max (2 + (mm : Int)) 0 := by omega
                have hend8 : (2 : Int) ≤ 2 + mm := by omega
                have hend6 : (2 + (mm : Int)).toNat - 2 = mm := by omega
                have hend7 : (2 + (mm : Int)).toNat = 2 + mm := by omega
                go_wp2_with (first
                  | (go_at_call 34; refine CC2.mono ?_; clear CC2; rintro e w1 ⟨rfl, hm1, g1, nn1, c1, da, dn, dc, a2, n2, c2, w2, u, hKl, k0, k1, HAP, k2, f2, k3, H1⟩))
                go_region_law (refine step_append_run rfl (.tmp 66) (.tmp 69) 41 41 rfl _ _ rfl rfl HAP.out ?_)
                all_goals go_wp2
                all_goals
                  obtain ⟨v', E', C', G', hc', h64', hb'⟩ := H1.out
                  have hdl : (r.drop mm).length = n1 + 1 + 1 - (2 + mm) := by rw [List.length_drop, ← HN1.out]; omega
                  have hdr : ((q : Int) :: (mm : Int) :: r).drop (2 + mm) = r.drop mm := by rw [show 2 + mm = mm + 1 + 1 by omega, List.drop_succ_cons, List.drop_succ_cons]
                  refine ⟨⟨⟨if qc = 2 + mm then some ⟨b, o, none⟩ else some ⟨b, o + (2 + mm), none⟩, qc - (2 + mm), r.drop mm⟩, v', E', C', by simp only [hdl], ⟨?_, cut_low HQ.out.2 (fun _ => by simp)⟩, G', by rw [hc']; exact HRL.out, h64', ?_, hb'⟩, ?_⟩
                  · have := cut_ok HQ.out.1 (2 + mm) (r.drop mm).length (by simp only [List.length_cons, hdl, ← HN1.out]; omega)
                    rw [hdr, List.take_length] at this
                    exact this
                  · have := HG.out.2.2.2.1
                    simp only [List.length_cons] at this
                    have e2 := congrArg List.length (List.take_append_drop mm r)
                    rw [List.length_append] at e2
                    rw [hc', sumO_lay]
                    simp only
                    omega
                  · simp only [lenV]
                    omega
          · have CM := meet_full B gb v E C q wr HG.out.1 hq (by unfold noLong at hlong; simp only [codes, List.length_map] at hlong ⊢; omega) (by unfold noLong at hlong; simp only [codes, List.length_map] at hlong; omega)
            have HR : Hid (R = .error 2) := by rw [← HG.out.2.1]; exact readG_long H255.out H0.out (Decidable.not_not.1 hlong)
            go_wp2_with (first
              | (go_at_call 34; refine CM.mono ?_; rintro e w1 ⟨rfl, rfl⟩))
            go_ret
            exact ⟨by rw [HR.out]; rfl, ReadI.err HR.out HG.out.2.2.2.2⟩
end Go.Proofs.Ytmdkanbfpmdimaa
