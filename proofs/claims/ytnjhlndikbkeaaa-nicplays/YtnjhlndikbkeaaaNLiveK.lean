import Derived.Test.YtnjhlndikbkeaaaNNew
/-
  A few calls that the document fixes (nic).
-/
namespace Go.Proofs.Ytnjhlndikbkeaaa
open Go.RowKit
set_option linter.all false

def aM : Mac := ⟨2, 0, 0, 0, 0, 10⟩
theorem aM_ok : aM.ok := by simp [Mac.ok, aM]
def LB : List Int := sealB aM aM 2054 [120]
theorem LB_len : LB.length = 60 := by decide
theorem LB_bd : ∀ z, z ∈ LB → 0 ≤ z ∧ z ≤ 255 := by decide
theorem LB_good : goodB aM LB = true := by decide +kernel
theorem LB_kind : (openR LB).k = 2054 := by decide +kernel
def LS1 : CS := (CS.new 1 1).laid 0 LB
def LS4 : CS := LS1.gone
def LS5 : CS := LS4.came LB
def LS6 : CS := LS5.given 0
def LN1 : NS := ⟨0, 0, 1, 0, 0, 0⟩
def LN2 : NS := ⟨0, 0, 1, 1, 0, 0⟩
def LN3 : NS := ⟨0, 0, 1, 2, 0, 0⟩
def LN4 : NS := ⟨1, 0, 1, 2, 0, 0⟩
def LX : Obj := .cells (u8s LB).toArray 5 (0, 0)
theorem Holds.onlyK {K : Nat → Prop} {w w' : World} {l : List (Nat × Obj)} (h : Holds w l) (ho : Only K w w') (hn : ∀ p, p ∈ l → ¬ K p.1) : Holds w' l := fun p hp => (ho.block p.1 (hn p hp) (h.lt hp)).trans (h p hp)
theorem row_form {w : World} {e : TypeId} {a : Option Addr} {l c : Nat} {vs : List Value} (h : Row w e (.slice a l c) vs) (hn : 0 < vs.length) : ∃ g, a = some ⟨g, 0, none⟩ ∧ l = vs.length := by
  rcases h with ⟨_, rfl⟩ | ⟨g, cap, cur, lo, hi, hv, _⟩
  · simp at hn
  · simp only [Value.slice.injEq] at hv
    exact ⟨g, hv.1, hv.2.1⟩
theorem send1 {w : World} {q c g h gx : Nat} {f : Nat × Nat} (x : NicW w q aM c g h 1 1 (CS.new 1 1) NS.new) (hx : w.heap[gx]? = some (.cells #[.int .u8 120] 5 f)) :
    Calls Try.prog 20 #[.pointer (some ⟨q, 0, none⟩), .agg #[.int .u8 2, .int .u8 0, .int .u8 0, .int .u8 0, .int .u8 0, .int .u8 10, .int .i64 2054, .slice (some ⟨gx, 0, none⟩) 1 1]] w fun e w' => ∃ gb cb, e = .returned (.tuple #[.slice (some ⟨gb, 0, none⟩) 60 cb, .int .i64 0]) ∧ NicW w' q aM c g h 1 1 LS1 LN1 ∧ Row w' 5 (.slice (some ⟨gb, 0, none⟩) 60 cb) (u8s LB) ∧ w.heap.size ≤ gb ∧ Only (NicK q c g h) w w' := by
  have he : sendE 2054 [120] (CS.new 1 1) NS.new = 0 := by decide
  refine (show Calls Try.prog 20 #[.pointer (some ⟨q, 0, none⟩), sendV aM 2054 (Part.val ⟨some ⟨gx, 0, none⟩, 1, [120]⟩)] w _ from send_any q aM c g h 1 1 (CS.new 1 1) NS.new aM 2054 ⟨some ⟨gx, 0, none⟩, 1, [120]⟩ w x aM_ok aM_ok (Part.of_row (zs := [120]) hx (by simp) (by simp)) (by simp) (by simp [NS.new]) (by simp [NS.new])).mono ?_
  rintro e w' ⟨a, l, cc, rfl, t⟩
  simp only at t
  have h1 : sendS aM aM 2054 [120] (CS.new 1 1) NS.new = LS1 := by unfold sendS; rw [if_pos he]; rfl
  have h2 : sendN 2054 [120] (CS.new 1 1) NS.new = LN1 := by unfold sendN; rw [if_pos he]; rfl
  have h3 : sendL aM aM 2054 [120] (CS.new 1 1) NS.new = LB := by unfold sendL; rw [if_pos he]; rfl
  rw [h1, h2, h3] at t
  obtain ⟨gb, rfl, hl⟩ := row_form t.row (by rw [u8s_len, LB_len]; omega)
  rw [u8s_len, LB_len] at hl
  subst hl
  exact ⟨gb, cc, by rw [he], t.nic, t.row, t.new gb rfl, t.only⟩
theorem send2 {w : World} {q c g h : Nat} (x : NicW w q aM c g h 1 1 LS1 LN1) :
    Calls Try.prog 20 #[.pointer (some ⟨q, 0, none⟩), .agg #[.int .u8 2, .int .u8 0, .int .u8 0, .int .u8 0, .int .u8 0, .int .u8 10, .int .i64 2054, .slice none 0 0]] w fun e w' => ∃ a l cb, e = .returned (.tuple #[.slice a l cb, .int .i64 3]) ∧ NicW w' q aM c g h 1 1 LS1 LN2 ∧ Only (NicK q c g h) w w' := by
  have he : sendE 2054 [] LS1 LN1 = 3 := by decide
  refine (show Calls Try.prog 20 #[.pointer (some ⟨q, 0, none⟩), sendV aM 2054 Part.nil.val] w _ from send_any q aM c g h 1 1 LS1 LN1 aM 2054 Part.nil w x aM_ok aM_ok (Part.nil_ok w) (by simp [Part.nil]) (by simp [LN1]) (by simp [LN1])).mono ?_
  rintro e w' ⟨a, l, cc, rfl, t⟩
  simp only [Part.nil] at t ⊢
  have h1 : sendS aM aM 2054 [] LS1 LN1 = LS1 := by unfold sendS; rw [if_neg (by rw [he]; decide)]
  have h2 : sendN 2054 [] LS1 LN1 = LN2 := by unfold sendN; rw [if_neg (by rw [he]; decide)]; rfl
  rw [h1, h2] at t
  exact ⟨a, l, cc, by rw [he], t.nic, t.only⟩
theorem send3 {w : World} {q c g h : Nat} (x : NicW w q aM c g h 1 1 LS1 LN2) :
    Calls Try.prog 20 #[.pointer (some ⟨q, 0, none⟩), .agg #[.int .u8 2, .int .u8 0, .int .u8 0, .int .u8 0, .int .u8 0, .int .u8 10, .int .i64 1, .slice none 0 0]] w fun e w' => ∃ a l cb, e = .returned (.tuple #[.slice a l cb, .int .i64 30]) ∧ NicW w' q aM c g h 1 1 LS1 LN3 ∧ Only (NicK q c g h) w w' := by
  have he : sendE 1 [] LS1 LN2 = 30 := by decide
  refine (show Calls Try.prog 20 #[.pointer (some ⟨q, 0, none⟩), sendV aM 1 Part.nil.val] w _ from send_any q aM c g h 1 1 LS1 LN2 aM 1 Part.nil w x aM_ok aM_ok (Part.nil_ok w) (by simp [Part.nil]) (by simp [LN2]) (by simp [LN2])).mono ?_
  rintro e w' ⟨a, l, cc, rfl, t⟩
  simp only [Part.nil] at t ⊢
  have h1 : sendS aM aM 1 [] LS1 LN2 = LS1 := by unfold sendS; rw [if_neg (by rw [he]; decide)]
  have h2 : sendN 1 [] LS1 LN2 = LN3 := by unfold sendN; rw [if_neg (by rw [he]; decide)]; rfl
  rw [h1, h2] at t
  exact ⟨a, l, cc, by rw [he], t.nic, t.only⟩
theorem NicW.cardTo {w w' : World} {q : Nat} {own : Mac} {c g h n m : Nat} {S S' : CS} {N : NS} (x : NicW w q own c g h n m S N) (hc : CardW w' c g h S') (ho : Only (CardK c g h) w w') (h1 : S'.R.length = S.R.length) (h2 : S'.T.length = S.T.length) : NicW w' q own c g h n m S' N :=
  ⟨(ho.block q x.qc (heap_lt x.box)).trans x.box, hc, x.qc, h1.trans x.ln, h2.trans x.lm, x.rt, x.tt⟩
theorem depart1 {w : World} {q c g h : Nat} (x : NicW w q aM c g h 1 1 LS1 LN3) :
    Calls Try.prog 17 #[.pointer (some ⟨c, 0, none⟩)] w fun e w' => ∃ gd, e = .returned (.tuple #[.slice (some ⟨gd, 0, none⟩) 60 60, .bool true]) ∧ NicW w' q aM c g h 1 1 LS4 LN3 ∧ w.heap.size ≤ gd ∧ w'.heap[gd]? = some LX ∧ Only (NicK q c g h) w w' := by
  refine (depart_yes c g h LS1 ⟨true, LB⟩ w x.card rfl rfl (by decide)).mono ?_
  rintro e w' ⟨v, rfl, h3, g', rfl, h4, h5, h6⟩
  exact ⟨g', rfl, x.cardTo h3 h6 rfl rfl, h4, h5, h6.mono fun k hk => Or.inr hk⟩
theorem arrive1 {w : World} {q c g h gb cb : Nat} (x : NicW w q aM c g h 1 1 LS4 LN3) (hr : Row w 5 (.slice (some ⟨gb, 0, none⟩) 60 cb) (u8s LB)) :
    Calls Try.prog 14 #[.pointer (some ⟨c, 0, none⟩), .slice (some ⟨gb, 0, none⟩) 60 cb] w fun e w' => e = .returned (.bool true) ∧ NicW w' q aM c g h 1 1 LS5 LN3 ∧ Only (NicK q c g h) w w' := by
  obtain ⟨pt, hv, hz, hok⟩ := hr.part LB_bd
  rw [hv]
  refine (arrive_yes c g h LS4 ⟨true, []⟩ pt w x.card hok (by rw [hz, LB_len]; omega) (by rw [hz, LB_len]; omega) rfl rfl (by decide)).mono ?_
  rintro e w' ⟨rfl, h3, h4⟩
  rw [hz] at h3
  exact ⟨rfl, x.cardTo h3 h4 rfl rfl, h4.mono fun k hk => Or.inr hk⟩
theorem poll1F : pollF aM 9 LS5 LN3 = ([LB], LS6, LN4) := by
  rw [show (9 : Nat) = 7 + 1 + 1 from rfl, pollF_step aM 8 LS5 LN3 LB rfl, LB_good]
  rfl
theorem poll1 {w : World} {q c g h : Nat} (x : NicW w q aM c g h 1 1 LS5 LN3) :
    Calls Try.prog 18 #[.pointer (some ⟨q, 0, none⟩), .int .i64 9] w fun e w' => ∃ gl cl, e = .returned (.slice (some ⟨gl, 0, none⟩) 1 cl) ∧ NicW w' q aM c g h 1 1 LS6 LN4 ∧ w'.cell? ⟨gl, 12, none⟩ = some (.int .i64 2054) ∧ gl < w'.heap.size ∧ w.heap.size ≤ gl ∧ 1 ≤ cl ∧ Only (NicK q c g h) w w' := by
  refine (poll_any q aM c g h 1 1 LS5 LN3 9 1 w x aM_ok (by omega) (by decide) (by omega)).mono ?_
  rintro e w' ⟨v, fs, rfl, h1, h2, h3, h4⟩
  have e9 : Int.toNat 9 = 9 := rfl
  rw [e9, poll1F] at h1 h2
  match fs, h1 with
  | [(zs, dv)], h1 =>
    have h1' : zs = LB := by simpa using h1
    subst h1'
    rcases h3.row.2 with ⟨_, h0⟩ | ⟨gl, cap, cur, hv, h5, h6, h7, h8, h9, h10⟩
    · simp at h0
    · refine ⟨gl, cap, by rw [hv]; rfl, h2, ?_, heap_lt h6, h5, h7, h4⟩
      rw [cell_of_heap h6, ← Array.getElem?_toList]
      have h11 : (cur.toList.take 14)[12]? = (frL (LB, dv))[12]? := by rw [show cur.toList.take 14 = _ from h10]; simp
      rw [List.getElem?_take, if_pos (by omega)] at h11
      rw [h11]
      show some (Value.int .i64 (openR LB).k) = _
      rw [LB_kind]
/-- live under way. -/
structure LvI (w w' : World) (t q c g h : Nat) (S : CS) (N : NS) (l : List (Nat × Obj)) : Prop where
  nic : NicW w' q aM c g h 1 1 S N
  kin : ∀ k, NicK q c g h k → w.heap.size ≤ k ∧ k < t
  top : t ≤ w'.heap.size
  ho : Holds w' l
  off : ∀ p, p ∈ l → ¬ NicK q c g h p.1
  bel : Below w.heap.size w w'
theorem LvI.below {w w1 w2 : World} {t q c g h : Nat} {S : CS} {N : NS} {l : List (Nat × Obj)} (x : LvI w w1 t q c g h S N l) (hb : Below w1.heap.size w1 w2) : LvI w w2 t q c g h S N l :=
  ⟨x.nic.below hb, x.kin, Nat.le_trans x.top hb.size, x.ho.below hb, x.off, bstep x.bel hb⟩
theorem LvI.add {w w1 : World} {t q c g h : Nat} {S : CS} {N : NS} {l : List (Nat × Obj)} (x : LvI w w1 t q c g h S N l) (b : Nat) (o : Obj) (hb : w1.heap[b]? = some o) (hn : ¬ NicK q c g h b) : LvI w w1 t q c g h S N ((b, o) :: l) :=
  ⟨x.nic, x.kin, x.top, x.ho.cons hb, fun p hp => by
    rcases List.mem_cons.1 hp with rfl | hp
    · exact hn
    · exact x.off p hp, x.bel⟩
theorem LvI.not {w w1 : World} {t q c g h : Nat} {S : CS} {N : NS} {l : List (Nat × Obj)} (x : LvI w w1 t q c g h S N l) {b : Nat} (hb : t ≤ b) : ¬ NicK q c g h b := fun hk => by have := (x.kin b hk).2; omega
theorem LvI.push {w w1 : World} {t q c g h : Nat} {S : CS} {N : NS} {l : List (Nat × Obj)} (x : LvI w w1 t q c g h S N l) (o : Obj) : LvI w (w1.alloc o) t q c g h S N ((w1.heap.size, o) :: l) :=
  (x.below (balloc w1 o)).add _ _ (heap_new w1 o) (x.not x.top)
theorem LvI.step {w w1 w2 : World} {t q c g h : Nat} {S S' : CS} {N N' : NS} {l : List (Nat × Obj)} (x : LvI w w1 t q c g h S N l) (hx : NicW w2 q aM c g h 1 1 S' N') (ho : Only (NicK q c g h) w1 w2) : LvI w w2 t q c g h S' N' l :=
  ⟨hx, x.kin, Nat.le_trans x.top ho.size, x.ho.onlyK ho x.off, x.off, x.bel.trans (ho.below (fun k hk => (x.kin k hk).1) x.bel.size)⟩
end Go.Proofs.Ytnjhlndikbkeaaa

/-
  live: it answers true (nic).
-/
namespace Go.Proofs.Ytnjhlndikbkeaaa
open Go.RowKit
set_option linter.all false

def AO : Obj := .cells #[.int .u8 2, .int .u8 0, .int .u8 0, .int .u8 0, .int .u8 0, .int .u8 10] 24 (0, 0)
theorem new11 (w : World) : Calls Try.prog 7 #[.int .i64 1, .int .i64 1] w fun e w' => ∃ c g h, e = .returned (.pointer (some ⟨c, 0, none⟩)) ∧ CardW w' c g h (CS.new 1 1) ∧ (∀ k, CardK c g h k → w.heap.size ≤ k) ∧ Below w.heap.size w w' := new_yes 1 1 w (by omega) (by omega) (by omega) (by omega)
theorem nic11 {w : World} {c g h : Nat} (x : CardW w c g h (CS.new 1 1)) : Calls Try.prog 9 #[.pointer (some ⟨c, 0, none⟩), .agg #[.int .u8 2, .int .u8 0, .int .u8 0, .int .u8 0, .int .u8 0, .int .u8 10]] w fun e w' => ∃ q, e = .returned (.pointer (some ⟨q, 0, none⟩)) ∧ NicW w' q aM c g h 1 1 (CS.new 1 1) NS.new ∧ w.heap.size ≤ q ∧ Below w.heap.size w w' := nnew_yes aM c g h (CS.new 1 1) w x
theorem nic10 (w : World) : Calls Try.prog 9 #[.pointer none, .agg #[.int .u8 2, .int .u8 0, .int .u8 0, .int .u8 0, .int .u8 0, .int .u8 10]] w fun e w' => e = .returned (.pointer none) ∧ Below w.heap.size w w' := nnew_no aM w
theorem own11 {w : World} {q c g h : Nat} {S : CS} {N : NS} (x : NicW w q aM c g h 1 1 S N) : Calls Try.prog 21 #[.pointer (some ⟨q, 0, none⟩)] w fun e w' => e = .returned (.agg #[.int .u8 2, .int .u8 0, .int .u8 0, .int .u8 0, .int .u8 0, .int .u8 10]) ∧ Below w.heap.size w w' := own_any q aM c g h 1 1 S N w x
theorem stats11 {w : World} {q c g h : Nat} {S : CS} (x : NicW w q aM c g h 1 1 S LN4) : Calls Try.prog 22 #[.pointer (some ⟨q, 0, none⟩)] w fun e w' => e = .returned (.agg #[.int .i64 1, .int .i64 0, .int .i64 1, .int .i64 2]) ∧ Below w.heap.size w w' := stats_any q aM c g h 1 1 S LN4 w x
set_option maxRecDepth 20000 in
set_option maxHeartbeats 4000000 in
theorem nlive_any (w : World) : Calls Try.prog 6 #[] w fun e w' => e = .returned (.bool true) ∧ Below w.heap.size w w' := by
  have hcv := conv_const
  go_enter Try.func6, Try.ntmps6
  go_wp2_with fail
  refine (new11 _).mono ?_
  rintro e w1 ⟨c, g, h, rfl, hx1, hk1, hb1⟩
  have HA1 : Hid (w1.heap[w.heap.size]? = some AO) := kept (heap_new w AO) hb1
  have HX1 := hid hx1
  have HK1 := hid hk1
  have HB1 := hid (bstep (balloc w _) hb1)
  have hw1 : w.heap.size < w1.heap.size := heap_lt HA1.out
  have ha1 : ∀ o, w1.cell? ⟨w.heap.size, o, none⟩ = (#[.int .u8 2, .int .u8 0, .int .u8 0, .int .u8 0, .int .u8 0, .int .u8 10] : Array Value)[o]? := fun o => cell_of_heap HA1.out o
  clear hx1 hk1 hb1
  go_wp2_with fail
  refine (nic11 HX1.out).mono ?_
  rintro e w2 ⟨q, rfl, hx2, hq2, hb2⟩
  have I2 : Hid (LvI w w2 w2.heap.size q c g h (CS.new 1 1) NS.new [(w.heap.size, AO)]) := ⟨hx2, fun k hk => ⟨by
    rcases hk with rfl | hk
    · omega
    · have := HK1.out k hk; simp at this; omega, hx2.lt k hk⟩, Nat.le_refl _, (Holds.nil w2).cons (kept HA1.out hb2), fun p hp => by
      simp at hp
      subst hp
      rintro (e | hk)
      · simp only at e; omega
      · have := HK1.out _ hk; simp only [World.size_alloc] at this; omega, bstep HB1.out hb2⟩
  have ha2 : ∀ o, w2.cell? ⟨w.heap.size, o, none⟩ = (#[.int .u8 2, .int .u8 0, .int .u8 0, .int .u8 0, .int .u8 0, .int .u8 10] : Array Value)[o]? := fun o => cell_of_heap (kept HA1.out hb2) o
  have hw2 : w.heap.size < w2.heap.size := heap_lt (I2.out.ho.at 0 _ _ rfl)
  clear hx2 hq2 hb2 ha1 hw1 HA1 HX1 HK1 HB1
  go_wp2_with fail
  refine (nic10 w2).mono ?_
  rintro e w3 ⟨rfl, hb3⟩
  have I3 := hid (I2.out.below hb3)
  have ha3 : ∀ o, w3.cell? ⟨w.heap.size, o, none⟩ = (#[.int .u8 2, .int .u8 0, .int .u8 0, .int .u8 0, .int .u8 0, .int .u8 10] : Array Value)[o]? := fun o => cell_of_heap (I3.out.ho.at 0 _ _ rfl) o
  have hw3 : w.heap.size < w3.heap.size := heap_lt (I3.out.ho.at 0 _ _ rfl)
  clear I2 ha2 hw2 hb3
  go_wp2_with fail
  refine (own11 I3.out.nic).mono ?_
  rintro e w4 ⟨rfl, hb4⟩
  have I4 := hid (((I3.out.below hb4).push AO).push (.cells #[.int .u8 120] 5 (1, 2)))
  have ha4 : ∀ o, w4.cell? ⟨w.heap.size, o, none⟩ = (#[.int .u8 2, .int .u8 0, .int .u8 0, .int .u8 0, .int .u8 0, .int .u8 10] : Array Value)[o]? := fun o => cell_of_heap ((I3.out.below hb4).ho.at 0 _ _ rfl) o
  have hw4 : w.heap.size < w4.heap.size := heap_lt ((I3.out.below hb4).ho.at 0 _ _ rfl)
  simp only [World.size_alloc] at I4
  clear I3 ha3 hw3 hb4
  go_wp2_with fail
  refine (send1 I4.out.nic (I4.out.ho.at 0 _ _ rfl)).mono ?_
  rintro e w5 ⟨gb, cb, rfl, hx5, hr5, hn5, ho5⟩
  have I5 := hid (I4.out.step hx5 ho5)
  have HR5 := hid hr5
  have hnb : ¬ NicK q c g h gb := I4.out.not (by have := I4.out.top; omega)
  have ha5 : ∀ o, w5.cell? ⟨w.heap.size, o, none⟩ = (#[.int .u8 2, .int .u8 0, .int .u8 0, .int .u8 0, .int .u8 0, .int .u8 10] : Array Value)[o]? := fun o => cell_of_heap (I5.out.ho.at 2 _ _ rfl) o
  have hw5 : w.heap.size < w5.heap.size := heap_lt (I5.out.ho.at 2 _ _ rfl)
  have HNB := hid hnb
  clear I4 ha4 hw4 hx5 hr5 hn5 ho5 hnb
  go_wp2_with fail
  refine (send2 I5.out.nic).mono ?_
  rintro e w6 ⟨a6, l6, c6, rfl, hx6, ho6⟩
  have I6 := hid (I5.out.step hx6 ho6)
  have HR6 := hid (HR5.out.keep (w' := w6) fun b hb => by
    simp [Value.ownBlock] at hb
    subst hb
    exact ho6.block _ HNB.out (HR5.out.lt rfl))
  have ha6 : ∀ o, w6.cell? ⟨w.heap.size, o, none⟩ = (#[.int .u8 2, .int .u8 0, .int .u8 0, .int .u8 0, .int .u8 0, .int .u8 10] : Array Value)[o]? := fun o => cell_of_heap (I6.out.ho.at 2 _ _ rfl) o
  have hw6 : w.heap.size < w6.heap.size := heap_lt (I6.out.ho.at 2 _ _ rfl)
  clear I5 HR5 ha5 hw5 hx6 ho6
  go_wp2_with fail
  refine (send3 I6.out.nic).mono ?_
  rintro e w7 ⟨a7, l7, c7, rfl, hx7, ho7⟩
  have I7 := hid (I6.out.step hx7 ho7)
  have HR7 := hid (HR6.out.keep (w' := w7) fun b hb => by
    simp [Value.ownBlock] at hb
    subst hb
    exact ho7.block _ HNB.out (HR6.out.lt rfl))
  clear I6 HR6 ha6 hw6 hx7 ho7
  go_wp2_with fail
  refine (depart1 I7.out.nic).mono ?_
  rintro e w8 ⟨gd, rfl, hx8, hn8, hd8, ho8⟩
  have I8 := hid ((I7.out.step hx8 ho8).add gd LX hd8 (I7.out.not (by have := I7.out.top; omega)))
  have HR8 := hid (HR7.out.keep (w' := w8) fun b hb => by
    simp [Value.ownBlock] at hb
    subst hb
    exact ho8.block _ HNB.out (HR7.out.lt rfl))
  clear I7 HR7 hx8 hn8 hd8 ho8
  go_wp2_with fail
  refine (arrive1 I8.out.nic HR8.out).mono ?_
  rintro e w9 ⟨rfl, hx9, ho9⟩
  have I9 := hid (I8.out.step hx9 ho9)
  have HR9 := hid (HR8.out.keep (w' := w9) fun b hb => by
    simp [Value.ownBlock] at hb
    subst hb
    exact ho9.block _ HNB.out (HR8.out.lt rfl))
  clear I8 HR8 hx9 ho9
  go_wp2_with fail
  refine (poll1 I9.out.nic).mono ?_
  rintro e w10 ⟨gl, cl, rfl, hx10, hk10, hl10, hn10, hc10, ho10⟩
  have I10 := hid (I9.out.step hx10 ho10)
  have HR10 := hid (HR9.out.keep (w' := w10) fun b hb => by
    simp [Value.ownBlock] at hb
    subst hb
    exact ho10.block _ HNB.out (HR9.out.lt rfl))
  have HK10 := hid hk10
  have hc10' : (1 : Int) ≤ cl := by omega
  clear I9 HR9 hx10 ho10 hk10 hn10
  go_wp2_with fail
  refine (stats11 I10.out.nic).mono ?_
  rintro e w11 ⟨rfl, hb11⟩
  have I11 := hid (I10.out.below hb11)
  have HR11 := hid (HR10.out.below hb11)
  have hk11 : w11.cell? ⟨gl, 12, none⟩ = some (.int .i64 2054) := cell_below hb11 HK10.out
  have hl11 : gl < w11.heap.size := by have := hb11.size; omega
  have ha11 : ∀ o, w11.cell? ⟨w.heap.size, o, none⟩ = (#[.int .u8 2, .int .u8 0, .int .u8 0, .int .u8 0, .int .u8 0, .int .u8 10] : Array Value)[o]? := fun o => cell_of_heap (I11.out.ho.at 3 _ _ rfl) o
  have hw11 : w.heap.size < w11.heap.size := heap_lt (I11.out.ho.at 3 _ _ rfl)
  have hb12 : ∀ o, w11.cell? ⟨w4.heap.size, o, none⟩ = (#[.int .u8 2, .int .u8 0, .int .u8 0, .int .u8 0, .int .u8 0, .int .u8 10] : Array Value)[o]? := fun o => cell_of_heap (I11.out.ho.at 2 _ _ rfl) o
  have hw12 : w4.heap.size < w11.heap.size := heap_lt (I11.out.ho.at 2 _ _ rfl)
  have k1 : ∀ ob, (convert 43 9 (.slice (some ⟨gd, 0, none⟩) 60 60)).run Try.prog (w11.alloc ob) = .ok (.string (strOfNums LB)) (w11.alloc ob) := fun ob => conv_part ⟨some ⟨gd, 0, none⟩, 60, LB⟩ _ (Part.of_row ((I11.out.below (balloc w11 ob)).ho.at 0 _ _ rfl) (by rw [LB_len]; omega) LB_bd)
  have k2 : ∀ ob, (convert 43 9 (.slice (some ⟨gb, 0, none⟩) 60 cb)).run Try.prog (w11.alloc ob) = .ok (.string (strOfNums LB)) (w11.alloc ob) := fun ob => (HR11.out.below (balloc w11 ob)).conv0 LB_bd
  have q1 := mac_eq aM aM aM_ok aM_ok
  rw [decide_eq_true rfl] at q1
  simp only [Mac.val, aM] at q1
  have st : (strOfNums LB == strOfNums LB) = true := by
    cases strOfNums LB with | mk d => show (d == d) = true; simp
  generalize strOfNums LB = SX at *
  clear I10 HR10 HK10 hb11
  go_wp2_with fail
  go_ret
  exact ⟨rfl, bpush I11.out.bel _⟩
end Go.Proofs.Ytnjhlndikbkeaaa
