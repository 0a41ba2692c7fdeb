import Derived.Test.YtnjhlndikbkeaaaCNew2
import Derived.Test.YtnjhlndikbkeaaaNNew
import Derived.Test.YtnjhlndikbkeaaaNOpenO
import Derived.Test.YtnjhlndikbkeaaaNLiveK
import Derived.Test.YtnjhlndikbkeaaaNRefJ
/-
  A ring worked in order: which places hold which frames.
-/
namespace Go.Proofs.Ytnjhlndikbkeaaa
open Go.RowKit
set_option linter.all false

theorem mod_ne {a b n : Nat} (h : a < b) (h2 : b < a + n) : a % n ≠ b % n := by
  intro e
  have h3 : (b - a) % n = 0 := Nat.sub_mod_eq_zero_of_mod_eq e.symm
  have h4 : (b - a) % n = b - a := Nat.mod_eq_of_lt (by omega)
  omega
/-- the frames fs went into a ring of n places in order, lo of them were taken out again; u: whose a place is that holds one. -/
structure Win (n : Nat) (fs : List (List Int)) (lo : Nat) (u : Bool) (ps : List Pl) : Prop where
  pos : 0 < n
  len : ps.length = n
  lo1 : lo ≤ fs.length
  hi : fs.length ≤ lo + n
  used : ∀ k, lo ≤ k → k < fs.length → ps[k % n]? = some ⟨u, fs.getD k []⟩
  free : ∀ k, fs.length ≤ k → k < lo + n → ∃ p, ps[k % n]? = some p ∧ p.b = !u
theorem Win.push {n : Nat} {fs : List (List Int)} {lo : Nat} {u : Bool} {ps : List Pl} (h : Win n fs lo u ps) (hr : fs.length < lo + n) (zs : List Int) : Win n (fs ++ [zs]) lo u (ps.set (fs.length % n) ⟨u, zs⟩) := by
  have hm : fs.length % n < ps.length := by rw [h.len]; exact Nat.mod_lt _ h.pos
  refine ⟨h.pos, by simpa using h.len, by simp; have := h.lo1; omega, by simp; omega, fun k h1 h2 => ?_, fun k h1 h2 => ?_⟩
  · by_cases hk : k = fs.length
    · subst hk
      rw [List.getElem?_set_self hm]
      simp [List.getD_eq_getElem?_getD]
    · have hk2 : k < fs.length := by simp at h2; omega
      rw [List.getElem?_set_ne (fun e => mod_ne hk2 (by omega) e.symm), h.used k h1 hk2]
      simp [List.getD_eq_getElem?_getD, List.getElem?_append_left hk2]
  · simp at h1
    rw [List.getElem?_set_ne (fun e => mod_ne (by omega : fs.length < k) (by have := h.lo1; omega) e)]
    exact h.free k (by omega) h2
theorem Win.pop {n : Nat} {fs : List (List Int)} {lo : Nat} {u : Bool} {ps : List Pl} (h : Win n fs lo u ps) (hr : lo < fs.length) : Win n fs (lo + 1) u (ps.set (lo % n) ⟨!u, []⟩) := by
  have hm : lo % n < ps.length := by rw [h.len]; exact Nat.mod_lt _ h.pos
  refine ⟨h.pos, by simpa using h.len, by omega, by have := h.hi; omega, fun k h1 h2 => ?_, fun k h1 h2 => ?_⟩
  · rw [List.getElem?_set_ne (fun e => mod_ne (by omega : lo < k) (by have := h.hi; omega) e)]
    exact h.used k (by omega) h2
  · by_cases hk : k = lo + n
    · subst hk
      rw [Nat.add_mod_right, List.getElem?_set_self hm]
      exact ⟨_, rfl, rfl⟩
    · rw [List.getElem?_set_ne (fun e => mod_ne (by omega : lo < k) (by omega) e)]
      exact h.free k h1 (by omega)
/-- the next place to go in: free, if there is room; else used. -/
theorem Win.inFree {n : Nat} {fs : List (List Int)} {lo : Nat} {u : Bool} {ps : List Pl} (h : Win n fs lo u ps) (hr : fs.length < lo + n) : ∃ p, ps[fs.length % n]? = some p ∧ p.b = !u := h.free _ (Nat.le_refl _) hr
theorem Win.inFull {n : Nat} {fs : List (List Int)} {lo : Nat} {u : Bool} {ps : List Pl} (h : Win n fs lo u ps) (hr : ¬ fs.length < lo + n) : ∃ p, ps[fs.length % n]? = some p ∧ p.b = u := by
  have e : fs.length = lo + n := by have := h.hi; omega
  refine ⟨_, by rw [e, Nat.add_mod_right]; exact h.used lo (Nat.le_refl _) (by have := h.pos; omega), rfl⟩
/-- the next place to come out. -/
theorem Win.outUsed {n : Nat} {fs : List (List Int)} {lo : Nat} {u : Bool} {ps : List Pl} (h : Win n fs lo u ps) (hr : lo < fs.length) : ps[lo % n]? = some ⟨u, fs.getD lo []⟩ := h.used _ (Nat.le_refl _) hr
theorem Win.outFree {n : Nat} {fs : List (List Int)} {lo : Nat} {u : Bool} {ps : List Pl} (h : Win n fs lo u ps) (hr : ¬ lo < fs.length) : ∃ p, ps[lo % n]? = some p ∧ p.b = !u := by
  have e : fs.length = lo := by have := h.lo1; omega
  exact h.free lo (by omega) (by have := h.pos; omega)
theorem succ_mod (a n : Nat) (h : 0 < n) : (a % n + 1) % n = (a + 1) % n := by simp [Nat.add_mod]
theorem Win.new (n : Nat) (u : Bool) (h : 0 < n) : Win n [] 0 u (List.replicate n ⟨!u, []⟩) :=
  ⟨h, by simp, by simp, by simp, fun k _ hk => by simp at hk, fun k _ _ => ⟨_, by rw [List.getElem?_replicate, if_pos (Nat.mod_lt _ h)], rfl⟩⟩

/-- the card's part of a flow under way. -/
structure FlowC (wr : World) (n m c g h : Nat) (S : CS) (came laid : List (List Int)) (got gone i : Nat) : Prop where
  card : CardW wr c g h S
  rx : Win n came got false S.R
  tx : Win m laid gone true S.T
  nr : S.nr = came.length % n
  nt : S.nt = gone % m
  ci : S.ci = came.length
  co : S.co = gone
  cd : S.cd ≤ i
  cl : came.length ≤ i
  ll : laid.length ≤ i
theorem FlowC.below {wr w' : World} {n m c g h : Nat} {S : CS} {came laid : List (List Int)} {got gone i : Nat} (x : FlowC wr n m c g h S came laid got gone i) (hb : Below wr.heap.size wr w') : FlowC w' n m c g h S came laid got gone i :=
  ⟨x.card.below hb, x.rx, x.tx, x.nr, x.nt, x.ci, x.co, x.cd, x.cl, x.ll⟩
theorem FlowC.keep {wr w' : World} {n m c g h : Nat} {S : CS} {came laid : List (List Int)} {got gone i : Nat} (x : FlowC wr n m c g h S came laid got gone i) (hb : ∀ k, CardK c g h k → w'.heap[k]? = wr.heap[k]?) : FlowC w' n m c g h S came laid got gone i :=
  ⟨x.card.keep hb, x.rx, x.tx, x.nr, x.nt, x.ci, x.co, x.cd, x.cl, x.ll⟩
theorem FlowC.next {wr : World} {n m c g h : Nat} {S : CS} {came laid : List (List Int)} {got gone i : Nat} (x : FlowC wr n m c g h S came laid got gone i) : FlowC wr n m c g h S came laid got gone (i + 1) :=
  ⟨x.card, x.rx, x.tx, x.nr, x.nt, x.ci, x.co, by have := x.cd; omega, by have := x.cl; omega, by have := x.ll; omega⟩
theorem FlowC.came' {wr w' : World} {n m c g h : Nat} {S : CS} {came laid : List (List Int)} {got gone i : Nat} (x : FlowC wr n m c g h S came laid got gone i) (hr : came.length < got + n) (zs : List Int) (hc : CardW w' c g h (S.came zs)) : FlowC w' n m c g h (S.came zs) (came ++ [zs]) laid got gone (i + 1) :=
  ⟨hc, by have := x.rx.push hr zs; rw [← x.nr] at this; exact this, x.tx, by simp only [CS.came, x.rx.len, x.nr, succ_mod _ _ x.rx.pos]; simp, x.nt, by simp [CS.came, x.ci], x.co, by have := x.cd; simp only [CS.came]; omega, by have := x.cl; simp; omega, by have := x.ll; omega⟩
theorem FlowC.drop {wr w' : World} {n m c g h : Nat} {S : CS} {came laid : List (List Int)} {got gone i : Nat} (x : FlowC wr n m c g h S came laid got gone i) (hc : CardW w' c g h S.drop) : FlowC w' n m c g h S.drop came laid got gone (i + 1) :=
  ⟨hc, x.rx, x.tx, x.nr, x.nt, x.ci, x.co, by have := x.cd; simp only [CS.drop]; omega, by have := x.cl; omega, by have := x.ll; omega⟩
theorem FlowC.given {wr w' : World} {n m c g h : Nat} {S : CS} {came laid : List (List Int)} {got gone i : Nat} (x : FlowC wr n m c g h S came laid got gone i) (hr : got < came.length) (hc : CardW w' c g h (S.given (got % n))) : FlowC w' n m c g h (S.given (got % n)) came laid (got + 1) gone (i + 1) :=
  ⟨hc, x.rx.pop hr, x.tx, x.nr, x.nt, x.ci, x.co, by have := x.cd; simp only [CS.given]; omega, by have := x.cl; omega, by have := x.ll; omega⟩
theorem FlowC.laid' {wr w' : World} {n m c g h : Nat} {S : CS} {came laid : List (List Int)} {got gone i : Nat} (x : FlowC wr n m c g h S came laid got gone i) (hr : laid.length < gone + m) (zs : List Int) (hc : CardW w' c g h (S.laid (laid.length % m) zs)) : FlowC w' n m c g h (S.laid (laid.length % m) zs) came (laid ++ [zs]) got gone (i + 1) :=
  ⟨hc, x.rx, x.tx.push hr zs, x.nr, x.nt, x.ci, x.co, by have := x.cd; simp only [CS.laid]; omega, by have := x.cl; omega, by have := x.ll; simp; omega⟩
theorem FlowC.gone' {wr w' : World} {n m c g h : Nat} {S : CS} {came laid : List (List Int)} {got gone i : Nat} (x : FlowC wr n m c g h S came laid got gone i) (hr : gone < laid.length) (hc : CardW w' c g h S.gone) : FlowC w' n m c g h S.gone came laid got (gone + 1) (i + 1) :=
  ⟨hc, x.rx, by have := x.tx.pop hr; rw [← x.nt] at this; exact this, x.nr, by simp only [CS.gone, x.tx.len, x.nt, succ_mod _ _ x.tx.pos], x.ci, by simp [CS.gone, x.co], by have := x.cd; simp only [CS.gone]; omega, by have := x.cl; omega, by have := x.ll; omega⟩
end Go.Proofs.Ytnjhlndikbkeaaa

/-
  A driver that works in order: what its Polls take.
-/
namespace Go.Proofs.Ytnjhlndikbkeaaa
open Go.RowKit
set_option linter.all false

theorem Win.at {n : Nat} {fs : List (List Int)} {lo : Nat} {u : Bool} {ps : List Pl} (h : Win n fs lo u ps) (hr : lo < fs.length) : fs.drop lo = fs.getD lo [] :: fs.drop (lo + 1) := by
  rw [List.drop_eq_getElem_cons hr]
  simp [List.getD_eq_getElem?_getD, hr]
theorem NicW.cardTo' {w w' : World} {q : Nat} {own : Mac} {c g h n m : Nat} {S S' : CS} {N : NS} (x : NicW w q own c g h n m S N) (hc : CardW w' c g h S') (ho : Only (CardK c g h) w w') (h1 : S'.R.length = S.R.length) (h2 : S'.T.length = S.T.length) : NicW w' q own c g h n m S' N :=
  ⟨(ho.block q x.qc (heap_lt x.box)).trans x.box, hc, x.qc, h1.trans x.ln, h2.trans x.lm, x.rt, x.tt⟩
/-- what a Poll leaves as it was. -/
structure PollK (S : CS) (N : NS) (S' : CS) (N' : NS) : Prop where
  T : S'.T = S.T
  nr : S'.nr = S.nr
  nt : S'.nt = S.nt
  ci : S'.ci = S.ci
  cd : S'.cd = S.cd
  co : S'.co = S.co
  tt : N'.tt = N.tt
  sn : N'.sn = N.sn
  rf : N'.rf = N.rf
  sum : N'.tk + N'.th + free S'.R = N.tk + N.th + free S.R
/-- a Poll of a ring that is worked in order. -/
theorem pollF_win (own : Mac) (n : Nat) (came : List (List Int)) : ∀ (k : Nat) (S : CS) (N : NS) (got : Nat), Win n came got false S.R → N.rt = got % n →
    ∃ got', got ≤ got' ∧ (got' = came.length ∨ got' = got + k) ∧ got' ≤ came.length ∧ (pollF own k S N).1 = ((came.drop got).take (got' - got)).filter (goodB own) ∧ Win n came got' false (pollF own k S N).2.1.R ∧ (pollF own k S N).2.2.rt = got' % n ∧ PollK S N (pollF own k S N).2.1 (pollF own k S N).2.2
  | 0, S, N, got, h, hr => ⟨got, Nat.le_refl _, Or.inr rfl, h.lo1, by simp [pollF], h, hr, ⟨rfl, rfl, rfl, rfl, rfl, rfl, rfl, rfl, rfl, rfl⟩⟩
  | k + 1, S, N, got, h, hr => by
    by_cases hg : got < came.length
    · have hp := h.outUsed hg
      rw [← hr] at hp
      rw [pollF_step own k S N _ hp]
      have hw := h.pop hg
      rw [← hr] at hw
      have hrt : ((N.saw (goodB own (came.getD got []))).on S.R.length).rt = (got + 1) % n := by
        have e : ((N.saw (goodB own (came.getD got []))).on S.R.length).rt = (N.rt + 1) % S.R.length := by
          cases goodB own (came.getD got []) <;> rfl
        rw [e, h.len, hr, succ_mod _ _ h.pos]
      obtain ⟨got', h1, h2, h3, h4, h5, h6, h7⟩ := pollF_win own n came k (S.given N.rt) ((N.saw (goodB own (came.getD got []))).on S.R.length) (got + 1) hw hrt
      have hfree := free_given hp rfl
      refine ⟨got', by omega, by omega, h3, ?_, h5, h6, ⟨h7.T, h7.nr, h7.nt, h7.ci, h7.cd, h7.co, h7.tt.trans ?_, h7.sn.trans ?_, h7.rf.trans ?_, h7.sum.trans ?_⟩⟩
      · rw [h.at hg, show got' - got = (got' - (got + 1)) + 1 by omega, List.take_succ_cons, List.filter_cons, h4]
        split <;> simp_all
      · cases goodB own (came.getD got []) <;> rfl
      · cases goodB own (came.getD got []) <;> rfl
      · cases goodB own (came.getD got []) <;> rfl
      · cases goodB own (came.getD got [])
        · simp only [NS.saw, NS.threw, NS.on, CS.given]; simp; omega
        · simp only [NS.saw, NS.took, NS.on, CS.given]; simp; omega
    · obtain ⟨p, hp, hb⟩ := h.outFree hg
      rw [← hr] at hp
      have e : pollF own (k + 1) S N = ([], S, N) := by
        obtain ⟨b, zs⟩ := p
        simp only at hb
        simp [pollF, hp, hb]
      rw [e]
      have hl := h.lo1
      exact ⟨got, Nat.le_refl _, Or.inl (by omega), hl, by simp, h, hr, ⟨rfl, rfl, rfl, rfl, rfl, rfl, rfl, rfl, rfl, rfl⟩⟩
/-- a card and its driver that work in order: the frames that came, and were laid; how many were looked at, departed. -/
structure OrdC (wr : World) (n m q : Nat) (own : Mac) (c g h : Nat) (S : CS) (N : NS) (came laid : List (List Int)) (got gone i : Nat) : Prop where
  nic : NicW wr q own c g h n m S N
  rx : Win n came got false S.R
  tx : Win m laid gone true S.T
  nr : S.nr = came.length % n
  nt : S.nt = gone % m
  rt : N.rt = got % n
  tt : N.tt = laid.length % m
  ci : S.ci ≤ i
  cd : S.cd ≤ i
  co : S.co ≤ i
  cn : N.tk + N.th + free S.R ≤ i
  sn : N.sn + N.rf ≤ i
theorem OrdC.keep {wr w' : World} {n m q : Nat} {own : Mac} {c g h : Nat} {S : CS} {N : NS} {came laid : List (List Int)} {got gone i : Nat} (x : OrdC wr n m q own c g h S N came laid got gone i) (hk : ∀ k, NicK q c g h k → w'.heap[k]? = wr.heap[k]?) : OrdC w' n m q own c g h S N came laid got gone i :=
  ⟨x.nic.keep hk, x.rx, x.tx, x.nr, x.nt, x.rt, x.tt, x.ci, x.cd, x.co, x.cn, x.sn⟩
theorem OrdC.below {wr w' : World} {n m q : Nat} {own : Mac} {c g h : Nat} {S : CS} {N : NS} {came laid : List (List Int)} {got gone i : Nat} (x : OrdC wr n m q own c g h S N came laid got gone i) (hb : Below wr.heap.size wr w') : OrdC w' n m q own c g h S N came laid got gone i := x.keep fun k hk => hb.block k (x.nic.lt k hk)
theorem OrdC.next {wr : World} {n m q : Nat} {own : Mac} {c g h : Nat} {S : CS} {N : NS} {came laid : List (List Int)} {got gone i : Nat} (x : OrdC wr n m q own c g h S N came laid got gone i) : OrdC wr n m q own c g h S N came laid got gone (i + 1) :=
  ⟨x.nic, x.rx, x.tx, x.nr, x.nt, x.rt, x.tt, by have := x.ci; omega, by have := x.cd; omega, by have := x.co; omega, by have := x.cn; omega, by have := x.sn; omega⟩
/-- Arrive, as the order meets it: z: was it taken? -/
theorem ord_arrive {wr : World} {n m q : Nat} {own : Mac} {c g h : Nat} {S : CS} {N : NS} {came laid : List (List Int)} {got gone i : Nat} (x : OrdC wr n m q own c g h S N came laid got gone i) (hi : i < 4398046511104) (pt : Part) (hok : pt.ok wr) (l : Nat) (hl : pt.zs.length = l) (hl2 : l ≤ 140737488351232) :
    Calls Try.prog 14 #[.pointer (some ⟨c, 0, none⟩), .slice pt.a l pt.c] wr fun e w' => ∃ (z : Bool) (S' : CS) (came' : List (List Int)), e = .returned (.bool z) ∧ came' = (if z then came ++ [pt.zs] else came) ∧ OrdC w' n m q own c g h S' N came' laid got gone (i + 1) ∧ Only (NicK q c g h) wr w' := by
  subst hl
  by_cases hw : pt.zs.length = 0 ∨ 1514 < pt.zs.length
  · refine (arrive_len _ _ _ _ wr hw (by omega)).mono ?_
    rintro e w' ⟨rfl, rfl⟩
    exact ⟨false, S, came, rfl, rfl, x.next, Only.refl _ _⟩
  · by_cases hr : came.length < got + n
    · obtain ⟨p, hp, hb⟩ := x.rx.inFree hr
      rw [← x.nr] at hp
      refine (arrive_yes c g h S p pt wr x.nic.card hok (by omega) (by omega) hp (by simpa using hb) (by have := x.ci; omega)).mono ?_
      rintro e w' ⟨rfl, h3, h4⟩
      have hf : free (S.R.set S.nr ⟨false, pt.zs⟩) ≤ free S.R + 1 := free_came
      refine ⟨true, S.came pt.zs, came ++ [pt.zs], rfl, rfl, ⟨x.nic.cardTo' h3 h4 (by simp [CS.came]) rfl, ?_, x.tx, ?_, x.nt, x.rt, x.tt, ?_, ?_, ?_, ?_, ?_⟩, h4.mono fun k hk => Or.inr hk⟩
      · have := x.rx.push hr pt.zs; rw [← x.nr] at this; exact this
      · simp only [CS.came, x.rx.len, x.nr, succ_mod _ _ x.rx.pos]; simp
      · have := x.ci; simp only [CS.came]; omega
      · have := x.cd; simp only [CS.came]; omega
      · have := x.co; simp only [CS.came]; omega
      · have := x.cn; simp only [CS.came]; omega
      · have := x.sn; omega
    · obtain ⟨p, hp, hb⟩ := x.rx.inFull hr
      rw [← x.nr] at hp
      refine (arrive_full c g h S p _ _ _ wr x.nic.card (by omega) (by omega) hp hb (by have := x.cd; omega)).mono ?_
      rintro e w' ⟨rfl, h3, h4⟩
      refine ⟨false, S.drop, came, rfl, rfl, ⟨x.nic.cardTo' h3 h4 rfl rfl, x.rx, x.tx, x.nr, x.nt, x.rt, x.tt, ?_, ?_, ?_, ?_, ?_⟩, h4.mono fun k hk => Or.inr hk⟩
      · have := x.ci; simp only [CS.drop]; omega
      · have := x.cd; simp only [CS.drop]; omega
      · have := x.co; simp only [CS.drop]; omega
      · have := x.cn; simp only [CS.drop]; omega
      · have := x.sn; omega
/-- Depart: what was laid first. -/
theorem ord_depart {wr : World} {n m q : Nat} {own : Mac} {c g h : Nat} {S : CS} {N : NS} {came laid : List (List Int)} {got gone i : Nat} (x : OrdC wr n m q own c g h S N came laid got gone i) (hi : i < 4398046511104) :
    Calls Try.prog 17 #[.pointer (some ⟨c, 0, none⟩)] wr fun e w' => (gone < laid.length ∧ ∃ g' l' S', e = .returned (.tuple #[.slice (some ⟨g', 0, none⟩) l' l', .bool true]) ∧ l' = (laid.getD gone []).length ∧ w'.heap[g']? = some (.cells (u8s (laid.getD gone [])).toArray 5 (0, 0)) ∧ (∀ z, z ∈ laid.getD gone [] → 0 ≤ z ∧ z ≤ 255) ∧ OrdC w' n m q own c g h S' N came laid got (gone + 1) (i + 1) ∧ Only (NicK q c g h) wr w') ∨
      (¬ gone < laid.length ∧ e = .returned (.tuple #[.slice none 0 0, .bool false]) ∧ OrdC w' n m q own c g h S N came laid got gone (i + 1) ∧ Only (NicK q c g h) wr w') := by
  by_cases hr : gone < laid.length
  · have hp := x.tx.outUsed hr
    have hbd := (plOk' x.nic.card.tx hp).2
    rw [← x.nt] at hp
    refine (depart_yes c g h S _ wr x.nic.card hp rfl (by have := x.co; omega)).mono ?_
    rintro e w' ⟨v, rfl, h3, g', rfl, h4, h5, h6⟩
    refine Or.inl ⟨hr, g', _, S.gone, rfl, rfl, h5, hbd, ⟨x.nic.cardTo' h3 h6 rfl (by simp [CS.gone]), x.rx, ?_, x.nr, ?_, x.rt, x.tt, ?_, ?_, ?_, ?_, ?_⟩, h6.mono fun k hk => Or.inr hk⟩
    · have := x.tx.pop hr; rw [← x.nt] at this; exact this
    · simp only [CS.gone, x.tx.len, x.nt, succ_mod _ _ x.tx.pos]
    · have := x.ci; simp only [CS.gone]; omega
    · have := x.cd; simp only [CS.gone]; omega
    · have := x.co; simp only [CS.gone]; omega
    · have := x.cn; simp only [CS.gone]; omega
    · have := x.sn; omega
  · obtain ⟨p, hp, hb⟩ := x.tx.outFree hr
    rw [← x.nt] at hp
    refine (depart_no c g h S p wr x.nic.card hp (by simpa using hb)).mono ?_
    rintro e w' ⟨rfl, hb'⟩
    exact Or.inr ⟨hr, rfl, (x.below hb').next, Only.of_below hb'⟩
/-- Poll: what came, in order. -/
theorem ord_poll {wr : World} {n m q : Nat} {own : Mac} {c g h : Nat} {S : CS} {N : NS} {came laid : List (List Int)} {got gone i : Nat} (x : OrdC wr n m q own c g h S N came laid got gone i) (hi : i < 4398046511104) (ho : own.ok) (b : Int) (hb : b ≤ 9223372036854775807) :
    Calls Try.prog 18 #[.pointer (some ⟨q, 0, none⟩), .int .i64 b] wr fun e w' => ∃ (v : Value) (fs : List (List Int × Value)) (S' : CS) (N' : NS) (got' : Nat), e = .returned v ∧ got ≤ got' ∧ (got' = came.length ∨ got' = got + b.toNat) ∧ got' ≤ came.length ∧ fs.map Prod.fst = ((came.drop got).take (got' - got)).filter (goodB own) ∧ OrdC w' n m q own c g h S' N' came laid got' gone (i + 1) ∧ Frs wr.heap.size w' v fs ∧ Only (NicK q c g h) wr w' := by
  refine (poll_any q own c g h n m S N b i wr x.nic ho hb x.cn (by omega)).mono ?_
  rintro e w' ⟨v, fs, rfl, h1, h2, h3, h4⟩
  obtain ⟨got', g1, g2, g3, g4, g5, g6, g7⟩ := pollF_win own n came b.toNat S N got x.rx x.rt
  refine ⟨v, fs, _, _, got', rfl, g1, g2, g3, h1.trans g4, ⟨h2, g5, by rw [g7.T]; exact x.tx, by rw [g7.nr]; exact x.nr, by rw [g7.nt]; exact x.nt, g6, by rw [g7.tt]; exact x.tt, ?_, ?_, ?_, ?_, ?_⟩, h3, h4⟩
  · have := x.ci; rw [g7.ci]; omega
  · have := x.cd; rw [g7.cd]; omega
  · have := x.co; rw [g7.co]; omega
  · have := x.cn; rw [g7.sum]; omega
  · have := x.sn; rw [g7.sn, g7.rf]; omega
end Go.Proofs.Ytnjhlndikbkeaaa

/-
  A driver that works in order: Send.
-/
namespace Go.Proofs.Ytnjhlndikbkeaaa
open Go.RowKit
set_option linter.all false

theorem OrdC.full {wr : World} {n m q : Nat} {own : Mac} {c g h : Nat} {S : CS} {N : NS} {came laid : List (List Int)} {got gone i : Nat} (x : OrdC wr n m q own c g h S N came laid got gone i) : fullB S N = decide (¬ laid.length < gone + m) := by
  unfold fullB
  rw [x.tt]
  by_cases hr : laid.length < gone + m
  · obtain ⟨p, hp, hb⟩ := x.tx.inFree hr
    simp only [List.getD_eq_getElem?_getD, hp, Option.getD_some]
    simp [hb, hr]
  · obtain ⟨p, hp, hb⟩ := x.tx.inFull hr
    simp only [List.getD_eq_getElem?_getD, hp, Option.getD_some]
    simp [hb, hr]
/-- the error of a Send that works in order. -/
def ordE (k : Int) (zs : List Int) (room : Bool) : Int := if sealE k zs = 0 then (if room then 0 else 3) else sealE k zs
theorem ord_send {wr : World} {n m q : Nat} {own : Mac} {c g h : Nat} {S : CS} {N : NS} {came laid : List (List Int)} {got gone i : Nat} (x : OrdC wr n m q own c g h S N came laid got gone i) (hi : i < 4398046511104) (ho : own.ok) (d : Mac) (hd : d.ok) (k : Int) (pt : Part) (hok : pt.ok wr) (hl : pt.zs.length ≤ 140737488351232) :
    Calls Try.prog 20 #[.pointer (some ⟨q, 0, none⟩), sendV d k pt.val] wr fun e w' => ∃ a l cc S' N' laid', e = .returned (.tuple #[.slice a l cc, .int .i64 (ordE k pt.zs (decide (laid.length < gone + m)))]) ∧ laid' = (if ordE k pt.zs (decide (laid.length < gone + m)) = 0 then laid ++ [sealB d own k pt.zs] else laid) ∧ OrdC w' n m q own c g h S' N' came laid' got gone (i + 1) ∧ Row w' 5 (.slice a l cc) (u8s (if ordE k pt.zs (decide (laid.length < gone + m)) = 0 then sealB d own k pt.zs else [])) ∧ (∀ b, (Value.slice a l cc).ownBlock = some b → wr.heap.size ≤ b) ∧ Only (NicK q c g h) wr w' := by
  have hs := x.sn
  refine (send_any q own c g h n m S N d k pt wr x.nic ho hd hok hl (by omega) (by omega)).mono ?_
  rintro e w' ⟨a, l, cc, rfl, t⟩
  have he : sendE k pt.zs S N = ordE k pt.zs (decide (laid.length < gone + m)) := by
    unfold sendE ordE
    rw [x.full]
    by_cases h1 : sealE k pt.zs = 0
    · rw [if_pos h1, if_pos h1]
      by_cases h2 : laid.length < gone + m <;> simp [h2]
    · rw [if_neg h1, if_neg h1]
  have tr := t.row
  unfold sendL at tr
  rw [he] at tr ⊢
  have tn := t.nic
  unfold sendS sendN at tn
  rw [he] at tn
  by_cases h0 : ordE k pt.zs (decide (laid.length < gone + m)) = 0
  · rw [if_pos h0] at tn tr
    rw [if_pos h0] at tn
    have hr : laid.length < gone + m := by
      unfold ordE at h0
      split at h0
      · by_cases h2 : laid.length < gone + m
        · exact h2
        · simp [h2] at h0
      · omega
    refine ⟨a, l, cc, _, _, laid ++ [sealB d own k pt.zs], rfl, by rw [if_pos h0], ⟨tn, x.rx, ?_, x.nr, x.nt, x.rt, ?_, Nat.le_trans x.ci (by omega), Nat.le_trans x.cd (by omega), Nat.le_trans x.co (by omega), Nat.le_trans x.cn (by omega), ?_⟩, by rw [if_pos h0]; exact tr, t.new, t.only⟩
    · have := x.tx.push hr (sealB d own k pt.zs); rw [← x.tt] at this; exact this
    · simp only [NS.ton, NS.sent, x.tx.len, x.tt, succ_mod _ _ x.tx.pos]; simp
    · simp only [NS.ton, NS.sent]; omega
  · rw [if_neg h0] at tn tr
    rw [if_neg h0] at tn
    refine ⟨a, l, cc, _, _, laid, rfl, by rw [if_neg h0], ⟨tn, x.rx, x.tx, x.nr, x.nt, x.rt, x.tt, Nat.le_trans x.ci (by omega), Nat.le_trans x.cd (by omega), Nat.le_trans x.co (by omega), Nat.le_trans x.cn (by omega), ?_⟩, by rw [if_neg h0]; exact tr, t.new, t.only⟩
    simp only [NS.refd]; omega
end Go.Proofs.Ytnjhlndikbkeaaa

/-
  Lists that are put behind and taken off in front, in memory: slices of a block of their own, from any place on.
-/
namespace Go.Proofs.Ytnjhlndikbkeaaa
open Go.RowKit
set_option linter.all false

/-- v is a slice of the values vs, somewhere in a block that may be written. -/
def RowO (w : World) (e : TypeId) (v : Value) (vs : List Value) : Prop :=
  (v = .slice none 0 0 ∧ vs = []) ∨ ∃ (g off cap : Nat) (cur : Array Value), v = .slice (some ⟨g, off, none⟩) vs.length cap ∧ w.heap[g]? = some (.cells cur e (0, 0)) ∧ vs.length ≤ cap ∧ off + cap ≤ cur.size ∧ ∀ j u, vs[j]? = some u → cur[off + j]? = some u
theorem RowO.nil (w : World) (e : TypeId) : RowO w e (.slice none 0 0) [] := Or.inl ⟨rfl, rfl⟩
theorem RowO.lt {w : World} {e : TypeId} {v : Value} {vs : List Value} (h : RowO w e v vs) {b : Nat} (hb : v.ownBlock = some b) : b < w.heap.size := by
  rcases h with ⟨rfl, _⟩ | ⟨g, off, cap, cur, rfl, hg, _⟩
  · simp [Value.ownBlock] at hb
  · simp [Value.ownBlock] at hb; subst hb; exact heap_lt hg
theorem RowO.cells {w : World} {e : TypeId} {v : Value} {vs : List Value} (h : RowO w e v vs) {b : Nat} (hb : v.ownBlock = some b) : ∃ cur, w.heap[b]? = some (.cells cur e (0, 0)) := by
  rcases h with ⟨rfl, _⟩ | ⟨g, off, cap, cur, rfl, hg, _⟩
  · simp [Value.ownBlock] at hb
  · simp [Value.ownBlock] at hb; subst hb; exact ⟨cur, hg⟩
theorem RowO.keep {w w' : World} {e : TypeId} {v : Value} {vs : List Value} (h : RowO w e v vs) (hk : ∀ b, v.ownBlock = some b → w'.heap[b]? = w.heap[b]?) : RowO w' e v vs := by
  rcases h with h | ⟨g, off, cap, cur, rfl, hg, r⟩
  · exact Or.inl h
  · exact Or.inr ⟨g, off, cap, cur, rfl, (hk g rfl).trans hg, r⟩
theorem RowO.form {w : World} {e : TypeId} {a : Option Addr} {l cap : Nat} {vs : List Value} (h : RowO w e (.slice a l cap) vs) : l = vs.length ∧ l ≤ cap := by
  rcases h with ⟨h, rfl⟩ | ⟨g, off, cap', cur, h, hg, hl, _⟩
  · simp only [Value.slice.injEq] at h; obtain ⟨rfl, rfl, rfl⟩ := h; exact ⟨rfl, Nat.le_refl _⟩
  · simp only [Value.slice.injEq] at h; obtain ⟨rfl, rfl, rfl⟩ := h; exact ⟨rfl, hl⟩
/-- what it reads. -/
theorem RowO.cell {w : World} {e : TypeId} {a : Option Addr} {l cap : Nat} {vs : List Value} (h : RowO w e (.slice a l cap) vs) (j : Nat) (u : Value) (hj : vs[j]? = some u) : ∃ g off, a = some ⟨g, off, none⟩ ∧ w.cell? ⟨g, off + j, none⟩ = some u := by
  rcases h with ⟨_, rfl⟩ | ⟨g, off, cap', cur, hv, hg, hl, hs, hc⟩
  · simp at hj
  · simp only [Value.slice.injEq] at hv
    exact ⟨g, off, hv.1, by rw [cell_of_heap hg]; exact hc j u hj⟩
/-- v[k:], where something is left of its room. -/
theorem RowO.drop {w : World} {e : TypeId} {g off l cap : Nat} {vs : List Value} (h : RowO w e (.slice (some ⟨g, off, none⟩) l cap) vs) (k : Nat) (hk : k ≤ l) : RowO w e (.slice (some ⟨g, off + k, none⟩) (l - k) (cap - k)) (vs.drop k) := by
  rcases h with ⟨h, _⟩ | ⟨g', off', cap', cur, hv, hg, hl, hs, hc⟩
  · simp at h
  · simp only [Value.slice.injEq, Option.some.injEq, Addr.mk.injEq, and_true] at hv
    obtain ⟨⟨rfl, rfl⟩, rfl, rfl⟩ := hv
    refine Or.inr ⟨g, off + k, cap - k, cur, by simp, hg, by simp; omega, by omega, fun j u hj => ?_⟩
    rw [List.getElem?_drop] at hj
    rw [Nat.add_assoc]
    exact hc (k + j) u hj
/-- v[l:], where nothing is left of its room. -/
theorem RowO.over {w : World} {e : TypeId} {a : Option Addr} {l cap : Nat} {vs : List Value} (h : RowO w e (.slice a l cap) vs) : RowO w e (.slice a 0 0) [] := by
  rcases h with ⟨h, _⟩ | ⟨g', off', cap', cur, hv, hg, hl, hs, hc⟩
  · simp only [Value.slice.injEq] at h; obtain ⟨rfl, rfl, rfl⟩ := h; exact Or.inl ⟨rfl, rfl⟩
  · simp only [Value.slice.injEq] at hv
    obtain ⟨rfl, rfl, rfl⟩ := hv
    exact Or.inr ⟨g', off', 0, cur, rfl, hg, by simp, by omega, fun j u hj => by simp at hj⟩
/-- a slice is put behind a list of slices. -/
theorem RowO.push {w : World} {v : Value} {vs : List Value} (h : RowO w 43 v vs) (x : Value) (hx : x.oneCell' = true) (hl : vs.length < 4398046511104) :
    ∃ g off cp w', (Builtin.append_ #[32, 32] 32 #[v, .slice (some ⟨w.heap.size, 0, none⟩) 1 1]).run Try.prog (w.alloc (.cells #[x] 43)) = .ok (.slice (some ⟨g, off, none⟩) (vs.length + 1) cp) w' ∧
      RowO w' 43 (.slice (some ⟨g, off, none⟩) (vs.length + 1) cp) (vs ++ [x]) ∧ (v.ownBlock = some g ∨ w.heap.size ≤ g) ∧ w.heap.size ≤ w'.heap.size ∧ (∀ k, k < w.heap.size → v.ownBlock ≠ some k → w'.heap[k]? = w.heap[k]?) ∧ w'.os = w.os ∧ w'.tape = w.tape ∧ w'.output = w.output := by
  obtain ⟨i, hi, hz0, hz1, hz2⟩ := info_three infoSl
  have hnews : ∀ j u, [x][j]? = some u → (w.alloc (.cells #[x] 43)).cell? ((⟨w.heap.size, 0, none⟩ : Addr).add j) = some u := fun j u hj => by
    have hj0 : j = 0 := by
      rcases Nat.eq_zero_or_pos j with h | h
      · exact h
      · rw [List.getElem?_eq_none (by simp; omega)] at hj; simp at hj
    subst hj0
    simp at hj
    subst hj
    rw [show (⟨w.heap.size, 0, none⟩ : Addr).add 0 = ⟨w.heap.size, 0, none⟩ from by unfold Addr.add; split <;> simp_all, cell_of_heap (heap_new w _)]
    rfl
  have of_new : ∀ (v' : Value) (w' : World), w'.ownsRow (w.heap.size + 1) 43 1 v' (vs.length + 1) (vs ++ [x]) → ∃ g cap, v' = .slice (some ⟨g, 0, none⟩) (vs.length + 1) cap ∧ w.heap.size ≤ g ∧ RowO w' 43 (.slice (some ⟨g, 0, none⟩) (vs.length + 1) cap) (vs ++ [x]) := fun v' w' ho => by
    rcases ho.2 with ⟨_, h0⟩ | ⟨g, cap, cur, hv, hB, hg, hl, hm, hs, htk⟩
    · omega
    · refine ⟨g, cap, hv, by omega, Or.inr ⟨g, 0, cap, cur, by simp, hg, by simpa using hl, by omega, fun j u hj => ?_⟩⟩
      rw [Nat.zero_add, ← Array.getElem?_toList]
      have hjl : j < vs.length + 1 := by have := (List.getElem?_eq_some_iff.1 hj).1; simpa using this
      rw [← htk, List.getElem?_take, if_pos (by omega)] at hj
      exact hj
  rcases h with ⟨rfl, rfl⟩ | ⟨g, off, cap, cur, rfl, hg, hlc, hs, hc⟩
  · obtain ⟨v', w', hrun, hown, hgr, _⟩ := run_append_own (P := Try.prog) (w.alloc (.cells #[x] 43)) (w.heap.size + 1) 32 32 43 i _ 1 24 Try.underlying32 hi hz0 hz1 hz2 rfl (by decide) (.slice none 0 0) 0 [] (World.ownsRow_nil _ _ _ 1) ⟨w.heap.size, 0, none⟩ 1 1 [x] (by simp) hnews (by simpa using hx) (by simp [maxLen]) (by simp) (by simp)
    obtain ⟨g, cp, rfl, h1, h2⟩ := of_new v' w' (by simpa using hown)
    have hsz := hgr.size
    simp at hsz
    exact ⟨g, 0, cp, w', hrun, h2, Or.inr h1, by omega, fun k hk _ => (hgr.block k (by simp; omega) (by simp [Value.ownBlock])).trans (heap_old _ _ hk), hgr.os, hgr.tape, hgr.output⟩
  · have hgl := heap_lt hg
    have hg1 : (w.alloc (.cells #[x] 43)).heap[g]? = some (.cells cur 43 (0, 0)) := (heap_old _ _ hgl).trans hg
    by_cases hroom : vs.length + 1 ≤ cap
    · have hrun := run_append_room_cells (P := Try.prog) (w.alloc (.cells #[x] 43)) 32 32 43 i Try.underlying32 hi g off vs.length cap ⟨w.heap.size, 0, none⟩ 1 1 [x] (by rw [hz1]; simp) hnews (by simpa using hx) hroom
        (fun j hj => by simp at hj; subst hj; rw [hz1, cell_of_heap hg1, Array.getElem?_eq_getElem (by omega)]; rfl)
        (fun j hj => by simp at hj; subst hj; rw [hz1]; exact frozen_of_heap hg1 _)
      simp only [hz1, Nat.mul_one, World.setCells] at hrun
      refine ⟨g, off, cap, _, hrun, Or.inr ⟨g, off, cap, cur.setIfInBounds (off + vs.length) x, by simp, heap_setCell hg1, by simpa using hroom, by simpa using hs, fun j u hj => ?_⟩, Or.inl rfl, by simp [World.setCell], fun k hk hn => ?_, rfl, rfl, rfl⟩
      · rcases Nat.lt_or_ge j vs.length with h1 | h1
        · rw [List.getElem?_append_left h1] at hj
          rw [Array.getElem?_setIfInBounds_ne (by omega)]
          exact hc j u hj
        · rw [List.getElem?_append_right h1] at hj
          have h2 : j - vs.length = 0 := by have := (List.getElem?_eq_some_iff.1 hj).1; simp at this; omega
          rw [h2] at hj
          simp at hj
          subst hj
          have : j = vs.length := by omega
          subst this
          rw [Array.getElem?_setIfInBounds_self_of_lt (by omega)]
      · rw [Below.heap_setCell _ _ _ _ (by simp [Value.ownBlock] at hn; simp; omega)]
        exact heap_old _ _ hk
    · obtain ⟨v', w', hrun, hown, hgr⟩ := run_append_arg_grows (P := Try.prog) (w.alloc (.cells #[x] 43)) 32 32 43 i _ 1 24 Try.underlying32 hi hz0 hz1 hz2 rfl (by decide) ⟨g, off, none⟩ vs.length cap vs (by simp)
        (fun j u hj => by
          rw [show (⟨g, off, none⟩ : Addr).add j = ⟨g, off + j, none⟩ from by unfold Addr.add; split <;> simp_all, cell_of_heap hg1]
          exact hc j u hj)
        ⟨w.heap.size, 0, none⟩ 1 1 [x] (by simp) hnews (by omega) (by unfold maxLen; omega) (by omega)
      obtain ⟨g', cp, rfl, h1, h2⟩ := of_new v' w' (by simpa using hown)
      have hsz := hgr.size
      simp at hsz
      exact ⟨g', 0, cp, w', hrun, h2, Or.inr h1, by omega, fun k hk _ => (hgr.block k (by simp; omega) (by simp)).trans (heap_old _ _ hk), hgr.os, hgr.tape, hgr.output⟩
end Go.Proofs.Ytnjhlndikbkeaaa

/-
  NicOrder under way: the lists of what is to come out.
-/
namespace Go.Proofs.Ytnjhlndikbkeaaa
open Go.RowKit
set_option linter.all false

structure OrdR (w wr : World) (q c g h : Nat) (IV OV : Value) (inP : List Part) (outP : List (Value × List Int)) : Prop where
  ir : RowO wr 43 IV (inP.map Part.val)
  orr : RowO wr 43 OV (outP.map Prod.fst)
  io : ∀ b, IV.ownBlock = some b → w.heap.size ≤ b ∧ ¬ NicK q c g h b
  oo : ∀ b, OV.ownBlock = some b → w.heap.size ≤ b ∧ ¬ NicK q c g h b
  two : ∀ b, IV.ownBlock = some b → OV.ownBlock ≠ some b
  ip : ∀ p, p ∈ inP → p.ok w
  op : ∀ p, p ∈ outP → Row wr 5 p.1 (u8s p.2) ∧ (∀ z, z ∈ p.2 → 0 ≤ z ∧ z ≤ 255) ∧ ∀ b, p.1.ownBlock = some b → w.heap.size ≤ b ∧ ¬ NicK q c g h b
  kin : ∀ k, NicK q c g h k → w.heap.size ≤ k ∧ k < wr.heap.size
  bel : Below w.heap.size w wr
theorem OrdR.below {w wr w' : World} {q c g h : Nat} {IV OV : Value} {inP : List Part} {outP : List (Value × List Int)} (x : OrdR w wr q c g h IV OV inP outP) (hb : Below wr.heap.size wr w') : OrdR w w' q c g h IV OV inP outP :=
  ⟨x.ir.keep fun b hb' => hb.block b (x.ir.lt hb'), x.orr.keep fun b hb' => hb.block b (x.orr.lt hb'), x.io, x.oo, x.two, x.ip, fun p hp => ⟨(x.op p hp).1.below hb, (x.op p hp).2⟩, fun k hk => ⟨(x.kin k hk).1, Nat.lt_of_lt_of_le (x.kin k hk).2 hb.size⟩, bstep x.bel hb⟩
theorem OrdR.only {w wr w' : World} {q c g h : Nat} {IV OV : Value} {inP : List Part} {outP : List (Value × List Int)} (x : OrdR w wr q c g h IV OV inP outP) (ho : Only (NicK q c g h) wr w') : OrdR w w' q c g h IV OV inP outP :=
  ⟨x.ir.keep fun b hb => ho.block b (x.io b hb).2 (x.ir.lt hb), x.orr.keep fun b hb => ho.block b (x.oo b hb).2 (x.orr.lt hb), x.io, x.oo, x.two, x.ip, fun p hp => ⟨(x.op p hp).1.keep fun b hb => ho.block b ((x.op p hp).2.2 b hb).2 ((x.op p hp).1.lt hb), (x.op p hp).2⟩, fun k hk => ⟨(x.kin k hk).1, Nat.lt_of_lt_of_le (x.kin k hk).2 ho.size⟩, x.bel.trans (ho.below (fun k hk => (x.kin k hk).1) x.bel.size)⟩
theorem row_off {w : World} {e e' : TypeId} {v v' : Value} {vs vs' : List Value} (h : Row w e v vs) (h' : RowO w e' v' vs') (hne : e ≠ e') : ∀ b, v.ownBlock = some b → v'.ownBlock ≠ some b := fun b h1 h2 => by
  obtain ⟨c1, f1, e1⟩ := h.cells h1
  obtain ⟨c2, e2⟩ := h'.cells h2
  rw [e1] at e2
  simp at e2
  exact hne e2.2.1
/-- a frame that is to come out. -/
theorem OrdR.pushI {w wr : World} {q c g h : Nat} {IV OV : Value} {inP : List Part} {outP : List (Value × List Int)} (x : OrdR w wr q c g h IV OV inP outP) (pt : Part) (hpt : pt.ok w) (hl : inP.length < 4398046511104) :
    ∃ gv off cp w', (Builtin.append_ #[32, 32] 32 #[IV, .slice (some ⟨wr.heap.size, 0, none⟩) 1 1]).run Try.prog (wr.alloc (.cells #[pt.val] 43)) = .ok (.slice (some ⟨gv, off, none⟩) (inP.length + 1) cp) w' ∧
      OrdR w w' q c g h (.slice (some ⟨gv, off, none⟩) (inP.length + 1) cp) OV (inP ++ [pt]) outP ∧ (∀ k, NicK q c g h k → w'.heap[k]? = wr.heap[k]?) ∧ ∀ k, k < wr.heap.size → IV.ownBlock ≠ some k → w'.heap[k]? = wr.heap[k]? := by
  obtain ⟨gv, off, cp, w', hrun, hrow, hg, hs, hk, ho, ht, hu⟩ := x.ir.push pt.val rfl (by simpa using hl)
  simp only [List.length_map] at hrun hrow
  have hkN : ∀ k, NicK q c g h k → w'.heap[k]? = wr.heap[k]? := fun k hk' => hk k (x.kin k hk').2 (fun e => (x.io k e).2 hk')
  refine ⟨gv, off, cp, w', hrun, ⟨by simpa using hrow, x.orr.keep fun b hb => hk b (x.orr.lt hb) (fun e => x.two b e hb), fun b hb => ?_, x.oo, fun b hb e => ?_, fun p hp => ?_, fun p hp => ⟨(x.op p hp).1.keep fun b hb => hk b ((x.op p hp).1.lt hb) (row_off (x.op p hp).1 x.ir (by decide) b hb), (x.op p hp).2⟩, fun k hk' => ⟨(x.kin k hk').1, Nat.lt_of_lt_of_le (x.kin k hk').2 hs⟩, ?_⟩, hkN, hk⟩
  · simp [Value.ownBlock] at hb
    subst hb
    rcases hg with hg | hg
    · exact x.io _ hg
    · exact ⟨Nat.le_trans x.bel.size hg, fun hk' => by have := (x.kin _ hk').2; omega⟩
  · simp [Value.ownBlock] at hb
    subst hb
    rcases hg with hg | hg
    · exact x.two _ hg e
    · have := x.orr.lt e; omega
  · rcases List.mem_append.1 hp with hp | hp
    · exact x.ip p hp
    · simp at hp; subst hp; exact hpt
  · exact x.bel.trans ⟨ho, ht, hu, hs, fun k hk' => hk k (by have := x.bel.size; omega) (fun e => by have := (x.io k e).1; omega)⟩
/-- bytes that are to depart. -/
theorem OrdR.pushO {w wr : World} {q c g h : Nat} {IV OV : Value} {inP : List Part} {outP : List (Value × List Int)} (x : OrdR w wr q c g h IV OV inP outP) (v : Value) (zs : List Int) (hr : Row wr 5 v (u8s zs)) (hz : ∀ z, z ∈ zs → 0 ≤ z ∧ z ≤ 255) (hb : ∀ b, v.ownBlock = some b → w.heap.size ≤ b ∧ ¬ NicK q c g h b) (hl : outP.length < 4398046511104) :
    ∃ gv off cp w', (Builtin.append_ #[32, 32] 32 #[OV, .slice (some ⟨wr.heap.size, 0, none⟩) 1 1]).run Try.prog (wr.alloc (.cells #[v] 43)) = .ok (.slice (some ⟨gv, off, none⟩) (outP.length + 1) cp) w' ∧
      OrdR w w' q c g h IV (.slice (some ⟨gv, off, none⟩) (outP.length + 1) cp) inP (outP ++ [(v, zs)]) ∧ (∀ k, NicK q c g h k → w'.heap[k]? = wr.heap[k]?) ∧ ∀ k, k < wr.heap.size → OV.ownBlock ≠ some k → w'.heap[k]? = wr.heap[k]? := by
  obtain ⟨gv, off, cp, w', hrun, hrow, hg, hs, hk, ho, ht, hu⟩ := x.orr.push v hr.one (by simpa using hl)
  simp only [List.length_map] at hrun hrow
  have hkN : ∀ k, NicK q c g h k → w'.heap[k]? = wr.heap[k]? := fun k hk' => hk k (x.kin k hk').2 (fun e => (x.oo k e).2 hk')
  have hkR : ∀ (v' : Value) (ys : List Int), Row wr 5 v' (u8s ys) → Row w' 5 v' (u8s ys) := fun v' ys h' => h'.keep fun b hb' => hk b (h'.lt hb') (row_off h' x.orr (by decide) b hb')
  refine ⟨gv, off, cp, w', hrun, ⟨x.ir.keep fun b hb => hk b (x.ir.lt hb) (fun e => x.two b hb e), by simpa using hrow, x.io, fun b hb => ?_, fun b hb e => ?_, x.ip, fun p hp => ?_, fun k hk' => ⟨(x.kin k hk').1, Nat.lt_of_lt_of_le (x.kin k hk').2 hs⟩, ?_⟩, hkN, hk⟩
  · simp [Value.ownBlock] at hb
    subst hb
    rcases hg with hg | hg
    · exact x.oo _ hg
    · exact ⟨Nat.le_trans x.bel.size hg, fun hk' => by have := (x.kin _ hk').2; omega⟩
  · simp [Value.ownBlock] at e
    subst e
    rcases hg with hg | hg
    · exact x.two _ hb hg
    · have := x.ir.lt hb; omega
  · rcases List.mem_append.1 hp with hp | hp
    · exact ⟨hkR _ _ (x.op p hp).1, (x.op p hp).2⟩
    · simp at hp; subst hp; exact ⟨hkR _ _ hr, hz, hb⟩
  · exact x.bel.trans ⟨ho, ht, hu, hs, fun k hk' => hk k (by have := x.bel.size; omega) (fun e => by have := (x.oo k e).1; omega)⟩
theorem RowO.not {w : World} {e t : TypeId} {v : Value} {vs : List Value} {b : Nat} {C : Array Value} {f : Nat × Nat} (h : RowO w e v vs) (hb : w.heap[b]? = some (.cells C t f)) (hne : t ≠ e) : v.ownBlock ≠ some b := fun h1 => by
  obtain ⟨c2, e2⟩ := h.cells h1
  rw [hb] at e2
  simp at e2
  exact hne e2.2.1
/-- the first list, less its first k; or the second. -/
theorem OrdR.toI {w wr : World} {q c g h : Nat} {IV OV IV' : Value} {inP inP' : List Part} {outP : List (Value × List Int)} (x : OrdR w wr q c g h IV OV inP outP) (hr : RowO wr 43 IV' (inP'.map Part.val)) (hb : ∀ b, IV'.ownBlock = some b → IV.ownBlock = some b) (hm : ∀ p, p ∈ inP' → p ∈ inP) : OrdR w wr q c g h IV' OV inP' outP :=
  ⟨hr, x.orr, fun b h1 => x.io b (hb b h1), x.oo, fun b h1 => x.two b (hb b h1), fun p hp => x.ip p (hm p hp), x.op, x.kin, x.bel⟩
theorem OrdR.toO {w wr : World} {q c g h : Nat} {IV OV OV' : Value} {inP : List Part} {outP outP' : List (Value × List Int)} (x : OrdR w wr q c g h IV OV inP outP) (hr : RowO wr 43 OV' (outP'.map Prod.fst)) (hb : ∀ b, OV'.ownBlock = some b → OV.ownBlock = some b) (hm : ∀ p, p ∈ outP' → p ∈ outP) : OrdR w wr q c g h IV OV' inP outP' :=
  ⟨x.ir, hr, x.io, fun b h1 => x.oo b (hb b h1), fun b h1 e => x.two b h1 (hb b e), x.ip, fun p hp => x.op p (hm p hp), x.kin, x.bel⟩
/-- NicOrder under way. -/
structure OrdI (w wr : World) (n m q : Nat) (own : Mac) (c g h : Nat) (S : CS) (N : NS) (IV OV : Value) (inP : List Part) (outP : List (Value × List Int)) (L i : Nat) : Prop where
  ex : ∃ (came laid : List (List Int)) (got gone : Nat), OrdC wr n m q own c g h S N came laid got gone i ∧ inP.map Part.zs = (came.drop got).filter (goodB own) ∧ outP.map Prod.snd = laid.drop gone ∧ (L < i → got = came.length)
  mem : OrdR w wr q c g h IV OV inP outP
theorem OrdI.below {w wr w' : World} {n m q : Nat} {own : Mac} {c g h : Nat} {S : CS} {N : NS} {IV OV : Value} {inP : List Part} {outP : List (Value × List Int)} {L i : Nat} (x : OrdI w wr n m q own c g h S N IV OV inP outP L i) (hb : Below wr.heap.size wr w') : OrdI w w' n m q own c g h S N IV OV inP outP L i := by
  obtain ⟨⟨came, laid, got, gone, h1, h2, h3, h4⟩, h5⟩ := x
  exact ⟨⟨came, laid, got, gone, h1.below hb, h2, h3, h4⟩, h5.below hb⟩
end Go.Proofs.Ytnjhlndikbkeaaa

/-
  The statement NicOrder where no card is made.
-/
namespace Go.Proofs.Ytnjhlndikbkeaaa
open Go.RowKit
set_option linter.all false

set_option maxRecDepth 20000 in
set_option maxHeartbeats 2000000 in
theorem order_no (rx tx : Int) (own : Mac) (v : Value) (w : World) (h : fitsB rx = false ∨ fitsB tx = false) :
    Calls Try.prog 5 #[.int .i64 rx, .int .i64 tx, own.val, v] w fun e w' => e = .returned (.bool true) ∧ Below w.heap.size w w' := by
  have HC : Hid (∀ w', Calls Try.prog 7 #[.int .i64 rx, .int .i64 tx] w' fun e w'' => e = .returned (.pointer none) ∧ w'' = w') := fun w' => new_no rx tx w' h
  have HR : Hid (∀ w', Calls Try.prog 8 #[.int .i64 rx, .int .i64 tx] w' fun e w'' => e = .returned (.pointer none) ∧ w'' = w') := fun w' => refNew_no rx tx w' h
  have HN : Hid (∀ w', Calls Try.prog 9 #[.pointer none, own.val] w' fun e w'' => e = .returned (.pointer none) ∧ Below w'.heap.size w' w'') := fun w' => nnew_no own w'
  obtain ⟨o0, o1, o2, o3, o4, o5⟩ := own
  simp only [Mac.val] at *
  clear h
  go_enter Try.func5, Try.ntmps5
  go_wp2_with fail
  refine (nlive_any _).mono ?_
  rintro e w1 ⟨rfl, hb1⟩
  have HB1 := hid (bstep (balloc w _) hb1)
  have ha1 : ∀ o, w1.cell? ⟨w.heap.size, o, none⟩ = (#[.int .u8 o0, .int .u8 o1, .int .u8 o2, .int .u8 o3, .int .u8 o4, .int .u8 o5] : Array Value)[o]? := fun o => cell_of_heap (kept (heap_new w _) hb1) o
  have hw1 : w.heap.size < w1.heap.size := by have := hb1.size; simp at this; omega
  clear hb1
  go_wp2_with fail
  refine (HC.out _).mono ?_
  rintro e w2 ⟨rfl, hw2⟩
  subst w2
  go_wp2_with fail
  refine (HN.out _).mono ?_
  rintro e w3 ⟨rfl, hb3⟩
  have HB3 := hid (bstep HB1.out hb3)
  clear hb3
  go_wp2_with fail
  refine (HR.out _).mono ?_
  rintro e w4 ⟨rfl, hw4⟩
  subst w4
  go_wp2
  go_ret
  exact ⟨rfl, HB3.out⟩
end Go.Proofs.Ytnjhlndikbkeaaa

/-
  NicOrder: what a Poll hands out, held against what was to come out.
-/
namespace Go.Proofs.Ytnjhlndikbkeaaa
open Go.RowKit
set_option linter.all false

theorem pollF_len (own : Mac) : ∀ (k : Nat) (S : CS) (N : NS), (pollF own k S N).1.length ≤ k
  | 0, S, N => by simp [pollF]
  | k + 1, S, N => by
    unfold pollF
    split
    · simp
    · rename_i p _
      split
      · simp
      · have := pollF_len own k (S.given N.rt) ((N.saw (goodB own p.zs)).on S.R.length)
        simp only [List.length_append]
        split <;> simp <;> omega
theorem ord_poll2 {wr : World} {n m q : Nat} {own : Mac} {c g h : Nat} {S : CS} {N : NS} {came laid : List (List Int)} {got gone i : Nat} (x : OrdC wr n m q own c g h S N came laid got gone i) (hi : i < 4398046511104) (ho : own.ok) (b : Int) (hb : b ≤ 9223372036854775807) :
    Calls Try.prog 18 #[.pointer (some ⟨q, 0, none⟩), .int .i64 b] wr fun e w' => ∃ (v : Value) (fs : List (List Int × Value)) (S' : CS) (N' : NS) (got' : Nat), e = .returned v ∧ got ≤ got' ∧ (got' = came.length ∨ got' = got + b.toNat) ∧ got' ≤ came.length ∧ fs.map Prod.fst = ((came.drop got).take (got' - got)).filter (goodB own) ∧ OrdC w' n m q own c g h S' N' came laid got' gone (i + 1) ∧ Frs wr.heap.size w' v fs ∧ Only (NicK q c g h) wr w' ∧ fs.length ≤ b.toNat := by
  refine (poll_any q own c g h n m S N b i wr x.nic ho hb x.cn (by omega)).mono ?_
  rintro e w' ⟨v, fs, rfl, h1, h2, h3, h4⟩
  obtain ⟨got', g1, g2, g3, g4, g5, g6, g7⟩ := pollF_win own n came b.toNat S N got x.rx x.rt
  have hlen : fs.length ≤ b.toNat := by
    have := pollF_len own b.toNat S N
    rw [← h1, List.length_map] at this
    exact this
  refine ⟨v, fs, _, _, got', rfl, g1, g2, g3, h1.trans g4, ⟨h2, g5, by rw [g7.T]; exact x.tx, by rw [g7.nr]; exact x.nr, by rw [g7.nt]; exact x.nt, g6, by rw [g7.tt]; exact x.tt, ?_, ?_, ?_, ?_, ?_⟩, h3, h4, hlen⟩
  · have := x.ci; rw [g7.ci]; omega
  · have := x.cd; rw [g7.cd]; omega
  · have := x.co; rw [g7.co]; omega
  · have := x.cn; rw [g7.sum]; omega
  · have := x.sn; rw [g7.sn, g7.rf]; omega
/-- a frame that is taken is sealed as it came. -/
theorem good_seal {own : Mac} {zs : List Int} (h : goodB own zs = true) (hz : ∀ z, z ∈ zs → 0 ≤ z ∧ z ≤ 255) : sealE (openR zs).k (openR zs).ys = 0 ∧ sealB (openR zs).d (openR zs).s (openR zs).k (openR zs).ys = zs := by
  have h0 : (openR zs).er = 0 := by unfold goodB at h; simp at h; exact h.1
  unfold openR at h0 ⊢
  by_cases h1 : zs.length < 60
  · rw [if_pos h1] at h0; simp at h0
  · rw [if_neg h1] at h0 ⊢
    by_cases h2 : 1514 < zs.length
    · rw [if_pos h2] at h0; simp at h0
    · rw [if_neg h2] at h0 ⊢
      by_cases h3 : kindAt zs < 1536
      · rw [if_pos h3] at h0; simp at h0
      · rw [if_neg h3]
        have hk : kindAt zs ≤ 65535 := by
          have b12 := getD_mem_bd hz 12
          have b13 := getD_mem_bd hz 13
          unfold kindAt; omega
        have hl : (zs.drop 14).length = zs.length - 14 := by simp
        unfold sealE sealB
        simp only
        rw [if_neg (by omega), if_neg (by omega), if_neg (by omega), if_neg (by omega)]
        exact ⟨rfl, sealL_back zs ⟨by omega, by omega, by omega⟩ hz⟩
theorem flat14 : ∀ (fs : List (List Int × Value)) (j t : Nat) (p : List Int × Value), fs[j]? = some p → t < 14 → (fs.flatMap frL)[j * 14 + t]? = (frL p)[t]?
  | [], j, t, p, h, _ => by simp at h
  | f :: r, 0, t, p, h, ht => by
    simp at h
    subst h
    rw [List.flatMap_cons, Nat.zero_mul, Nat.zero_add, List.getElem?_append_left (by rw [frL_len]; exact ht)]
  | f :: r, j + 1, t, p, h, ht => by
    rw [List.flatMap_cons, List.getElem?_append_right (by rw [frL_len]; omega), frL_len, show (j + 1) * 14 + t - 14 = j * 14 + t by omega]
    exact flat14 r j t p (by simpa using h) ht
/-- one frame of a Poll's. -/
structure OneI (w w5 : World) (av : Option Addr) (j : Nat) (pt : Part) (gl : Nat) (d s : Mac) (kk : Int) (a : Option Addr) (n c : Nat) : Prop where
  av : av = some ⟨gl, 0, none⟩
  cells : ∀ W, Below w5.heap.size w5 W → ∀ t u, (frameC d s kk (.slice a n c)).toList[t]? = some u → W.cell? ⟨gl, j * 14 + t, none⟩ = some u
  sld : ∀ W, Below w5.heap.size w5 W → Calls Try.prog 19 #[frameV d s kk (.slice a n c)] W fun e w' => ∃ a' n' c', e = .returned (.tuple #[.slice a' n' c', .int .i64 0]) ∧ Ans W w' pt.zs a' n' c'
/-- what a Poll has handed out, beside the list. -/
structure PolledI (w w5 : World) (av : Option Addr) (lf : Nat) (inP : List Part) : Prop where
  le : lf ≤ inP.length
  one : ∀ j, j < lf → ∃ gl d s kk a n c, OneI w w5 av j (inP.getD j Part.nil) gl d s kk a n c
theorem polled_of {w W0 w5 : World} {own : Mac} {came : List (List Int)} {got got' : Nat} {inP : List Part} {fs : List (List Int × Value)} {av : Option Addr} {cv : Nat} (hin : inP.map Part.zs = (came.drop got).filter (goodB own)) (hg : got ≤ got') (hf : fs.map Prod.fst = ((came.drop got).take (got' - got)).filter (goodB own)) (hr : Frs W0.heap.size w5 (.slice av fs.length cv) fs) (hip : ∀ p, p ∈ inP → p.ok w) :
    PolledI w w5 av fs.length inP ∧ (inP.drop fs.length).map Part.zs = (came.drop got').filter (goodB own) := by
  have e1 : came.drop got = (came.drop got).take (got' - got) ++ came.drop got' := by
    conv => lhs; rw [← List.take_append_drop (got' - got) (came.drop got)]
    rw [List.drop_drop, show got + (got' - got) = got' by omega]
  have e2 : inP.map Part.zs = fs.map Prod.fst ++ (came.drop got').filter (goodB own) := by rw [hin, hf, ← List.filter_append, ← e1]
  have hle : fs.length ≤ inP.length := by have := congrArg List.length e2; simp at this; omega
  refine ⟨⟨hle, fun j hj => ?_⟩, ?_⟩
  · have hjp : j < inP.length := by omega
    have hget : (inP.getD j Part.nil) = inP[j] := by simp [List.getD_eq_getElem?_getD, hjp]
    have hzs : (fs[j]).1 = (inP[j]).zs := by
      have h1 : (inP.map Part.zs)[j]? = (fs.map Prod.fst ++ (came.drop got').filter (goodB own))[j]? := by rw [e2]
      rw [List.getElem?_append_left (by simpa using hj)] at h1
      simp [hjp, hj] at h1
      exact h1.symm
    have hok := hip _ (List.getElem_mem hjp)
    have hgood : goodB own (inP[j]).zs = true := by
      have h2 : (fs[j]).1 ∈ fs.map Prod.fst := List.mem_map.2 ⟨_, List.getElem_mem hj, rfl⟩
      rw [hf] at h2
      rw [← hzs]
      exact (List.mem_filter.1 h2).2
    obtain ⟨hr2, hr3⟩ := hr.dat _ (List.getElem_mem hj)
    rw [hzs] at hr2
    obtain ⟨a, n, hv, hn⟩ := hr2.form
    have hopn := openR_ok (inP[j]).zs hok.1
    obtain ⟨hs1, hs2⟩ := good_seal hgood hok.1
    have hrow := hr.row
    rcases hrow.2 with ⟨_, h0⟩ | ⟨gl, cap, cur, hva, hB, hgl, hnc, hcm, hcs, htk⟩
    · omega
    · simp only [Value.slice.injEq] at hva
      rw [hget]
      refine ⟨gl, (openR (inP[j]).zs).d, (openR (inP[j]).zs).s, (openR (inP[j]).zs).k, a, (u8s (openR (inP[j]).zs).ys).length, n, hva.1, fun W hb t u ht => ?_, fun W hb => ?_⟩
      · have ht14 : t < 14 := by have := (List.getElem?_eq_some_iff.1 ht).1; exact this
        rw [cell_of_heap (kept hgl hb), ← Array.getElem?_toList]
        have h1 : (cur.toList.take (fs.length * 14))[j * 14 + t]? = (fs.flatMap frL)[j * 14 + t]? := by rw [htk]
        rw [List.getElem?_take, if_pos (by omega), flat14 fs j t _ (List.getElem?_eq_getElem hj) ht14] at h1
        rw [h1, ← ht]
        unfold frL
        rw [hzs, hv]
      · obtain ⟨pt, p1, p2, p3⟩ := (hr2.below hb).part hopn.2.2.1
        have := refSeal_u (openR (inP[j]).zs).d (openR (inP[j]).zs).s (openR (inP[j]).zs).k pt W hopn.1 hopn.2.1 (by rw [p2]; have := hopn.2.2.2; omega) p3
        rw [← p1, p2, hs1, hs2, hv] at this
        exact this
  · rw [List.map_drop, e2, List.drop_append_of_le_length (by simp)]
    simp
end Go.Proofs.Ytnjhlndikbkeaaa
