import Derived.Test.YtdgjpikphooilaaNOn2
import Derived.Test.YtdgjpikphooilaaNAsk3
import Derived.Test.YtdgjpikphooilaaNNext
import Derived.Test.YtdgjpikphooilaaNgKT
import Derived.BigQuiet
/-
  Neigh: Ask and On, each as one.
-/
namespace Go.Proofs.Ytdgjpikphooilaa
open Go.RowKit
set_option linter.all false

theorem cask_any (c m : Nat) (S : St) (V : Int → Value) (src ip : Int) (pt : Part) (now : Int) (w : World) (x : CaW w c m S V) (hip : ipOk ip) (hsrc : ipOk src) (hpk : ∀ wx, Two c m w wx → pt.ok wx) (hpl : pt.zs.length ≤ 140737488351232) :
    Calls Try.prog 11 #[.pointer (some ⟨c, 0, none⟩), .int .u32 src, .int .u32 ip, pt.val, .int .i64 now] w fun e w' => ∃ a cp, e = .returned (.slice a (askF S src ip pt.zs now).2.length cp) ∧ Hid (Answ w w' c m S (askF S src ip pt.zs now).1 V a cp (askF S src ip pt.zs now).2) := by
  simp only [askF]
  cases hl : look S.L ip with
  | none => exact caskD c m S V src ip pt now w x hip hsrc hl hpk hpl
  | some y =>
    by_cases hq : 0 < y.q
    · simp only [if_pos hq]
      exact (caskA c m S V src ip pt now y w x hip hsrc hl hq hpk hpl).mono fun e w' ⟨h1, h2⟩ => ⟨none, 0, h1, h2⟩
    · by_cases hu : hearN S.now now < y.unt
      · simp only [if_neg hq, if_pos hu]
        exact (caskB c m S V src ip pt now y w x hip hl hq hu hpk hpl).mono fun e w' ⟨g, h1, h2⟩ => ⟨some ⟨g, 0, none⟩, 1, h1, h2⟩
      · simp only [if_neg hq, if_neg hu]
        exact caskC c m S V src ip pt now y w x hip hsrc hl hq hu hpk hpl
theorem opB_val (o : Int) : opB o = (decide (o = 1) || decide (o = 2)) := by
  unfold opB
  by_cases h1 : o = 1 <;> by_cases h2 : o = 2 <;> simp_all
theorem on_any (c m : Nat) (S : St) (V : Int → Value) (p : Arp) (own now : Int) (w : World) (x : CaW w c m S V) (hp : p.ok) (how : ipOk own) :
    Calls Try.prog 17 #[.pointer (some ⟨c, 0, none⟩), p.val, .int .u32 own, .int .i64 now] w fun e w' => ∃ a cp, e = .returned (.slice a (onF S p own now).2.length cp) ∧ Hid (Answ w w' c m S (onF S p own now).1 V a cp (onF S p own now).2) := by
  obtain ⟨o, ⟨s0, s1, s2, s3, s4, s5⟩, si, ⟨d0, d1, d2, d3, d4, d5⟩, di⟩ := p
  simp only [onF, opB_val]
  by_cases h1 : o = 1
  · by_cases hg : grpB ⟨s0, s1, s2, s3, s4, s5⟩ = true
    · rw [if_pos (Or.inr hg)]
      exact (onG1 c m S V o si di s0 s1 s2 s3 s4 s5 d0 d1 d2 d3 d4 d5 own now w x hp how h1 hg).mono fun e w' ⟨h1, h2⟩ => ⟨none, 0, h1, h2⟩
    · rw [if_neg (by simp [h1, hg])]
      have hg' := Bool.eq_false_iff.2 hg
      by_cases h3 : own = 0
      · have ha : askedB (Arp.mk o ⟨s0, s1, s2, s3, s4, s5⟩ si ⟨d0, d1, d2, d3, d4, d5⟩ di) own = false := by simp [askedB, h3]
        cases hh : hostB si with
        | false =>
          have hw : wantB (Arp.mk o ⟨s0, s1, s2, s3, s4, s5⟩ si ⟨d0, d1, d2, d3, d4, d5⟩ di) own = false := by simp [wantB, hh]
          rw [ha, hw]
          exact on11 c m S V o si di s0 s1 s2 s3 s4 s5 d0 d1 d2 d3 d4 d5 own now w x hp how h1 hg' h3 hh
        | true =>
          by_cases h5 : si = own
          · have hw : wantB (Arp.mk o ⟨s0, s1, s2, s3, s4, s5⟩ si ⟨d0, d1, d2, d3, d4, d5⟩ di) own = false := by simp [wantB, h5]
            rw [ha, hw]
            exact on12 c m S V o si di s0 s1 s2 s3 s4 s5 d0 d1 d2 d3 d4 d5 own now w x hp how h1 hg' h3 hh h5
          · have hw : wantB (Arp.mk o ⟨s0, s1, s2, s3, s4, s5⟩ si ⟨d0, d1, d2, d3, d4, d5⟩ di) own = true := by simp [wantB, hh, h5]
            rw [ha, hw, if_pos rfl, if_neg (by simp), List.append_nil]
            exact on13 c m S V o si di s0 s1 s2 s3 s4 s5 d0 d1 d2 d3 d4 d5 own now w x hp how h1 hg' h3 hh h5
      · by_cases h4 : di = own
        · have ha : askedB (Arp.mk o ⟨s0, s1, s2, s3, s4, s5⟩ si ⟨d0, d1, d2, d3, d4, d5⟩ di) own = true := by simp [askedB, h3, h1, h4]
          cases hh : hostB si with
          | false =>
            have hw : wantB (Arp.mk o ⟨s0, s1, s2, s3, s4, s5⟩ si ⟨d0, d1, d2, d3, d4, d5⟩ di) own = false := by simp [wantB, hh]
            rw [ha, hw, if_pos rfl, if_neg (by simp)]
            have := on14 c m S V o si di s0 s1 s2 s3 s4 s5 d0 d1 d2 d3 d4 d5 own now w x hp how h1 hg' h3 h4 hh
            subst h1
            exact this
          | true =>
            by_cases h5 : si = own
            · have hw : wantB (Arp.mk o ⟨s0, s1, s2, s3, s4, s5⟩ si ⟨d0, d1, d2, d3, d4, d5⟩ di) own = false := by simp [wantB, h5]
              rw [ha, hw, if_pos rfl, if_neg (by simp)]
              have := on15 c m S V o si di s0 s1 s2 s3 s4 s5 d0 d1 d2 d3 d4 d5 own now w x hp how h1 hg' h3 h4 hh h5
              subst h1
              exact this
            · have hw : wantB (Arp.mk o ⟨s0, s1, s2, s3, s4, s5⟩ si ⟨d0, d1, d2, d3, d4, d5⟩ di) own = true := by simp [wantB, hh, h5]
              rw [ha, hw, if_pos rfl, if_pos rfl]
              have := on16 c m S V o si di s0 s1 s2 s3 s4 s5 d0 d1 d2 d3 d4 d5 own now w x hp how h1 hg' h3 h4 hh h5
              subst h1
              exact this
        · have ha : askedB (Arp.mk o ⟨s0, s1, s2, s3, s4, s5⟩ si ⟨d0, d1, d2, d3, d4, d5⟩ di) own = false := by simp [askedB, h4]
          cases hh : hostB si with
          | false =>
            have hw : wantB (Arp.mk o ⟨s0, s1, s2, s3, s4, s5⟩ si ⟨d0, d1, d2, d3, d4, d5⟩ di) own = false := by simp [wantB, hh]
            rw [ha, hw]
            exact on17 c m S V o si di s0 s1 s2 s3 s4 s5 d0 d1 d2 d3 d4 d5 own now w x hp how h1 hg' h3 h4 hh
          | true =>
            by_cases h5 : si = own
            · have hw : wantB (Arp.mk o ⟨s0, s1, s2, s3, s4, s5⟩ si ⟨d0, d1, d2, d3, d4, d5⟩ di) own = false := by simp [wantB, h5]
              rw [ha, hw]
              exact on18 c m S V o si di s0 s1 s2 s3 s4 s5 d0 d1 d2 d3 d4 d5 own now w x hp how h1 hg' h3 h4 hh h5
            · have hw : wantB (Arp.mk o ⟨s0, s1, s2, s3, s4, s5⟩ si ⟨d0, d1, d2, d3, d4, d5⟩ di) own = true := by simp [wantB, hh, h5]
              rw [ha, hw, if_pos rfl, if_neg (by simp), List.append_nil]
              exact on19 c m S V o si di s0 s1 s2 s3 s4 s5 d0 d1 d2 d3 d4 d5 own now w x hp how h1 hg' h3 h4 hh h5
  · by_cases h2 : o = 2
    · by_cases hg : grpB ⟨s0, s1, s2, s3, s4, s5⟩ = true
      · rw [if_pos (Or.inr hg)]
        exact (onG2 c m S V o si di s0 s1 s2 s3 s4 s5 d0 d1 d2 d3 d4 d5 own now w x hp how h2 hg).mono fun e w' ⟨h1, h2⟩ => ⟨none, 0, h1, h2⟩
      · rw [if_neg (by simp [h2, hg])]
        have hg' := Bool.eq_false_iff.2 hg
        have ha : askedB (Arp.mk o ⟨s0, s1, s2, s3, s4, s5⟩ si ⟨d0, d1, d2, d3, d4, d5⟩ di) own = false := by simp [askedB, h2]
        by_cases h3 : own = 0
        · cases hh : hostB si with
          | false =>
            have hw : wantB (Arp.mk o ⟨s0, s1, s2, s3, s4, s5⟩ si ⟨d0, d1, d2, d3, d4, d5⟩ di) own = false := by simp [wantB, hh]
            rw [ha, hw]
            exact on210 c m S V o si di s0 s1 s2 s3 s4 s5 d0 d1 d2 d3 d4 d5 own now w x hp how h2 hg' h3 hh
          | true =>
            by_cases h5 : si = own
            · have hw : wantB (Arp.mk o ⟨s0, s1, s2, s3, s4, s5⟩ si ⟨d0, d1, d2, d3, d4, d5⟩ di) own = false := by simp [wantB, h5]
              rw [ha, hw]
              exact on211 c m S V o si di s0 s1 s2 s3 s4 s5 d0 d1 d2 d3 d4 d5 own now w x hp how h2 hg' h3 hh h5
            · have hw : wantB (Arp.mk o ⟨s0, s1, s2, s3, s4, s5⟩ si ⟨d0, d1, d2, d3, d4, d5⟩ di) own = true := by simp [wantB, hh, h5]
              rw [ha, hw, if_pos rfl, if_neg (by simp), List.append_nil]
              exact on212 c m S V o si di s0 s1 s2 s3 s4 s5 d0 d1 d2 d3 d4 d5 own now w x hp how h2 hg' h3 hh h5
        · cases hh : hostB si with
          | false =>
            have hw : wantB (Arp.mk o ⟨s0, s1, s2, s3, s4, s5⟩ si ⟨d0, d1, d2, d3, d4, d5⟩ di) own = false := by simp [wantB, hh]
            rw [ha, hw]
            exact on213 c m S V o si di s0 s1 s2 s3 s4 s5 d0 d1 d2 d3 d4 d5 own now w x hp how h2 hg' h3 hh
          | true =>
            by_cases h5 : si = own
            · have hw : wantB (Arp.mk o ⟨s0, s1, s2, s3, s4, s5⟩ si ⟨d0, d1, d2, d3, d4, d5⟩ di) own = false := by simp [wantB, h5]
              rw [ha, hw]
              exact on214 c m S V o si di s0 s1 s2 s3 s4 s5 d0 d1 d2 d3 d4 d5 own now w x hp how h2 hg' h3 hh h5
            · have hw : wantB (Arp.mk o ⟨s0, s1, s2, s3, s4, s5⟩ si ⟨d0, d1, d2, d3, d4, d5⟩ di) own = true := by simp [wantB, hh, h5]
              rw [ha, hw, if_pos rfl, if_neg (by simp), List.append_nil]
              exact on215 c m S V o si di s0 s1 s2 s3 s4 s5 d0 d1 d2 d3 d4 d5 own now w x hp how h2 hg' h3 hh h5
    · rw [if_pos (Or.inl (by simp [h1, h2]))]
      exact (onX c m S V o si di s0 s1 s2 s3 s4 s5 d0 d1 d2 d3 d4 d5 own now w x hp how h1 h2).mono fun e w' ⟨h1, h2⟩ => ⟨none, 0, h1, h2⟩
end Go.Proofs.Ytdgjpikphooilaa

/-
  Neigh: what live's calls leave behind.
-/
namespace Go.Proofs.Ytdgjpikphooilaa
open Go.RowKit
set_option linter.all false

def aM : Mac := ⟨2, 0, 0, 0, 0, 10⟩
def bM : Mac := ⟨2, 0, 0, 0, 0, 11⟩
def lS0 : St := newSt aM 2
def lS1 : St := ⟨aM, 2, 0, [⟨167772161, 10, zeroMac, 1, 167772170, [112]⟩]⟩
def lS2 : St := ⟨aM, 2, 3, [⟨167772161, 10, zeroMac, 1, 167772170, [114]⟩]⟩
def lS3 : St := ⟨aM, 2, 10, [⟨167772161, 20, zeroMac, 2, 167772170, [114]⟩]⟩
def lS4 : St := ⟨aM, 2, 12, [⟨167772161, 612, bM, 0, 0, []⟩]⟩
def lS5 : St := ⟨aM, 2, 13, [⟨167772161, 612, bM, 0, 0, []⟩]⟩
def lE1 : Ab := ⟨167772161, 0, zeroMac, 0, 167772170, [112]⟩
def lE2 : Ab := ⟨167772161, 10, zeroMac, 1, 167772170, [114]⟩
theorem live1 : askF lS0 167772170 167772161 [112] 0 = (lS1, [queS lS0 167772161 lE1]) := by rfl
theorem live2 : askF lS1 167772170 167772161 [114] 3 = (lS2, []) := by rfl
theorem live3 : nextV lS2 = 10 := by rfl
theorem live4 : tickF lS2 10 = (lS3, [queS { lS2 with now := 10 } 167772161 lE2]) := by rfl
theorem live5 : onF lS3 (tellP bM (askP aM 167772170 167772161)) 167772170 12 = (lS4, [⟨bM, 2048, [114]⟩]) := by rfl
theorem live6 : onF lS4 (askP bM 0 167772170) 167772170 13 = (lS5, [tellS lS5 (askP bM 0 167772170)]) := by rfl

theorem okP1 : (tellP bM (askP aM 167772170 167772161)).ok := by simp [Arp.ok, tellP, askP, aM, bM, zeroMac, Mac.ok, ipOk]
theorem okP2 : (askP bM 0 167772170).ok := by simp [Arp.ok, tellP, askP, aM, bM, zeroMac, Mac.ok, ipOk]
/-- what is sent, alone. -/
theorem Answ.sing {w w' : World} {c m : Nat} {S S' : St} {V : Int → Value} {a : Option Addr} {cp : Nat} {sd : Sd} (h : Answ w w' c m S S' V a cp [sd]) (h0 : sd.zs ≠ []) : ∃ g C gd D ad cpd, a = some ⟨g, 0, none⟩ ∧ w'.heap[g]? = some (.cells C 59 (0, 0)) ∧ (∀ (j : Nat) (u : Value), (sd.cells (.slice ad sd.zs.length cpd))[j]? = some u → C[j]? = some u) ∧ g ≠ c ∧ g ≠ m ∧ w'.heap[gd]? = some D ∧ gd ≠ c ∧ gd ≠ m ∧ (∀ w'' : World, w''.heap[gd]? = some D → Row w'' 5 (.slice ad sd.zs.length cpd) (u8s sd.zs)) := by
  obtain ⟨l, V', A⟩ := h
  obtain ⟨es, clock, hm, _⟩ := A.ca.map
  obtain ⟨p, rfl, e⟩ : ∃ p, l = [p] ∧ p.1 = sd := by
    have := A.map
    match l, this with
    | [p], h => exact ⟨p, rfl, by simpa using h⟩
  subst e
  have hd := A.outs.dat p (by simp)
  obtain ⟨ad, cpd, hv, _⟩ := hd.form
  rw [u8s_len] at hv
  obtain ⟨g, cap, h1, h2, h3⟩ := A.outs.row.some_of (by simp)
  simp only [List.length_cons, List.length_nil, Nat.zero_add, Value.slice.injEq] at h1
  obtain ⟨rfl, _, rfl⟩ := h1
  obtain ⟨C, hC⟩ := A.outs.row.obj (g := g) rfl
  have hgd : ∃ gd, p.2.ownBlock = some gd := by
    rcases hd with ⟨h4, h5⟩ | ⟨gd, cap', cur, lo, hi, h4, _⟩
    · exfalso
      apply h0
      have := congrArg List.length h5
      rw [u8s_len] at this
      exact List.eq_nil_of_length_eq_zero (by simpa using this)
    · exact ⟨gd, by rw [h4]; rfl⟩
  obtain ⟨gd, hgd⟩ := hgd
  have hgl := hd.lt hgd
  refine ⟨g, C, gd, w'.heap[gd], ad, cpd, rfl, hC, fun j u hj => ?_, rowS_not A.outs.row A.ca.box (by decide) g rfl, rowS_not_map A.outs.row hm g rfl, Array.getElem?_eq_getElem hgl, row_not hd A.ca.box (by decide) gd hgd, row_not_map hd hm gd hgd, fun w'' h'' => ?_⟩
  · have h5 : (sdCells [p])[j]? = some u := by
      rw [← hv] at hj
      simpa [sdCells, ← Array.getElem?_toList] using hj
    have h6 := RowS.cell (n := 1) (cap := cp) A.outs.row h5
    rw [cell_of_heap hC] at h6
    exact h6
  · rw [← hv]
    refine hd.keep fun b hb => ?_
    rw [hgd] at hb
    simp at hb; subst hb
    rw [h'', Array.getElem?_eq_getElem hgl]
theorem LkI.sing {w w' : World} {a : Option Addr} {cp : Nat} {y : Ab} (h : LkI w w' a 1 cp [y]) : ∃ g C, a = some ⟨g, 0, none⟩ ∧ w'.heap[g]? = some (.cells C 68 (0, 0)) ∧ (∀ (j : Nat) (u : Value), (lookC y)[j]? = some u → C[j]? = some u) ∧ w.heap.size ≤ g := by
  obtain ⟨g, cap, h1, h2, h3⟩ := h.row.some_of (by simp)
  simp only [Value.slice.injEq] at h1
  obtain ⟨rfl, _, rfl⟩ := h1
  obtain ⟨C, hC⟩ := h.row.obj (g := g) rfl
  refine ⟨g, C, rfl, hC, fun j u hj => ?_, h.new g rfl⟩
  have h5 : (nbs [y])[j]? = some u := by simpa [nbs, ← Array.getElem?_toList] using hj
  have h6 := RowS.cell (n := 1) (cap := cp) h.row h5
  rw [cell_of_heap hC] at h6
  exact h6
/-- live, under way: the cache, and blocks that stay. -/
structure LV (w0 w : World) (c m : Nat) (S : St) (K : List (Nat × Obj)) : Prop where
  ca : ∃ V, CaW w c m S V
  below : Below w0.heap.size w0 w
  gc : w0.heap.size ≤ c
  gm : w0.heap.size ≤ m
  kept : ∀ p ∈ K, w.heap[p.1]? = some p.2 ∧ p.1 ≠ c ∧ p.1 ≠ m
section
variable {w0 w w' : World} {c m : Nat} {S S' : St} {K : List (Nat × Obj)} {V' : Int → Value}
theorem LV.two (h : LV w0 w c m S K) (ht : Two c m w w') (hc : CaW w' c m S' V') : LV w0 w' c m S' K := by
  refine ⟨⟨V', hc⟩, h.below.trans (ht.below h.gc h.gm h.below.size), h.gc, h.gm, fun p hp => ?_⟩
  obtain ⟨h1, h2, h3⟩ := h.kept p hp
  exact ⟨(ht.block p.1 h2 h3 (heap_lt h1)).trans h1, h2, h3⟩
theorem LV.bel (h : LV w0 w c m S K) (hb : Below w.heap.size w w') : LV w0 w' c m S K := by
  obtain ⟨V, hV⟩ := h.ca
  exact h.two (Two.of_below hb) (hV.below hb)
theorem LV.add (h : LV w0 w c m S K) {g : Nat} {o : Obj} (hg : w.heap[g]? = some o) (h1 : g ≠ c) (h2 : g ≠ m) : LV w0 w c m S ((g, o) :: K) :=
  ⟨h.ca, h.below, h.gc, h.gm, fun p hp => by
    rcases List.mem_cons.1 hp with rfl | hp
    · exact ⟨hg, h1, h2⟩
    · exact h.kept p hp⟩
theorem LV.at (h : LV w0 w c m S K) {g : Nat} {o : Obj} (hm : (g, o) ∈ K) : w.heap[g]? = some o := (h.kept _ hm).1
theorem LV.cell (h : LV w0 w c m S K) {g : Nat} {C : Array Value} {t : TypeId} {f : Nat × Nat} (hm : (g, Obj.cells C t f) ∈ K) : ∀ j, w.cell? ⟨g, j, none⟩ = C[j]? := fun j => cell_of_heap (h.at hm) j
end
/-- Ask, of one byte that the caller wrote. -/
theorem lvAsk {w0 w : World} {c m : Nat} {S : St} {K : List (Nat × Obj)} (h : LV w0 w c m S K) (ch now : Int) (h0 : 0 ≤ ch) (h1 : ch ≤ 255) :
    Calls Try.prog 11 #[.pointer (some ⟨c, 0, none⟩), .int .u32 167772170, .int .u32 167772161, .slice (some ⟨w.heap.size, 0, none⟩) 1 1, .int .i64 now] (w.alloc (.cells #[.int .u8 ch] 5 (1, 2))) fun e w' => ∃ a cp, e = .returned (.slice a (askF S 167772170 167772161 [ch] now).2.length cp) ∧ (∃ w1 V, Answ w1 w' c m S (askF S 167772170 167772161 [ch] now).1 V a cp (askF S 167772170 167772161 [ch] now).2) ∧ LV w0 w' c m (askF S 167772170 167772161 [ch] now).1 K := by
  obtain ⟨V, hV⟩ := h.ca
  have hb := bpush (Below.refl w.heap.size w) (.cells #[.int .u8 ch] 5 (1, 2))
  have hcl := hV.ltc
  have hml := hV.ltm
  have := cask_any c m S V 167772170 167772161 ⟨some ⟨w.heap.size, 0, none⟩, 1, [ch]⟩ now _ (hV.below hb) ⟨by decide, by decide⟩ ⟨by decide, by decide⟩ (fun wx ht => ?_) (by simp)
  · refine this.mono fun e w' ⟨a, cp, e1, e2⟩ => ⟨a, cp, e1, ⟨_, V, e2.out⟩, ?_⟩
    obtain ⟨l, V', A⟩ := e2.out
    exact (h.bel hb).two A.two A.ca
  · have hk : wx.heap[w.heap.size]? = some (.cells #[.int .u8 ch] 5 (1, 2)) := (ht.block _ (by omega) (by omega) (by simp)).trans (heap_new _ _)
    exact Part.of_heap hk 0 (by simp) (fun j hj => by
      have : j = 0 := by simpa using hj
      subst this; rfl) (by simp; omega)
theorem lvAsk1 {w0 w : World} {c m : Nat} {K : List (Nat × Obj)} (h : LV w0 w c m lS0 K) :
    Calls Try.prog 11 #[.pointer (some ⟨c, 0, none⟩), .int .u32 167772170, .int .u32 167772161, .slice (some ⟨w.heap.size, 0, none⟩) 1 1, .int .i64 0] (w.alloc (.cells #[.int .u8 112] 5 (1, 2))) fun e w' => ∃ g C cp, e = .returned (.slice (some ⟨g, 0, none⟩) 1 cp) ∧ Hid (C[6]? = some (.int .i64 2054)) ∧ Hid (LV w0 w' c m lS1 ((g, .cells C 59 (0, 0)) :: K)) :=
  (lvAsk h 112 0 (by decide) (by decide)).mono fun e w' ⟨a, cp, e1, ⟨w1, V, e2⟩, e3⟩ => by
    rw [live1] at e1 e2 e3
    obtain ⟨g, C, gd, D, ad, cpd, rfl, hC, hj, hc, hm, _⟩ := Answ.sing e2 (by intro h; have := congrArg List.length h; simp [queS, encL_len] at this)
    exact ⟨g, C, cp, e1, hj 6 _ rfl, e3.add hC hc hm⟩
theorem lvAsk2 {w0 w : World} {c m : Nat} {K : List (Nat × Obj)} (h : LV w0 w c m lS1 K) :
    Calls Try.prog 11 #[.pointer (some ⟨c, 0, none⟩), .int .u32 167772170, .int .u32 167772161, .slice (some ⟨w.heap.size, 0, none⟩) 1 1, .int .i64 3] (w.alloc (.cells #[.int .u8 114] 5 (1, 2))) fun e w' => ∃ a cp, e = .returned (.slice a 0 cp) ∧ Hid (LV w0 w' c m lS2 K) :=
  (lvAsk h 114 3 (by decide) (by decide)).mono fun e w' ⟨a, cp, e1, ⟨w1, V, e2⟩, e3⟩ => by
    rw [live2] at e1 e2 e3
    exact ⟨a, cp, e1, e3⟩
theorem lvNext {w0 w : World} {c m : Nat} {K : List (Nat × Obj)} (h : LV w0 w c m lS2 K) :
    Calls Try.prog 21 #[.pointer (some ⟨c, 0, none⟩)] w fun e w' => e = .returned (.tuple #[.int .i64 10, .bool true]) ∧ Hid (LV w0 w' c m lS2 K) := by
  obtain ⟨V, hV⟩ := h.ca
  exact (nextC_any c m lS2 V w hV).mono fun e w' ⟨e1, e2⟩ => ⟨by rw [e1, live3]; rfl, h.bel e2.out⟩
theorem lvTick {w0 w : World} {c m : Nat} {K : List (Nat × Obj)} (h : LV w0 w c m lS2 K) :
    Calls Try.prog 18 #[.pointer (some ⟨c, 0, none⟩), .int .i64 10] w fun e w' => ∃ a cp, e = .returned (.slice a 1 cp) ∧ Hid (LV w0 w' c m lS3 K) := by
  obtain ⟨V, hV⟩ := h.ca
  exact (tick_any c m lS2 V 10 w hV).mono fun e w' ⟨a, cp, e1, e2⟩ => by
    rw [live4] at e1 e2
    obtain ⟨l, V', A⟩ := e2.out
    exact ⟨a, cp, e1, h.two A.two A.ca⟩
theorem lvOn1 {w0 w : World} {c m : Nat} {K : List (Nat × Obj)} (h : LV w0 w c m lS3 K) :
    Calls Try.prog 17 #[.pointer (some ⟨c, 0, none⟩), (tellP bM (askP aM 167772170 167772161)).val, .int .u32 167772170, .int .i64 12] w fun e w' => ∃ g C cp gd D ad cpd, e = .returned (.slice (some ⟨g, 0, none⟩) 1 cp) ∧ Hid (∀ (j : Nat) (u : Value), (#[.int .u8 2, .int .u8 0, .int .u8 0, .int .u8 0, .int .u8 0, .int .u8 11, .int .i64 2048, .slice ad 1 cpd] : Array Value)[j]? = some u → C[j]? = some u) ∧ Hid (∀ w'' : World, w''.heap[gd]? = some D → Row w'' 5 (.slice ad 1 cpd) (u8s [114])) ∧ Hid (LV w0 w' c m lS4 ((g, .cells C 59 (0, 0)) :: (gd, D) :: K)) := by
  obtain ⟨V, hV⟩ := h.ca
  exact (on_any c m lS3 V _ 167772170 12 w hV okP1 ⟨by decide, by decide⟩).mono fun e w' ⟨a, cp, e1, e2⟩ => by
    rw [live5] at e1 e2
    obtain ⟨g, C, gd, D, ad, cpd, rfl, hC, hj, hc, hm, hD, hdc, hdm, hR⟩ := Answ.sing e2.out (by simp)
    obtain ⟨l, V', A⟩ := e2.out
    exact ⟨g, C, cp, gd, D, ad, cpd, e1, hj, hR, ((h.two A.two A.ca).add hD hdc hdm).add hC hc hm⟩
theorem lvLook1 {w0 w : World} {c m : Nat} {K : List (Nat × Obj)} (h : LV w0 w c m lS4 K) :
    Calls Try.prog 20 #[.pointer (some ⟨c, 0, none⟩)] w fun e w' => ∃ g C cp, e = .returned (.slice (some ⟨g, 0, none⟩) 1 cp) ∧ Hid (∀ (j : Nat) (u : Value), (#[.int .u32 167772161, .int .u8 2, .int .u8 0, .int .u8 0, .int .u8 0, .int .u8 0, .int .u8 11, .int .i64 2, .int .i64 612, .int .i64 0, .bool false] : Array Value)[j]? = some u → C[j]? = some u) ∧ Hid (LV w0 w' c m lS4 ((g, .cells C 68 (0, 0)) :: K)) := by
  obtain ⟨V, hV⟩ := h.ca
  exact (lookS_any c m lS4 V w hV).mono fun e w' ⟨a, cp, e1, e2⟩ => by
    obtain ⟨g, C, rfl, hC, hj, hg⟩ := LkI.sing (y := ⟨167772161, 612, bM, 0, 0, []⟩) e2.out
    have h1 := hV.ltc
    have h2 := hV.ltm
    exact ⟨g, C, cp, e1, hj, (h.bel e2.out.below).add hC (by omega) (by omega)⟩
theorem lvOn2 {w0 w : World} {c m : Nat} {K : List (Nat × Obj)} (h : LV w0 w c m lS4 K) :
    Calls Try.prog 17 #[.pointer (some ⟨c, 0, none⟩), (askP bM 0 167772170).val, .int .u32 167772170, .int .i64 13] w fun e w' => ∃ a cp, e = .returned (.slice a 1 cp) ∧ Hid (LV w0 w' c m lS5 K) := by
  obtain ⟨V, hV⟩ := h.ca
  exact (on_any c m lS4 V _ 167772170 13 w hV okP2 ⟨by decide, by decide⟩).mono fun e w' ⟨a, cp, e1, e2⟩ => by
    rw [live6] at e1 e2
    obtain ⟨l, V', A⟩ := e2.out
    exact ⟨a, cp, e1, h.two A.two A.ca⟩
theorem lvClear {w0 w : World} {c m : Nat} {S : St} {K : List (Nat × Obj)} (h : LV w0 w c m S K) :
    Calls Try.prog 19 #[.pointer (some ⟨c, 0, none⟩)] w fun e w' => e = .returned (.tuple #[]) ∧ Hid (LV w0 w' c m { S with L := [] } K) := by
  obtain ⟨V, hV⟩ := h.ca
  exact (clear_any c m S V w hV).mono fun e w' ⟨e1, e2, e3⟩ => ⟨e1, h.two e3.out e2.out⟩
theorem lvLook2 {w0 w : World} {c m : Nat} {S : St} {K : List (Nat × Obj)} (h : LV w0 w c m { S with L := [] } K) :
    Calls Try.prog 20 #[.pointer (some ⟨c, 0, none⟩)] w fun e w' => ∃ a cp, e = .returned (.slice a 0 cp) ∧ Hid (LV w0 w' c m { S with L := [] } K) := by
  obtain ⟨V, hV⟩ := h.ca
  exact (lookS_any c m _ V w hV).mono fun e w' ⟨a, cp, e1, e2⟩ => ⟨a, cp, e1, h.bel e2.out.below⟩
theorem lvNew (w : World) :
    Calls Try.prog 6 #[.agg #[.int .u8 2, .int .u8 0, .int .u8 0, .int .u8 0, .int .u8 0, .int .u8 10], .int .i64 2] ((w.alloc (.cells #[.int .u8 2, .int .u8 0, .int .u8 0, .int .u8 0, .int .u8 0, .int .u8 10] 23)).alloc (.cells #[.int .u8 2, .int .u8 0, .int .u8 0, .int .u8 0, .int .u8 0, .int .u8 11] 23)) fun e w' => ∃ c m, e = .returned (.pointer (some ⟨c, 0, none⟩)) ∧ Hid (LV w w' c m lS0 [(w.heap.size, .cells #[.int .u8 2, .int .u8 0, .int .u8 0, .int .u8 0, .int .u8 0, .int .u8 10] 23 (0, 0)), (w.heap.size + 1, .cells #[.int .u8 2, .int .u8 0, .int .u8 0, .int .u8 0, .int .u8 0, .int .u8 11] 23 (0, 0))]) :=
  (new_yes aM 2 _ (by simp [Mac.ok, aM]) (by decide) (by decide)).mono fun e w' ⟨c, m, e1, h1, h2, h3, h4⟩ => by
    have hA : ((w.alloc (.cells #[.int .u8 2, .int .u8 0, .int .u8 0, .int .u8 0, .int .u8 0, .int .u8 10] 23)).alloc (.cells #[.int .u8 2, .int .u8 0, .int .u8 0, .int .u8 0, .int .u8 0, .int .u8 11] 23)).heap[w.heap.size]? = some (.cells #[.int .u8 2, .int .u8 0, .int .u8 0, .int .u8 0, .int .u8 0, .int .u8 10] 23 (0, 0)) := (heap_old _ _ (by simp)).trans (heap_new _ _)
    have hB : ((w.alloc (.cells #[.int .u8 2, .int .u8 0, .int .u8 0, .int .u8 0, .int .u8 0, .int .u8 10] 23)).alloc (.cells #[.int .u8 2, .int .u8 0, .int .u8 0, .int .u8 0, .int .u8 0, .int .u8 11] 23)).heap[w.heap.size + 1]? = some (.cells #[.int .u8 2, .int .u8 0, .int .u8 0, .int .u8 0, .int .u8 0, .int .u8 11] 23 (0, 0)) := by
      have := heap_new (w.alloc (.cells #[.int .u8 2, .int .u8 0, .int .u8 0, .int .u8 0, .int .u8 0, .int .u8 10] 23)) (.cells #[.int .u8 2, .int .u8 0, .int .u8 0, .int .u8 0, .int .u8 0, .int .u8 11] 23)
      simpa using this
    simp only [World.size_alloc] at h1 h2
    have l0 : LV w w' c m lS0 [] := ⟨⟨_, h3.out⟩, bstep (bpush (bpush (Below.refl _ _) _) _) h4.out, by omega, by omega, by simp⟩
    exact ⟨c, m, e1, (l0.add (kept hB h4.out) (by omega) (by omega)).add (kept hA h4.out) (by omega) (by omega)⟩
theorem lvNil {w0 w : World} {c m : Nat} {S : St} {K : List (Nat × Obj)} (h : LV w0 w c m S K) :
    Calls Try.prog 6 #[.agg #[.int .u8 2, .int .u8 0, .int .u8 0, .int .u8 0, .int .u8 0, .int .u8 10], .int .i64 0] w fun e w' => e = .returned (.pointer none) ∧ Hid (LV w0 w' c m S K) :=
  (new_no aM 0 w (by decide)).mono fun e w' ⟨e1, h1⟩ => ⟨e1, h.bel h1⟩
end Go.Proofs.Ytdgjpikphooilaa

/-
  Neigh: live.
-/
namespace Go.Proofs.Ytdgjpikphooilaa
open Go.RowKit
set_option linter.all false

structure BoxAB (b : Nat) (x : World) : Prop where
  a : x.heap[b]? = some (.cells #[.int .u8 2, .int .u8 0, .int .u8 0, .int .u8 0, .int .u8 0, .int .u8 10] 23 (0, 0))
  b : x.heap[b + 1]? = some (.cells #[.int .u8 2, .int .u8 0, .int .u8 0, .int .u8 0, .int .u8 0, .int .u8 11] 23 (0, 0))
theorem bab_mk {w : World} {b : Nat} (h : BoxAB b w) : (∀ j, w.cell? ⟨b, j, none⟩ = (#[.int .u8 2, .int .u8 0, .int .u8 0, .int .u8 0, .int .u8 0, .int .u8 10] : Array Value)[j]?) ∧ (∀ j, w.cell? ⟨b + 1, j, none⟩ = (#[.int .u8 2, .int .u8 0, .int .u8 0, .int .u8 0, .int .u8 0, .int .u8 11] : Array Value)[j]?) ∧ BoxAB b w := ⟨fun j => cell_of_heap h.a j, fun j => cell_of_heap h.b j, h⟩
theorem bab_keep {w w' : World} {b : Nat} (h : (∀ j, w.cell? ⟨b, j, none⟩ = (#[.int .u8 2, .int .u8 0, .int .u8 0, .int .u8 0, .int .u8 0, .int .u8 10] : Array Value)[j]?) ∧ (∀ j, w.cell? ⟨b + 1, j, none⟩ = (#[.int .u8 2, .int .u8 0, .int .u8 0, .int .u8 0, .int .u8 0, .int .u8 11] : Array Value)[j]?) ∧ BoxAB b w) (hb : Below w.heap.size w w') : (∀ j, w'.cell? ⟨b, j, none⟩ = (#[.int .u8 2, .int .u8 0, .int .u8 0, .int .u8 0, .int .u8 0, .int .u8 10] : Array Value)[j]?) ∧ (∀ j, w'.cell? ⟨b + 1, j, none⟩ = (#[.int .u8 2, .int .u8 0, .int .u8 0, .int .u8 0, .int .u8 0, .int .u8 11] : Array Value)[j]?) ∧ BoxAB b w' := bab_mk ⟨kept h.2.2.a hb, kept h.2.2.b hb⟩
set_option maxRecDepth 40000 in
set_option maxHeartbeats 16000000 in
theorem live_any (w : World) : Calls Try.prog 5 #[] w fun e w' => e = .returned (.bool true) ∧ Below w.heap.size w w' := by
  have HRA := hid (fun w1 => refAsk_any aM 167772170 167772161 w1)
  have HRT := hid (fun w1 => refTell_any bM (askP aM 167772170 167772161) w1)
  have HRP := hid (fun w1 => refProbe_any bM 167772170 w1)
  have HO1 := hid (fun w1 c m K (h : LV w w1 c m lS3 K) => lvOn1 h)
  have HO2 := hid (fun w1 c m K (h : LV w w1 c m lS4 K) => lvOn2 h)
  simp only [Arp.val, tellP, askP, Mac.val, aM, bM, zeroMac] at HRA HRT HRP HO1 HO2
  go_enter Try.func5, Try.ntmps5
  go_wp2_with fail
  refine (lvNew w).mono ?_
  rintro e w1 ⟨c, m, rfl, HL⟩
  have ha := HL.out.cell (g := w.heap.size) (List.Mem.head _)
  go_wp2_with fail
  refine (lvNil HL.out).mono ?_
  rintro e w2 ⟨rfl, HL2⟩
  clear ha HL
  have hcc := conv_const w2.heap.size w2 #[.int .u8 112] 1 1 rfl
  go_wp2_with fail
  refine (lvAsk1 HL2.out).mono ?_
  rintro e w3 ⟨gl, Cl, cpl, rfl, HCL, HL3⟩
  clear hcc HL2
  have hcc := conv_const w3.heap.size w3 #[.int .u8 114] 1 1 rfl
  go_wp2_with fail
  refine (lvAsk2 HL3.out).mono ?_
  rintro e w4 ⟨am, cpm, rfl, HL4⟩
  clear hcc HL3
  go_wp2_with fail
  refine (lvNext HL4.out).mono ?_
  rintro e w5 ⟨rfl, HL5⟩
  clear HL4
  go_wp2_with fail
  refine (lvTick HL5.out).mono ?_
  rintro e w6 ⟨ak, cpk, rfl, HL6⟩
  clear HL5
  go_wp2_with fail
  have HAB : Hid ((∀ j, w6.drew.cell? ⟨w.heap.size, j, none⟩ = (#[.int .u8 2, .int .u8 0, .int .u8 0, .int .u8 0, .int .u8 0, .int .u8 10] : Array Value)[j]?) ∧ (∀ j, w6.drew.cell? ⟨w.heap.size + 1, j, none⟩ = (#[.int .u8 2, .int .u8 0, .int .u8 0, .int .u8 0, .int .u8 0, .int .u8 11] : Array Value)[j]?) ∧ BoxAB w.heap.size w6.drew) := bab_mk (w := w6.drew) ⟨HL6.out.at (List.Mem.tail _ (List.Mem.head _)), HL6.out.at (List.Mem.tail _ (List.Mem.tail _ (List.Mem.head _)))⟩
  go_region_held_law (fun x => (∀ j, x.cell? ⟨w.heap.size, j, none⟩ = (#[.int .u8 2, .int .u8 0, .int .u8 0, .int .u8 0, .int .u8 0, .int .u8 10] : Array Value)[j]?) ∧ (∀ j, x.cell? ⟨w.heap.size + 1, j, none⟩ = (#[.int .u8 2, .int .u8 0, .int .u8 0, .int .u8 0, .int .u8 0, .int .u8 11] : Array Value)[j]?) ∧ BoxAB w.heap.size x) (first
    | assumption
    | exact HAB.out
    | exact HAB9.out
    | (refine bab_keep ?_ hb8; first | assumption | exact HAB.out)
    | (refine bab_keep ?_ hb7; first | assumption | exact HAB.out)) (first
    | (go_at_call 23; refine (HRA.out _).mono ?_; rintro e w7 ⟨rfl, hb7⟩)
    | (go_at_call 22; refine (HRT.out _).mono ?_; rintro e w8 ⟨rfl, hb8⟩; have HL8 := hid (HL6.out.bel (bstep (bundrew hb7) hb8)))
    | (go_at_call 17; refine (HO1.out _ _ _ _ HL8.out).mono ?_; rintro e w9 ⟨go, Co, cpo, gd, D, ad, cpd, rfl, HCO, HRO, HL9⟩; have HAB9 := hid (bab_mk (b := w.heap.size) ⟨HL9.out.at (List.Mem.tail _ (List.Mem.tail _ (List.Mem.tail _ (List.Mem.head _)))), HL9.out.at (List.Mem.tail _ (List.Mem.tail _ (List.Mem.tail _ (List.Mem.tail _ (List.Mem.head _)))))⟩))
    | fail)
  all_goals
    clear HAB
    go_wp2_with fail
    refine (lvLook1 HL9.out).mono ?_
    rintro e w10 ⟨gx, Cx, cpx, rfl, HCX, HL10⟩
    have hb := HL10.out.cell (g := w.heap.size + 1) (List.Mem.tail _ (List.Mem.tail _ (List.Mem.tail _ (List.Mem.tail _ (List.Mem.tail _ (List.Mem.head _))))))
    clear HL9
    go_wp2_with fail
    refine (HRP.out _).mono ?_
    rintro e w11 ⟨rfl, hb11⟩
    have HL11 := hid (HL10.out.bel hb11)
    clear hb HL10 hb11
    go_wp2_with fail
    refine (HO2.out _ _ _ _ HL11.out).mono ?_
    rintro e w12 ⟨ay, cpy, rfl, HL12⟩
    clear HL11
    go_wp2_with fail
    refine (lvClear HL12.out).mono ?_
    rintro e w13 ⟨rfl, HL13⟩
    clear HL12
    go_wp2_with fail
    refine (lvLook2 HL13.out).mono ?_
    rintro e w14 ⟨az, cpz, rfl, HL14⟩
    clear HL13
    have hl6 : w14.cell? ⟨gl, 6, none⟩ = some (.int .i64 2054) := by rw [HL14.out.cell (g := gl) (List.Mem.tail _ (List.Mem.tail _ (List.Mem.tail _ (List.Mem.head _))))]; exact HCL.out
    have hoc := fun j => HL14.out.cell (g := go) (List.Mem.tail _ (List.Mem.head _)) j
    have ho0 : w14.cell? ⟨go, 0, none⟩ = some (.int .u8 2) := by rw [hoc]; exact HCO.out 0 _ rfl
    have ho1 : w14.cell? ⟨go, 1, none⟩ = some (.int .u8 0) := by rw [hoc]; exact HCO.out 1 _ rfl
    have ho2 : w14.cell? ⟨go, 2, none⟩ = some (.int .u8 0) := by rw [hoc]; exact HCO.out 2 _ rfl
    have ho3 : w14.cell? ⟨go, 3, none⟩ = some (.int .u8 0) := by rw [hoc]; exact HCO.out 3 _ rfl
    have ho4 : w14.cell? ⟨go, 4, none⟩ = some (.int .u8 0) := by rw [hoc]; exact HCO.out 4 _ rfl
    have ho5 : w14.cell? ⟨go, 5, none⟩ = some (.int .u8 11) := by rw [hoc]; exact HCO.out 5 _ rfl
    have ho7 : w14.cell? ⟨go, 7, none⟩ = some (.slice ad 1 cpd) := by rw [hoc]; exact HCO.out 7 _ rfl
    have hxc := fun j => HL14.out.cell (g := gx) (List.Mem.head _) j
    have hx1 : w14.cell? ⟨gx, 1, none⟩ = some (.int .u8 2) := by rw [hxc]; exact HCX.out 1 _ rfl
    have hx2 : w14.cell? ⟨gx, 2, none⟩ = some (.int .u8 0) := by rw [hxc]; exact HCX.out 2 _ rfl
    have hx3 : w14.cell? ⟨gx, 3, none⟩ = some (.int .u8 0) := by rw [hxc]; exact HCX.out 3 _ rfl
    have hx4 : w14.cell? ⟨gx, 4, none⟩ = some (.int .u8 0) := by rw [hxc]; exact HCX.out 4 _ rfl
    have hx5 : w14.cell? ⟨gx, 5, none⟩ = some (.int .u8 0) := by rw [hxc]; exact HCX.out 5 _ rfl
    have hx6 : w14.cell? ⟨gx, 6, none⟩ = some (.int .u8 11) := by rw [hxc]; exact HCX.out 6 _ rfl
    have hx8 : w14.cell? ⟨gx, 8, none⟩ = some (.int .i64 612) := by rw [hxc]; exact HCX.out 8 _ rfl
    have hb := HL14.out.cell (g := w.heap.size + 1) (List.Mem.tail _ (List.Mem.tail _ (List.Mem.tail _ (List.Mem.tail _ (List.Mem.tail _ (List.Mem.head _))))))
    have hcv : ∀ n, (convert 40 9 (.slice ad 1 cpd)).run Try.prog (w14.drewN n) = .ok (.string ⟨#[114]⟩) (w14.drewN n) := fun n => by
      have := Row.conv0 (w := w14.drewN n) (zs := [114]) (HRO.out (w14.drewN n) (HL14.out.at (List.Mem.tail _ (List.Mem.tail _ (List.Mem.head _))))) (by simp)
      exact this
    have hcv0 := hcv 0
    have qm : ∀ wx : World, (Op.equalIn 10000 23 (.agg #[.int .u8 2, .int .u8 0, .int .u8 0, .int .u8 0, .int .u8 0, .int .u8 11]) (.agg #[.int .u8 2, .int .u8 0, .int .u8 0, .int .u8 0, .int .u8 0, .int .u8 11])).run Try.prog wx = .ok true wx := fun wx => by
      have := mac_eq bM bM (by simp [Mac.ok, bM]) (by simp [Mac.ok, bM]) wx
      rw [decide_eq_true rfl] at this
      exact this
    clear hoc hxc HCL HCO HCX HRO
    go_wp2_with fail
    simp only [List.append_eq, List.cons_append, List.nil_append]
    go_quiet (fail)
    go_wp2_with fail
    go_ret
    exact ⟨rfl, HL14.out.below.trans ((bdrewN _ nq).mono HL14.out.below.size)⟩
end Go.Proofs.Ytdgjpikphooilaa
