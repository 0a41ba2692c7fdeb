/-
  Neigh: Ask and On, each as one.
-/
import Derived.Test.YtaaoelhmanahpaaNOn2
import Derived.Test.YtaaoelhmanahpaaNwAkJ
namespace Go.Proofs.Ytaaoelhmanahpaa
open Go.RowKit
set_option linter.all false

theorem cask_any (c m : Nat) (S : St) (V : Int → Value) (src ip : Int) (pt : Part) (now : Int) (w : World) (x : CaW w c m S V) (hip : ipOk ip) (hsrc : ipOk src) (hpk : ∀ wx, Two c m w wx → pt.ok wx) (hpl : pt.zs.length ≤ 140737488351232) :
    Calls Try.prog 12 #[.pointer (some ⟨c, 0, none⟩), .int .u32 src, .int .u32 ip, pt.val, .int .i64 now] w fun e w' => ∃ a cp, e = .returned (.slice a (askF S src ip pt.zs now).2.length cp) ∧ Hid (Answ w w' c m S (askF S src ip pt.zs now).1 V a cp (askF S src ip pt.zs now).2) := by
  simp only [askF]
  cases hl : look S.L ip with
  | none => exact caskD c m S V src ip pt now w x hip hsrc hl hpk hpl
  | some y =>
    by_cases hq : 0 < y.q
    · simp only [if_pos hq]
      exact (caskA c m S V src ip pt now y w x hip hsrc hl hq hpk hpl).mono fun e w' ⟨h1, h2⟩ => ⟨none, 0, h1, h2⟩
    · by_cases hu : hearN S.now now < y.unt
      · simp only [if_neg hq, if_pos hu]
        exact (caskB c m S V src ip pt now y w x hip hl hq hu hpk hpl).mono fun e w' ⟨g, h1, h2⟩ => ⟨some ⟨g, 0, none⟩, 1, h1, h2⟩
      · simp only [if_neg hq, if_neg hu]
        exact caskC c m S V src ip pt now y w x hip hsrc hl hq hu hpk hpl
theorem opB_val (o : Int) : opB o = (decide (o = 1) || decide (o = 2)) := by
  unfold opB
  by_cases h1 : o = 1 <;> by_cases h2 : o = 2 <;> simp_all
theorem on_any (c m : Nat) (S : St) (V : Int → Value) (p : Arp) (own now : Int) (w : World) (x : CaW w c m S V) (hp : p.ok) (how : ipOk own) :
    Calls Try.prog 18 #[.pointer (some ⟨c, 0, none⟩), p.val, .int .u32 own, .int .i64 now] w fun e w' => ∃ a cp, e = .returned (.slice a (onF S p own now).2.length cp) ∧ Hid (Answ w w' c m S (onF S p own now).1 V a cp (onF S p own now).2) := by
  obtain ⟨o, ⟨s0, s1, s2, s3, s4, s5⟩, si, ⟨d0, d1, d2, d3, d4, d5⟩, di⟩ := p
  simp only [onF, opB_val]
  by_cases h1 : o = 1
  · by_cases hg : grpB ⟨s0, s1, s2, s3, s4, s5⟩ = true
    · rw [if_pos (Or.inr hg)]
      exact (onG1 c m S V o si di s0 s1 s2 s3 s4 s5 d0 d1 d2 d3 d4 d5 own now w x hp how h1 hg).mono fun e w' ⟨h1, h2⟩ => ⟨none, 0, h1, h2⟩
    · rw [if_neg (by simp [h1, hg])]
      have hg' := Bool.eq_false_iff.2 hg
      by_cases h3 : own = 0
      · have ha : askedB (Arp.mk o ⟨s0, s1, s2, s3, s4, s5⟩ si ⟨d0, d1, d2, d3, d4, d5⟩ di) own = false := by simp [askedB, h3]
        cases hh : hostB si with
        | false =>
          have hw : wantB (Arp.mk o ⟨s0, s1, s2, s3, s4, s5⟩ si ⟨d0, d1, d2, d3, d4, d5⟩ di) own = false := by simp [wantB, hh]
          rw [ha, hw]
          exact on11 c m S V o si di s0 s1 s2 s3 s4 s5 d0 d1 d2 d3 d4 d5 own now w x hp how h1 hg' h3 hh
        | true =>
          by_cases h5 : si = own
          · have hw : wantB (Arp.mk o ⟨s0, s1, s2, s3, s4, s5⟩ si ⟨d0, d1, d2, d3, d4, d5⟩ di) own = false := by simp [wantB, h5]
            rw [ha, hw]
            exact on12 c m S V o si di s0 s1 s2 s3 s4 s5 d0 d1 d2 d3 d4 d5 own now w x hp how h1 hg' h3 hh h5
          · have hw : wantB (Arp.mk o ⟨s0, s1, s2, s3, s4, s5⟩ si ⟨d0, d1, d2, d3, d4, d5⟩ di) own = true := by simp [wantB, hh, h5]
            rw [ha, hw, if_pos rfl, if_neg (by simp), List.append_nil]
            exact on13 c m S V o si di s0 s1 s2 s3 s4 s5 d0 d1 d2 d3 d4 d5 own now w x hp how h1 hg' h3 hh h5
      · by_cases h4 : di = own
        · have ha : askedB (Arp.mk o ⟨s0, s1, s2, s3, s4, s5⟩ si ⟨d0, d1, d2, d3, d4, d5⟩ di) own = true := by simp [askedB, h3, h1, h4]
          cases hh : hostB si with
          | false =>
            have hw : wantB (Arp.mk o ⟨s0, s1, s2, s3, s4, s5⟩ si ⟨d0, d1, d2, d3, d4, d5⟩ di) own = false := by simp [wantB, hh]
            rw [ha, hw, if_pos rfl, if_neg (by simp)]
            have := on14 c m S V o si di s0 s1 s2 s3 s4 s5 d0 d1 d2 d3 d4 d5 own now w x hp how h1 hg' h3 h4 hh
            subst h1
            exact this
          | true =>
            by_cases h5 : si = own
            · have hw : wantB (Arp.mk o ⟨s0, s1, s2, s3, s4, s5⟩ si ⟨d0, d1, d2, d3, d4, d5⟩ di) own = false := by simp [wantB, h5]
              rw [ha, hw, if_pos rfl, if_neg (by simp)]
              have := on15 c m S V o si di s0 s1 s2 s3 s4 s5 d0 d1 d2 d3 d4 d5 own now w x hp how h1 hg' h3 h4 hh h5
              subst h1
              exact this
            · have hw : wantB (Arp.mk o ⟨s0, s1, s2, s3, s4, s5⟩ si ⟨d0, d1, d2, d3, d4, d5⟩ di) own = true := by simp [wantB, hh, h5]
              rw [ha, hw, if_pos rfl, if_pos rfl]
              have := on16 c m S V o si di s0 s1 s2 s3 s4 s5 d0 d1 d2 d3 d4 d5 own now w x hp how h1 hg' h3 h4 hh h5
              subst h1
              exact this
        · have ha : askedB (Arp.mk o ⟨s0, s1, s2, s3, s4, s5⟩ si ⟨d0, d1, d2, d3, d4, d5⟩ di) own = false := by simp [askedB, h4]
          cases hh : hostB si with
          | false =>
            have hw : wantB (Arp.mk o ⟨s0, s1, s2, s3, s4, s5⟩ si ⟨d0, d1, d2, d3, d4, d5⟩ di) own = false := by simp [wantB, hh]
            rw [ha, hw]
            exact on17 c m S V o si di s0 s1 s2 s3 s4 s5 d0 d1 d2 d3 d4 d5 own now w x hp how h1 hg' h3 h4 hh
          | true =>
            by_cases h5 : si = own
            · have hw : wantB (Arp.mk o ⟨s0, s1, s2, s3, s4, s5⟩ si ⟨d0, d1, d2, d3, d4, d5⟩ di) own = false := by simp [wantB, h5]
              rw [ha, hw]
              exact on18 c m S V o si di s0 s1 s2 s3 s4 s5 d0 d1 d2 d3 d4 d5 own now w x hp how h1 hg' h3 h4 hh h5
            · have hw : wantB (Arp.mk o ⟨s0, s1, s2, s3, s4, s5⟩ si ⟨d0, d1, d2, d3, d4, d5⟩ di) own = true := by simp [wantB, hh, h5]
              rw [ha, hw, if_pos rfl, if_neg (by simp), List.append_nil]
              exact on19 c m S V o si di s0 s1 s2 s3 s4 s5 d0 d1 d2 d3 d4 d5 own now w x hp how h1 hg' h3 h4 hh h5
  · by_cases h2 : o = 2
    · by_cases hg : grpB ⟨s0, s1, s2, s3, s4, s5⟩ = true
      · rw [if_pos (Or.inr hg)]
        exact (onG2 c m S V o si di s0 s1 s2 s3 s4 s5 d0 d1 d2 d3 d4 d5 own now w x hp how h2 hg).mono fun e w' ⟨h1, h2⟩ => ⟨none, 0, h1, h2⟩
      · rw [if_neg (by simp [h2, hg])]
        have hg' := Bool.eq_false_iff.2 hg
        have ha : askedB (Arp.mk o ⟨s0, s1, s2, s3, s4, s5⟩ si ⟨d0, d1, d2, d3, d4, d5⟩ di) own = false := by simp [askedB, h2]
        by_cases h3 : own = 0
        · cases hh : hostB si with
          | false =>
            have hw : wantB (Arp.mk o ⟨s0, s1, s2, s3, s4, s5⟩ si ⟨d0, d1, d2, d3, d4, d5⟩ di) own = false := by simp [wantB, hh]
            rw [ha, hw]
            exact on210 c m S V o si di s0 s1 s2 s3 s4 s5 d0 d1 d2 d3 d4 d5 own now w x hp how h2 hg' h3 hh
          | true =>
            by_cases h5 : si = own
            · have hw : wantB (Arp.mk o ⟨s0, s1, s2, s3, s4, s5⟩ si ⟨d0, d1, d2, d3, d4, d5⟩ di) own = false := by simp [wantB, h5]
              rw [ha, hw]
              exact on211 c m S V o si di s0 s1 s2 s3 s4 s5 d0 d1 d2 d3 d4 d5 own now w x hp how h2 hg' h3 hh h5
            · have hw : wantB (Arp.mk o ⟨s0, s1, s2, s3, s4, s5⟩ si ⟨d0, d1, d2, d3, d4, d5⟩ di) own = true := by simp [wantB, hh, h5]
              rw [ha, hw, if_pos rfl, if_neg (by simp), List.append_nil]
              exact on212 c m S V o si di s0 s1 s2 s3 s4 s5 d0 d1 d2 d3 d4 d5 own now w x hp how h2 hg' h3 hh h5
        · cases hh : hostB si with
          | false =>
            have hw : wantB (Arp.mk o ⟨s0, s1, s2, s3, s4, s5⟩ si ⟨d0, d1, d2, d3, d4, d5⟩ di) own = false := by simp [wantB, hh]
            rw [ha, hw]
            exact on213 c m S V o si di s0 s1 s2 s3 s4 s5 d0 d1 d2 d3 d4 d5 own now w x hp how h2 hg' h3 hh
          | true =>
            by_cases h5 : si = own
            · have hw : wantB (Arp.mk o ⟨s0, s1, s2, s3, s4, s5⟩ si ⟨d0, d1, d2, d3, d4, d5⟩ di) own = false := by simp [wantB, h5]
              rw [ha, hw]
              exact on214 c m S V o si di s0 s1 s2 s3 s4 s5 d0 d1 d2 d3 d4 d5 own now w x hp how h2 hg' h3 hh h5
            · have hw : wantB (Arp.mk o ⟨s0, s1, s2, s3, s4, s5⟩ si ⟨d0, d1, d2, d3, d4, d5⟩ di) own = true := by simp [wantB, hh, h5]
              rw [ha, hw, if_pos rfl, if_neg (by simp), List.append_nil]
              exact on215 c m S V o si di s0 s1 s2 s3 s4 s5 d0 d1 d2 d3 d4 d5 own now w x hp how h2 hg' h3 hh h5
    · rw [if_pos (Or.inl (by simp [h1, h2]))]
      exact (onX c m S V o si di s0 s1 s2 s3 s4 s5 d0 d1 d2 d3 d4 d5 own now w x hp how h1 h2).mono fun e w' ⟨h1, h2⟩ => ⟨none, 0, h1, h2⟩
end Go.Proofs.Ytaaoelhmanahpaa
