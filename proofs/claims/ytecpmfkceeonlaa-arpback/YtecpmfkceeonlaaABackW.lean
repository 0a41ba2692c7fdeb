/-
  The walk of the statement ArpBack.
-/
import Derived.Test.YtecpmfkceeonlaaABackC
import Derived.Deep.DeepCutAuto
namespace Go.Proofs.Ytecpmfkceeonlaa
open Go.RowKit
set_option linter.all false

/-- Encode, of any message. -/
theorem encode_c (p : Arp) (w : World) (hp : p.ok) : Calls Try.prog 9 #[p.val] w fun e w' => ∃ a n c er, e = .returned (.tuple #[.slice a n c, .int .i64 er]) ∧ Below w.heap.size w w' ∧ (er = 80 ∨ (opB p.op = true ∧ er = 0 ∧ n = 28 ∧ c = 28 ∧ ∃ g : Nat, a = some ⟨g, 0, none⟩ ∧ w'.heap[g]? = some (.cells (u8s (encL p)).toArray 5 (0, 0)))) := by
  cases ho : opB p.op
  · exact (encode_no p w ho).mono fun e w' ⟨he, hb⟩ => ⟨none, 0, 0, 80, he, hb, Or.inl rfl⟩
  · exact (encode_ok p w hp ho).mono fun e w' ⟨g, he, hg, hh, hb⟩ => ⟨_, _, _, 0, he, hb, Or.inr ⟨rfl, rfl, rfl, rfl, g, rfl, hh⟩⟩
theorem dec_cases (zs : List Int) : (decE zs = 5 ∨ decE zs = 80) ∨ (decE zs = 0 ∧ 28 ≤ zs.length ∧ decGood zs ∧ decA zs = decP zs) := by
  unfold decE decA
  by_cases h1 : zs.length < 28
  · rw [if_pos h1]; exact Or.inl (Or.inl rfl)
  · rw [if_neg h1, if_neg h1]
    by_cases h2 : decGood zs
    · rw [if_pos h2, if_pos h2]; exact Or.inr ⟨rfl, by omega, h2, rfl⟩
    · rw [if_neg h2]; exact Or.inl (Or.inr rfl)
theorem bdrewN {B : Nat} {a w : World} (h : Below B a w) (n : Nat) : Below B a (w.drewN n) := ⟨h.os, h.tape, h.output, h.size, h.block⟩
theorem hdrewN {w : World} {l : List (Nat × Obj)} (h : Holds w l) (n : Nat) : Holds (w.drewN n) l := h

set_option maxRecDepth 20000 in
set_option maxHeartbeats 4000000 in
theorem arpBack_walk (own other : Mac) (ip : Int) (p : Arp) (pt : Part) (w : World) (ho : own.ok) (hr : other.ok) (hi : 0 ≤ ip ∧ ip ≤ 4294967295) (hp : p.ok) (hok : pt.ok w) (hz : pt.zs.length ≤ 140737488351232) :
    Calls Try.prog 7 #[own.val, other.val, .int .u32 ip, p.val, pt.val] w fun e w' => e = .returned (.bool true) ∧ Below w.heap.size w w' := by
  have C1 : Hid (∀ w', _) := fun w' => encode_c p w' hp
  have C2 : Hid (∀ (g : Nat) (w' : World), Below w.heap.size w w' → opB p.op = true → _ → _) := fun g w' hb ho' hg => And.intro (back_all p pt g w' hp ho' hz hg) (Part.ok_below hok hb)
  have C3 : Hid (∀ w', Below w.heap.size w w' → _) := fun w' hb => decode_any pt w' (Part.ok_below hok hb) (by omega)
  have HD := hid (dec_cases pt.zs)
  have C4 : Hid (∀ w', Below w.heap.size w w' → 28 ≤ pt.zs.length → decGood pt.zs → decA pt.zs = decP pt.zs → Calls Try.prog 9 #[(decA pt.zs).val] w' fun e w'' => ∃ g, e = .returned (.tuple #[.slice (some ⟨g, 0, none⟩) 28 28, .int .i64 0]) ∧ Below w'.heap.size w' w'' ∧
      ∀ k, (convert 28 9 (.slice (some ⟨g, 0, none⟩) 28 28)).run Try.prog (w''.drewN k) = .ok (.string (strOfNums (pt.zs.take 28))) (w''.drewN k)) := fun w' hb h1 h2 h3 => by rw [h3]; exact back_again pt w' (Part.ok_below hok hb) h1 h2
  have C5 : Hid (∀ w', Below w.heap.size w w' → 28 ≤ pt.zs.length → ∀ k, _) := fun w' hb h1 k => take_conv pt w' (Part.ok_below hok hb) h1 k
  have HPA : Hid (28 ≤ pt.zs.length → ∃ b o : Nat, pt.a = some ⟨b, o, none⟩ ∧ 28 ≤ pt.c) := fun h => by
    have := hok.2.1
    rcases hok.2.2 with he | ⟨b, o, ha, _⟩
    · rw [he] at h; simp at h
    · exact ⟨b, o, ha, by omega⟩
  have D1 : Hid (∀ w', _) := fun w' => tell_any own p w'
  have D2 : Hid (∀ w', _) := fun w' => probe_any other ip w'
  have D3 : Hid (∀ w', _) := fun w' => tell_any other p w'
  have D4 : Hid (∀ w', Calls Try.prog 23 #[own.val, .int .u32 ip, (tellP own p).val] w' fun e w'' => e = .returned (.bool false) ∧ Below w'.heap.size w' w'') := fun w' => by have := clash_any own ip (tellP own p) w' ho (tellP_ok ho hp); rwa [clash_mine] at this
  have D5 : Hid (∀ w', Calls Try.prog 23 #[own.val, .int .u32 ip, (askP other 0 ip).val] w' fun e w'' => e = .returned (.bool (!decide (own = other))) ∧ Below w'.heap.size w' w'') := fun w' => by have := clash_any own ip (askP other 0 ip) w' ho (askP_ok hr hi); rwa [clash_probe] at this
  have D6 : Hid (∀ w', Calls Try.prog 23 #[own.val, .int .u32 p.di, (tellP other p).val] w' fun e w'' => e = .returned (.bool (!decide (own = other))) ∧ Below w'.heap.size w' w'') := fun w' => by have := clash_any own p.di (tellP other p) w' ho (tellP_ok hr hp); rwa [clash_told] at this
  have q0 := mac_eq own other ho hr
  have qp := arp_eq p p hp hp
  rw [decide_eq_true rfl] at qp
  obtain ⟨pa, pc, zs⟩ := pt
  simp only [Part.val] at *
  generalize decide (own = other) = E at *
  generalize encL p = EL at *
  generalize opB p.op = OB at *
  generalize decA zs = A at *
  generalize decE zs = DE at *
  generalize strOfNums (zs.take 28) = TS at *
  clear ho hr hp hok
  generalize zs.length = l at *
  obtain ⟨o, ⟨s0, s1, s2, s3, s4, s5⟩, si, ⟨d0, d1, d2, d3, d4, d5⟩, di⟩ := p
  obtain ⟨o0, o1, o2, o3, o4, o5⟩ := own
  obtain ⟨r0, r1, r2, r3, r4, r5⟩ := other
  obtain ⟨xo, ⟨xs0, xs1, xs2, xs3, xs4, xs5⟩, xi, ⟨xd0, xd1, xd2, xd3, xd4, xd5⟩, xj⟩ := A
  simp only [Mac.val, Arp.val, Part.val, askP, tellP, zeroMac] at *
  go_enter Try.func7, Try.ntmps7
  go_wp2_with fail
  refine (live_any _).mono ?_
  rintro e w1 ⟨rfl, hb1⟩
  have hh0 := (((Holds.nil w).push (.cells #[.int .u8 o0, .int .u8 o1, .int .u8 o2, .int .u8 o3, .int .u8 o4, .int .u8 o5] 24)).push (.cells #[.int .u8 r0, .int .u8 r1, .int .u8 r2, .int .u8 r3, .int .u8 r4, .int .u8 r5] 24)).push (.cells #[.int .i64 o, .int .u8 s0, .int .u8 s1, .int .u8 s2, .int .u8 s3, .int .u8 s4, .int .u8 s5, .int .u32 si, .int .u8 d0, .int .u8 d1, .int .u8 d2, .int .u8 d3, .int .u8 d4, .int .u8 d5, .int .u32 di] 27)
  simp only [World.size_alloc] at hh0
  have HH1 := hid (hh0.below hb1)
  have HB1 := hid (bstep (bpush (bpush (bpush (Below.refl _ w) (.cells #[.int .u8 o0, .int .u8 o1, .int .u8 o2, .int .u8 o3, .int .u8 o4, .int .u8 o5] 24)) (.cells #[.int .u8 r0, .int .u8 r1, .int .u8 r2, .int .u8 r3, .int .u8 r4, .int .u8 r5] 24)) (.cells #[.int .i64 o, .int .u8 s0, .int .u8 s1, .int .u8 s2, .int .u8 s3, .int .u8 s4, .int .u8 s5, .int .u32 si, .int .u8 d0, .int .u8 d1, .int .u8 d2, .int .u8 d3, .int .u8 d4, .int .u8 d5, .int .u32 di] 27)) hb1)
  clear hh0 hb1
  have cp : ∀ q, w1.cell? ⟨w.heap.size + 1 + 1, q, none⟩ = (#[.int .i64 o, .int .u8 s0, .int .u8 s1, .int .u8 s2, .int .u8 s3, .int .u8 s4, .int .u8 s5, .int .u32 si, .int .u8 d0, .int .u8 d1, .int .u8 d2, .int .u8 d3, .int .u8 d4, .int .u8 d5, .int .u32 di] : Array Value)[q]? := fun q => cell_of_heap (HH1.out.at 0 _ _ rfl) q
  have np : w.heap.size + 1 + 1 < w1.heap.size := heap_lt (HH1.out.at 0 _ _ rfl)
  go_wp2_with fail
  refine (C1.out _).mono ?_
  rintro e w2 ⟨a2, n2, c2, er, rfl, hb2, hcase⟩
  have HH2 := hid (HH1.out.below hb2)
  have HB2 := hid (bstep HB1.out hb2)
  have HC := hid hcase
  clear hb2 HH1 HB1 cp np hcase
  go_upto_if 36 with fail
  go_cut [14, 15, 16] (fun _ _ _ wx => Holds wx [(w.heap.size + 1 + 1, .cells #[.int .i64 o, .int .u8 s0, .int .u8 s1, .int .u8 s2, .int .u8 s3, .int .u8 s4, .int .u8 s5, .int .u32 si, .int .u8 d0, .int .u8 d1, .int .u8 d2, .int .u8 d3, .int .u8 d4, .int .u8 d5, .int .u32 di] 27), (w.heap.size + 1, .cells #[.int .u8 r0, .int .u8 r1, .int .u8 r2, .int .u8 r3, .int .u8 r4, .int .u8 r5] 24), (w.heap.size, .cells #[.int .u8 o0, .int .u8 o1, .int .u8 o2, .int .u8 o3, .int .u8 o4, .int .u8 o5] 24)] ∧ Below w.heap.size w wx)
  case first =>
    rcases HC.out with rfl | ⟨hob, rfl, rfl, rfl, g, rfl, hg⟩
    · go_wp2
      go_meet
      case rel => exact ⟨HH2.out, HB2.out⟩
    · obtain ⟨⟨cv1, c3, w3, cv2, happ⟩, hpo⟩ := C2.out g w2 HB2.out hob hg
      obtain ⟨a4, n4, c4, w4, hrun, hb4, hcall⟩ := happ hpo
      have HRUN := hid hrun
      have HCALL := hid hcall
      have HH4 := hid (HH2.out.below hb4)
      have HB4 := hid (bstep HB2.out hb4)
      clear hrun hcall hb4 hpo hg
      generalize strOfNums EL = ES at *
      go_wp2_with (first | (at_builtin; refine wpList_append_run _ rfl _ _ 28 28 rfl _ _ rfl rfl HRUN.out ?_) | fail)
      refine HCALL.out.mono ?_
      rintro e w5 ⟨rfl, hb5⟩
      have HH5 := hid (HH4.out.below hb5)
      have HB5 := hid (bstep HB4.out hb5)
      clear hb5 HH4 HB4
      have cp : ∀ q, w5.cell? ⟨w.heap.size + 1 + 1, q, none⟩ = (#[.int .i64 o, .int .u8 s0, .int .u8 s1, .int .u8 s2, .int .u8 s3, .int .u8 s4, .int .u8 s5, .int .u32 si, .int .u8 d0, .int .u8 d1, .int .u8 d2, .int .u8 d3, .int .u8 d4, .int .u8 d5, .int .u32 di] : Array Value)[q]? := fun q => cell_of_heap (HH5.out.at 0 _ _ rfl) q
      have np : w.heap.size + 1 + 1 < w5.heap.size := heap_lt (HH5.out.at 0 _ _ rfl)
      go_wp2
      go_meet
      case rel => exact ⟨HH5.out.below (bpush (Below.refl _ _) _), bpush HB5.out _⟩
  case rest =>
    as_aux_lemma =>
      have HHc := hid hcut.1
      have HBc := hid hcut.2
      clear hcut
      go_wp2_with fail
      refine (C3.out _ HBc.out).mono ?_
      rintro e w5 ⟨rfl, hb5⟩
      have HH5 := hid (HHc.out.below hb5)
      have HB5 := hid (bstep HBc.out hb5)
      clear hb5 HHc HBc
      go_upto_if 65 with fail
      go_cut [19, 20] (fun _ _ wx => Holds wx [(w.heap.size + 1 + 1, .cells #[.int .i64 o, .int .u8 s0, .int .u8 s1, .int .u8 s2, .int .u8 s3, .int .u8 s4, .int .u8 s5, .int .u32 si, .int .u8 d0, .int .u8 d1, .int .u8 d2, .int .u8 d3, .int .u8 d4, .int .u8 d5, .int .u32 di] 27), (w.heap.size + 1, .cells #[.int .u8 r0, .int .u8 r1, .int .u8 r2, .int .u8 r3, .int .u8 r4, .int .u8 r5] 24), (w.heap.size, .cells #[.int .u8 o0, .int .u8 o1, .int .u8 o2, .int .u8 o3, .int .u8 o4, .int .u8 o5] 24)] ∧ Below w.heap.size w wx)
      case first =>
        rcases HD.out with (rfl | rfl) | ⟨rfl, hl28, hgood, hAP⟩
        · go_wp2
          go_meet
          case rel => exact ⟨HH5.out.below (bpush (Below.refl _ _) _), bpush HB5.out _⟩
        · go_wp2
          go_meet
          case rel => exact ⟨HH5.out.below (bpush (Below.refl _ _) _), bpush HB5.out _⟩
        · obtain ⟨b, of, hpa, hpc⟩ := HPA.out hl28
          have HC4 : Hid (∀ w', Below w.heap.size w w' → _) := fun w' hb => C4.out w' hb hl28 hgood hAP
          have HC5 : Hid (∀ w', Below w.heap.size w w' → ∀ k, _) := fun w' hb k => C5.out w' hb hl28 k
          clear hgood hAP C4 C5
          subst hpa
          have t1 : decide ((l : Int) < 28) = false := by simp; omega
          have t2 : (28 : Int) ≤ (pc : Int) := by omega
          go_wp2_with fail
          refine (HC4.out _ (bpush HB5.out _)).mono ?_
          rintro e w6 ⟨g6, rfl, hb6, hv1⟩
          have HH6 := hid ((HH5.out.below (bpush (Below.refl _ _) (.cells #[.int .i64 xo, .int .u8 xs0, .int .u8 xs1, .int .u8 xs2, .int .u8 xs3, .int .u8 xs4, .int .u8 xs5, .int .u32 xi, .int .u8 xd0, .int .u8 xd1, .int .u8 xd2, .int .u8 xd3, .int .u8 xd4, .int .u8 xd5, .int .u32 xj] 27))).below hb6)
          have HB6 := hid (bstep (bpush HB5.out (.cells #[.int .i64 xo, .int .u8 xs0, .int .u8 xs1, .int .u8 xs2, .int .u8 xs3, .int .u8 xs4, .int .u8 xs5, .int .u32 xi, .int .u8 xd0, .int .u8 xd1, .int .u8 xd2, .int .u8 xd3, .int .u8 xd4, .int .u8 xd5, .int .u32 xj] 27)) hb6)
          have hv2 := HC5.out _ HB6.out
          clear hb6 HH5 HB5
          go_upto_region 13 with fail
          go_quiet (fail)
          go_wp2
          go_meet
          case rel => exact ⟨hdrewN HH6.out _, bdrewN HB6.out _⟩
      case rest =>
        as_aux_lemma =>
          have HH1 := hid hcut.1
          have HB1 := hid hcut.2
          clear hcut C1 C2 C3 C4 C5 HD HPA
          have co : ∀ q, wc.cell? ⟨w.heap.size, q, none⟩ = (#[.int .u8 o0, .int .u8 o1, .int .u8 o2, .int .u8 o3, .int .u8 o4, .int .u8 o5] : Array Value)[q]? := fun q => cell_of_heap (HH1.out.at 2 _ _ rfl) q
          have no : w.heap.size < wc.heap.size := heap_lt (HH1.out.at 2 _ _ rfl)
          have cr : ∀ q, wc.cell? ⟨w.heap.size + 1, q, none⟩ = (#[.int .u8 r0, .int .u8 r1, .int .u8 r2, .int .u8 r3, .int .u8 r4, .int .u8 r5] : Array Value)[q]? := fun q => cell_of_heap (HH1.out.at 1 _ _ rfl) q
          have nr : w.heap.size + 1 < wc.heap.size := heap_lt (HH1.out.at 1 _ _ rfl)
          have cp : ∀ q, wc.cell? ⟨w.heap.size + 1 + 1, q, none⟩ = (#[.int .i64 o, .int .u8 s0, .int .u8 s1, .int .u8 s2, .int .u8 s3, .int .u8 s4, .int .u8 s5, .int .u32 si, .int .u8 d0, .int .u8 d1, .int .u8 d2, .int .u8 d3, .int .u8 d4, .int .u8 d5, .int .u32 di] : Array Value)[q]? := fun q => cell_of_heap (HH1.out.at 0 _ _ rfl) q
          have np : w.heap.size + 1 + 1 < wc.heap.size := heap_lt (HH1.out.at 0 _ _ rfl)
          go_wp2_with fail
          refine (D1.out _).mono ?_
          rintro e w11 ⟨rfl, hb2⟩
          have HH2 := hid (HH1.out.below hb2)
          have HB2 := hid (bstep HB1.out hb2)
          clear hb2 HH1 HB1 co cr cp no nr np 
          have co : ∀ q, w11.cell? ⟨w.heap.size, q, none⟩ = (#[.int .u8 o0, .int .u8 o1, .int .u8 o2, .int .u8 o3, .int .u8 o4, .int .u8 o5] : Array Value)[q]? := fun q => cell_of_heap (HH2.out.at 2 _ _ rfl) q
          have no : w.heap.size < w11.heap.size := heap_lt (HH2.out.at 2 _ _ rfl)
          have cr : ∀ q, w11.cell? ⟨w.heap.size + 1, q, none⟩ = (#[.int .u8 r0, .int .u8 r1, .int .u8 r2, .int .u8 r3, .int .u8 r4, .int .u8 r5] : Array Value)[q]? := fun q => cell_of_heap (HH2.out.at 1 _ _ rfl) q
          have nr : w.heap.size + 1 < w11.heap.size := heap_lt (HH2.out.at 1 _ _ rfl)
          have cp : ∀ q, w11.cell? ⟨w.heap.size + 1 + 1, q, none⟩ = (#[.int .i64 o, .int .u8 s0, .int .u8 s1, .int .u8 s2, .int .u8 s3, .int .u8 s4, .int .u8 s5, .int .u32 si, .int .u8 d0, .int .u8 d1, .int .u8 d2, .int .u8 d3, .int .u8 d4, .int .u8 d5, .int .u32 di] : Array Value)[q]? := fun q => cell_of_heap (HH2.out.at 0 _ _ rfl) q
          have np : w.heap.size + 1 + 1 < w11.heap.size := heap_lt (HH2.out.at 0 _ _ rfl)
          go_wp2_with fail
          refine (D2.out _).mono ?_
          rintro e w12 ⟨rfl, hb3⟩
          have HH3 := hid ((HH2.out.push (.cells #[.int .i64 2, .int .u8 o0, .int .u8 o1, .int .u8 o2, .int .u8 o3, .int .u8 o4, .int .u8 o5, .int .u32 di, .int .u8 s0, .int .u8 s1, .int .u8 s2, .int .u8 s3, .int .u8 s4, .int .u8 s5, .int .u32 si] 27)).below hb3)
          have HB3 := hid (bstep (bpush HB2.out (.cells #[.int .i64 2, .int .u8 o0, .int .u8 o1, .int .u8 o2, .int .u8 o3, .int .u8 o4, .int .u8 o5, .int .u32 di, .int .u8 s0, .int .u8 s1, .int .u8 s2, .int .u8 s3, .int .u8 s4, .int .u8 s5, .int .u32 si] 27)) hb3)
          clear hb3 HH2 HB2 co cr cp no nr np 
          generalize w11.heap.size = g2 at *
          as_aux_lemma =>
            have co : ∀ q, w12.cell? ⟨w.heap.size, q, none⟩ = (#[.int .u8 o0, .int .u8 o1, .int .u8 o2, .int .u8 o3, .int .u8 o4, .int .u8 o5] : Array Value)[q]? := fun q => cell_of_heap (HH3.out.at 3 _ _ rfl) q
            have no : w.heap.size < w12.heap.size := heap_lt (HH3.out.at 3 _ _ rfl)
            have cr : ∀ q, w12.cell? ⟨w.heap.size + 1, q, none⟩ = (#[.int .u8 r0, .int .u8 r1, .int .u8 r2, .int .u8 r3, .int .u8 r4, .int .u8 r5] : Array Value)[q]? := fun q => cell_of_heap (HH3.out.at 2 _ _ rfl) q
            have nr : w.heap.size + 1 < w12.heap.size := heap_lt (HH3.out.at 2 _ _ rfl)
            have cp : ∀ q, w12.cell? ⟨w.heap.size + 1 + 1, q, none⟩ = (#[.int .i64 o, .int .u8 s0, .int .u8 s1, .int .u8 s2, .int .u8 s3, .int .u8 s4, .int .u8 s5, .int .u32 si, .int .u8 d0, .int .u8 d1, .int .u8 d2, .int .u8 d3, .int .u8 d4, .int .u8 d5, .int .u32 di] : Array Value)[q]? := fun q => cell_of_heap (HH3.out.at 1 _ _ rfl) q
            have np : w.heap.size + 1 + 1 < w12.heap.size := heap_lt (HH3.out.at 1 _ _ rfl)
            have b2 : ∀ q, w12.cell? ⟨g2, q, none⟩ = (#[.int .i64 2, .int .u8 o0, .int .u8 o1, .int .u8 o2, .int .u8 o3, .int .u8 o4, .int .u8 o5, .int .u32 di, .int .u8 s0, .int .u8 s1, .int .u8 s2, .int .u8 s3, .int .u8 s4, .int .u8 s5, .int .u32 si] : Array Value)[q]? := fun q => cell_of_heap (HH3.out.at 0 _ _ rfl) q
            have l2 : g2 < w12.heap.size := heap_lt (HH3.out.at 0 _ _ rfl)
            go_wp2_with fail
            refine (D3.out _).mono ?_
            rintro e w13 ⟨rfl, hb4⟩
            have HH4 := hid ((HH3.out.push (.cells #[.int .i64 1, .int .u8 r0, .int .u8 r1, .int .u8 r2, .int .u8 r3, .int .u8 r4, .int .u8 r5, .int .u32 0, .int .u8 0, .int .u8 0, .int .u8 0, .int .u8 0, .int .u8 0, .int .u8 0, .int .u32 ip] 27)).below hb4)
            have HB4 := hid (bstep (bpush HB3.out (.cells #[.int .i64 1, .int .u8 r0, .int .u8 r1, .int .u8 r2, .int .u8 r3, .int .u8 r4, .int .u8 r5, .int .u32 0, .int .u8 0, .int .u8 0, .int .u8 0, .int .u8 0, .int .u8 0, .int .u8 0, .int .u32 ip] 27)) hb4)
            clear hb4 HH3 HB3 co cr cp no nr np b2 l2
            generalize w12.heap.size = g3 at *
            have co : ∀ q, w13.cell? ⟨w.heap.size, q, none⟩ = (#[.int .u8 o0, .int .u8 o1, .int .u8 o2, .int .u8 o3, .int .u8 o4, .int .u8 o5] : Array Value)[q]? := fun q => cell_of_heap (HH4.out.at 4 _ _ rfl) q
            have no : w.heap.size < w13.heap.size := heap_lt (HH4.out.at 4 _ _ rfl)
            have cr : ∀ q, w13.cell? ⟨w.heap.size + 1, q, none⟩ = (#[.int .u8 r0, .int .u8 r1, .int .u8 r2, .int .u8 r3, .int .u8 r4, .int .u8 r5] : Array Value)[q]? := fun q => cell_of_heap (HH4.out.at 3 _ _ rfl) q
            have nr : w.heap.size + 1 < w13.heap.size := heap_lt (HH4.out.at 3 _ _ rfl)
            have cp : ∀ q, w13.cell? ⟨w.heap.size + 1 + 1, q, none⟩ = (#[.int .i64 o, .int .u8 s0, .int .u8 s1, .int .u8 s2, .int .u8 s3, .int .u8 s4, .int .u8 s5, .int .u32 si, .int .u8 d0, .int .u8 d1, .int .u8 d2, .int .u8 d3, .int .u8 d4, .int .u8 d5, .int .u32 di] : Array Value)[q]? := fun q => cell_of_heap (HH4.out.at 2 _ _ rfl) q
            have np : w.heap.size + 1 + 1 < w13.heap.size := heap_lt (HH4.out.at 2 _ _ rfl)
            have b3 : ∀ q, w13.cell? ⟨g3, q, none⟩ = (#[.int .i64 1, .int .u8 r0, .int .u8 r1, .int .u8 r2, .int .u8 r3, .int .u8 r4, .int .u8 r5, .int .u32 0, .int .u8 0, .int .u8 0, .int .u8 0, .int .u8 0, .int .u8 0, .int .u8 0, .int .u32 ip] : Array Value)[q]? := fun q => cell_of_heap (HH4.out.at 0 _ _ rfl) q
            have l3 : g3 < w13.heap.size := heap_lt (HH4.out.at 0 _ _ rfl)
            have b2 : ∀ q, w13.cell? ⟨g2, q, none⟩ = (#[.int .i64 2, .int .u8 o0, .int .u8 o1, .int .u8 o2, .int .u8 o3, .int .u8 o4, .int .u8 o5, .int .u32 di, .int .u8 s0, .int .u8 s1, .int .u8 s2, .int .u8 s3, .int .u8 s4, .int .u8 s5, .int .u32 si] : Array Value)[q]? := fun q => cell_of_heap (HH4.out.at 1 _ _ rfl) q
            have l2 : g2 < w13.heap.size := heap_lt (HH4.out.at 1 _ _ rfl)
            go_wp2_with fail
            refine (D4.out _).mono ?_
            rintro e w14 ⟨rfl, hb5⟩
            have HH5 := hid ((HH4.out.push (.cells #[.int .i64 2, .int .u8 r0, .int .u8 r1, .int .u8 r2, .int .u8 r3, .int .u8 r4, .int .u8 r5, .int .u32 di, .int .u8 s0, .int .u8 s1, .int .u8 s2, .int .u8 s3, .int .u8 s4, .int .u8 s5, .int .u32 si] 27)).below hb5)
            have HB5 := hid (bstep (bpush HB4.out (.cells #[.int .i64 2, .int .u8 r0, .int .u8 r1, .int .u8 r2, .int .u8 r3, .int .u8 r4, .int .u8 r5, .int .u32 di, .int .u8 s0, .int .u8 s1, .int .u8 s2, .int .u8 s3, .int .u8 s4, .int .u8 s5, .int .u32 si] 27)) hb5)
            clear hb5 HH4 HB4 co cr cp no nr np b2 l2 b3 l3
            generalize w13.heap.size = g4 at *
            as_aux_lemma =>
              have co : ∀ q, w14.cell? ⟨w.heap.size, q, none⟩ = (#[.int .u8 o0, .int .u8 o1, .int .u8 o2, .int .u8 o3, .int .u8 o4, .int .u8 o5] : Array Value)[q]? := fun q => cell_of_heap (HH5.out.at 5 _ _ rfl) q
              have no : w.heap.size < w14.heap.size := heap_lt (HH5.out.at 5 _ _ rfl)
              have cr : ∀ q, w14.cell? ⟨w.heap.size + 1, q, none⟩ = (#[.int .u8 r0, .int .u8 r1, .int .u8 r2, .int .u8 r3, .int .u8 r4, .int .u8 r5] : Array Value)[q]? := fun q => cell_of_heap (HH5.out.at 4 _ _ rfl) q
              have nr : w.heap.size + 1 < w14.heap.size := heap_lt (HH5.out.at 4 _ _ rfl)
              have cp : ∀ q, w14.cell? ⟨w.heap.size + 1 + 1, q, none⟩ = (#[.int .i64 o, .int .u8 s0, .int .u8 s1, .int .u8 s2, .int .u8 s3, .int .u8 s4, .int .u8 s5, .int .u32 si, .int .u8 d0, .int .u8 d1, .int .u8 d2, .int .u8 d3, .int .u8 d4, .int .u8 d5, .int .u32 di] : Array Value)[q]? := fun q => cell_of_heap (HH5.out.at 3 _ _ rfl) q
              have np : w.heap.size + 1 + 1 < w14.heap.size := heap_lt (HH5.out.at 3 _ _ rfl)
              have b4 : ∀ q, w14.cell? ⟨g4, q, none⟩ = (#[.int .i64 2, .int .u8 r0, .int .u8 r1, .int .u8 r2, .int .u8 r3, .int .u8 r4, .int .u8 r5, .int .u32 di, .int .u8 s0, .int .u8 s1, .int .u8 s2, .int .u8 s3, .int .u8 s4, .int .u8 s5, .int .u32 si] : Array Value)[q]? := fun q => cell_of_heap (HH5.out.at 0 _ _ rfl) q
              have l4 : g4 < w14.heap.size := heap_lt (HH5.out.at 0 _ _ rfl)
              have b3 : ∀ q, w14.cell? ⟨g3, q, none⟩ = (#[.int .i64 1, .int .u8 r0, .int .u8 r1, .int .u8 r2, .int .u8 r3, .int .u8 r4, .int .u8 r5, .int .u32 0, .int .u8 0, .int .u8 0, .int .u8 0, .int .u8 0, .int .u8 0, .int .u8 0, .int .u32 ip] : Array Value)[q]? := fun q => cell_of_heap (HH5.out.at 1 _ _ rfl) q
              have l3 : g3 < w14.heap.size := heap_lt (HH5.out.at 1 _ _ rfl)
              have b2 : ∀ q, w14.cell? ⟨g2, q, none⟩ = (#[.int .i64 2, .int .u8 o0, .int .u8 o1, .int .u8 o2, .int .u8 o3, .int .u8 o4, .int .u8 o5, .int .u32 di, .int .u8 s0, .int .u8 s1, .int .u8 s2, .int .u8 s3, .int .u8 s4, .int .u8 s5, .int .u32 si] : Array Value)[q]? := fun q => cell_of_heap (HH5.out.at 2 _ _ rfl) q
              have l2 : g2 < w14.heap.size := heap_lt (HH5.out.at 2 _ _ rfl)
              go_wp2_with fail
              refine (D5.out _).mono ?_
              rintro e w15 ⟨rfl, hb6⟩
              have HH6 := hid (HH5.out.below hb6)
              have HB6 := hid (bstep HB5.out hb6)
              clear hb6 HH5 HB5 co cr cp no nr np b2 l2 b3 l3 b4 l4
              have co : ∀ q, w15.cell? ⟨w.heap.size, q, none⟩ = (#[.int .u8 o0, .int .u8 o1, .int .u8 o2, .int .u8 o3, .int .u8 o4, .int .u8 o5] : Array Value)[q]? := fun q => cell_of_heap (HH6.out.at 5 _ _ rfl) q
              have no : w.heap.size < w15.heap.size := heap_lt (HH6.out.at 5 _ _ rfl)
              have cr : ∀ q, w15.cell? ⟨w.heap.size + 1, q, none⟩ = (#[.int .u8 r0, .int .u8 r1, .int .u8 r2, .int .u8 r3, .int .u8 r4, .int .u8 r5] : Array Value)[q]? := fun q => cell_of_heap (HH6.out.at 4 _ _ rfl) q
              have nr : w.heap.size + 1 < w15.heap.size := heap_lt (HH6.out.at 4 _ _ rfl)
              have cp : ∀ q, w15.cell? ⟨w.heap.size + 1 + 1, q, none⟩ = (#[.int .i64 o, .int .u8 s0, .int .u8 s1, .int .u8 s2, .int .u8 s3, .int .u8 s4, .int .u8 s5, .int .u32 si, .int .u8 d0, .int .u8 d1, .int .u8 d2, .int .u8 d3, .int .u8 d4, .int .u8 d5, .int .u32 di] : Array Value)[q]? := fun q => cell_of_heap (HH6.out.at 3 _ _ rfl) q
              have np : w.heap.size + 1 + 1 < w15.heap.size := heap_lt (HH6.out.at 3 _ _ rfl)
              have b4 : ∀ q, w15.cell? ⟨g4, q, none⟩ = (#[.int .i64 2, .int .u8 r0, .int .u8 r1, .int .u8 r2, .int .u8 r3, .int .u8 r4, .int .u8 r5, .int .u32 di, .int .u8 s0, .int .u8 s1, .int .u8 s2, .int .u8 s3, .int .u8 s4, .int .u8 s5, .int .u32 si] : Array Value)[q]? := fun q => cell_of_heap (HH6.out.at 0 _ _ rfl) q
              have l4 : g4 < w15.heap.size := heap_lt (HH6.out.at 0 _ _ rfl)
              have b3 : ∀ q, w15.cell? ⟨g3, q, none⟩ = (#[.int .i64 1, .int .u8 r0, .int .u8 r1, .int .u8 r2, .int .u8 r3, .int .u8 r4, .int .u8 r5, .int .u32 0, .int .u8 0, .int .u8 0, .int .u8 0, .int .u8 0, .int .u8 0, .int .u8 0, .int .u32 ip] : Array Value)[q]? := fun q => cell_of_heap (HH6.out.at 1 _ _ rfl) q
              have l3 : g3 < w15.heap.size := heap_lt (HH6.out.at 1 _ _ rfl)
              have b2 : ∀ q, w15.cell? ⟨g2, q, none⟩ = (#[.int .i64 2, .int .u8 o0, .int .u8 o1, .int .u8 o2, .int .u8 o3, .int .u8 o4, .int .u8 o5, .int .u32 di, .int .u8 s0, .int .u8 s1, .int .u8 s2, .int .u8 s3, .int .u8 s4, .int .u8 s5, .int .u32 si] : Array Value)[q]? := fun q => cell_of_heap (HH6.out.at 2 _ _ rfl) q
              have l2 : g2 < w15.heap.size := heap_lt (HH6.out.at 2 _ _ rfl)
              go_wp2_with fail
              refine (D6.out _).mono ?_
              rintro e w16 ⟨rfl, hb7⟩
              have HH7 := hid (HH6.out.below hb7)
              have HB7 := hid (bstep HB6.out hb7)
              clear hb7 HH6 HB6 co cr cp no nr np b2 l2 b3 l3 b4 l4
              have co : ∀ q, w16.cell? ⟨w.heap.size, q, none⟩ = (#[.int .u8 o0, .int .u8 o1, .int .u8 o2, .int .u8 o3, .int .u8 o4, .int .u8 o5] : Array Value)[q]? := fun q => cell_of_heap (HH7.out.at 5 _ _ rfl) q
              have no : w.heap.size < w16.heap.size := heap_lt (HH7.out.at 5 _ _ rfl)
              have cr : ∀ q, w16.cell? ⟨w.heap.size + 1, q, none⟩ = (#[.int .u8 r0, .int .u8 r1, .int .u8 r2, .int .u8 r3, .int .u8 r4, .int .u8 r5] : Array Value)[q]? := fun q => cell_of_heap (HH7.out.at 4 _ _ rfl) q
              have nr : w.heap.size + 1 < w16.heap.size := heap_lt (HH7.out.at 4 _ _ rfl)
              have cp : ∀ q, w16.cell? ⟨w.heap.size + 1 + 1, q, none⟩ = (#[.int .i64 o, .int .u8 s0, .int .u8 s1, .int .u8 s2, .int .u8 s3, .int .u8 s4, .int .u8 s5, .int .u32 si, .int .u8 d0, .int .u8 d1, .int .u8 d2, .int .u8 d3, .int .u8 d4, .int .u8 d5, .int .u32 di] : Array Value)[q]? := fun q => cell_of_heap (HH7.out.at 3 _ _ rfl) q
              have np : w.heap.size + 1 + 1 < w16.heap.size := heap_lt (HH7.out.at 3 _ _ rfl)
              cases E
              all_goals
                go_wp2
                go_ret
                exact ⟨rfl, HB7.out⟩
end Go.Proofs.Ytecpmfkceeonlaa
