/-
  What the walk of ArpBack leans on.
-/
import Derived.Test.YtecpmfkceeonlaaALive
import Derived.Test.YtecpmfkceeonlaaBConv
namespace Go.Proofs.Ytecpmfkceeonlaa
open Go.RowKit
set_option linter.all false

theorem encL_at (p : Arp) : ∃ q0 q1 u0 u1 u2 u3 v0 v1 v2 v3 : Int, op2 p.op = [q0, q1] ∧ ip4 p.si = [u0, u1, u2, u3] ∧ ip4 p.di = [v0, v1, v2, v3] := ⟨_, _, _, _, _, _, _, _, _, _, rfl, rfl, rfl⟩
/-- what was laid is read, whatever stands behind. -/
theorem dec_enc (p : Arp) (zs : List Int) (hp : p.ok) (ho : opB p.op = true) : decA (encL p ++ zs) = p ∧ decE (encL p ++ zs) = 0 := by
  have hop : p.op = 1 ∨ p.op = 2 := by simp [opB] at ho; omega
  have hl : ¬ (encL p ++ zs).length < 28 := by rw [List.length_append, encL_len]; omega
  obtain ⟨o, ⟨s0, s1, s2, s3, s4, s5⟩, si, ⟨d0, d1, d2, d3, d4, d5⟩, di⟩ := p
  have hsi := hp.2.2.1
  have hdi := hp.2.2.2.2
  simp only at hop hsi hdi
  have hP : decP (encL ⟨o, ⟨s0, s1, s2, s3, s4, s5⟩, si, ⟨d0, d1, d2, d3, d4, d5⟩, di⟩ ++ zs) = ⟨o, ⟨s0, s1, s2, s3, s4, s5⟩, si, ⟨d0, d1, d2, d3, d4, d5⟩, di⟩ := by
    simp [decP, encL, kindsM, Mac.zs, op2, ip4, macAt, numAt, getTo]
    omega
  have hG : decGood (encL ⟨o, ⟨s0, s1, s2, s3, s4, s5⟩, si, ⟨d0, d1, d2, d3, d4, d5⟩, di⟩ ++ zs) := by
    have h2 : numAt (encL ⟨o, ⟨s0, s1, s2, s3, s4, s5⟩, si, ⟨d0, d1, d2, d3, d4, d5⟩, di⟩ ++ zs) 6 2 = o := congrArg Arp.op hP
    refine ⟨?_, by rw [h2]; exact ho⟩
    simp [encL, kindsM, Mac.zs, op2, ip4, macAt]
  unfold decA decE
  rw [if_neg hl, if_neg hl, if_pos hG, if_pos hG]
  exact ⟨hP, rfl⟩
theorem getD_take (zs : List Int) (n : Nat) (hn : n ≤ zs.length) : zs.take n = (List.range n).map (fun j => zs.getD j 0) := by
  apply List.ext_getElem
  · simp; omega
  · intro j h1 h2
    simp at h2 ⊢
    rw [List.getElem?_eq_getElem (by omega)]
    rfl
theorem take28 (zs : List Int) (hl : 28 ≤ zs.length) : zs.take 28 = [zs.getD 0 0, zs.getD 1 0, zs.getD 2 0, zs.getD 3 0, zs.getD 4 0, zs.getD 5 0, zs.getD 6 0, zs.getD 7 0, zs.getD 8 0, zs.getD 9 0, zs.getD 10 0, zs.getD 11 0, zs.getD 12 0, zs.getD 13 0, zs.getD 14 0, zs.getD 15 0, zs.getD 16 0, zs.getD 17 0, zs.getD 18 0, zs.getD 19 0, zs.getD 20 0, zs.getD 21 0, zs.getD 22 0, zs.getD 23 0, zs.getD 24 0, zs.getD 25 0, zs.getD 26 0, zs.getD 27 0] := (getD_take zs 28 hl).trans rfl
/-- what was read is laid as it was. -/
theorem enc_dec (zs : List Int) (hz : ∀ z, z ∈ zs → 0 ≤ z ∧ z ≤ 255) (hl : 28 ≤ zs.length) (hg : decGood zs) : encL (decP zs) = zs.take 28 := by
  rw [take28 zs hl]
  have hk := hg.1
  have hop : numAt zs 6 2 = 1 ∨ numAt zs 6 2 = 2 := by have := hg.2; simp [opB] at this; omega
  have e2 : numAt zs 6 2 = zs.getD 6 0 * 256 + zs.getD 7 0 := by simp [numAt, getTo]
  have e14 : numAt zs 14 4 = ((zs.getD 14 0 * 256 + zs.getD 15 0) * 256 + zs.getD 16 0) * 256 + zs.getD 17 0 := by simp [numAt, getTo]
  have e24 : numAt zs 24 4 = ((zs.getD 24 0 * 256 + zs.getD 25 0) * 256 + zs.getD 26 0) * 256 + zs.getD 27 0 := by simp [numAt, getTo]
  have b := getD_mem_bd hz
  have b6 := b 6
  have b7 := b 7
  have b14 := b 14
  have b15 := b 15
  have b16 := b 16
  have b17 := b 17
  have b24 := b 24
  have b25 := b 25
  have b26 := b 26
  have b27 := b 27
  simp only [decP, encL]
  rw [← hk, e14, e24, e2]
  simp only [Mac.zs, macAt, op2, ip4]
  generalize zs.getD 6 0 = x6 at *
  generalize zs.getD 7 0 = x7 at *
  generalize zs.getD 14 0 = x14 at *
  generalize zs.getD 15 0 = x15 at *
  generalize zs.getD 16 0 = x16 at *
  generalize zs.getD 17 0 = x17 at *
  generalize zs.getD 24 0 = x24 at *
  generalize zs.getD 25 0 = x25 at *
  generalize zs.getD 26 0 = x26 at *
  generalize zs.getD 27 0 = x27 at *
  have r0 : (x6 * 256 + x7) / 256 % 256 = x6 := by omega
  have r1 : (x6 * 256 + x7) % 256 = x7 := by omega
  have r2 : (((x14 * 256 + x15) * 256 + x16) * 256 + x17) / 16777216 % 256 = x14 := by omega
  have r3 : (((x14 * 256 + x15) * 256 + x16) * 256 + x17) / 65536 % 256 = x15 := by omega
  have r4 : (((x14 * 256 + x15) * 256 + x16) * 256 + x17) / 256 % 256 = x16 := by omega
  have r5 : (((x14 * 256 + x15) * 256 + x16) * 256 + x17) % 256 = x17 := by omega
  have r6 : (((x24 * 256 + x25) * 256 + x26) * 256 + x27) / 16777216 % 256 = x24 := by omega
  have r7 : (((x24 * 256 + x25) * 256 + x26) * 256 + x27) / 65536 % 256 = x25 := by omega
  have r8 : (((x24 * 256 + x25) * 256 + x26) * 256 + x27) / 256 % 256 = x26 := by omega
  have r9 : (((x24 * 256 + x25) * 256 + x26) * 256 + x27) % 256 = x27 := by omega
  rw [r0, r1, r2, r3, r4, r5, r6, r7, r8, r9]
  rfl
theorem clash_mine (own : Mac) (ip : Int) (p : Arp) : clashB own ip (tellP own p) = false := by simp [clashB, tellP]
theorem clash_probe (own other : Mac) (ip : Int) : clashB own ip (askP other 0 ip) = !decide (own = other) := by
  by_cases h : own = other
  · subst h
    simp [clashB, askP]
  · have h' : ¬ other = own := fun e => h e.symm
    simp [clashB, askP, probeB, h, h']
theorem clash_told (own other : Mac) (p : Arp) : clashB own p.di (tellP other p) = !decide (own = other) := by
  by_cases h : own = other
  · subst h
    simp [clashB, tellP]
  · have h' : ¬ other = own := fun e => h e.symm
    simp [clashB, tellP, h, h']
theorem tellP_ok {m : Mac} {p : Arp} (hm : m.ok) (hp : p.ok) : (tellP m p).ok := ⟨by simp [tellP], hm, hp.2.2.2.2, hp.2.1, hp.2.2.1⟩
theorem askP_ok {m : Mac} {ip : Int} (hm : m.ok) (hi : 0 ≤ ip ∧ ip ≤ 4294967295) : (askP m 0 ip).ok := ⟨by simp [askP], hm, by simp [askP], zeroMac_ok, hi⟩
/-- a message laid, and what stands behind it. -/
theorem back_all (p : Arp) (pt : Part) (g : Nat) (w : World) (hp : p.ok) (ho : opB p.op = true) (hz : pt.zs.length ≤ 140737488351232) (hg : w.heap[g]? = some (.cells (u8s (encL p)).toArray 5 (0, 0))) :
    (convert 28 9 (.slice (some ⟨g, 0, none⟩) 28 28)).run Try.prog w = .ok (.string (strOfNums (encL p))) w ∧
    ∃ c1 w1, (convert 9 28 (.string (strOfNums (encL p)))).run Try.prog w = .ok (.slice (some ⟨w.heap.size, 0, none⟩) 28 c1) w1 ∧ (pt.ok w →
      ∃ a n c w2, (Builtin.append_ #[28, 28] 28 #[.slice (some ⟨w.heap.size, 0, none⟩) 28 c1, pt.val]).run Try.prog w1 = .ok (.slice a n c) w2 ∧ Below w.heap.size w w2 ∧
        Calls Try.prog 14 #[.slice a n c] w2 fun e w' => e = .returned (.tuple #[p.val, .int .i64 0]) ∧ Below w2.heap.size w2 w') := by
  refine ⟨?_, ?_⟩
  · exact conv_part ⟨some ⟨g, 0, none⟩, 28, encL p⟩ w (Part.of_row hg (by rw [encL_len]; omega) (encL_bd p hp))
  · obtain ⟨c1, w1, h1, h2, h3, h4⟩ := conv_row w (encL p) (encL_bd p hp) (by rw [encL_len]; decide)
    rw [encL_len] at h1 h2
    refine ⟨c1, w1, h1, fun hok => ?_⟩
    obtain ⟨v', w2, k1, k2, k3, k4⟩ := append_part h2 pt (Part.ok_below hok h3) (by rw [encL_len]; omega) 28
    obtain ⟨a, c, hv, _⟩ := k2.form
    subst hv
    refine ⟨a, _, c, w2, k1, h3.trans (grown_below' k3 (fun k e => by simp [Value.ownBlock] at e; omega) (by omega)), ?_⟩
    obtain ⟨qt, e1, e2, qok⟩ := k2.part (zs := encL p ++ pt.zs) (fun z h => by
      rcases List.mem_append.1 h with h | h
      · exact encL_bd p hp z h
      · exact hok.1 z h)
    rw [e1]
    have hd := decode_any qt w2 qok (by rw [e2, List.length_append, encL_len]; omega)
    rw [e2, (dec_enc p pt.zs hp ho).1, (dec_enc p pt.zs hp ho).2] at hd
    exact hd
/-- a message read, laid again. -/
theorem back_again (pt : Part) (w : World) (hok : pt.ok w) (hl : 28 ≤ pt.zs.length) (hg : decGood pt.zs) :
    Calls Try.prog 9 #[(decP pt.zs).val] w fun e w' => ∃ g, e = .returned (.tuple #[.slice (some ⟨g, 0, none⟩) 28 28, .int .i64 0]) ∧ Below w.heap.size w w' ∧
      ∀ k, (convert 28 9 (.slice (some ⟨g, 0, none⟩) 28 28)).run Try.prog (w'.drewN k) = .ok (.string (strOfNums (pt.zs.take 28))) (w'.drewN k) := by
  refine (encode_ok (decP pt.zs) w (decP_ok hok.1) hg.2).mono ?_
  rintro e w' ⟨g, he, h1, h2, h3⟩
  refine ⟨g, he, h3, fun k => ?_⟩
  have := conv_part ⟨some ⟨g, 0, none⟩, 28, encL (decP pt.zs)⟩ (w'.drewN k) (Part.ok_drewN (Part.of_row h2 (by rw [encL_len]; omega) (encL_bd _ (decP_ok hok.1))) k)
  rw [enc_dec pt.zs hok.1 hl hg] at this
  simp only [Part.val, List.length_take, show min 28 pt.zs.length = 28 by omega] at this
  exact this
theorem take_conv (pt : Part) (w : World) (hok : pt.ok w) (hl : 28 ≤ pt.zs.length) (k : Nat) :
    (convert 28 9 (.slice pt.a 28 pt.c)).run Try.prog (w.drewN k) = .ok (.string (strOfNums (pt.zs.take 28))) (w.drewN k) := by
  have hc := hok.2.1
  obtain ⟨a, c, zs⟩ := pt
  simp only at hl hc
  rcases hok.2.2 with he | ⟨b, o, ha, _⟩
  · simp only at he; rw [he] at hl; simp at hl
  · simp only at ha
    subst ha
    have := Part.sub_ok hok 0 28 c (by omega) (by omega)
    have h2 := conv_part _ (w.drewN k) (Part.ok_drewN this k)
    simp only [Part.val, List.drop_zero, List.length_take, show min 28 zs.length = 28 by omega, Nat.add_zero] at h2
    exact h2
end Go.Proofs.Ytecpmfkceeonlaa
