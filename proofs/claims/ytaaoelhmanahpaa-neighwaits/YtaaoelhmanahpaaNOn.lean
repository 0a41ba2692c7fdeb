/-
  Neigh: On.
-/
import Derived.Test.YtaaoelhmanahpaaNAdd
import Derived.Test.YtaaoelhmanahpaaBHost
import Derived.Deep.RegionLaw
import Derived.Laws.BitsAllLaws
namespace Go.Proofs.Ytaaoelhmanahpaa
open Go.RowKit
set_option linter.all false

def grpB (m : Mac) : Bool := m.b0 % 2 == 1
theorem and1 (v : Int) (h0 : 0 ≤ v) (h1 : v ≤ 255) : bits BinOp.and IntKind.u8 v 1 = v % 2 := by
  rw [u8_and v 1 h0 (by omega) (by omega) (by omega)]
  rw [show (1 : Int).toNat = 2 ^ 1 - 1 from rfl, Nat.and_two_pow_sub_one_eq_mod]
  omega
theorem group_x (d : Mac) (w : World) (h : d.ok) : Calls Try.prog 45 #[d.val] w fun e w' => e = .returned (.bool (grpB d)) ∧ Below w.heap.size w w' := by
  have ha := and1 d.b0 h.1.1 h.1.2
  clear h
  obtain ⟨b0, b1, b2, b3, b4, b5⟩ := d
  simp only [Mac.val, grpB] at *
  go_enter Try.func45, Try.ntmps45
  go_wp2
  go_ret
  exact ⟨rfl, bpush (Below.refl _ _) _⟩
theorem bundrew {w w' : World} (h : Below w.drew.heap.size w.drew w') : Below w.heap.size w w' := ⟨h.os, h.tape, h.output, h.size, h.block⟩
theorem Answ.start {w w2 w3 : World} {c m : Nat} {S S2 S' : St} {V : Int → Value} {a : Option Addr} {cp : Nat} {sds : List Sd} (h : Answ w2 w3 c m S2 S' V a cp sds) (ht : Two c m w w2) (hS : S2.L = S.L) : Answ w w3 c m S S' V a cp sds := by
  obtain ⟨l, V', A⟩ := h
  have hz := ht.size
  refine ⟨l, V', A.map, A.outs, fun b hb => Nat.le_trans hz (A.new b hb), fun p hp b hb => ?_, A.off, fun y hy b hb => ?_, A.ca, ht.trans A.two⟩
  · rcases A.src p hp b hb with h1 | h1
    · exact Or.inl (Nat.le_trans hz h1)
    · exact Or.inr (by rw [← hS]; exact h1)
  · rcases A.vsrc y hy b hb with h1 | h1
    · exact Or.inl (Nat.le_trans hz h1)
    · exact Or.inr (by rw [← hS]; exact h1)
def askedB (p : Arp) (own : Int) : Bool := (own != 0) && (p.op == 1) && (p.di == own)
def wantB (p : Arp) (own : Int) : Bool := hostB p.si && (p.si != own)
def tellS (S : St) (p : Arp) : Sd := ⟨p.s, 2054, encL (tellP S.own p)⟩
theorem Answ.caw {w w' : World} {c m : Nat} {S S' : St} {V : Int → Value} {a : Option Addr} {cp : Nat} {sds : List Sd} (h : Answ w w' c m S S' V a cp sds) : ∃ V', CaW w' c m S' V' := by
  obtain ⟨l, V', A⟩ := h
  exact ⟨V', A.ca⟩
theorem Answ.blk {w w' : World} {c m k : Nat} {S S' : St} {V : Int → Value} {a : Option Addr} {cp : Nat} {sds : List Sd} {o : Obj} (h : Answ w w' c m S S' V a cp sds) (h1 : k ≠ c) (h2 : k ≠ m) (hk : w.heap[k]? = some o) : w'.heap[k]? = some o := by
  obtain ⟨l, V', A⟩ := h
  exact (A.two.block k h1 h2 (heap_lt hk)).trans hk
def onF (S0 : St) (p : Arp) (own now : Int) : St × List Sd :=
  let S : St := { S0 with now := hearN S0.now now }
  if opB p.op = false ∨ grpB p.s = true then (S, []) else
    let r := if wantB p own then learnF S p.si p.s (askedB p own) else (S, [])
    (r.1, r.2 ++ if askedB p own then [tellS S p] else [])
/-- hear, a message in a box beside it. -/
theorem hear_on (c m : Nat) (S : St) (V : Int → Value) (n : Int) (C : Array Value) (w : World) (x : CaW w c m S V) :
    Calls Try.prog 37 #[.pointer (some ⟨c, 0, none⟩), .int .i64 n] (w.alloc (.cells C 42)) fun e w1 => e = .returned (.tuple #[]) ∧ (∀ q, w1.cell? ⟨w.heap.size, q, none⟩ = C[q]?) ∧ Hid (w1.heap[w.heap.size]? = some (.cells C 42 (0, 0))) ∧ Hid (CaW w1 c m { S with now := hearN S.now n } V) ∧ Hid (Two c m w w1) :=
  (hear_any c m S V n _ (x.below (bpush (Below.refl _ _) _))).mono fun e w1 ⟨h1, h2, h3⟩ => by
    have hx : w1.heap[w.heap.size]? = some (.cells C 42 (0, 0)) := (h3.out.block _ (by have := x.ltc; omega) (by simp)).trans (heap_new _ _)
    exact ⟨h1, fun q => cell_of_heap hx q, hx, h2, (Two.of_below (bpush (Below.refl _ _) _)).trans (Two.of_c h3.out)⟩

set_option maxRecDepth 40000 in
set_option maxHeartbeats 8000000 in
theorem onX (c m : Nat) (S : St) (V : Int → Value) (o si di s0 s1 s2 s3 s4 s5 d0 d1 d2 d3 d4 d5 own now : Int) (w : World) (x : CaW w c m S V) (hp : (Arp.mk o ⟨s0, s1, s2, s3, s4, s5⟩ si ⟨d0, d1, d2, d3, d4, d5⟩ di).ok) (how : ipOk own) (h1 : ¬ o = 1) (h2 : ¬ o = 2) :
    Calls Try.prog 18 #[.pointer (some ⟨c, 0, none⟩), .agg #[.int .i64 o, .int .u8 s0, .int .u8 s1, .int .u8 s2, .int .u8 s3, .int .u8 s4, .int .u8 s5, .int .u32 si, .int .u8 d0, .int .u8 d1, .int .u8 d2, .int .u8 d3, .int .u8 d4, .int .u8 d5, .int .u32 di], .int .u32 own, .int .i64 now] w fun e w' => e = .returned (.slice none 0 0) ∧ Hid (Answ w w' c m S { S with now := hearN S.now now } V none 0 []) := by
  have HHE := hid (hear_on c m S V now #[.int .i64 o, .int .u8 s0, .int .u8 s1, .int .u8 s2, .int .u8 s3, .int .u8 s4, .int .u8 s5, .int .u32 si, .int .u8 d0, .int .u8 d1, .int .u8 d2, .int .u8 d3, .int .u8 d4, .int .u8 d5, .int .u32 di] w x)
  have HX := hid x
  have HP := hid hp
  have hcl := x.ltc
  have hml := x.ltm
  have HGR := hid (fun w1 => group_x ⟨s0, s1, s2, s3, s4, s5⟩ w1 hp.2.1)
  simp only [Mac.val] at HGR
  clear x hp HGR
  have h1' : (o != 1) = true := by simpa using h1
  have h2' : (o != 2) = true := by simpa using h2
  go_enter Try.func18, Try.ntmps18
  go_wp2_with (first
    | (go_at_call 37; with_reducible refine HHE.out.mono ?_; rintro e w1 ⟨rfl, hbx, HBX, HC1, HT1⟩)
    | fail)
  go_ret
  exact ⟨rfl, Answ.void (fun z hz b hb => Or.inr ⟨z, hz, hb⟩) HC1.out HT1.out⟩

set_option maxRecDepth 40000 in
set_option maxHeartbeats 8000000 in
theorem onG1 (c m : Nat) (S : St) (V : Int → Value) (o si di s0 s1 s2 s3 s4 s5 d0 d1 d2 d3 d4 d5 own now : Int) (w : World) (x : CaW w c m S V) (hp : (Arp.mk o ⟨s0, s1, s2, s3, s4, s5⟩ si ⟨d0, d1, d2, d3, d4, d5⟩ di).ok) (how : ipOk own) (ho : o = 1) (hg : grpB ⟨s0, s1, s2, s3, s4, s5⟩ = true) :
    Calls Try.prog 18 #[.pointer (some ⟨c, 0, none⟩), .agg #[.int .i64 o, .int .u8 s0, .int .u8 s1, .int .u8 s2, .int .u8 s3, .int .u8 s4, .int .u8 s5, .int .u32 si, .int .u8 d0, .int .u8 d1, .int .u8 d2, .int .u8 d3, .int .u8 d4, .int .u8 d5, .int .u32 di], .int .u32 own, .int .i64 now] w fun e w' => e = .returned (.slice none 0 0) ∧ Hid (Answ w w' c m S { S with now := hearN S.now now } V none 0 []) := by
  have HHE := hid (hear_on c m S V now #[.int .i64 o, .int .u8 s0, .int .u8 s1, .int .u8 s2, .int .u8 s3, .int .u8 s4, .int .u8 s5, .int .u32 si, .int .u8 d0, .int .u8 d1, .int .u8 d2, .int .u8 d3, .int .u8 d4, .int .u8 d5, .int .u32 di] w x)
  have HX := hid x
  have HP := hid hp
  have hcl := x.ltc
  have hml := x.ltm
  have HGR := hid (fun w1 => group_x ⟨s0, s1, s2, s3, s4, s5⟩ w1 hp.2.1)
  simp only [Mac.val] at HGR
  rw [hg] at HGR
  clear x hp hg
  subst ho
  go_enter Try.func18, Try.ntmps18
  go_wp2_with (first
    | (go_at_call 37; with_reducible refine HHE.out.mono ?_; rintro e w1 ⟨rfl, hbx, HBX, HC1, HT1⟩)
    | (go_at_call 45; with_reducible refine (HGR.out _).mono ?_; rintro e w2 ⟨rfl, hb2⟩)
    | fail)
  go_ret
  exact ⟨rfl, Answ.void (fun z hz b hb => Or.inr ⟨z, hz, hb⟩) (HC1.out.below hb2) (HT1.out.trans (Two.of_below hb2))⟩

set_option maxRecDepth 40000 in
set_option maxHeartbeats 8000000 in
theorem onG2 (c m : Nat) (S : St) (V : Int → Value) (o si di s0 s1 s2 s3 s4 s5 d0 d1 d2 d3 d4 d5 own now : Int) (w : World) (x : CaW w c m S V) (hp : (Arp.mk o ⟨s0, s1, s2, s3, s4, s5⟩ si ⟨d0, d1, d2, d3, d4, d5⟩ di).ok) (how : ipOk own) (ho : o = 2) (hg : grpB ⟨s0, s1, s2, s3, s4, s5⟩ = true) :
    Calls Try.prog 18 #[.pointer (some ⟨c, 0, none⟩), .agg #[.int .i64 o, .int .u8 s0, .int .u8 s1, .int .u8 s2, .int .u8 s3, .int .u8 s4, .int .u8 s5, .int .u32 si, .int .u8 d0, .int .u8 d1, .int .u8 d2, .int .u8 d3, .int .u8 d4, .int .u8 d5, .int .u32 di], .int .u32 own, .int .i64 now] w fun e w' => e = .returned (.slice none 0 0) ∧ Hid (Answ w w' c m S { S with now := hearN S.now now } V none 0 []) := by
  have HHE := hid (hear_on c m S V now #[.int .i64 o, .int .u8 s0, .int .u8 s1, .int .u8 s2, .int .u8 s3, .int .u8 s4, .int .u8 s5, .int .u32 si, .int .u8 d0, .int .u8 d1, .int .u8 d2, .int .u8 d3, .int .u8 d4, .int .u8 d5, .int .u32 di] w x)
  have HX := hid x
  have HP := hid hp
  have hcl := x.ltc
  have hml := x.ltm
  have HGR := hid (fun w1 => group_x ⟨s0, s1, s2, s3, s4, s5⟩ w1 hp.2.1)
  simp only [Mac.val] at HGR
  rw [hg] at HGR
  clear x hp hg
  subst ho
  go_enter Try.func18, Try.ntmps18
  go_wp2_with (first
    | (go_at_call 37; with_reducible refine HHE.out.mono ?_; rintro e w1 ⟨rfl, hbx, HBX, HC1, HT1⟩)
    | (go_at_call 45; with_reducible refine (HGR.out _).mono ?_; rintro e w2 ⟨rfl, hb2⟩)
    | fail)
  go_ret
  exact ⟨rfl, Answ.void (fun z hz b hb => Or.inr ⟨z, hz, hb⟩) (HC1.out.below hb2) (HT1.out.trans (Two.of_below hb2))⟩

set_option maxRecDepth 40000 in
set_option maxHeartbeats 8000000 in
theorem on11 (c m : Nat) (S : St) (V : Int → Value) (o si di s0 s1 s2 s3 s4 s5 d0 d1 d2 d3 d4 d5 own now : Int) (w : World) (x : CaW w c m S V) (hp : (Arp.mk o ⟨s0, s1, s2, s3, s4, s5⟩ si ⟨d0, d1, d2, d3, d4, d5⟩ di).ok) (how : ipOk own) (ho : o = 1) (hg : grpB ⟨s0, s1, s2, s3, s4, s5⟩ = false) (h3 : own = 0) (hh : hostB si = false) :
    Calls Try.prog 18 #[.pointer (some ⟨c, 0, none⟩), .agg #[.int .i64 o, .int .u8 s0, .int .u8 s1, .int .u8 s2, .int .u8 s3, .int .u8 s4, .int .u8 s5, .int .u32 si, .int .u8 d0, .int .u8 d1, .int .u8 d2, .int .u8 d3, .int .u8 d4, .int .u8 d5, .int .u32 di], .int .u32 own, .int .i64 now] w fun e w' => ∃ a cp, e = .returned (.slice a ([] : List Sd).length cp) ∧ Hid (Answ w w' c m S { S with now := hearN S.now now } V a cp ([] : List Sd)) := by
  have HHE := hid (hear_on c m S V now #[.int .i64 o, .int .u8 s0, .int .u8 s1, .int .u8 s2, .int .u8 s3, .int .u8 s4, .int .u8 s5, .int .u32 si, .int .u8 d0, .int .u8 d1, .int .u8 d2, .int .u8 d3, .int .u8 d4, .int .u8 d5, .int .u32 di] w x)
  have HX := hid x
  have HP := hid hp
  have hcl := x.ltc
  have hml := x.ltm
  have HGR := hid (fun w1 => group_x ⟨s0, s1, s2, s3, s4, s5⟩ w1 hp.2.1)
  simp only [Mac.val] at HGR
  subst ho

  rw [hg] at HGR
  have HIH := hid (fun w1 => isHost_any si w1 hp.2.2.1.1 hp.2.2.1.2)
  rw [hh] at HIH
  have h3' : (own != 0) = false := by simp [h3]
  clear x hp hg hh h3
  go_enter Try.func18, Try.ntmps18
  go_wp2_with (first
    | (go_at_call 37; with_reducible refine HHE.out.mono ?_; rintro e w1 ⟨rfl, hbx, HBX, HC1, HT1⟩)
    | (go_at_call 45; with_reducible refine (HGR.out _).mono ?_; rintro e w2 ⟨rfl, hb2⟩; have HBX2 := hid (kept HBX.out hb2); have hbx2 : ∀ q, w2.cell? ⟨w.heap.size, q, none⟩ = (#[.int .i64 1, .int .u8 s0, .int .u8 s1, .int .u8 s2, .int .u8 s3, .int .u8 s4, .int .u8 s5, .int .u32 si, .int .u8 d0, .int .u8 d1, .int .u8 d2, .int .u8 d3, .int .u8 d4, .int .u8 d5, .int .u32 di] : Array Value)[q]? := (fun q => cell_of_heap HBX2.out q); have HC2 := hid (HC1.out.below hb2); have HT2 := hid (HT1.out.trans (Two.of_below hb2)))
    | (go_at_call 46; with_reducible refine (HIH.out _).mono ?_; rintro e wi ⟨rfl, hwi⟩; subst wi)
    | fail)
  go_ret
  exact ⟨none, 0, rfl, Answ.void (fun z hz b hb => Or.inr ⟨z, hz, hb⟩) HC2.out HT2.out⟩

set_option maxRecDepth 40000 in
set_option maxHeartbeats 8000000 in
theorem on12 (c m : Nat) (S : St) (V : Int → Value) (o si di s0 s1 s2 s3 s4 s5 d0 d1 d2 d3 d4 d5 own now : Int) (w : World) (x : CaW w c m S V) (hp : (Arp.mk o ⟨s0, s1, s2, s3, s4, s5⟩ si ⟨d0, d1, d2, d3, d4, d5⟩ di).ok) (how : ipOk own) (ho : o = 1) (hg : grpB ⟨s0, s1, s2, s3, s4, s5⟩ = false) (h3 : own = 0) (hh : hostB si = true) (h5 : si = own) :
    Calls Try.prog 18 #[.pointer (some ⟨c, 0, none⟩), .agg #[.int .i64 o, .int .u8 s0, .int .u8 s1, .int .u8 s2, .int .u8 s3, .int .u8 s4, .int .u8 s5, .int .u32 si, .int .u8 d0, .int .u8 d1, .int .u8 d2, .int .u8 d3, .int .u8 d4, .int .u8 d5, .int .u32 di], .int .u32 own, .int .i64 now] w fun e w' => ∃ a cp, e = .returned (.slice a ([] : List Sd).length cp) ∧ Hid (Answ w w' c m S { S with now := hearN S.now now } V a cp ([] : List Sd)) := by
  have HHE := hid (hear_on c m S V now #[.int .i64 o, .int .u8 s0, .int .u8 s1, .int .u8 s2, .int .u8 s3, .int .u8 s4, .int .u8 s5, .int .u32 si, .int .u8 d0, .int .u8 d1, .int .u8 d2, .int .u8 d3, .int .u8 d4, .int .u8 d5, .int .u32 di] w x)
  have HX := hid x
  have HP := hid hp
  have hcl := x.ltc
  have hml := x.ltm
  have HGR := hid (fun w1 => group_x ⟨s0, s1, s2, s3, s4, s5⟩ w1 hp.2.1)
  simp only [Mac.val] at HGR
  subst ho

  rw [hg] at HGR
  have HIH := hid (fun w1 => isHost_any si w1 hp.2.2.1.1 hp.2.2.1.2)
  rw [hh] at HIH
  have h3' : (own != 0) = false := by simp [h3]
  have h5' : (si != own) = false := by simp [h5]
  clear x hp hg hh h3 h5
  go_enter Try.func18, Try.ntmps18
  go_wp2_with (first
    | (go_at_call 37; with_reducible refine HHE.out.mono ?_; rintro e w1 ⟨rfl, hbx, HBX, HC1, HT1⟩)
    | (go_at_call 45; with_reducible refine (HGR.out _).mono ?_; rintro e w2 ⟨rfl, hb2⟩; have HBX2 := hid (kept HBX.out hb2); have hbx2 : ∀ q, w2.cell? ⟨w.heap.size, q, none⟩ = (#[.int .i64 1, .int .u8 s0, .int .u8 s1, .int .u8 s2, .int .u8 s3, .int .u8 s4, .int .u8 s5, .int .u32 si, .int .u8 d0, .int .u8 d1, .int .u8 d2, .int .u8 d3, .int .u8 d4, .int .u8 d5, .int .u32 di] : Array Value)[q]? := (fun q => cell_of_heap HBX2.out q); have HC2 := hid (HC1.out.below hb2); have HT2 := hid (HT1.out.trans (Two.of_below hb2)))
    | (go_at_call 46; with_reducible refine (HIH.out _).mono ?_; rintro e wi ⟨rfl, hwi⟩; subst wi)
    | fail)
  go_ret
  exact ⟨none, 0, rfl, Answ.void (fun z hz b hb => Or.inr ⟨z, hz, hb⟩) HC2.out HT2.out⟩

set_option maxRecDepth 40000 in
set_option maxHeartbeats 8000000 in
theorem on13 (c m : Nat) (S : St) (V : Int → Value) (o si di s0 s1 s2 s3 s4 s5 d0 d1 d2 d3 d4 d5 own now : Int) (w : World) (x : CaW w c m S V) (hp : (Arp.mk o ⟨s0, s1, s2, s3, s4, s5⟩ si ⟨d0, d1, d2, d3, d4, d5⟩ di).ok) (how : ipOk own) (ho : o = 1) (hg : grpB ⟨s0, s1, s2, s3, s4, s5⟩ = false) (h3 : own = 0) (hh : hostB si = true) (h5 : ¬ si = own) :
    Calls Try.prog 18 #[.pointer (some ⟨c, 0, none⟩), .agg #[.int .i64 o, .int .u8 s0, .int .u8 s1, .int .u8 s2, .int .u8 s3, .int .u8 s4, .int .u8 s5, .int .u32 si, .int .u8 d0, .int .u8 d1, .int .u8 d2, .int .u8 d3, .int .u8 d4, .int .u8 d5, .int .u32 di], .int .u32 own, .int .i64 now] w fun e w' => ∃ a cp, e = .returned (.slice a (learnF { S with now := hearN S.now now } si ⟨s0, s1, s2, s3, s4, s5⟩ false).2.length cp) ∧ Hid (Answ w w' c m S (learnF { S with now := hearN S.now now } si ⟨s0, s1, s2, s3, s4, s5⟩ false).1 V a cp (learnF { S with now := hearN S.now now } si ⟨s0, s1, s2, s3, s4, s5⟩ false).2) := by
  have HHE := hid (hear_on c m S V now #[.int .i64 o, .int .u8 s0, .int .u8 s1, .int .u8 s2, .int .u8 s3, .int .u8 s4, .int .u8 s5, .int .u32 si, .int .u8 d0, .int .u8 d1, .int .u8 d2, .int .u8 d3, .int .u8 d4, .int .u8 d5, .int .u32 di] w x)
  have HX := hid x
  have HP := hid hp
  have hcl := x.ltc
  have hml := x.ltm
  have HGR := hid (fun w1 => group_x ⟨s0, s1, s2, s3, s4, s5⟩ w1 hp.2.1)
  simp only [Mac.val] at HGR
  subst ho

  rw [hg] at HGR
  have HIH := hid (fun w1 => isHost_any si w1 hp.2.2.1.1 hp.2.2.1.2)
  rw [hh] at HIH
  have h3' : (own != 0) = false := by simp [h3]
  have h5' : (si != own) = true := by simpa using h5
  have HLE := hid (fun w1 (y : CaW w1 c m { S with now := hearN S.now now } V) => learn_any c m { S with now := hearN S.now now } V si ⟨s0, s1, s2, s3, s4, s5⟩ false w1 y hp.2.2.1 hp.2.1)
  simp only [Mac.val] at HLE
  clear x hp hg hh h3 h5
  go_enter Try.func18, Try.ntmps18
  go_wp2_with (first
    | (go_at_call 37; with_reducible refine HHE.out.mono ?_; rintro e w1 ⟨rfl, hbx, HBX, HC1, HT1⟩)
    | (go_at_call 45; with_reducible refine (HGR.out _).mono ?_; rintro e w2 ⟨rfl, hb2⟩; have HBX2 := hid (kept HBX.out hb2); have hbx2 : ∀ q, w2.cell? ⟨w.heap.size, q, none⟩ = (#[.int .i64 1, .int .u8 s0, .int .u8 s1, .int .u8 s2, .int .u8 s3, .int .u8 s4, .int .u8 s5, .int .u32 si, .int .u8 d0, .int .u8 d1, .int .u8 d2, .int .u8 d3, .int .u8 d4, .int .u8 d5, .int .u32 di] : Array Value)[q]? := (fun q => cell_of_heap HBX2.out q); have HC2 := hid (HC1.out.below hb2); have HT2 := hid (HT1.out.trans (Two.of_below hb2)))
    | (go_at_call 46; with_reducible refine (HIH.out _).mono ?_; rintro e wi ⟨rfl, hwi⟩; subst wi)
    | (go_at_call 47; refine (HLE.out _ HC2.out).mono ?_; rintro e w3 ⟨a, cp, rfl, HA⟩; have HA3 := hid (HA.out.start (S := S) HT2.out rfl); have HBX3 : Hid (w3.heap[w.heap.size]? = some (.cells #[.int .i64 1, .int .u8 s0, .int .u8 s1, .int .u8 s2, .int .u8 s3, .int .u8 s4, .int .u8 s5, .int .u32 si, .int .u8 d0, .int .u8 d1, .int .u8 d2, .int .u8 d3, .int .u8 d4, .int .u8 d5, .int .u32 di] 42 (0, 0))) := (Answ.blk HA.out (by omega) (by omega) HBX2.out))
    | fail)
  go_ret
  exact ⟨a, cp, rfl, HA3⟩

set_option maxRecDepth 40000 in
set_option maxHeartbeats 8000000 in
theorem on17 (c m : Nat) (S : St) (V : Int → Value) (o si di s0 s1 s2 s3 s4 s5 d0 d1 d2 d3 d4 d5 own now : Int) (w : World) (x : CaW w c m S V) (hp : (Arp.mk o ⟨s0, s1, s2, s3, s4, s5⟩ si ⟨d0, d1, d2, d3, d4, d5⟩ di).ok) (how : ipOk own) (ho : o = 1) (hg : grpB ⟨s0, s1, s2, s3, s4, s5⟩ = false) (h3 : ¬ own = 0) (h4 : ¬ di = own) (hh : hostB si = false) :
    Calls Try.prog 18 #[.pointer (some ⟨c, 0, none⟩), .agg #[.int .i64 o, .int .u8 s0, .int .u8 s1, .int .u8 s2, .int .u8 s3, .int .u8 s4, .int .u8 s5, .int .u32 si, .int .u8 d0, .int .u8 d1, .int .u8 d2, .int .u8 d3, .int .u8 d4, .int .u8 d5, .int .u32 di], .int .u32 own, .int .i64 now] w fun e w' => ∃ a cp, e = .returned (.slice a ([] : List Sd).length cp) ∧ Hid (Answ w w' c m S { S with now := hearN S.now now } V a cp ([] : List Sd)) := by
  have HHE := hid (hear_on c m S V now #[.int .i64 o, .int .u8 s0, .int .u8 s1, .int .u8 s2, .int .u8 s3, .int .u8 s4, .int .u8 s5, .int .u32 si, .int .u8 d0, .int .u8 d1, .int .u8 d2, .int .u8 d3, .int .u8 d4, .int .u8 d5, .int .u32 di] w x)
  have HX := hid x
  have HP := hid hp
  have hcl := x.ltc
  have hml := x.ltm
  have HGR := hid (fun w1 => group_x ⟨s0, s1, s2, s3, s4, s5⟩ w1 hp.2.1)
  simp only [Mac.val] at HGR
  subst ho

  rw [hg] at HGR
  have HIH := hid (fun w1 => isHost_any si w1 hp.2.2.1.1 hp.2.2.1.2)
  rw [hh] at HIH
  have h3' : (own != 0) = true := by simpa using h3
  have h4' : (di == own) = false := by simpa using h4
  clear x hp hg hh h3 h4
  go_enter Try.func18, Try.ntmps18
  go_wp2_with (first
    | (go_at_call 37; with_reducible refine HHE.out.mono ?_; rintro e w1 ⟨rfl, hbx, HBX, HC1, HT1⟩)
    | (go_at_call 45; with_reducible refine (HGR.out _).mono ?_; rintro e w2 ⟨rfl, hb2⟩; have HBX2 := hid (kept HBX.out hb2); have hbx2 : ∀ q, w2.cell? ⟨w.heap.size, q, none⟩ = (#[.int .i64 1, .int .u8 s0, .int .u8 s1, .int .u8 s2, .int .u8 s3, .int .u8 s4, .int .u8 s5, .int .u32 si, .int .u8 d0, .int .u8 d1, .int .u8 d2, .int .u8 d3, .int .u8 d4, .int .u8 d5, .int .u32 di] : Array Value)[q]? := (fun q => cell_of_heap HBX2.out q); have HC2 := hid (HC1.out.below hb2); have HT2 := hid (HT1.out.trans (Two.of_below hb2)))
    | (go_at_call 46; with_reducible refine (HIH.out _).mono ?_; rintro e wi ⟨rfl, hwi⟩; subst wi)
    | fail)
  go_ret
  exact ⟨none, 0, rfl, Answ.void (fun z hz b hb => Or.inr ⟨z, hz, hb⟩) HC2.out HT2.out⟩

set_option maxRecDepth 40000 in
set_option maxHeartbeats 8000000 in
theorem on18 (c m : Nat) (S : St) (V : Int → Value) (o si di s0 s1 s2 s3 s4 s5 d0 d1 d2 d3 d4 d5 own now : Int) (w : World) (x : CaW w c m S V) (hp : (Arp.mk o ⟨s0, s1, s2, s3, s4, s5⟩ si ⟨d0, d1, d2, d3, d4, d5⟩ di).ok) (how : ipOk own) (ho : o = 1) (hg : grpB ⟨s0, s1, s2, s3, s4, s5⟩ = false) (h3 : ¬ own = 0) (h4 : ¬ di = own) (hh : hostB si = true) (h5 : si = own) :
    Calls Try.prog 18 #[.pointer (some ⟨c, 0, none⟩), .agg #[.int .i64 o, .int .u8 s0, .int .u8 s1, .int .u8 s2, .int .u8 s3, .int .u8 s4, .int .u8 s5, .int .u32 si, .int .u8 d0, .int .u8 d1, .int .u8 d2, .int .u8 d3, .int .u8 d4, .int .u8 d5, .int .u32 di], .int .u32 own, .int .i64 now] w fun e w' => ∃ a cp, e = .returned (.slice a ([] : List Sd).length cp) ∧ Hid (Answ w w' c m S { S with now := hearN S.now now } V a cp ([] : List Sd)) := by
  have HHE := hid (hear_on c m S V now #[.int .i64 o, .int .u8 s0, .int .u8 s1, .int .u8 s2, .int .u8 s3, .int .u8 s4, .int .u8 s5, .int .u32 si, .int .u8 d0, .int .u8 d1, .int .u8 d2, .int .u8 d3, .int .u8 d4, .int .u8 d5, .int .u32 di] w x)
  have HX := hid x
  have HP := hid hp
  have hcl := x.ltc
  have hml := x.ltm
  have HGR := hid (fun w1 => group_x ⟨s0, s1, s2, s3, s4, s5⟩ w1 hp.2.1)
  simp only [Mac.val] at HGR
  subst ho

  rw [hg] at HGR
  have HIH := hid (fun w1 => isHost_any si w1 hp.2.2.1.1 hp.2.2.1.2)
  rw [hh] at HIH
  have h3' : (own != 0) = true := by simpa using h3
  have h4' : (di == own) = false := by simpa using h4
  have h5' : (si != own) = false := by simp [h5]
  clear x hp hg hh h3 h4 h5
  go_enter Try.func18, Try.ntmps18
  go_wp2_with (first
    | (go_at_call 37; with_reducible refine HHE.out.mono ?_; rintro e w1 ⟨rfl, hbx, HBX, HC1, HT1⟩)
    | (go_at_call 45; with_reducible refine (HGR.out _).mono ?_; rintro e w2 ⟨rfl, hb2⟩; have HBX2 := hid (kept HBX.out hb2); have hbx2 : ∀ q, w2.cell? ⟨w.heap.size, q, none⟩ = (#[.int .i64 1, .int .u8 s0, .int .u8 s1, .int .u8 s2, .int .u8 s3, .int .u8 s4, .int .u8 s5, .int .u32 si, .int .u8 d0, .int .u8 d1, .int .u8 d2, .int .u8 d3, .int .u8 d4, .int .u8 d5, .int .u32 di] : Array Value)[q]? := (fun q => cell_of_heap HBX2.out q); have HC2 := hid (HC1.out.below hb2); have HT2 := hid (HT1.out.trans (Two.of_below hb2)))
    | (go_at_call 46; with_reducible refine (HIH.out _).mono ?_; rintro e wi ⟨rfl, hwi⟩; subst wi)
    | fail)
  go_ret
  exact ⟨none, 0, rfl, Answ.void (fun z hz b hb => Or.inr ⟨z, hz, hb⟩) HC2.out HT2.out⟩

set_option maxRecDepth 40000 in
set_option maxHeartbeats 8000000 in
theorem on19 (c m : Nat) (S : St) (V : Int → Value) (o si di s0 s1 s2 s3 s4 s5 d0 d1 d2 d3 d4 d5 own now : Int) (w : World) (x : CaW w c m S V) (hp : (Arp.mk o ⟨s0, s1, s2, s3, s4, s5⟩ si ⟨d0, d1, d2, d3, d4, d5⟩ di).ok) (how : ipOk own) (ho : o = 1) (hg : grpB ⟨s0, s1, s2, s3, s4, s5⟩ = false) (h3 : ¬ own = 0) (h4 : ¬ di = own) (hh : hostB si = true) (h5 : ¬ si = own) :
    Calls Try.prog 18 #[.pointer (some ⟨c, 0, none⟩), .agg #[.int .i64 o, .int .u8 s0, .int .u8 s1, .int .u8 s2, .int .u8 s3, .int .u8 s4, .int .u8 s5, .int .u32 si, .int .u8 d0, .int .u8 d1, .int .u8 d2, .int .u8 d3, .int .u8 d4, .int .u8 d5, .int .u32 di], .int .u32 own, .int .i64 now] w fun e w' => ∃ a cp, e = .returned (.slice a (learnF { S with now := hearN S.now now } si ⟨s0, s1, s2, s3, s4, s5⟩ false).2.length cp) ∧ Hid (Answ w w' c m S (learnF { S with now := hearN S.now now } si ⟨s0, s1, s2, s3, s4, s5⟩ false).1 V a cp (learnF { S with now := hearN S.now now } si ⟨s0, s1, s2, s3, s4, s5⟩ false).2) := by
  have HHE := hid (hear_on c m S V now #[.int .i64 o, .int .u8 s0, .int .u8 s1, .int .u8 s2, .int .u8 s3, .int .u8 s4, .int .u8 s5, .int .u32 si, .int .u8 d0, .int .u8 d1, .int .u8 d2, .int .u8 d3, .int .u8 d4, .int .u8 d5, .int .u32 di] w x)
  have HX := hid x
  have HP := hid hp
  have hcl := x.ltc
  have hml := x.ltm
  have HGR := hid (fun w1 => group_x ⟨s0, s1, s2, s3, s4, s5⟩ w1 hp.2.1)
  simp only [Mac.val] at HGR
  subst ho

  rw [hg] at HGR
  have HIH := hid (fun w1 => isHost_any si w1 hp.2.2.1.1 hp.2.2.1.2)
  rw [hh] at HIH
  have h3' : (own != 0) = true := by simpa using h3
  have h4' : (di == own) = false := by simpa using h4
  have h5' : (si != own) = true := by simpa using h5
  have HLE := hid (fun w1 (y : CaW w1 c m { S with now := hearN S.now now } V) => learn_any c m { S with now := hearN S.now now } V si ⟨s0, s1, s2, s3, s4, s5⟩ false w1 y hp.2.2.1 hp.2.1)
  simp only [Mac.val] at HLE
  clear x hp hg hh h3 h4 h5
  go_enter Try.func18, Try.ntmps18
  go_wp2_with (first
    | (go_at_call 37; with_reducible refine HHE.out.mono ?_; rintro e w1 ⟨rfl, hbx, HBX, HC1, HT1⟩)
    | (go_at_call 45; with_reducible refine (HGR.out _).mono ?_; rintro e w2 ⟨rfl, hb2⟩; have HBX2 := hid (kept HBX.out hb2); have hbx2 : ∀ q, w2.cell? ⟨w.heap.size, q, none⟩ = (#[.int .i64 1, .int .u8 s0, .int .u8 s1, .int .u8 s2, .int .u8 s3, .int .u8 s4, .int .u8 s5, .int .u32 si, .int .u8 d0, .int .u8 d1, .int .u8 d2, .int .u8 d3, .int .u8 d4, .int .u8 d5, .int .u32 di] : Array Value)[q]? := (fun q => cell_of_heap HBX2.out q); have HC2 := hid (HC1.out.below hb2); have HT2 := hid (HT1.out.trans (Two.of_below hb2)))
    | (go_at_call 46; with_reducible refine (HIH.out _).mono ?_; rintro e wi ⟨rfl, hwi⟩; subst wi)
    | (go_at_call 47; refine (HLE.out _ HC2.out).mono ?_; rintro e w3 ⟨a, cp, rfl, HA⟩; have HA3 := hid (HA.out.start (S := S) HT2.out rfl); have HBX3 : Hid (w3.heap[w.heap.size]? = some (.cells #[.int .i64 1, .int .u8 s0, .int .u8 s1, .int .u8 s2, .int .u8 s3, .int .u8 s4, .int .u8 s5, .int .u32 si, .int .u8 d0, .int .u8 d1, .int .u8 d2, .int .u8 d3, .int .u8 d4, .int .u8 d5, .int .u32 di] 42 (0, 0))) := (Answ.blk HA.out (by omega) (by omega) HBX2.out))
    | fail)
  go_ret
  exact ⟨a, cp, rfl, HA3⟩

set_option maxRecDepth 40000 in
set_option maxHeartbeats 8000000 in
theorem on210 (c m : Nat) (S : St) (V : Int → Value) (o si di s0 s1 s2 s3 s4 s5 d0 d1 d2 d3 d4 d5 own now : Int) (w : World) (x : CaW w c m S V) (hp : (Arp.mk o ⟨s0, s1, s2, s3, s4, s5⟩ si ⟨d0, d1, d2, d3, d4, d5⟩ di).ok) (how : ipOk own) (ho : o = 2) (hg : grpB ⟨s0, s1, s2, s3, s4, s5⟩ = false) (h3 : own = 0) (hh : hostB si = false) :
    Calls Try.prog 18 #[.pointer (some ⟨c, 0, none⟩), .agg #[.int .i64 o, .int .u8 s0, .int .u8 s1, .int .u8 s2, .int .u8 s3, .int .u8 s4, .int .u8 s5, .int .u32 si, .int .u8 d0, .int .u8 d1, .int .u8 d2, .int .u8 d3, .int .u8 d4, .int .u8 d5, .int .u32 di], .int .u32 own, .int .i64 now] w fun e w' => ∃ a cp, e = .returned (.slice a ([] : List Sd).length cp) ∧ Hid (Answ w w' c m S { S with now := hearN S.now now } V a cp ([] : List Sd)) := by
  have HHE := hid (hear_on c m S V now #[.int .i64 o, .int .u8 s0, .int .u8 s1, .int .u8 s2, .int .u8 s3, .int .u8 s4, .int .u8 s5, .int .u32 si, .int .u8 d0, .int .u8 d1, .int .u8 d2, .int .u8 d3, .int .u8 d4, .int .u8 d5, .int .u32 di] w x)
  have HX := hid x
  have HP := hid hp
  have hcl := x.ltc
  have hml := x.ltm
  have HGR := hid (fun w1 => group_x ⟨s0, s1, s2, s3, s4, s5⟩ w1 hp.2.1)
  simp only [Mac.val] at HGR
  subst ho

  rw [hg] at HGR
  have HIH := hid (fun w1 => isHost_any si w1 hp.2.2.1.1 hp.2.2.1.2)
  rw [hh] at HIH
  have h3' : (own != 0) = false := by simp [h3]
  clear x hp hg hh h3
  go_enter Try.func18, Try.ntmps18
  go_wp2_with (first
    | (go_at_call 37; with_reducible refine HHE.out.mono ?_; rintro e w1 ⟨rfl, hbx, HBX, HC1, HT1⟩)
    | (go_at_call 45; with_reducible refine (HGR.out _).mono ?_; rintro e w2 ⟨rfl, hb2⟩; have HBX2 := hid (kept HBX.out hb2); have hbx2 : ∀ q, w2.cell? ⟨w.heap.size, q, none⟩ = (#[.int .i64 2, .int .u8 s0, .int .u8 s1, .int .u8 s2, .int .u8 s3, .int .u8 s4, .int .u8 s5, .int .u32 si, .int .u8 d0, .int .u8 d1, .int .u8 d2, .int .u8 d3, .int .u8 d4, .int .u8 d5, .int .u32 di] : Array Value)[q]? := (fun q => cell_of_heap HBX2.out q); have HC2 := hid (HC1.out.below hb2); have HT2 := hid (HT1.out.trans (Two.of_below hb2)))
    | (go_at_call 46; with_reducible refine (HIH.out _).mono ?_; rintro e wi ⟨rfl, hwi⟩; subst wi)
    | fail)
  go_ret
  exact ⟨none, 0, rfl, Answ.void (fun z hz b hb => Or.inr ⟨z, hz, hb⟩) HC2.out HT2.out⟩

set_option maxRecDepth 40000 in
set_option maxHeartbeats 8000000 in
theorem on211 (c m : Nat) (S : St) (V : Int → Value) (o si di s0 s1 s2 s3 s4 s5 d0 d1 d2 d3 d4 d5 own now : Int) (w : World) (x : CaW w c m S V) (hp : (Arp.mk o ⟨s0, s1, s2, s3, s4, s5⟩ si ⟨d0, d1, d2, d3, d4, d5⟩ di).ok) (how : ipOk own) (ho : o = 2) (hg : grpB ⟨s0, s1, s2, s3, s4, s5⟩ = false) (h3 : own = 0) (hh : hostB si = true) (h5 : si = own) :
    Calls Try.prog 18 #[.pointer (some ⟨c, 0, none⟩), .agg #[.int .i64 o, .int .u8 s0, .int .u8 s1, .int .u8 s2, .int .u8 s3, .int .u8 s4, .int .u8 s5, .int .u32 si, .int .u8 d0, .int .u8 d1, .int .u8 d2, .int .u8 d3, .int .u8 d4, .int .u8 d5, .int .u32 di], .int .u32 own, .int .i64 now] w fun e w' => ∃ a cp, e = .returned (.slice a ([] : List Sd).length cp) ∧ Hid (Answ w w' c m S { S with now := hearN S.now now } V a cp ([] : List Sd)) := by
  have HHE := hid (hear_on c m S V now #[.int .i64 o, .int .u8 s0, .int .u8 s1, .int .u8 s2, .int .u8 s3, .int .u8 s4, .int .u8 s5, .int .u32 si, .int .u8 d0, .int .u8 d1, .int .u8 d2, .int .u8 d3, .int .u8 d4, .int .u8 d5, .int .u32 di] w x)
  have HX := hid x
  have HP := hid hp
  have hcl := x.ltc
  have hml := x.ltm
  have HGR := hid (fun w1 => group_x ⟨s0, s1, s2, s3, s4, s5⟩ w1 hp.2.1)
  simp only [Mac.val] at HGR
  subst ho

  rw [hg] at HGR
  have HIH := hid (fun w1 => isHost_any si w1 hp.2.2.1.1 hp.2.2.1.2)
  rw [hh] at HIH
  have h3' : (own != 0) = false := by simp [h3]
  have h5' : (si != own) = false := by simp [h5]
  clear x hp hg hh h3 h5
  go_enter Try.func18, Try.ntmps18
  go_wp2_with (first
    | (go_at_call 37; with_reducible refine HHE.out.mono ?_; rintro e w1 ⟨rfl, hbx, HBX, HC1, HT1⟩)
    | (go_at_call 45; with_reducible refine (HGR.out _).mono ?_; rintro e w2 ⟨rfl, hb2⟩; have HBX2 := hid (kept HBX.out hb2); have hbx2 : ∀ q, w2.cell? ⟨w.heap.size, q, none⟩ = (#[.int .i64 2, .int .u8 s0, .int .u8 s1, .int .u8 s2, .int .u8 s3, .int .u8 s4, .int .u8 s5, .int .u32 si, .int .u8 d0, .int .u8 d1, .int .u8 d2, .int .u8 d3, .int .u8 d4, .int .u8 d5, .int .u32 di] : Array Value)[q]? := (fun q => cell_of_heap HBX2.out q); have HC2 := hid (HC1.out.below hb2); have HT2 := hid (HT1.out.trans (Two.of_below hb2)))
    | (go_at_call 46; with_reducible refine (HIH.out _).mono ?_; rintro e wi ⟨rfl, hwi⟩; subst wi)
    | fail)
  go_ret
  exact ⟨none, 0, rfl, Answ.void (fun z hz b hb => Or.inr ⟨z, hz, hb⟩) HC2.out HT2.out⟩

set_option maxRecDepth 40000 in
set_option maxHeartbeats 8000000 in
theorem on212 (c m : Nat) (S : St) (V : Int → Value) (o si di s0 s1 s2 s3 s4 s5 d0 d1 d2 d3 d4 d5 own now : Int) (w : World) (x : CaW w c m S V) (hp : (Arp.mk o ⟨s0, s1, s2, s3, s4, s5⟩ si ⟨d0, d1, d2, d3, d4, d5⟩ di).ok) (how : ipOk own) (ho : o = 2) (hg : grpB ⟨s0, s1, s2, s3, s4, s5⟩ = false) (h3 : own = 0) (hh : hostB si = true) (h5 : ¬ si = own) :
    Calls Try.prog 18 #[.pointer (some ⟨c, 0, none⟩), .agg #[.int .i64 o, .int .u8 s0, .int .u8 s1, .int .u8 s2, .int .u8 s3, .int .u8 s4, .int .u8 s5, .int .u32 si, .int .u8 d0, .int .u8 d1, .int .u8 d2, .int .u8 d3, .int .u8 d4, .int .u8 d5, .int .u32 di], .int .u32 own, .int .i64 now] w fun e w' => ∃ a cp, e = .returned (.slice a (learnF { S with now := hearN S.now now } si ⟨s0, s1, s2, s3, s4, s5⟩ false).2.length cp) ∧ Hid (Answ w w' c m S (learnF { S with now := hearN S.now now } si ⟨s0, s1, s2, s3, s4, s5⟩ false).1 V a cp (learnF { S with now := hearN S.now now } si ⟨s0, s1, s2, s3, s4, s5⟩ false).2) := by
  have HHE := hid (hear_on c m S V now #[.int .i64 o, .int .u8 s0, .int .u8 s1, .int .u8 s2, .int .u8 s3, .int .u8 s4, .int .u8 s5, .int .u32 si, .int .u8 d0, .int .u8 d1, .int .u8 d2, .int .u8 d3, .int .u8 d4, .int .u8 d5, .int .u32 di] w x)
  have HX := hid x
  have HP := hid hp
  have hcl := x.ltc
  have hml := x.ltm
  have HGR := hid (fun w1 => group_x ⟨s0, s1, s2, s3, s4, s5⟩ w1 hp.2.1)
  simp only [Mac.val] at HGR
  subst ho

  rw [hg] at HGR
  have HIH := hid (fun w1 => isHost_any si w1 hp.2.2.1.1 hp.2.2.1.2)
  rw [hh] at HIH
  have h3' : (own != 0) = false := by simp [h3]
  have h5' : (si != own) = true := by simpa using h5
  have HLE := hid (fun w1 (y : CaW w1 c m { S with now := hearN S.now now } V) => learn_any c m { S with now := hearN S.now now } V si ⟨s0, s1, s2, s3, s4, s5⟩ false w1 y hp.2.2.1 hp.2.1)
  simp only [Mac.val] at HLE
  clear x hp hg hh h3 h5
  go_enter Try.func18, Try.ntmps18
  go_wp2_with (first
    | (go_at_call 37; with_reducible refine HHE.out.mono ?_; rintro e w1 ⟨rfl, hbx, HBX, HC1, HT1⟩)
    | (go_at_call 45; with_reducible refine (HGR.out _).mono ?_; rintro e w2 ⟨rfl, hb2⟩; have HBX2 := hid (kept HBX.out hb2); have hbx2 : ∀ q, w2.cell? ⟨w.heap.size, q, none⟩ = (#[.int .i64 2, .int .u8 s0, .int .u8 s1, .int .u8 s2, .int .u8 s3, .int .u8 s4, .int .u8 s5, .int .u32 si, .int .u8 d0, .int .u8 d1, .int .u8 d2, .int .u8 d3, .int .u8 d4, .int .u8 d5, .int .u32 di] : Array Value)[q]? := (fun q => cell_of_heap HBX2.out q); have HC2 := hid (HC1.out.below hb2); have HT2 := hid (HT1.out.trans (Two.of_below hb2)))
    | (go_at_call 46; with_reducible refine (HIH.out _).mono ?_; rintro e wi ⟨rfl, hwi⟩; subst wi)
    | (go_at_call 47; refine (HLE.out _ HC2.out).mono ?_; rintro e w3 ⟨a, cp, rfl, HA⟩; have HA3 := hid (HA.out.start (S := S) HT2.out rfl); have HBX3 : Hid (w3.heap[w.heap.size]? = some (.cells #[.int .i64 2, .int .u8 s0, .int .u8 s1, .int .u8 s2, .int .u8 s3, .int .u8 s4, .int .u8 s5, .int .u32 si, .int .u8 d0, .int .u8 d1, .int .u8 d2, .int .u8 d3, .int .u8 d4, .int .u8 d5, .int .u32 di] 42 (0, 0))) := (Answ.blk HA.out (by omega) (by omega) HBX2.out))
    | fail)
  go_ret
  exact ⟨a, cp, rfl, HA3⟩

set_option maxRecDepth 40000 in
set_option maxHeartbeats 8000000 in
theorem on213 (c m : Nat) (S : St) (V : Int → Value) (o si di s0 s1 s2 s3 s4 s5 d0 d1 d2 d3 d4 d5 own now : Int) (w : World) (x : CaW w c m S V) (hp : (Arp.mk o ⟨s0, s1, s2, s3, s4, s5⟩ si ⟨d0, d1, d2, d3, d4, d5⟩ di).ok) (how : ipOk own) (ho : o = 2) (hg : grpB ⟨s0, s1, s2, s3, s4, s5⟩ = false) (h3 : ¬ own = 0) (hh : hostB si = false) :
    Calls Try.prog 18 #[.pointer (some ⟨c, 0, none⟩), .agg #[.int .i64 o, .int .u8 s0, .int .u8 s1, .int .u8 s2, .int .u8 s3, .int .u8 s4, .int .u8 s5, .int .u32 si, .int .u8 d0, .int .u8 d1, .int .u8 d2, .int .u8 d3, .int .u8 d4, .int .u8 d5, .int .u32 di], .int .u32 own, .int .i64 now] w fun e w' => ∃ a cp, e = .returned (.slice a ([] : List Sd).length cp) ∧ Hid (Answ w w' c m S { S with now := hearN S.now now } V a cp ([] : List Sd)) := by
  have HHE := hid (hear_on c m S V now #[.int .i64 o, .int .u8 s0, .int .u8 s1, .int .u8 s2, .int .u8 s3, .int .u8 s4, .int .u8 s5, .int .u32 si, .int .u8 d0, .int .u8 d1, .int .u8 d2, .int .u8 d3, .int .u8 d4, .int .u8 d5, .int .u32 di] w x)
  have HX := hid x
  have HP := hid hp
  have hcl := x.ltc
  have hml := x.ltm
  have HGR := hid (fun w1 => group_x ⟨s0, s1, s2, s3, s4, s5⟩ w1 hp.2.1)
  simp only [Mac.val] at HGR
  subst ho

  rw [hg] at HGR
  have HIH := hid (fun w1 => isHost_any si w1 hp.2.2.1.1 hp.2.2.1.2)
  rw [hh] at HIH
  have h3' : (own != 0) = true := by simpa using h3
  clear x hp hg hh h3
  go_enter Try.func18, Try.ntmps18
  go_wp2_with (first
    | (go_at_call 37; with_reducible refine HHE.out.mono ?_; rintro e w1 ⟨rfl, hbx, HBX, HC1, HT1⟩)
    | (go_at_call 45; with_reducible refine (HGR.out _).mono ?_; rintro e w2 ⟨rfl, hb2⟩; have HBX2 := hid (kept HBX.out hb2); have hbx2 : ∀ q, w2.cell? ⟨w.heap.size, q, none⟩ = (#[.int .i64 2, .int .u8 s0, .int .u8 s1, .int .u8 s2, .int .u8 s3, .int .u8 s4, .int .u8 s5, .int .u32 si, .int .u8 d0, .int .u8 d1, .int .u8 d2, .int .u8 d3, .int .u8 d4, .int .u8 d5, .int .u32 di] : Array Value)[q]? := (fun q => cell_of_heap HBX2.out q); have HC2 := hid (HC1.out.below hb2); have HT2 := hid (HT1.out.trans (Two.of_below hb2)))
    | (go_at_call 46; with_reducible refine (HIH.out _).mono ?_; rintro e wi ⟨rfl, hwi⟩; subst wi)
    | fail)
  go_ret
  exact ⟨none, 0, rfl, Answ.void (fun z hz b hb => Or.inr ⟨z, hz, hb⟩) HC2.out HT2.out⟩

set_option maxRecDepth 40000 in
set_option maxHeartbeats 8000000 in
theorem on214 (c m : Nat) (S : St) (V : Int → Value) (o si di s0 s1 s2 s3 s4 s5 d0 d1 d2 d3 d4 d5 own now : Int) (w : World) (x : CaW w c m S V) (hp : (Arp.mk o ⟨s0, s1, s2, s3, s4, s5⟩ si ⟨d0, d1, d2, d3, d4, d5⟩ di).ok) (how : ipOk own) (ho : o = 2) (hg : grpB ⟨s0, s1, s2, s3, s4, s5⟩ = false) (h3 : ¬ own = 0) (hh : hostB si = true) (h5 : si = own) :
    Calls Try.prog 18 #[.pointer (some ⟨c, 0, none⟩), .agg #[.int .i64 o, .int .u8 s0, .int .u8 s1, .int .u8 s2, .int .u8 s3, .int .u8 s4, .int .u8 s5, .int .u32 si, .int .u8 d0, .int .u8 d1, .int .u8 d2, .int .u8 d3, .int .u8 d4, .int .u8 d5, .int .u32 di], .int .u32 own, .int .i64 now] w fun e w' => ∃ a cp, e = .returned (.slice a ([] : List Sd).length cp) ∧ Hid (Answ w w' c m S { S with now := hearN S.now now } V a cp ([] : List Sd)) := by
  have HHE := hid (hear_on c m S V now #[.int .i64 o, .int .u8 s0, .int .u8 s1, .int .u8 s2, .int .u8 s3, .int .u8 s4, .int .u8 s5, .int .u32 si, .int .u8 d0, .int .u8 d1, .int .u8 d2, .int .u8 d3, .int .u8 d4, .int .u8 d5, .int .u32 di] w x)
  have HX := hid x
  have HP := hid hp
  have hcl := x.ltc
  have hml := x.ltm
  have HGR := hid (fun w1 => group_x ⟨s0, s1, s2, s3, s4, s5⟩ w1 hp.2.1)
  simp only [Mac.val] at HGR
  subst ho

  rw [hg] at HGR
  have HIH := hid (fun w1 => isHost_any si w1 hp.2.2.1.1 hp.2.2.1.2)
  rw [hh] at HIH
  have h3' : (own != 0) = true := by simpa using h3
  have h5' : (si != own) = false := by simp [h5]
  clear x hp hg hh h3 h5
  go_enter Try.func18, Try.ntmps18
  go_wp2_with (first
    | (go_at_call 37; with_reducible refine HHE.out.mono ?_; rintro e w1 ⟨rfl, hbx, HBX, HC1, HT1⟩)
    | (go_at_call 45; with_reducible refine (HGR.out _).mono ?_; rintro e w2 ⟨rfl, hb2⟩; have HBX2 := hid (kept HBX.out hb2); have hbx2 : ∀ q, w2.cell? ⟨w.heap.size, q, none⟩ = (#[.int .i64 2, .int .u8 s0, .int .u8 s1, .int .u8 s2, .int .u8 s3, .int .u8 s4, .int .u8 s5, .int .u32 si, .int .u8 d0, .int .u8 d1, .int .u8 d2, .int .u8 d3, .int .u8 d4, .int .u8 d5, .int .u32 di] : Array Value)[q]? := (fun q => cell_of_heap HBX2.out q); have HC2 := hid (HC1.out.below hb2); have HT2 := hid (HT1.out.trans (Two.of_below hb2)))
    | (go_at_call 46; with_reducible refine (HIH.out _).mono ?_; rintro e wi ⟨rfl, hwi⟩; subst wi)
    | fail)
  go_ret
  exact ⟨none, 0, rfl, Answ.void (fun z hz b hb => Or.inr ⟨z, hz, hb⟩) HC2.out HT2.out⟩

set_option maxRecDepth 40000 in
set_option maxHeartbeats 8000000 in
theorem on215 (c m : Nat) (S : St) (V : Int → Value) (o si di s0 s1 s2 s3 s4 s5 d0 d1 d2 d3 d4 d5 own now : Int) (w : World) (x : CaW w c m S V) (hp : (Arp.mk o ⟨s0, s1, s2, s3, s4, s5⟩ si ⟨d0, d1, d2, d3, d4, d5⟩ di).ok) (how : ipOk own) (ho : o = 2) (hg : grpB ⟨s0, s1, s2, s3, s4, s5⟩ = false) (h3 : ¬ own = 0) (hh : hostB si = true) (h5 : ¬ si = own) :
    Calls Try.prog 18 #[.pointer (some ⟨c, 0, none⟩), .agg #[.int .i64 o, .int .u8 s0, .int .u8 s1, .int .u8 s2, .int .u8 s3, .int .u8 s4, .int .u8 s5, .int .u32 si, .int .u8 d0, .int .u8 d1, .int .u8 d2, .int .u8 d3, .int .u8 d4, .int .u8 d5, .int .u32 di], .int .u32 own, .int .i64 now] w fun e w' => ∃ a cp, e = .returned (.slice a (learnF { S with now := hearN S.now now } si ⟨s0, s1, s2, s3, s4, s5⟩ false).2.length cp) ∧ Hid (Answ w w' c m S (learnF { S with now := hearN S.now now } si ⟨s0, s1, s2, s3, s4, s5⟩ false).1 V a cp (learnF { S with now := hearN S.now now } si ⟨s0, s1, s2, s3, s4, s5⟩ false).2) := by
  have HHE := hid (hear_on c m S V now #[.int .i64 o, .int .u8 s0, .int .u8 s1, .int .u8 s2, .int .u8 s3, .int .u8 s4, .int .u8 s5, .int .u32 si, .int .u8 d0, .int .u8 d1, .int .u8 d2, .int .u8 d3, .int .u8 d4, .int .u8 d5, .int .u32 di] w x)
  have HX := hid x
  have HP := hid hp
  have hcl := x.ltc
  have hml := x.ltm
  have HGR := hid (fun w1 => group_x ⟨s0, s1, s2, s3, s4, s5⟩ w1 hp.2.1)
  simp only [Mac.val] at HGR
  subst ho

  rw [hg] at HGR
  have HIH := hid (fun w1 => isHost_any si w1 hp.2.2.1.1 hp.2.2.1.2)
  rw [hh] at HIH
  have h3' : (own != 0) = true := by simpa using h3
  have h5' : (si != own) = true := by simpa using h5
  have HLE := hid (fun w1 (y : CaW w1 c m { S with now := hearN S.now now } V) => learn_any c m { S with now := hearN S.now now } V si ⟨s0, s1, s2, s3, s4, s5⟩ false w1 y hp.2.2.1 hp.2.1)
  simp only [Mac.val] at HLE
  clear x hp hg hh h3 h5
  go_enter Try.func18, Try.ntmps18
  go_wp2_with (first
    | (go_at_call 37; with_reducible refine HHE.out.mono ?_; rintro e w1 ⟨rfl, hbx, HBX, HC1, HT1⟩)
    | (go_at_call 45; with_reducible refine (HGR.out _).mono ?_; rintro e w2 ⟨rfl, hb2⟩; have HBX2 := hid (kept HBX.out hb2); have hbx2 : ∀ q, w2.cell? ⟨w.heap.size, q, none⟩ = (#[.int .i64 2, .int .u8 s0, .int .u8 s1, .int .u8 s2, .int .u8 s3, .int .u8 s4, .int .u8 s5, .int .u32 si, .int .u8 d0, .int .u8 d1, .int .u8 d2, .int .u8 d3, .int .u8 d4, .int .u8 d5, .int .u32 di] : Array Value)[q]? := (fun q => cell_of_heap HBX2.out q); have HC2 := hid (HC1.out.below hb2); have HT2 := hid (HT1.out.trans (Two.of_below hb2)))
    | (go_at_call 46; with_reducible refine (HIH.out _).mono ?_; rintro e wi ⟨rfl, hwi⟩; subst wi)
    | (go_at_call 47; refine (HLE.out _ HC2.out).mono ?_; rintro e w3 ⟨a, cp, rfl, HA⟩; have HA3 := hid (HA.out.start (S := S) HT2.out rfl); have HBX3 : Hid (w3.heap[w.heap.size]? = some (.cells #[.int .i64 2, .int .u8 s0, .int .u8 s1, .int .u8 s2, .int .u8 s3, .int .u8 s4, .int .u8 s5, .int .u32 si, .int .u8 d0, .int .u8 d1, .int .u8 d2, .int .u8 d3, .int .u8 d4, .int .u8 d5, .int .u32 di] 42 (0, 0))) := (Answ.blk HA.out (by omega) (by omega) HBX2.out))
    | fail)
  go_ret
  exact ⟨a, cp, rfl, HA3⟩
end Go.Proofs.Ytaaoelhmanahpaa
