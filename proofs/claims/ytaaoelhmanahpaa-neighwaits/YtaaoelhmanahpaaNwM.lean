/-
  NeighWaits: what may be sent; numbers as packets; questions read again.
-/
import Derived.Test.YtaaoelhmanahpaaNwB
import Derived.Test.YtaaoelhmanahpaaARefH
import Derived.Test.YtaaoelhmanahpaaNwRpJ
namespace Go.Proofs.Ytaaoelhmanahpaa
open Go.RowKit
set_option linter.all false

/-- a number as eight bytes. -/
def be8 (n : Int) : List Int := [n / 72057594037927936 % 256, n / 281474976710656 % 256, n / 1099511627776 % 256, n / 4294967296 % 256, n / 16777216 % 256, n / 65536 % 256, n / 256 % 256, n % 256]
theorem be8_bd (n : Int) : ∀ z, z ∈ be8 n → 0 ≤ z ∧ z ≤ 255 := fun z hz => by simp [be8] at hz; omega
theorem be8_len (n : Int) : (be8 n).length = 8 := rfl
theorem putTo8 (n : Int) : putTo n 8 8 = (u8s (be8 n)).toArray := by
  simp [putTo, made_eq, byteAt, u8s, be8]
theorem getTo8 (n : Int) (h0 : 0 ≤ n) (h1 : n < 18446744073709551616) : getTo (be8 n) 0 8 = n := by
  simp [getTo, be8]
  omega
theorem be8_inj {n m : Int} (h0 : 0 ≤ n) (h1 : n < 18446744073709551616) (h2 : 0 ≤ m) (h3 : m < 18446744073709551616) (h : be8 n = be8 m) : n = m := by
  rw [← getTo8 n h0 h1, h, getTo8 m h2 h3]
theorem put8_any (n : Int) (w : World) (h3 : 0 ≤ n) (h4 : n ≤ 18446744073709551615) :
    Calls Try.prog 13 #[.int .u64 n, .int .i64 8] w fun e w' => e = .returned (.slice (some ⟨w.heap.size, 0, none⟩) 8 8) ∧ w' = w.alloc (.cells (u8s (be8 n)).toArray 5) := by
  have h := refPut_yes n 8 w (by omega) (by omega) h3 h4
  rw [putTo8] at h
  exact h
/-- the number of a packet. -/
theorem get8_any (n : Int) (v : Value) (w : World) (h0 : 0 ≤ n) (h1 : n < 18446744073709551616) (hr : Row w 5 v (u8s (be8 n))) :
    Calls Try.prog 43 #[v, .int .i64 0, .int .i64 8] w fun e w' => e = .returned (.tuple #[.int .u64 n, .int .i64 0]) ∧ w' = w := by
  obtain ⟨pt, rfl, h2, ok⟩ := hr.part (be8_bd n)
  have h := refGet_part pt 0 8 w ok (by rw [h2, be8_len]; omega) (by omega)
  have e : getAns pt.zs 0 8 = (n, 0) := by
    unfold getAns
    rw [h2, be8_len, if_neg (by omega), if_neg (by omega)]
    exact Prod.ext (getTo8 n h0 h1) rfl
  rw [e] at h
  exact h
theorem dec_encN (p : Arp) (hp : p.ok) (ho : opB p.op = true) : decA (encL p) = p ∧ decE (encL p) = 0 := by
  have hop : p.op = 1 ∨ p.op = 2 := by simp [opB] at ho; omega
  have hl : ¬ (encL p).length < 28 := by rw [encL_len]; omega
  obtain ⟨o, ⟨s0, s1, s2, s3, s4, s5⟩, si, ⟨d0, d1, d2, d3, d4, d5⟩, di⟩ := p
  have hsi := hp.2.2.1
  have hdi := hp.2.2.2.2
  simp only at hop hsi hdi
  have hP : decP (encL ⟨o, ⟨s0, s1, s2, s3, s4, s5⟩, si, ⟨d0, d1, d2, d3, d4, d5⟩, di⟩) = ⟨o, ⟨s0, s1, s2, s3, s4, s5⟩, si, ⟨d0, d1, d2, d3, d4, d5⟩, di⟩ := by
    simp [decP, encL, kindsM, Mac.zs, op2, ip4, macAt, numAt, getTo]
    omega
  have hG : decGood (encL ⟨o, ⟨s0, s1, s2, s3, s4, s5⟩, si, ⟨d0, d1, d2, d3, d4, d5⟩, di⟩) := by
    have h2 : numAt (encL ⟨o, ⟨s0, s1, s2, s3, s4, s5⟩, si, ⟨d0, d1, d2, d3, d4, d5⟩, di⟩) 6 2 = o := congrArg Arp.op hP
    refine ⟨?_, by rw [h2]; exact ho⟩
    simp [encL, kindsM, Mac.zs, op2, ip4, macAt]
  unfold decA decE
  rw [if_neg hl, if_neg hl, if_pos hG, if_pos hG]
  exact ⟨hP, rfl⟩
/-- a question is read again. -/
theorem deca_any (p : Arp) (v : Value) (w : World) (hp : p.ok) (ho : opB p.op = true) (hr : Row w 5 v (u8s (encL p))) :
    Calls Try.prog 42 #[v] w fun e w' => e = .returned (.tuple #[p.val, .int .i64 0]) ∧ Below w.heap.size w w' := by
  obtain ⟨pt, rfl, h2, ok⟩ := hr.part (encL_bd p hp)
  have h := refDecode_any pt w ok (by rw [h2, encL_len]; omega)
  rw [h2, (dec_encN p hp ho).1, (dec_encN p hp ho).2] at h
  exact h
/-! ### what may be sent -/
def One (ls : List W3) (k : Nat) (x : W3) (P : W3 → Prop) : Prop := ls[k]? = some x ∧ P x ∧ ∀ (j : Nat) (y : W3), ls[j]? = some y → P y → j = k
inductive RStep (ms : List Tl) (now ip : Int) (ls : List W3) : Sd → List W3 → Prop
  | tell (d : Mac) (p : Arp) (hp : p.ok) (ho : p.op = 2) : RStep ms now ip ls ⟨d, 2054, encL p⟩ ls
  | ask (d : Mac) (p : Arp) (hp : p.ok) (ho : p.op = 1) (k : Nat) (x : W3) (hx : One ls k x fun y => y.ip = p.di) (h3 : 0 ≤ x.q ∧ x.q < 3) : RStep ms now ip ls ⟨d, 2054, encL p⟩ (ls.set k ⟨x.n, x.ip, x.q + 1⟩)
  | now_ (d : Mac) (hd : d.ok) (h0 : 0 ≤ now) (h1 : now < 9223372036854775808) (hm : (⟨ip, d⟩ : Tl) ∈ ms) : RStep ms now ip ls ⟨d, 2048, be8 now⟩ ls
  | old (d : Mac) (hd : d.ok) (n : Int) (h0 : 0 ≤ n) (h1 : n < 9223372036854775808) (hn : n ≠ now) (k : Nat) (x : W3) (hx : One ls k x fun y => y.n = n) (hm : (⟨x.ip, d⟩ : Tl) ∈ ms) : RStep ms now ip ls ⟨d, 2048, be8 n⟩ (ls.eraseIdx k)
def Rights (ms : List Tl) (now ip : Int) : List W3 → List Sd → List W3 → Prop
  | ls, [], ls' => ls' = ls
  | ls, s :: r, ls' => ∃ l1, RStep ms now ip ls s l1 ∧ Rights ms now ip l1 r ls'
theorem RStep.len {ms : List Tl} {now ip : Int} {ls ls' : List W3} {s : Sd} (h : RStep ms now ip ls s ls') : ls'.length ≤ ls.length := by
  cases h <;> simp [List.length_eraseIdx]
  split <;> omega
theorem Rights.next {ms : List Tl} {now ip : Int} {ls ls' : List W3} {l : List Sd} {k : Nat} {s : Sd} (h : Rights ms now ip ls (l.drop k) ls') (hs : l[k]? = some s) : ∃ l1, RStep ms now ip ls s l1 ∧ Rights ms now ip l1 (l.drop (k + 1)) ls' := by
  obtain ⟨hk, e⟩ := List.getElem?_eq_some_iff.1 hs
  rw [List.drop_eq_getElem_cons hk, e] at h
  exact h
theorem Rights.done {ms : List Tl} {now ip : Int} {ls ls' : List W3} {l : List Sd} {k : Nat} (h : Rights ms now ip ls (l.drop k) ls') (hk : l.length ≤ k) : ls' = ls := by
  rw [List.drop_of_length_le hk] at h
  exact h
/-! ### a count that grows -/
theorem RowS.setc {w : World} {e : TypeId} {sz : Nat} {g n cp : Nat} {xs : List Value} (h : RowS w e sz (.slice (some ⟨g, 0, none⟩) n cp) n xs) (j : Nat) (u : Value) : RowS (w.setCell ⟨g, j, none⟩ u) e sz (.slice (some ⟨g, 0, none⟩) n cp) n (xs.set j u) := by
  refine ⟨by rw [List.length_set]; exact h.1, ?_⟩
  rcases h.2 with ⟨h1, _⟩ | ⟨g', cap, cur, hv, h0, hg, r1, r2, r3, r4⟩
  · simp at h1
  · simp only [Value.slice.injEq, Option.some.injEq, Addr.mk.injEq] at hv
    obtain ⟨⟨rfl, _⟩, _, rfl⟩ := hv
    exact Or.inr ⟨g, cp, cur.setIfInBounds j u, rfl, h0, heap_setCell hg, r1, r2, by simpa using r3, by rw [← r4, Array.toList_setIfInBounds, List.take_set]⟩
theorem w3s_set : ∀ (l : List W3) (k : Nat) (x : W3), l[k]? = some x → ∀ (n q : Int), w3s (l.set k ⟨n, x.ip, q⟩) = ((w3s l).set (k * 3) (.int .i64 n)).set (k * 3 + 2) (.int .i64 q)
  | [], k, x, h, n, q => by simp at h
  | y :: l, 0, x, h, n, q => by
    simp at h; subst h
    simp [w3s, w3C]
  | y :: l, k + 1, x, h, n, q => by
    simp at h
    have ih := w3s_set l k x h n q
    simp only [List.set_cons_succ]
    have e1 : w3s (y :: l.set k ⟨n, x.ip, q⟩) = (w3C y).toList ++ w3s (l.set k ⟨n, x.ip, q⟩) := by simp [w3s]
    have e2 : w3s (y :: l) = (w3C y).toList ++ w3s l := by simp [w3s]
    rw [e1, e2, ih, show (k + 1) * 3 = k * 3 + 3 from by omega]
    have e3 : (w3C y).toList = [.int .i64 y.n, .int .u32 y.ip, .int .i64 y.q] := rfl
    rw [e3]
    simp
section
variable {B : Nat} {w w' : World} {gs : Nat} {al am : Option Addr} {cl cm : Nat} {ls : List W3} {ms : List Tl}
theorem w3s_q {k : Nat} {x : W3} (hx : ls[k]? = some x) (q : Int) : w3s (ls.set k ⟨x.n, x.ip, q⟩) = (w3s ls).set (k * 3 + 2) (.int .i64 q) := by
  rw [w3s_set ls k x hx x.n q]
  congr 1
  have h := w3s_get hx (j := 0) (by omega)
  simp only [w3C] at h
  have h2 : (w3s ls)[k * 3]? = some (.int .i64 x.n) := h
  apply List.ext_getElem?
  intro i
  rw [List.getElem?_set]
  split
  · rename_i e; subst e
    obtain ⟨hl, e2⟩ := List.getElem?_eq_some_iff.1 h2
    rw [if_pos hl, h2]
  · rfl
theorem w3s_n {k : Nat} {x : W3} (hx : ls[k]? = some x) (n : Int) : w3s (ls.set k ⟨n, x.ip, x.q⟩) = (w3s ls).set (k * 3) (.int .i64 n) := by
  rw [w3s_set ls k x hx n x.q]
  have h := w3s_get hx (j := 2) (by omega)
  have h2 : (w3s ls)[k * 3 + 2]? = some (.int .i64 x.q) := h
  apply List.ext_getElem?
  intro i
  rw [List.getElem?_set]
  split
  · rename_i e; subst e
    obtain ⟨hl, e2⟩ := List.getElem?_eq_some_iff.1 h2
    rw [List.length_set, if_pos hl, List.getElem?_set, if_neg (by omega), h2]
  · rfl
theorem SeW.cellset {ls' : List W3} {g j : Nat} {u : Value} (x : SeW B w gs (some ⟨g, 0, none⟩) cl am cm ls ms) (hl : ls'.length = ls.length) (he : w3s ls' = (w3s ls).set j u) (h0 : 0 < ls.length) : Se B (w.setCell ⟨g, j, none⟩ u) gs ls' ms ∧ Sk B w (w.setCell ⟨g, j, none⟩ u) := by
  have hb : But g w (w.setCell ⟨g, j, none⟩ u) := But.setCell _ _ _ _
  obtain ⟨cur, hc⟩ := x.l.obj (g := g) rfl
  have hrow := x.l.setc j u
  rw [← he] at hrow
  refine ⟨⟨some ⟨g, 0, none⟩, cl, am, cm, ?_, by rw [hl]; exact hrow, x.m.keep fun b hb' => hb.block b (fun e => ?_) (x.m.lt hb'), x.lo, by rw [hl]; exact x.lol, x.lom⟩, Sk.of_but hc (Or.inr (Or.inl rfl)) (x.lol g rfl) hb⟩
  · rw [hl]
    exact keptBut x.box hb (nty x.box hc (by decide))
  · subst e
    obtain ⟨cur', hc'⟩ := x.m.obj hb'
    exact nty hc' hc (by decide) rfl
theorem SeW.bump {g k : Nat} {x : W3} (h : SeW B w gs (some ⟨g, 0, none⟩) cl am cm ls ms) (hx : ls[k]? = some x) (q : Int) : Se B (w.setCell ⟨g, k * 3 + 2, none⟩ (.int .i64 q)) gs (ls.set k ⟨x.n, x.ip, q⟩) ms ∧ Sk B w (w.setCell ⟨g, k * 3 + 2, none⟩ (.int .i64 q)) :=
  h.cellset (by simp) (w3s_q hx q) (by have := (List.getElem?_eq_some_iff.1 hx).1; omega)
theorem SeW.renum {g k : Nat} {x : W3} (h : SeW B w gs (some ⟨g, 0, none⟩) cl am cm ls ms) (hx : ls[k]? = some x) (n : Int) : Se B (w.setCell ⟨g, k * 3, none⟩ (.int .i64 n)) gs (ls.set k ⟨n, x.ip, x.q⟩) ms ∧ Sk B w (w.setCell ⟨g, k * 3, none⟩ (.int .i64 n)) :=
  h.cellset (by simp) (w3s_n hx n) (by have := (List.getElem?_eq_some_iff.1 hx).1; omega)
theorem SeW.frz {g k j : Nat} {x : W3} (h : SeW B w gs (some ⟨g, 0, none⟩) cl am cm ls ms) : w.frozen? ⟨g, j, none⟩ = false := by
  obtain ⟨cur, hc⟩ := h.l.obj (g := g) rfl
  exact frozen_of_heap hc j
end
/-! ### rows of what is sent -/
theorem Outs.ent {w : World} {a : Option Addr} {n cp : Nat} {l : List (Sd × Value)} (h : Outs w (.slice a n cp) l) {k : Nat} {p : Sd × Value} (hp : l[k]? = some p) : ∃ g, a = some ⟨g, 0, none⟩ ∧ ∀ j, j < 8 → w.cell? ⟨g, k * 8 + j, none⟩ = (p.1.cells p.2)[j]? := by
  have hk : k < l.length := (List.getElem?_eq_some_iff.1 hp).1
  obtain ⟨g, cap, h1, h2, h3⟩ := h.row.some_of (by omega)
  have hrow := h.row
  simp only [Value.slice.injEq] at h1
  obtain ⟨rfl, hn, rfl⟩ := h1
  rw [hn] at hrow
  refine ⟨g, rfl, fun j hj => ?_⟩
  have h4 := sds_get hp hj
  have h5 : j < (p.1.cells p.2).size := by simp [Sd.cells]; omega
  rw [Array.getElem?_eq_getElem h5] at h4 ⊢
  exact RowS.cell hrow h4
end Go.Proofs.Ytaaoelhmanahpaa
