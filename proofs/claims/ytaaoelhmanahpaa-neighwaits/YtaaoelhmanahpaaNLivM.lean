/-
  Neigh: what live's calls leave behind.
-/
import Derived.Test.YtaaoelhmanahpaaNAct
import Derived.Test.YtaaoelhmanahpaaNNext
import Derived.Test.YtaaoelhmanahpaaNTick
namespace Go.Proofs.Ytaaoelhmanahpaa
open Go.RowKit
set_option linter.all false

def aM : Mac := ⟨2, 0, 0, 0, 0, 10⟩
def bM : Mac := ⟨2, 0, 0, 0, 0, 11⟩
def lS0 : St := newSt aM 2
def lS1 : St := ⟨aM, 2, 0, [⟨167772161, 10, zeroMac, 1, 167772170, [112]⟩]⟩
def lS2 : St := ⟨aM, 2, 3, [⟨167772161, 10, zeroMac, 1, 167772170, [114]⟩]⟩
def lS3 : St := ⟨aM, 2, 10, [⟨167772161, 20, zeroMac, 2, 167772170, [114]⟩]⟩
def lS4 : St := ⟨aM, 2, 12, [⟨167772161, 612, bM, 0, 0, []⟩]⟩
def lS5 : St := ⟨aM, 2, 13, [⟨167772161, 612, bM, 0, 0, []⟩]⟩
def lE1 : Ab := ⟨167772161, 0, zeroMac, 0, 167772170, [112]⟩
def lE2 : Ab := ⟨167772161, 10, zeroMac, 1, 167772170, [114]⟩
theorem live1 : askF lS0 167772170 167772161 [112] 0 = (lS1, [queS lS0 167772161 lE1]) := by rfl
theorem live2 : askF lS1 167772170 167772161 [114] 3 = (lS2, []) := by rfl
theorem live3 : nextV lS2 = 10 := by rfl
theorem live4 : tickF lS2 10 = (lS3, [queS { lS2 with now := 10 } 167772161 lE2]) := by rfl
theorem live5 : onF lS3 (tellP bM (askP aM 167772170 167772161)) 167772170 12 = (lS4, [⟨bM, 2048, [114]⟩]) := by rfl
theorem live6 : onF lS4 (askP bM 0 167772170) 167772170 13 = (lS5, [tellS lS5 (askP bM 0 167772170)]) := by rfl

theorem okP1 : (tellP bM (askP aM 167772170 167772161)).ok := by simp [Arp.ok, tellP, askP, aM, bM, zeroMac, Mac.ok, ipOk]
theorem okP2 : (askP bM 0 167772170).ok := by simp [Arp.ok, tellP, askP, aM, bM, zeroMac, Mac.ok, ipOk]
/-- what is sent, alone. -/
theorem Answ.sing {w w' : World} {c m : Nat} {S S' : St} {V : Int → Value} {a : Option Addr} {cp : Nat} {sd : Sd} (h : Answ w w' c m S S' V a cp [sd]) (h0 : sd.zs ≠ []) : ∃ g C gd D ad cpd, a = some ⟨g, 0, none⟩ ∧ w'.heap[g]? = some (.cells C 59 (0, 0)) ∧ (∀ (j : Nat) (u : Value), (sd.cells (.slice ad sd.zs.length cpd))[j]? = some u → C[j]? = some u) ∧ g ≠ c ∧ g ≠ m ∧ w'.heap[gd]? = some D ∧ gd ≠ c ∧ gd ≠ m ∧ (∀ w'' : World, w''.heap[gd]? = some D → Row w'' 5 (.slice ad sd.zs.length cpd) (u8s sd.zs)) := by
  obtain ⟨l, V', A⟩ := h
  obtain ⟨es, clock, hm, _⟩ := A.ca.map
  obtain ⟨p, rfl, e⟩ : ∃ p, l = [p] ∧ p.1 = sd := by
    have := A.map
    match l, this with
    | [p], h => exact ⟨p, rfl, by simpa using h⟩
  subst e
  have hd := A.outs.dat p (by simp)
  obtain ⟨ad, cpd, hv, _⟩ := hd.form
  rw [u8s_len] at hv
  obtain ⟨g, cap, h1, h2, h3⟩ := A.outs.row.some_of (by simp)
  simp only [List.length_cons, List.length_nil, Nat.zero_add, Value.slice.injEq] at h1
  obtain ⟨rfl, _, rfl⟩ := h1
  obtain ⟨C, hC⟩ := A.outs.row.obj (g := g) rfl
  have hgd : ∃ gd, p.2.ownBlock = some gd := by
    rcases hd with ⟨h4, h5⟩ | ⟨gd, cap', cur, lo, hi, h4, _⟩
    · exfalso
      apply h0
      have := congrArg List.length h5
      rw [u8s_len] at this
      exact List.eq_nil_of_length_eq_zero (by simpa using this)
    · exact ⟨gd, by rw [h4]; rfl⟩
  obtain ⟨gd, hgd⟩ := hgd
  have hgl := hd.lt hgd
  refine ⟨g, C, gd, w'.heap[gd], ad, cpd, rfl, hC, fun j u hj => ?_, rowS_not A.outs.row A.ca.box (by decide) g rfl, rowS_not_map A.outs.row hm g rfl, Array.getElem?_eq_getElem hgl, row_not hd A.ca.box (by decide) gd hgd, row_not_map hd hm gd hgd, fun w'' h'' => ?_⟩
  · have h5 : (sdCells [p])[j]? = some u := by
      rw [← hv] at hj
      simpa [sdCells, ← Array.getElem?_toList] using hj
    have h6 := RowS.cell (n := 1) (cap := cp) A.outs.row h5
    rw [cell_of_heap hC] at h6
    exact h6
  · rw [← hv]
    refine hd.keep fun b hb => ?_
    rw [hgd] at hb
    simp at hb; subst hb
    rw [h'', Array.getElem?_eq_getElem hgl]
theorem LkI.sing {w w' : World} {a : Option Addr} {cp : Nat} {y : Ab} (h : LkI w w' a 1 cp [y]) : ∃ g C, a = some ⟨g, 0, none⟩ ∧ w'.heap[g]? = some (.cells C 68 (0, 0)) ∧ (∀ (j : Nat) (u : Value), (lookC y)[j]? = some u → C[j]? = some u) ∧ w.heap.size ≤ g := by
  obtain ⟨g, cap, h1, h2, h3⟩ := h.row.some_of (by simp)
  simp only [Value.slice.injEq] at h1
  obtain ⟨rfl, _, rfl⟩ := h1
  obtain ⟨C, hC⟩ := h.row.obj (g := g) rfl
  refine ⟨g, C, rfl, hC, fun j u hj => ?_, h.new g rfl⟩
  have h5 : (nbs [y])[j]? = some u := by simpa [nbs, ← Array.getElem?_toList] using hj
  have h6 := RowS.cell (n := 1) (cap := cp) h.row h5
  rw [cell_of_heap hC] at h6
  exact h6
/-- live, under way: the cache, and blocks that stay. -/
structure LV (w0 w : World) (c m : Nat) (S : St) (K : List (Nat × Obj)) : Prop where
  ca : ∃ V, CaW w c m S V
  below : Below w0.heap.size w0 w
  gc : w0.heap.size ≤ c
  gm : w0.heap.size ≤ m
  kept : ∀ p ∈ K, w.heap[p.1]? = some p.2 ∧ p.1 ≠ c ∧ p.1 ≠ m
section
variable {w0 w w' : World} {c m : Nat} {S S' : St} {K : List (Nat × Obj)} {V' : Int → Value}
theorem LV.two (h : LV w0 w c m S K) (ht : Two c m w w') (hc : CaW w' c m S' V') : LV w0 w' c m S' K := by
  refine ⟨⟨V', hc⟩, h.below.trans (ht.below h.gc h.gm h.below.size), h.gc, h.gm, fun p hp => ?_⟩
  obtain ⟨h1, h2, h3⟩ := h.kept p hp
  exact ⟨(ht.block p.1 h2 h3 (heap_lt h1)).trans h1, h2, h3⟩
theorem LV.bel (h : LV w0 w c m S K) (hb : Below w.heap.size w w') : LV w0 w' c m S K := by
  obtain ⟨V, hV⟩ := h.ca
  exact h.two (Two.of_below hb) (hV.below hb)
theorem LV.add (h : LV w0 w c m S K) {g : Nat} {o : Obj} (hg : w.heap[g]? = some o) (h1 : g ≠ c) (h2 : g ≠ m) : LV w0 w c m S ((g, o) :: K) :=
  ⟨h.ca, h.below, h.gc, h.gm, fun p hp => by
    rcases List.mem_cons.1 hp with rfl | hp
    · exact ⟨hg, h1, h2⟩
    · exact h.kept p hp⟩
theorem LV.at (h : LV w0 w c m S K) {g : Nat} {o : Obj} (hm : (g, o) ∈ K) : w.heap[g]? = some o := (h.kept _ hm).1
theorem LV.cell (h : LV w0 w c m S K) {g : Nat} {C : Array Value} {t : TypeId} {f : Nat × Nat} (hm : (g, Obj.cells C t f) ∈ K) : ∀ j, w.cell? ⟨g, j, none⟩ = C[j]? := fun j => cell_of_heap (h.at hm) j
end
/-- Ask, of one byte that the caller wrote. -/
theorem lvAsk {w0 w : World} {c m : Nat} {S : St} {K : List (Nat × Obj)} (h : LV w0 w c m S K) (ch now : Int) (h0 : 0 ≤ ch) (h1 : ch ≤ 255) :
    Calls Try.prog 12 #[.pointer (some ⟨c, 0, none⟩), .int .u32 167772170, .int .u32 167772161, .slice (some ⟨w.heap.size, 0, none⟩) 1 1, .int .i64 now] (w.alloc (.cells #[.int .u8 ch] 5 (1, 2))) fun e w' => ∃ a cp, e = .returned (.slice a (askF S 167772170 167772161 [ch] now).2.length cp) ∧ (∃ w1 V, Answ w1 w' c m S (askF S 167772170 167772161 [ch] now).1 V a cp (askF S 167772170 167772161 [ch] now).2) ∧ LV w0 w' c m (askF S 167772170 167772161 [ch] now).1 K := by
  obtain ⟨V, hV⟩ := h.ca
  have hb := bpush (Below.refl w.heap.size w) (.cells #[.int .u8 ch] 5 (1, 2))
  have hcl := hV.ltc
  have hml := hV.ltm
  have := cask_any c m S V 167772170 167772161 ⟨some ⟨w.heap.size, 0, none⟩, 1, [ch]⟩ now _ (hV.below hb) ⟨by decide, by decide⟩ ⟨by decide, by decide⟩ (fun wx ht => ?_) (by simp)
  · refine this.mono fun e w' ⟨a, cp, e1, e2⟩ => ⟨a, cp, e1, ⟨_, V, e2.out⟩, ?_⟩
    obtain ⟨l, V', A⟩ := e2.out
    exact (h.bel hb).two A.two A.ca
  · have hk : wx.heap[w.heap.size]? = some (.cells #[.int .u8 ch] 5 (1, 2)) := (ht.block _ (by omega) (by omega) (by simp)).trans (heap_new _ _)
    exact Part.of_heap hk 0 (by simp) (fun j hj => by
      have : j = 0 := by simpa using hj
      subst this; rfl) (by simp; omega)
theorem lvAsk1 {w0 w : World} {c m : Nat} {K : List (Nat × Obj)} (h : LV w0 w c m lS0 K) :
    Calls Try.prog 12 #[.pointer (some ⟨c, 0, none⟩), .int .u32 167772170, .int .u32 167772161, .slice (some ⟨w.heap.size, 0, none⟩) 1 1, .int .i64 0] (w.alloc (.cells #[.int .u8 112] 5 (1, 2))) fun e w' => ∃ g C cp, e = .returned (.slice (some ⟨g, 0, none⟩) 1 cp) ∧ Hid (C[6]? = some (.int .i64 2054)) ∧ Hid (LV w0 w' c m lS1 ((g, .cells C 59 (0, 0)) :: K)) :=
  (lvAsk h 112 0 (by decide) (by decide)).mono fun e w' ⟨a, cp, e1, ⟨w1, V, e2⟩, e3⟩ => by
    rw [live1] at e1 e2 e3
    obtain ⟨g, C, gd, D, ad, cpd, rfl, hC, hj, hc, hm, _⟩ := Answ.sing e2 (by intro h; have := congrArg List.length h; simp [queS, encL_len] at this)
    exact ⟨g, C, cp, e1, hj 6 _ rfl, e3.add hC hc hm⟩
theorem lvAsk2 {w0 w : World} {c m : Nat} {K : List (Nat × Obj)} (h : LV w0 w c m lS1 K) :
    Calls Try.prog 12 #[.pointer (some ⟨c, 0, none⟩), .int .u32 167772170, .int .u32 167772161, .slice (some ⟨w.heap.size, 0, none⟩) 1 1, .int .i64 3] (w.alloc (.cells #[.int .u8 114] 5 (1, 2))) fun e w' => ∃ a cp, e = .returned (.slice a 0 cp) ∧ Hid (LV w0 w' c m lS2 K) :=
  (lvAsk h 114 3 (by decide) (by decide)).mono fun e w' ⟨a, cp, e1, ⟨w1, V, e2⟩, e3⟩ => by
    rw [live2] at e1 e2 e3
    exact ⟨a, cp, e1, e3⟩
theorem lvNext {w0 w : World} {c m : Nat} {K : List (Nat × Obj)} (h : LV w0 w c m lS2 K) :
    Calls Try.prog 22 #[.pointer (some ⟨c, 0, none⟩)] w fun e w' => e = .returned (.tuple #[.int .i64 10, .bool true]) ∧ Hid (LV w0 w' c m lS2 K) := by
  obtain ⟨V, hV⟩ := h.ca
  exact (nextC_any c m lS2 V w hV).mono fun e w' ⟨e1, e2⟩ => ⟨by rw [e1, live3]; rfl, h.bel e2.out⟩
theorem lvTick {w0 w : World} {c m : Nat} {K : List (Nat × Obj)} (h : LV w0 w c m lS2 K) :
    Calls Try.prog 19 #[.pointer (some ⟨c, 0, none⟩), .int .i64 10] w fun e w' => ∃ a cp, e = .returned (.slice a 1 cp) ∧ Hid (LV w0 w' c m lS3 K) := by
  obtain ⟨V, hV⟩ := h.ca
  exact (tick_any c m lS2 V 10 w hV).mono fun e w' ⟨a, cp, e1, e2⟩ => by
    rw [live4] at e1 e2
    obtain ⟨l, V', A⟩ := e2.out
    exact ⟨a, cp, e1, h.two A.two A.ca⟩
theorem lvOn1 {w0 w : World} {c m : Nat} {K : List (Nat × Obj)} (h : LV w0 w c m lS3 K) :
    Calls Try.prog 18 #[.pointer (some ⟨c, 0, none⟩), (tellP bM (askP aM 167772170 167772161)).val, .int .u32 167772170, .int .i64 12] w fun e w' => ∃ g C cp gd D ad cpd, e = .returned (.slice (some ⟨g, 0, none⟩) 1 cp) ∧ Hid (∀ (j : Nat) (u : Value), (#[.int .u8 2, .int .u8 0, .int .u8 0, .int .u8 0, .int .u8 0, .int .u8 11, .int .i64 2048, .slice ad 1 cpd] : Array Value)[j]? = some u → C[j]? = some u) ∧ Hid (∀ w'' : World, w''.heap[gd]? = some D → Row w'' 5 (.slice ad 1 cpd) (u8s [114])) ∧ Hid (LV w0 w' c m lS4 ((g, .cells C 59 (0, 0)) :: (gd, D) :: K)) := by
  obtain ⟨V, hV⟩ := h.ca
  exact (on_any c m lS3 V _ 167772170 12 w hV okP1 ⟨by decide, by decide⟩).mono fun e w' ⟨a, cp, e1, e2⟩ => by
    rw [live5] at e1 e2
    obtain ⟨g, C, gd, D, ad, cpd, rfl, hC, hj, hc, hm, hD, hdc, hdm, hR⟩ := Answ.sing e2.out (by simp)
    obtain ⟨l, V', A⟩ := e2.out
    exact ⟨g, C, cp, gd, D, ad, cpd, e1, hj, hR, ((h.two A.two A.ca).add hD hdc hdm).add hC hc hm⟩
theorem lvLook1 {w0 w : World} {c m : Nat} {K : List (Nat × Obj)} (h : LV w0 w c m lS4 K) :
    Calls Try.prog 21 #[.pointer (some ⟨c, 0, none⟩)] w fun e w' => ∃ g C cp, e = .returned (.slice (some ⟨g, 0, none⟩) 1 cp) ∧ Hid (∀ (j : Nat) (u : Value), (#[.int .u32 167772161, .int .u8 2, .int .u8 0, .int .u8 0, .int .u8 0, .int .u8 0, .int .u8 11, .int .i64 2, .int .i64 612, .int .i64 0, .bool false] : Array Value)[j]? = some u → C[j]? = some u) ∧ Hid (LV w0 w' c m lS4 ((g, .cells C 68 (0, 0)) :: K)) := by
  obtain ⟨V, hV⟩ := h.ca
  exact (lookS_any c m lS4 V w hV).mono fun e w' ⟨a, cp, e1, e2⟩ => by
    obtain ⟨g, C, rfl, hC, hj, hg⟩ := LkI.sing (y := ⟨167772161, 612, bM, 0, 0, []⟩) e2.out
    have h1 := hV.ltc
    have h2 := hV.ltm
    exact ⟨g, C, cp, e1, hj, (h.bel e2.out.below).add hC (by omega) (by omega)⟩
theorem lvOn2 {w0 w : World} {c m : Nat} {K : List (Nat × Obj)} (h : LV w0 w c m lS4 K) :
    Calls Try.prog 18 #[.pointer (some ⟨c, 0, none⟩), (askP bM 0 167772170).val, .int .u32 167772170, .int .i64 13] w fun e w' => ∃ a cp, e = .returned (.slice a 1 cp) ∧ Hid (LV w0 w' c m lS5 K) := by
  obtain ⟨V, hV⟩ := h.ca
  exact (on_any c m lS4 V _ 167772170 13 w hV okP2 ⟨by decide, by decide⟩).mono fun e w' ⟨a, cp, e1, e2⟩ => by
    rw [live6] at e1 e2
    obtain ⟨l, V', A⟩ := e2.out
    exact ⟨a, cp, e1, h.two A.two A.ca⟩
theorem lvClear {w0 w : World} {c m : Nat} {S : St} {K : List (Nat × Obj)} (h : LV w0 w c m S K) :
    Calls Try.prog 20 #[.pointer (some ⟨c, 0, none⟩)] w fun e w' => e = .returned (.tuple #[]) ∧ Hid (LV w0 w' c m { S with L := [] } K) := by
  obtain ⟨V, hV⟩ := h.ca
  exact (clear_any c m S V w hV).mono fun e w' ⟨e1, e2, e3⟩ => ⟨e1, h.two e3.out e2.out⟩
theorem lvLook2 {w0 w : World} {c m : Nat} {S : St} {K : List (Nat × Obj)} (h : LV w0 w c m { S with L := [] } K) :
    Calls Try.prog 21 #[.pointer (some ⟨c, 0, none⟩)] w fun e w' => ∃ a cp, e = .returned (.slice a 0 cp) ∧ Hid (LV w0 w' c m { S with L := [] } K) := by
  obtain ⟨V, hV⟩ := h.ca
  exact (lookS_any c m _ V w hV).mono fun e w' ⟨a, cp, e1, e2⟩ => ⟨a, cp, e1, h.bel e2.out.below⟩
theorem lvNew (w : World) :
    Calls Try.prog 7 #[.agg #[.int .u8 2, .int .u8 0, .int .u8 0, .int .u8 0, .int .u8 0, .int .u8 10], .int .i64 2] ((w.alloc (.cells #[.int .u8 2, .int .u8 0, .int .u8 0, .int .u8 0, .int .u8 0, .int .u8 10] 24)).alloc (.cells #[.int .u8 2, .int .u8 0, .int .u8 0, .int .u8 0, .int .u8 0, .int .u8 11] 24)) fun e w' => ∃ c m, e = .returned (.pointer (some ⟨c, 0, none⟩)) ∧ Hid (LV w w' c m lS0 [(w.heap.size, .cells #[.int .u8 2, .int .u8 0, .int .u8 0, .int .u8 0, .int .u8 0, .int .u8 10] 24 (0, 0)), (w.heap.size + 1, .cells #[.int .u8 2, .int .u8 0, .int .u8 0, .int .u8 0, .int .u8 0, .int .u8 11] 24 (0, 0))]) :=
  (new_yes aM 2 _ (by simp [Mac.ok, aM]) (by decide) (by decide)).mono fun e w' ⟨c, m, e1, h1, h2, h3, h4⟩ => by
    have hA : ((w.alloc (.cells #[.int .u8 2, .int .u8 0, .int .u8 0, .int .u8 0, .int .u8 0, .int .u8 10] 24)).alloc (.cells #[.int .u8 2, .int .u8 0, .int .u8 0, .int .u8 0, .int .u8 0, .int .u8 11] 24)).heap[w.heap.size]? = some (.cells #[.int .u8 2, .int .u8 0, .int .u8 0, .int .u8 0, .int .u8 0, .int .u8 10] 24 (0, 0)) := (heap_old _ _ (by simp)).trans (heap_new _ _)
    have hB : ((w.alloc (.cells #[.int .u8 2, .int .u8 0, .int .u8 0, .int .u8 0, .int .u8 0, .int .u8 10] 24)).alloc (.cells #[.int .u8 2, .int .u8 0, .int .u8 0, .int .u8 0, .int .u8 0, .int .u8 11] 24)).heap[w.heap.size + 1]? = some (.cells #[.int .u8 2, .int .u8 0, .int .u8 0, .int .u8 0, .int .u8 0, .int .u8 11] 24 (0, 0)) := by
      have := heap_new (w.alloc (.cells #[.int .u8 2, .int .u8 0, .int .u8 0, .int .u8 0, .int .u8 0, .int .u8 10] 24)) (.cells #[.int .u8 2, .int .u8 0, .int .u8 0, .int .u8 0, .int .u8 0, .int .u8 11] 24)
      simpa using this
    simp only [World.size_alloc] at h1 h2
    have l0 : LV w w' c m lS0 [] := ⟨⟨_, h3.out⟩, bstep (bpush (bpush (Below.refl _ _) _) _) h4.out, by omega, by omega, by simp⟩
    exact ⟨c, m, e1, (l0.add (kept hB h4.out) (by omega) (by omega)).add (kept hA h4.out) (by omega) (by omega)⟩
theorem lvNil {w0 w : World} {c m : Nat} {S : St} {K : List (Nat × Obj)} (h : LV w0 w c m S K) :
    Calls Try.prog 7 #[.agg #[.int .u8 2, .int .u8 0, .int .u8 0, .int .u8 0, .int .u8 0, .int .u8 10], .int .i64 0] w fun e w' => e = .returned (.pointer none) ∧ Hid (LV w0 w' c m S K) :=
  (new_no aM 0 w (by decide)).mono fun e w' ⟨e1, h1⟩ => ⟨e1, h.bel h1⟩
end Go.Proofs.Ytaaoelhmanahpaa
