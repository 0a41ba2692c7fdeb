/-
  The document's Hash: Write.
-/
import Derived.Test.YtlephdpplfpliaaDRef4
import Derived.Test.YtlephdpplfpliaaDWrite
namespace Go.Proofs.Ytlephdpplfpliaa
open Go.RowKit
set_option linter.all false

/-- block p and block ob may have turned, and new ones come. -/
structure Far (p : Nat) (ob : Option Nat) (w w' : World) : Prop where
  os : w'.os = w.os
  tape : w'.tape = w.tape
  output : w'.output = w.output
  size : w.heap.size ≤ w'.heap.size
  block : ∀ k, k ≠ p → ob ≠ some k → k < w.heap.size → w'.heap[k]? = w.heap[k]?
theorem Far.refl (p : Nat) (ob : Option Nat) (w : World) : Far p ob w w := ⟨rfl, rfl, rfl, Nat.le_refl _, fun _ _ _ _ => rfl⟩
theorem Far.trans {p : Nat} {ob ob' : Option Nat} {a b c : World} (h : Far p ob a b) (k : Far p ob' b c) (ho : ∀ g, ob' = some g → ob = some g ∨ a.heap.size ≤ g) : Far p ob a c :=
  ⟨k.os.trans h.os, k.tape.trans h.tape, k.output.trans h.output, Nat.le_trans h.size k.size, fun i hi h2 hl => (k.block i hi (fun e => by
    rcases ho i e with h3 | h3
    · exact h2 h3
    · omega) (Nat.lt_of_lt_of_le hl h.size)).trans (h.block i hi h2 hl)⟩
theorem Far.of_but {p : Nat} {ob : Option Nat} {w w' : World} (h : But p w w') : Far p ob w w' := ⟨h.os, h.tape, h.output, h.size, fun k hk _ hl => h.block k hk hl⟩
theorem Far.of_below {p : Nat} {ob : Option Nat} {w w' : World} (h : Below w.heap.size w w') : Far p ob w w' := ⟨h.os, h.tape, h.output, h.size, fun k _ _ hl => h.block k hl⟩

/-- the document's Hash at p; m: what it counted. -/
structure RH (p : Nat) (x : HS) (m : Nat) (v : World) (g c : Nat) (rv : Value) : Prop where
  at_ : v.heap[p]? = some (.cells #[.slice (some ⟨g, 0, none⟩) 8 c, rv, .int .i64 m] 45 (0, 0))
  h : Bk.Row v 47 (.slice (some ⟨g, 0, none⟩) 8 c) (u32s x.st.l)
  r : Bk.Row v 5 rv (u8s x.rest)
  ok : x.ok

/-- 'append(rest, z)': where it lies, what it lets alone. -/
theorem append_byte {wr : World} {v : Value} {L : List Int} (h : Bk.Row wr 5 v (u8s L)) (z : Int) (hl : L.length ≤ 2000) :
    ∃ gg cc w', (Builtin.append_ #[37, 37] 37 #[v, .slice (some ⟨wr.heap.size, 0, none⟩) 1 1]).run Try.prog (wr.alloc (.cells #[.int .u8 z] 5)).drew = .ok (.slice (some ⟨gg, 0, none⟩) (L.length + 1) cc) w' ∧
      Bk.Row w' 5 (.slice (some ⟨gg, 0, none⟩) (L.length + 1) cc) (u8s (L ++ [z])) ∧ (v.ownBlock = some gg ∨ wr.heap.size ≤ gg) ∧ ∀ p, Far p v.ownBlock wr w' := by
  have ra := h.below (w' := (wr.alloc (.cells #[.int .u8 z] 5)).drew) (((Below.refl _ _).alloc (Nat.le_refl _) _).drew)
  obtain ⟨v', w', hrun, row', hgr', hcase⟩ := Bk.append_one 37 37 5 _ 1 Try.underlying37 Bk.infoU8 rfl ra (.int .u8 z) rfl wr.heap.size _ (Bk.heap_new wr _) (by rw [u8s_len]; unfold maxLen; omega) (by rw [u8s_len]; omega)
  have erow : u8s L ++ [Value.int .u8 z] = u8s (L ++ [z]) := by simp [u8s]
  rw [erow] at row'
  have hfar : ∀ p, Far p v.ownBlock wr w' := fun p => ⟨hgr'.os, hgr'.tape, hgr'.output, by have := hgr'.size; simp at this; omega, fun k _ ho hk => by
    rw [hgr'.block k (by simp; omega) (fun e => ho e.symm)]
    exact ((((Below.refl wr.heap.size wr).alloc (Nat.le_refl _) _).drew).block k hk)⟩
  rcases hcase with ⟨g0, cap, e1, e2⟩ | ⟨g0, cap, e2, hnew, hgn⟩
  · subst e2
    rw [u8s_len] at hrun row' 
    exact ⟨g0, cap, w', hrun, row', Or.inl (by rw [e1]; rfl), hfar⟩
  · subst e2
    rw [u8s_len] at hrun row'
    exact ⟨g0, cap, w', hrun, row', Or.inr (by simp at hnew; omega), hfar⟩

theorem row_not_at {v : World} {e e' : TypeId} {rv : Value} {vs : List Value} {p : Nat} {cs : Array Value} {f : Nat × Nat} (h : Bk.Row v e rv vs) (hp : v.heap[p]? = some (.cells cs e' f)) (hne : e ≠ e') : rv.ownBlock ≠ some p := by
  intro ho
  rcases h with ⟨hv, _⟩ | ⟨g, cap, cur, lo, hi, hv, hg, _⟩
  · rw [hv] at ho; simp [Value.ownBlock] at ho
  · rw [hv] at ho
    simp [Value.ownBlock] at ho
    subst ho
    rw [hg] at hp
    simp at hp
    exact hne hp.2.1
theorem row_at {v : World} {e : TypeId} {g n c : Nat} {vs : List Value} (h : Bk.Row v e (.slice (some ⟨g, 0, none⟩) n c) vs) : ∃ cur f, v.heap[g]? = some (.cells cur e f) := by
  rcases h with ⟨hv, _⟩ | ⟨g', cap, cur, lo, hi, hv, hg, _⟩
  · simp at hv
  · simp at hv
    rw [hv.1]
    exact ⟨cur, (lo, hi), hg⟩
theorem RH.app {p : Nat} {y : HS} {m : Nat} {wr : World} {g c : Nat} {rv : Value} (hR : RH p y m wr g c rv) (z : Int) :
    ∃ gg cc w1, (Builtin.append_ #[37, 37] 37 #[rv, .slice (some ⟨wr.heap.size, 0, none⟩) 1 1]).run Try.prog (wr.alloc (.cells #[.int .u8 z] 5)).drew = .ok (.slice (some ⟨gg, 0, none⟩) (y.n % 64 + 1) cc) w1 ∧
      w1.heap[p]? = some (.cells #[.slice (some ⟨g, 0, none⟩) 8 c, rv, .int .i64 m] 45 (0, 0)) ∧ Bk.Row w1 47 (.slice (some ⟨g, 0, none⟩) 8 c) (u32s y.st.l) ∧
      Bk.Row w1 5 (.slice (some ⟨gg, 0, none⟩) (y.n % 64 + 1) cc) (u8s (y.rest ++ [z])) ∧ (rv.ownBlock = some gg ∨ wr.heap.size ≤ gg) ∧ Far p rv.ownBlock wr w1 := by
  have hl := y.rest_len hR.ok.2.1
  obtain ⟨gg, cc, w1, hrun, hrow, hown, hfar⟩ := append_byte hR.r z (by omega)
  rw [hl] at hrun hrow
  have np := row_not_at hR.r hR.at_ (by decide)
  have lp : p < wr.heap.size := by
    have := hR.at_
    rw [Array.getElem?_eq_some_iff] at this
    exact this.1
  obtain ⟨cur, f, hg⟩ := row_at hR.h
  have ng := row_not_at hR.r hg (by decide)
  have lg := hR.h.lt (b := g) rfl
  refine ⟨gg, cc, w1, hrun, ?_, ?_, hrow, hown, hfar p⟩
  · rw [(hfar (p + 1)).block p (by omega) np lp]; exact hR.at_
  · exact hR.h.keep fun b hb => by
      have hb2 : g = b := by simpa [Value.ownBlock] using hb
      subst hb2
      exact (hfar (g + 1)).block g (by omega) ng lg

theorem row_off {v : World} {e : TypeId} {rv : Value} {vs : List Value} {p : Nat} (h : Bk.Row v e rv vs) (hne : rv.ownBlock ≠ some p) (j : Nat) (u : Value) : Bk.Row (v.setCell ⟨p, j, none⟩ u) e rv vs :=
  h.keep fun b hb => Below.heap_setCell _ _ _ _ (by intro e; simp at e; subst e; exact hne hb)
theorem RH.put {p : Nat} {y : HS} {m : Nat} {g c gg cc : Nat} {rv : Value} {w1 : World} {z : Int} (ok : y.ok) (hz : 0 ≤ z ∧ z ≤ 255)
    (hp1 : w1.heap[p]? = some (.cells #[.slice (some ⟨g, 0, none⟩) 8 c, rv, .int .i64 m] 45 (0, 0))) (hh1 : Bk.Row w1 47 (.slice (some ⟨g, 0, none⟩) 8 c) (u32s y.st.l))
    (hr1 : Bk.Row w1 5 (.slice (some ⟨gg, 0, none⟩) (y.n % 64 + 1) cc) (u8s (y.rest ++ [z]))) (h : ¬ (y.n + 1) % 64 = 0) :
    RH p (put1 y z) (m + 1) ((w1.setCell ⟨p, 1, none⟩ (.slice (some ⟨gg, 0, none⟩) (y.n % 64 + 1) cc)).setCell ⟨p, 2, none⟩ (.int .i64 ((m : Int) + 1))) g c (.slice (some ⟨gg, 0, none⟩) (y.n % 64 + 1) cc) := by
  obtain ⟨e1, e2⟩ := rest_put y z ok.2.1 h
  refine ⟨?_, ?_, ?_, put1_ok y z ok hz⟩
  · rw [heap_setCell_at (heap_setCell_at hp1)]; simp [put1]
  · rw [e2]; exact row_off (row_off hh1 (row_not_at hh1 hp1 (by decide)) _ _) (row_not_at hh1 hp1 (by decide)) _ _
  · rw [e1]; exact row_off (row_off hr1 (row_not_at hr1 hp1 (by decide)) _ _) (row_not_at hr1 hp1 (by decide)) _ _

theorem row_bytes {v : World} {g n c : Nat} {L : List Int} (h : Bk.Row v 5 (.slice (some ⟨g, 0, none⟩) n c) (u8s L)) (j : Nat) (hj : j < L.length) : v.cell? ⟨g, 0 + j, none⟩ = some (.int .u8 (L.getD j 0)) := by
  obtain ⟨g2, cap2, e2, hc⟩ := h.cell j (by rw [u8s_len]; exact hj)
  have hg : g2 = g := by simp at e2; exact e2.1.symm
  rw [hg] at hc
  rw [Nat.zero_add, hc]
  simp [u8s, List.getD_eq_getElem?_getD, hj]
theorem row_words {v : World} {g n c : Nat} {L : List Int} (h : Bk.Row v 47 (.slice (some ⟨g, 0, none⟩) n c) (u32s L)) (j : Nat) (hj : j < L.length) : v.cell? ⟨g, j, none⟩ = some (.int .u32 (L.getD j 0)) := by
  obtain ⟨g2, cap2, e2, hc⟩ := h.cell j (by rw [u32s_len]; exact hj)
  have hg : g2 = g := by simp at e2; exact e2.1.symm
  rw [hg] at hc
  rw [hc]
  simp [u32s, List.getD_eq_getElem?_getD, hj]
theorem RH.full {p : Nat} {y : HS} {m : Nat} {g c gg cc : Nat} {rv : Value} {w1 : World} {z : Int} (ok : y.ok) (hz : 0 ≤ z ∧ z ≤ 255)
    (hp1 : w1.heap[p]? = some (.cells #[.slice (some ⟨g, 0, none⟩) 8 c, rv, .int .i64 m] 45 (0, 0))) (hh1 : Bk.Row w1 47 (.slice (some ⟨g, 0, none⟩) 8 c) (u32s y.st.l))
    (hr1 : Bk.Row w1 5 (.slice (some ⟨gg, 0, none⟩) 64 cc) (u8s (y.rest ++ [z]))) (h : (y.n + 1) % 64 = 0) :
    Calls Try.prog 23 #[.slice (some ⟨g, 0, none⟩) 8 c, .slice (some ⟨gg, 0, none⟩) 64 cc] ((w1.setCell ⟨p, 1, none⟩ (.slice (some ⟨gg, 0, none⟩) 64 cc)).setCell ⟨p, 2, none⟩ (.int .i64 ((m : Int) + 1))) fun e wg =>
      ∃ gn cn, e = .returned (.slice (some ⟨gn, 0, none⟩) 8 cn) ∧ wg.heap[p]? = some (.cells #[.slice (some ⟨g, 0, none⟩) 8 c, .slice (some ⟨gg, 0, none⟩) 64 cc, .int .i64 ((m : Int) + 1)] 45 (0, 0)) ∧
        Far p none w1 wg ∧ RH p (put1 y z) (m + 1) ((wg.setCell ⟨p, 0, none⟩ (.slice (some ⟨gn, 0, none⟩) 8 cn)).setCell ⟨p, 1, none⟩ (.slice none 0 0)) gn cn (.slice none 0 0) := by
  have hl := y.rest_len ok.2.1
  have h2p : ((w1.setCell ⟨p, 1, none⟩ (.slice (some ⟨gg, 0, none⟩) 64 cc)).setCell ⟨p, 2, none⟩ (.int .i64 ((m : Int) + 1))).heap[p]? = some (.cells #[.slice (some ⟨g, 0, none⟩) 8 c, .slice (some ⟨gg, 0, none⟩) 64 cc, .int .i64 ((m : Int) + 1)] 45 (0, 0)) := by
    rw [heap_setCell_at (heap_setCell_at hp1)]; simp
  have hH2 := row_off (row_off hh1 (row_not_at hh1 hp1 (by decide)) 1 (.slice (some ⟨gg, 0, none⟩) 64 cc)) (row_not_at hh1 hp1 (by decide)) 2 (.int .i64 ((m : Int) + 1))
  have hR2 := row_off (row_off hr1 (row_not_at hr1 hp1 (by decide)) 1 (.slice (some ⟨gg, 0, none⟩) 64 cc)) (row_not_at hr1 hp1 (by decide)) 2 (.int .i64 ((m : Int) + 1))
  have hfar : Far p none w1 ((w1.setCell ⟨p, 1, none⟩ (.slice (some ⟨gg, 0, none⟩) 64 cc)).setCell ⟨p, 2, none⟩ (.int .i64 ((m : Int) + 1))) := Far.of_but ((But.setCell p _ 1 _).trans (But.setCell p _ 2 _))
  generalize (w1.setCell ⟨p, 1, none⟩ (.slice (some ⟨gg, 0, none⟩) 64 cc)).setCell ⟨p, 2, none⟩ (.int .i64 ((m : Int) + 1)) = W2 at *
  refine (refGone_any y.st g c gg 0 cc (y.rest ++ [z]) W2 ok.1 (by simp [hl]; omega) (fun u hu => ?_) (hR2.lt rfl) (hH2.lt rfl) (fun j hj => row_bytes hR2 j (by simp [hl]; omega)) (fun j hj => row_words hH2 j hj)).mono ?_
  · rcases List.mem_append.1 hu with h1 | h1
    · exact ok.2.2 u (List.mem_of_mem_take h1)
    · simp at h1; rw [h1]; exact hz
  · rintro e wg ⟨a, n, c', rfl, hw⟩
    obtain ⟨gn, cn, e1, _⟩ := hw.cells (by rw [l_len]; omega)
    rw [l_len] at e1
    have lp : p < W2.heap.size := (Array.getElem?_eq_some_iff.1 h2p).1
    have hpg := (hw.2.2.block p lp).trans h2p
    obtain ⟨e3, e4⟩ := rest_full y z ok.2.1 h
    have hrow := hw.1
    rw [e1] at hrow
    refine ⟨gn, cn, by rw [e1], hpg, hfar.trans (Far.of_below (ob := none) hw.2.2) (by simp), ?_, ?_, ?_, put1_ok y z ok hz⟩
    · rw [heap_setCell_at (heap_setCell_at hpg)]; simp [put1]
    · rw [e4]; exact row_off (row_off hrow (row_not_at hrow hpg (by decide)) _ _) (row_not_at hrow hpg (by decide)) _ _
    · rw [e3]; exact Bk.Row.nil _ _

set_option maxRecDepth 20000 in
set_option maxHeartbeats 4000000 in
theorem refWrite_any (p : Nat) (x : HS) (m : Nat) (g c : Nat) (rv : Value) (pt : Part) (w : World) (hR : RH p x m w g c rv) (hp : pt.ok w) (hf : pt.off p) (hr : ∀ b, rv.ownBlock = some b → pt.off b) (hn : m + pt.zs.length ≤ 4611686018427387904) :
    Calls Try.prog 15 #[.pointer (some ⟨p, 0, none⟩), pt.val] w fun e w' => e = .returned (.tuple #[]) ∧ ∃ g' c' rv', RH p (absorb x pt.zs) (m + pt.zs.length) w' g' c' rv' ∧ Far p rv.ownBlock w w' ∧ ∀ b, rv'.ownBlock = some b → rv.ownBlock = some b ∨ w.heap.size ≤ b := by
  obtain ⟨a, cp, zs⟩ := pt
  obtain ⟨N, hN⟩ : ∃ N, N = zs.length := ⟨_, rfl⟩
  have HN : Hid (N = zs.length) := hN
  have HPB : Hid (∀ wr, Far p rv.ownBlock w wr → ∀ k, k < N → ∃ b o, a = some ⟨b, o, none⟩ ∧ wr.cell? ⟨b, o + k, none⟩ = some (.int .u8 (zs.getD k 0)) ∧ b < wr.heap.size) := fun wr hF k hk => by
    rcases hp.2.2 with he | ⟨b, o, ha, hc⟩
    · simp only at he; subst he; simp at hN; omega
    · simp only at ha hc
      have hne : ¬ zs = [] := fun e => by subst e; simp at hN; omega
      have h1 : b ≠ p := hf.resolve_left hne b o ha
      have h2 : rv.ownBlock ≠ some b := fun e => (hr b e).resolve_left hne b o ha rfl
      have hlt := World.block_lt_of_cell? w _ (hc k (by omega))
      exact ⟨b, o, ha, by rw [World.cell?_of_block (w := w) (w' := wr) (hF.block b h1 h2 hlt), hc k (by omega)], Nat.lt_of_lt_of_le hlt hF.size⟩
  have HBZ : Hid (∀ k, 0 ≤ zs.getD k 0 ∧ zs.getD k 0 ≤ 255) := getD_bd (by omega) hp.1
  have HAB : Hid (∀ k, k < N → absorb x (zs.take (k + 1)) = put1 (absorb x (zs.take k)) (zs.getD k 0)) := fun k hk => by
    rw [List.take_succ_eq_append_getElem (by omega), absorb_app]
    simp [absorb, List.getD_eq_getElem?_getD, show k < zs.length by omega]
  have HNN : Hid (∀ k, k ≤ N → (absorb x (zs.take k)).n = x.n + k) := fun k hk => by rw [absorb_n, List.length_take]; omega
  have HR := Bk.hid hR
  unfold Part.val
  simp only at hn ⊢
  rw [← hN] at hn ⊢
  clear hN hR hp hf hr
  go_enter Try.func15, Try.ntmps15
  go_wp2
  go_loopw [4] (fun i wr => ∃ k : Nat, k ≤ N ∧ i = .int .i64 k ∧ ∃ g' c' rv', RH p (absorb x (zs.take k)) (m + k) wr g' c' rv' ∧ Far p rv.ownBlock w wr ∧ ∀ b, rv'.ownBlock = some b → rv.ownBlock = some b ∨ w.heap.size ≤ b) (fun i _ => N - (intOf i).toNat)
  case atStart => exact ⟨0, by omega, rfl, g, c, rv, by simpa [absorb] using HR.out, Far.refl _ _ _, fun b hb => Or.inl hb⟩
  case round =>
    clear HR
    obtain ⟨k, hk, rfl, g', c', rv', hR, hF, hO⟩ := hrel
    by_cases hlt : k < N
    · have hlt2 : (k : Int) < N := by omega
      obtain ⟨b, o, ha, cb, hbl⟩ := HPB.out wr hF k hlt
      subst ha
      have bz := HBZ.out k
      have HY := Bk.hid (HAB.out k hlt)
      obtain ⟨mk, hmk⟩ : ∃ mk, mk = m + k := ⟨_, rfl⟩
      have hny : mk + 1 ≤ 4611686018427387904 := by omega
      rw [← hmk] at hR
      have HMK := Bk.hid (show m + (k + 1) = mk + 1 by omega)
      clear hmk
      generalize absorb x (zs.take k) = y at *
      generalize zs.getD k 0 = z at *
      obtain ⟨gg, cc, w1, hrun, hp1, hh1, hr1, hown, hfar⟩ := hR.app z
      have c1 : wr.cell? ⟨p, 1, none⟩ = some rv' := by rw [cell_of_heap hR.at_]; rfl
      have p0 : w1.cell? ⟨p, 0, none⟩ = some (.slice (some ⟨g', 0, none⟩) 8 c') := by rw [cell_of_heap hp1]; rfl
      have p1 : w1.cell? ⟨p, 1, none⟩ = some rv' := by rw [cell_of_heap hp1]; rfl
      have p2 : w1.cell? ⟨p, 2, none⟩ = some (.int .i64 mk) := by rw [cell_of_heap hp1]; rfl
      have f0 : w1.frozen? ⟨p, 0, none⟩ = false := frozen_of_heap hp1 0
      have f1 : w1.frozen? ⟨p, 1, none⟩ = false := frozen_of_heap hp1 1
      have f2 : w1.frozen? ⟨p, 2, none⟩ = false := frozen_of_heap hp1 2
      have hpl : p < wr.heap.size := World.block_lt_of_cell? wr _ c1
      have hO2 : ∀ b, (Value.slice (some ⟨gg, 0, none⟩) (y.n % 64 + 1) cc).ownBlock = some b → rv.ownBlock = some b ∨ w.heap.size ≤ b := fun b hb => by
        have e : gg = b := by simpa [Value.ownBlock] using hb
        subst e
        rcases hown with h | h
        · exact hO _ h
        · exact Or.inr (Nat.le_trans hF.size h)
      have HF1 := Bk.hid (hF.trans hfar hO)
      have HO2 := Bk.hid hO2
      have HRUN := Bk.hid hrun
      by_cases hfull : (y.n + 1) % 64 = 0
      · have hm : y.n % 64 + 1 = 64 := by omega
        rw [hm] at hr1 HRUN HO2
        have HG := Bk.hid (RH.full (w1 := w1.drew) hR.ok bz hp1 hh1 hr1 hfull)
        clear hR hF hO hrun hp1 hh1 hr1 hown hfar hO2 HPB HBZ HAB HNN hfull hm
        generalize y.n = n at *
        have hsum : IntKind.i64.wrap ((mk : Int) + 1) = mk + 1 := by simp only [IntKind.wrap_i64]; omega
        go_wp2
        go_region_law (refine Bk.step_append_run rfl (.tmp 15) (.tmp 20) 37 37 rfl _ _ rfl rfl HRUN.out ?_)
        all_goals go_wp2_with fail
        all_goals (go_region_with (first
          | (go_at_call 23; refine HG.out.mono ?_; rintro e wg ⟨gn, cn, rfl, hpg, hfg, hrg⟩
             have q0 : wg.cell? ⟨p, 0, none⟩ = some (.slice (some ⟨g', 0, none⟩) 8 c') := by rw [cell_of_heap hpg]; rfl
             have q1 : wg.cell? ⟨p, 1, none⟩ = some (.slice (some ⟨gg, 0, none⟩) 64 cc) := by rw [cell_of_heap hpg]; rfl
             have r0 : wg.frozen? ⟨p, 0, none⟩ = false := frozen_of_heap hpg 0
             have r1 : wg.frozen? ⟨p, 1, none⟩ = false := frozen_of_heap hpg 1
             have HFG := Bk.hid hfg
             have HRG := Bk.hid hrg
             clear hpg hfg hrg)))
        all_goals go_wp2_with fail
        all_goals
          refine ⟨⟨k + 1, by omega, by go_num, gn, cn, .slice none 0 0, ?_, ?_, by simp [Value.ownBlock]⟩, by simp [intOf]; omega⟩
          · rw [HY.out, HMK.out]; exact HRG.out
          · exact (HF1.out.trans (ob' := none) (c := wg) ⟨HFG.out.os, HFG.out.tape, HFG.out.output, HFG.out.size, HFG.out.block⟩ (by simp)).trans (Far.of_but (ob := none) ((But.setCell p _ 0 _).trans (But.setCell p _ 1 _))) (by simp)
      · have HP := Bk.hid (RH.put hR.ok bz hp1 hh1 hr1 hfull)
        have hne : ¬ ((y.n % 64 + 1 : Nat) : Int) = 64 := by omega
        have hne2 : ¬ (y.n % 64 + 1 : Nat) = 64 := by omega
        clear hR hF hO hrun hp1 hh1 hr1 hown hfar hO2 HPB HBZ HAB HNN
        generalize y.n % 64 + 1 = mm at *
        generalize y.n = n at *
        have hsum : IntKind.i64.wrap ((mk : Int) + 1) = mk + 1 := by simp only [IntKind.wrap_i64]; omega
        go_wp2
        go_region_law (refine Bk.step_append_run rfl (.tmp 15) (.tmp 20) 37 37 rfl _ _ rfl rfl HRUN.out ?_)
        go_wp2
        all_goals
          refine ⟨⟨k + 1, by omega, by go_num, g', c', _, ?_, ?_, HO2.out⟩, by simp [intOf]; omega⟩
          · rw [HY.out, HMK.out]; exact HP.out
          · exact HF1.out.trans (Far.of_but (ob := none) ((But.setCell p _ 1 _).trans (But.setCell p _ 2 _))) (by simp)
    · have HE : Hid (RH p (absorb x zs) (m + N) wr g' c' rv') := by
        have : zs.take k = zs := List.take_of_length_le (by have := HN.out; omega)
        rw [this, show k = N by omega] at hR
        exact hR
      have HF := Bk.hid hF
      have HO := Bk.hid hO
      have hge : ¬ (k : Int) < N := by omega
      clear hR hF hO HPB HBZ HAB HNN
      go_wp2_with fail
      go_end0
      exact ⟨rfl, _, _, _, HE.out, HF.out, HO.out⟩
end Go.Proofs.Ytlephdpplfpliaa
