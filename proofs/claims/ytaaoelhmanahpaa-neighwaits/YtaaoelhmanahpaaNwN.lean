/-
  NeighWaits: the calls, as the statement's loop sees them.
-/
import Derived.Test.YtaaoelhmanahpaaNwR
import Derived.Test.YtaaoelhmanahpaaNwT
import Derived.Test.YtaaoelhmanahpaaNLook
namespace Go.Proofs.Ytaaoelhmanahpaa
open Go.RowKit
set_option linter.all false

structure NwI (w0 w : World) (c m gs : Nat) (S : St) (ls : List W3) (ms : List Tl) : Prop where
  ca : ∃ V, CaW w c m S V
  se : Se w0.heap.size w gs ls ms
  lc : w0.heap.size ≤ c
  lm : w0.heap.size ≤ m
  bel : Below w0.heap.size w0 w
/-- .. and what is sent. -/
def NwO (w0 w : World) (c m gs : Nat) (S : St) (ls : List W3) (ms : List Tl) (v : Value) (sds : List Sd) : Prop := ∃ l, l.map (·.1) = sds ∧ Outs w v l ∧ NwI w0 w c m gs S ls ms
section
variable {w0 w w' : World} {c m gs : Nat} {S S' : St} {ls ls' : List W3} {ms ms' : List Tl}
theorem NwI.ok (h : NwI w0 w c m gs S ls ms) : S.ok := by
  obtain ⟨V, x⟩ := h.ca
  exact x.ok
theorem NwI.below (h : NwI w0 w c m gs S ls ms) (hb : Below w.heap.size w w') : NwI w0 w' c m gs S ls ms := by
  obtain ⟨V, x⟩ := h.ca
  exact ⟨⟨V, x.below hb⟩, h.se.below hb, h.lc, h.lm, bstep h.bel hb⟩
theorem NwI.sk (h : NwI w0 w c m gs S ls ms) (hs : Se w0.heap.size w' gs ls' ms') (hk : Sk w0.heap.size w w') : NwI w0 w' c m gs S ls' ms' := by
  obtain ⟨V, x⟩ := h.ca
  exact ⟨⟨V, hk.ca x⟩, hs, h.lc, h.lm, hk.below h.bel⟩
theorem NwI.two {V V' : Int → Value} (h : NwI w0 w c m gs S ls ms) (x : CaW w c m S V) (ht : Two c m w w') (hc : CaW w' c m S' V') : NwI w0 w' c m gs S' ls ms :=
  ⟨⟨V', hc⟩, h.se.two x ht, h.lc, h.lm, h.bel.trans (ht.below h.lc h.lm h.bel.size)⟩
theorem NwI.ans {V : Int → Value} {a : Option Addr} {cp : Nat} {sds : List Sd} (h : NwI w0 w c m gs S ls ms) (x : CaW w c m S V) (A : Answ w w' c m S S' V a cp sds) : NwO w0 w' c m gs S' ls ms (.slice a sds.length cp) sds := by
  obtain ⟨l, V', A⟩ := A
  exact ⟨l, A.map, A.outs, h.two x A.two A.ca⟩
theorem NwO.below {v : Value} {sds : List Sd} (h : NwO w0 w c m gs S ls ms v sds) (hb : Below w.heap.size w w') : NwO w0 w' c m gs S ls ms v sds := by
  obtain ⟨l, h1, h2, h3⟩ := h
  exact ⟨l, h1, h2.below hb, h3.below hb⟩
theorem NwO.sk {v : Value} {sds : List Sd} (h : NwO w0 w c m gs S ls ms v sds) (hs : Se w0.heap.size w' gs ls' ms') (hk : Sk w0.heap.size w w') : NwO w0 w' c m gs S ls' ms' v sds := by
  obtain ⟨l, h1, h2, h3⟩ := h
  exact ⟨l, h1, hk.outs h2, h3.sk hs hk⟩
theorem NwO.nwi {v : Value} {sds : List Sd} (h : NwO w0 w c m gs S ls ms v sds) : NwI w0 w c m gs S ls ms := by
  obtain ⟨l, h1, h2, h3⟩ := h
  exact h3
/-- the kind of the one thing that is sent. -/
theorem NwO.kind {a : Option Addr} {cp : Nat} {s : Sd} (h : NwO w0 w c m gs S ls ms (.slice a 1 cp) [s]) : ∃ g, a = some ⟨g, 0, none⟩ ∧ w.cell? ⟨g, 6, none⟩ = some (.int .i64 s.kind) := by
  obtain ⟨l, h1, h2, h3⟩ := h
  obtain ⟨p, rfl, e⟩ : ∃ p, l = [p] ∧ p.1 = s := by
    match l, h1 with
    | [p], h => exact ⟨p, rfl, by simpa using h⟩
  obtain ⟨g, rfl, hc⟩ := h2.ent (k := 0) (p := p) rfl
  exact ⟨g, rfl, by rw [show (⟨g, 6, none⟩ : Addr) = ⟨g, 0 * 8 + 6, none⟩ from by simp, hc 6 (by omega), ← e]; rfl⟩
/-- boxes of calls stay. -/
def KOp (w w' : World) : Prop := ∀ (b : Nat) (C : Array Value) (f : Nat × Nat), w.heap[b]? = some (.cells C 44 f) → w'.heap[b]? = some (.cells C 44 f)
theorem nw_ask (h : NwI w0 w c m gs S ls ms) (i src ip now : Int) (g : Nat) (hip : ipOk ip) (hsrc : ipOk src) (hg : w.heap[g]? = some (.cells (u8s (be8 i)).toArray 5 (0, 0))) :
    Calls Try.prog 12 #[.pointer (some ⟨c, 0, none⟩), .int .u32 src, .int .u32 ip, .slice (some ⟨g, 0, none⟩) 8 8, .int .i64 now] w fun e w' => ∃ a N cp, e = .returned (.slice a N cp) ∧ Hid (N = (askF S src ip (be8 i) now).2.length ∧ NwO w0 w' c m gs (askF S src ip (be8 i) now).1 ls ms (.slice a N cp) (askF S src ip (be8 i) now).2) ∧ Hid (KOp w w') := by
  obtain ⟨V, x⟩ := h.ca
  obtain ⟨es, clock, hm, _⟩ := x.map
  have hgc : g ≠ c := nty hg x.box (by decide)
  have hgm : g ≠ m := nmp hg hm
  have := cask_any c m S V src ip ⟨some ⟨g, 0, none⟩, 8, be8 i⟩ now w x hip hsrc (fun wx ht => Part.of_row ((ht.block g hgc hgm (heap_lt hg)).trans hg) (by rw [be8_len]; omega) (be8_bd i)) (by rw [be8_len]; omega)
  refine this.mono fun e w' ⟨a, cp, e1, A⟩ => ⟨a, _, cp, e1, ⟨rfl, h.ans x A.out⟩, fun b C f hb => ?_⟩
  obtain ⟨l, V', A⟩ := A.out
  exact (A.two.block b (nty hb x.box (by decide)) (nmp hb hm) (heap_lt hb)).trans hb
theorem nw_on (h : NwI w0 w c m gs S ls ms) (p : Arp) (own now : Int) (hp : p.ok) (ho : ipOk own) :
    Calls Try.prog 18 #[.pointer (some ⟨c, 0, none⟩), p.val, .int .u32 own, .int .i64 now] w fun e w' => ∃ a N cp, e = .returned (.slice a N cp) ∧ Hid (N = (onF S p own now).2.length ∧ NwO w0 w' c m gs (onF S p own now).1 ls ms (.slice a N cp) (onF S p own now).2) := by
  obtain ⟨V, x⟩ := h.ca
  exact (on_any c m S V p own now w x hp ho).mono fun e w' ⟨a, cp, e1, A⟩ => ⟨a, _, cp, e1, rfl, h.ans x A.out⟩
theorem nw_tick (h : NwI w0 w c m gs S ls ms) (now : Int) :
    Calls Try.prog 19 #[.pointer (some ⟨c, 0, none⟩), .int .i64 now] w fun e w' => ∃ a N cp, e = .returned (.slice a N cp) ∧ Hid (N = (tickF S now).2.length ∧ NwO w0 w' c m gs (tickF S now).1 ls ms (.slice a N cp) (tickF S now).2) := by
  obtain ⟨V, x⟩ := h.ca
  exact (tick_any c m S V now w x).mono fun e w' ⟨a, cp, e1, A⟩ => ⟨a, _, cp, e1, rfl, h.ans x A.out⟩
theorem nw_clear (h : NwI w0 w c m gs S ls ms) :
    Calls Try.prog 20 #[.pointer (some ⟨c, 0, none⟩)] w fun e w' => e = .returned (.tuple #[]) ∧ Hid (NwI w0 w' c m gs { S with L := [] } ls ms) := by
  obtain ⟨V, x⟩ := h.ca
  exact (clear_any c m S V w x).mono fun e w' ⟨e1, h1, h2⟩ => ⟨e1, h.two x h2.out h1.out⟩
theorem nw_look (h : NwI w0 w c m gs S ls ms) (N : Nat) (hN : N = S.L.length) :
    Calls Try.prog 21 #[.pointer (some ⟨c, 0, none⟩)] w fun e w' => ∃ a cp, e = .returned (.slice a N cp) ∧ Hid (RowS w' 68 11 (.slice a N cp) N (nbs S.L)) ∧ Hid (Below w.heap.size w w') := by
  obtain ⟨V, x⟩ := h.ca
  subst hN
  exact (lookS_any c m S V w x).mono fun e w' ⟨a, cp, e1, h1⟩ => ⟨a, cp, e1, h1.out.row, h1.out.below⟩
theorem nw_right {a : Option Addr} {N cp : Nat} {sds : List Sd} (h : NwO w0 w c m gs S ls ms (.slice a N cp) sds) (hN : N = sds.length) (now ip : Int) (hr : Rights ms now ip ls sds ls') (hl : ls.length ≤ 1000) (hm : ms.length ≤ 2199023255552) (hmo : ∀ y ∈ ms, y.mac.ok) (hN6 : N ≤ 1000) :
    Calls Try.prog 15 #[.pointer (some ⟨gs, 0, none⟩), .slice a N cp, .int .i64 now, .int .u32 ip] w fun e w' => e = .returned (.bool true) ∧ Hid (NwI w0 w' c m gs S ls' ms) := by
  obtain ⟨l, h1, h2, h3⟩ := h
  subst h1
  exact (right_any w0.heap.size gs ls ls' ms now ip a N cp l w h3.se h2 (by rw [hN, List.length_map]) hr hl hm hmo hN6).mono fun e w' ⟨e1, e2, e3⟩ => ⟨e1, h3.sk e2.out e3.out⟩
theorem nw_hears (h : NwI w0 w c m gs S ls ms) (p : Arp) (hm : ms.length ≤ 2199023255551) :
    Calls Try.prog 17 #[.pointer (some ⟨gs, 0, none⟩), p.val] w fun e w' => e = .returned (.tuple #[]) ∧ Hid (NwI w0 w' c m gs S ls (hearF ms p)) ∧ Hid (Sk w0.heap.size w w') :=
  (hears_any w0.heap.size gs ls ms p w h.se hm).mono fun e w' ⟨e1, e2, e3⟩ => ⟨e1, h.sk e2.out e3.out, e3⟩
end
set_option maxHeartbeats 400000 in
theorem rgroup_any (d : Mac) (w : World) (h : d.ok) : Calls Try.prog 16 #[d.val] w fun e w' => e = .returned (.bool (grpB d)) ∧ Below w.heap.size w w' := by
  obtain ⟨m0, m1, m2, m3, m4, m5⟩ := d
  have h1 := h.1
  simp only at h1
  clear h
  have hr : Int.tmod m0 2 = m0 % 2 := Int.tmod_eq_emod_of_nonneg h1.1
  simp only [Mac.val, grpB]
  go_enter Try.func16, Try.ntmps16
  go_wp2
  go_ret
  refine ⟨ret_bool ?_, bpush (Below.refl _ _) _⟩
  first | rfl | (simp [hr]) | (simp only [IntKind.wrap_u8]; congr 1; omega)
/-- one thing more waits. -/
theorem SeW.app {B : Nat} {w : World} {gs : Nat} {al am : Option Addr} {cl cm : Nat} {ls : List W3} {ms : List Tl} (x : SeW B w gs al cl am cm ls ms) (y : W3) (hl : ls.length ≤ 1000) :
    ∃ a' cp' w7, (Builtin.append_ #[47, 47] 47 #[.slice al ls.length cl, .slice (some ⟨w.heap.size, 0, none⟩) 1 1]).run Try.prog (w.alloc (.cells #[.int .i64 y.n, .int .u32 y.ip, .int .i64 y.q] 57)).drew = .ok (.slice a' (ls.length + 1) cp') w7 ∧ Hid (w7.heap[gs]? = some (.cells #[.slice al ls.length cl, .slice am ms.length cm] 50 (0, 0))) ∧ Hid (Sk B w w7) ∧ Hid (Se B (w7.setCell ⟨gs, 0, none⟩ (.slice a' (ls.length + 1) cp')) gs (ls ++ [y]) ms ∧ Sk B w (w7.setCell ⟨gs, 0, none⟩ (.slice a' (ls.length + 1) cp'))) := by
  have hbp : Below w.heap.size w (w.alloc (.cells #[.int .i64 y.n, .int .u32 y.ip, .int .i64 y.q] 57)).drew := (bpush (Below.refl _ _) _).drew
  have X := x.below hbp
  have hnew : (w.alloc (.cells #[.int .i64 y.n, .int .u32 y.ip, .int .i64 y.q] 57)).drew.heap[w.heap.size]? = some (.cells (w3C y) 57 (0, 0)) := heap_new w _
  obtain ⟨v', w7, hrun, hrow, hgr, hloc⟩ := append_s 47 47 57 _ 3 24 Try.underlying47 infoW3 rfl (by omega) X.l ⟨w.heap.size, 0, none⟩ 1 1 (w3C y).toList (by simp [w3C])
    (fun j u hj => by
      rw [show (⟨w.heap.size, 0, none⟩ : Addr).add j = ⟨w.heap.size, j, none⟩ from by unfold Addr.add; split <;> simp_all, cell_of_heap hnew, ← Array.getElem?_toList]
      exact hj)
    (fun u hu => by simp [w3C] at hu; rcases hu with rfl | rfl | rfl <;> rfl) (by unfold maxLen; omega) (by omega)
  obtain ⟨a', cp', hv', _⟩ := hrow.form
  subst hv'
  generalize hW : (w.alloc (.cells #[.int .i64 y.n, .int .u32 y.ip, .int .i64 y.q] 57)).drew = W at *
  have hB : B ≤ w.heap.size := Se.size ⟨al, cl, am, cm, x⟩
  have keepT : ∀ b, b < W.heap.size → (Value.slice al ls.length cl).ownBlock ≠ some b → w7.heap[b]? = W.heap[b]? := fun b hlt hne => hgr.block b hlt (fun e => hne (by simpa using e.symm))
  have hbox : w7.heap[gs]? = some (.cells #[.slice al ls.length cl, .slice am ms.length cm] 50 (0, 0)) := (keepT gs (heap_lt X.box) (fun e => rowS_ne X.l X.box (by decide) gs e rfl)).trans X.box
  have hsk1 : Sk B W w7 := by
    refine ⟨hgr.os, hgr.tape, hgr.output, hgr.size, fun b h1 h2 => keepT b h2 (fun e => by have := X.lol b e; omega), fun b C t f h h1 h2 h3 => (keepT b (heap_lt h) (fun e => rowS_ne X.l h (Ne.symm h2) b e rfl)).trans h, fun b es n h => (keepT b (heap_lt h) (fun e => ?_)).trans h⟩
    obtain ⟨cur, hc⟩ := X.l.obj e
    rw [hc] at h
    simp at h
  have hb : But gs w7 (w7.setCell ⟨gs, 0, none⟩ (.slice a' (ls.length + 1) cp')) := But.setCell _ _ _ _
  have hm7 : RowS w7 96 7 (.slice am ms.length cm) ms.length (tls ms) := X.m.keep fun b hb' => keepT b (X.m.lt hb') (fun e => by
    obtain ⟨cur, hc⟩ := X.m.obj hb'
    obtain ⟨cur', hc'⟩ := X.l.obj e
    exact nty hc hc' (by decide) rfl)
  refine ⟨a', cp', w7, hrun, hbox, (Sk.of_below hbp).trans hsk1, ⟨a', cp', am, cm, ?_, ?_, hm7.keep fun b hb' => hb.block b (rowS_ne hm7 hbox (by decide) b hb') (hm7.lt hb'), x.lo, fun b hb' => ?_, x.lom⟩, (Sk.of_below hbp).trans (hsk1.trans (Sk.of_but hbox (Or.inl rfl) x.lo hb))⟩
  · rw [heap_setCell hbox, List.length_append]; rfl
  · rw [List.length_append, w3s_snoc]
    exact hrow.keep fun b hb' => hb.block b (rowS_ne hrow hbox (by decide) b hb') (hrow.lt hb')
  · rw [List.length_append] at hb'
    rcases hloc b (by cases a' <;> simpa [Value.ownBlock] using hb') with h2 | h2
    · exact x.lol b (by cases al <;> simpa [Value.ownBlock] using h2)
    · have := hbp.size; omega
theorem roundTl {S : St} {p : Arp} {own now : Int} {ms : List Tl} {i : Nat} (hp : p.ok) (h1 : ∀ y ∈ ms, y.mac.ok) (h2 : ms.length ≤ i) : (∀ y ∈ hearF ms p, y.mac.ok) ∧ (hearF ms p).length ≤ i + 1 := by
  refine ⟨fun y hy => ?_, ?_⟩
  · rcases List.mem_append.1 hy with h | h
    · exact h1 y (List.mem_filter.1 h).1
    · simp at h; subst h; exact hp.2.1
  · unfold hearF
    rw [List.length_append]
    have := List.length_filter_le (fun x : Tl => x.ip != p.si) ms
    simp only [List.length_singleton]
    omega
theorem askF_most (S : St) (src ip : Int) (zs : List Int) (now : Int) : (askF S src ip zs now).1.most = S.most := by
  have key : ∀ T : St, (askNew T src ip zs).1.most = T.most := fun T => by unfold askNew; split <;> rfl
  simp only [askF]
  split
  · split
    · rfl
    · split
      · rfl
      · exact key _
  · exact key _
theorem learnF_most (S : St) (ip : Int) (mc : Mac) (wt : Bool) : (learnF S ip mc wt).1.most = S.most := by
  unfold learnF
  split
  · rfl
  · split
    · split <;> rfl
    · rfl
theorem onF_most (S : St) (p : Arp) (own now : Int) : (onF S p own now).1.most = S.most := by
  simp only [onF]
  split
  · rfl
  · split
    · exact learnF_most _ _ _ _
    · rfl
theorem tickF_most (S : St) (now : Int) : (tickF S now).1.most = S.most := rfl
theorem onF_len (S : St) (p : Arp) (own now : Int) : (onF S p own now).2.length ≤ 2 := by
  have h1 : ∀ T : St, (learnF T p.si p.s (askedB p own)).2.length ≤ 1 := fun T => by
    unfold learnF
    split
    · simp only
      split <;> simp
    · split
      · split <;> simp
      · simp
  simp only [onF]
  split
  · simp
  · rw [List.length_append]
    have h2 : (if wantB p own = true then learnF { S with now := hearN S.now now } p.si p.s (askedB p own) else ({ S with now := hearN S.now now }, [])).2.length ≤ 1 := by
      split
      · exact h1 _
      · simp
    have h3 : (if askedB p own = true then [tellS { S with now := hearN S.now now } p] else []).length ≤ 1 := by split <;> simp
    omega
theorem tickF_len {S : St} (h : S.ok) (now : Int) : (tickF S now).2.length ≤ 64 := by
  have h1 := tickO_le { S with now := hearN S.now now } S.L
  have h2 := h.len
  have h3 := h.most
  show (S.L.flatMap (tickS { S with now := hearN S.now now })).length ≤ 64
  omega
end Go.Proofs.Ytaaoelhmanahpaa
