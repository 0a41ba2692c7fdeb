import Derived.Test.YtdgjpikphooilaaNgKB
import Derived.Test.YtdgjpikphooilaaNOn
import Derived.Test.YtdgjpikphooilaaNLrn
import Derived.Deep.MidRow
import Derived.Test.YtdgjpikphooilaaBOwn
import Derived.Deep.RegionLaw
import Derived.Test.YtdgjpikphooilaaBBook
import Derived.Test.YtdgjpikphooilaaBBookP
import Derived.Deep.DeepCutAuto
import Derived.Test.YtdgjpikphooilaaBOwned
import Derived.Test.YtdgjpikphooilaaNgKT
/-
  The document's cache: On, its memory. Written by mkron.py.
-/
namespace Go.Proofs.Ytdgjpikphooilaa
open Go.RowKit
set_option linter.all false

theorem rgroup_x (m : Mac) (w : World) (h : m.ok) : Calls Try.prog 15 #[m.val] w fun e w' => e = .returned (.bool (grpB m)) ∧ Below w.heap.size w w' := by
  have h0 := h.1
  unfold Mac.val grpB
  clear h
  go_enter Try.func15, Try.ntmps15
  go_wp2
  go_ret
  exact ⟨rfl, (Below.refl _ _).alloc (Nat.le_refl _) _⟩
/-- On under way: the message's box, what is to be sent. -/
structure OnI (w W : World) (d : Nat) (C : Array Value) (S S' : St) (a : Option Addr) (cp : Nat) (V : Int → Value) (a1 : Option Addr) (cp1 : Nat) (V1 : Int → Value) : Prop where
  turn : RTurn w W d S S' a a1 cp cp1 V V1
  box : W.heap[w.heap.size]? = some (.cells C 42 (0, 0))
section
variable {w W W' : World} {d : Nat} {C : Array Value} {S S1 S2 : St} {a a1 a2 : Option Addr} {cp cp1 cp2 : Nat} {V V1 V2 : Int → Value}
theorem OnI.first (x : RcW w d S a cp V) (C : Array Value) : OnI w (w.alloc (.cells C 42)) d C S S a cp V a cp V := ⟨RTurn.of_below x (bpush (Below.refl _ _) _), heap_new _ _⟩
theorem OnI.turned (h : OnI w W d C S S1 a cp V a1 cp1 V1) (t : RTurn W W' d S1 S2 a1 a2 cp1 cp2 V1 V2) : OnI w W' d C S S2 a cp V a2 cp2 V2 := by
  refine ⟨h.turn.trans t, (t.block _ ?_ ?_ (heap_lt h.box)).trans h.box⟩
  · intro e
    have h1 := h.turn.rc.box
    rw [← e, h.box] at h1
    simp at h1
  · intro e
    exact rowS_not h.turn.rc.row h.box (by decide) _ e rfl
theorem OnI.next (h : OnI w W d C S S1 a cp V a1 cp1 V1) (hb : Below W.heap.size W W') : OnI w W' d C S S1 a cp V a1 cp1 V1 := ⟨h.turn.below hb, kept h.box hb⟩
theorem OnI.cells (h : OnI w W d C S S1 a cp V a1 cp1 V1) : ∀ q, W.cell? ⟨w.heap.size, q, none⟩ = C[q]? := fun q => cell_of_heap h.box q
end
def lrnR (S1 : St) (p : Arp) (own : Int) : St × List Sd := if wantB p own = true then learnF S1 p.si p.s (askedB p own) else (S1, [])
/-- with what is to be sent. -/
structure OutI (w W : World) (d : Nat) (C : Array Value) (S S' : St) (a : Option Addr) (cp : Nat) (V : Int → Value) (a1 : Option Addr) (cp1 : Nat) (V1 : Int → Value) (a2 : Option Addr) (cp2 : Nat) (sds : List Sd) (l : List (Sd × Value)) : Prop where
  on : OnI w W d C S S' a cp V a1 cp1 V1
  map : l.map (·.1) = sds
  out : ROut W (.slice a2 sds.length cp2) l
  new : ∀ b, (Value.slice a2 sds.length cp2).ownBlock = some b → w.heap.size ≤ b
def cutW (W : World) (n : Nat) : World := { W with heap := W.heap.extract 0 n }
theorem cutW_below {W : World} {n : Nat} (h : n ≤ W.heap.size) : Below (cutW W n).heap.size (cutW W n) W := by
  have hs : (cutW W n).heap.size = n := by simp [cutW]; omega
  refine ⟨rfl, rfl, rfl, by omega, fun i hi => ?_⟩
  rw [hs] at hi
  simp [cutW, Array.getElem?_extract, hi]
  omega
section
variable {w W W5 : World} {d : Nat} {C : Array Value} {S S1 : St} {a a1 a2 : Option Addr} {cp cp1 cp2 : Nat} {V V1 : Int → Value} {sds : List Sd} {l : List (Sd × Value)}
theorem OutI.void (h : OnI w W d C S S1 a cp V a1 cp1 V1) : OutI w W d C S S1 a cp V a1 cp1 V1 none 0 [] [] := ⟨h, rfl, (Outs.nil _).r, by simp [Value.ownBlock]⟩
theorem OutI.next (h : OutI w W d C S S1 a cp V a1 cp1 V1 a2 cp2 sds l) (hb : Below W.heap.size W W5) : OutI w W5 d C S S1 a cp V a1 cp1 V1 a2 cp2 sds l :=
  ⟨h.on.next hb, h.map, ⟨h.out.row.below hb, fun p hp => (h.out.dat p hp).below hb, h.out.form⟩, h.new⟩
theorem OutI.ans (h : OutI w W d C S S1 a cp V a1 cp1 V1 a2 cp2 sds l) : RAns w W d S S1 a cp V a2 cp2 sds := ⟨a1, cp1, V1, l, h.on.turn, h.map, h.out⟩
theorem OutI.len (h : OutI w W d C S S1 a cp V a1 cp1 V1 a2 cp2 sds l) : l.length = sds.length := by rw [← h.map, List.length_map]
theorem OutI.added (h : OutI w W d C S S1 a cp V a1 cp1 V1 a2 cp2 sds l) (hb : Below W.heap.size W W5) (x : Sd) {pa : Option Addr} {pn pc : Nat} (hd : Row W5 5 (.slice pa pn pc) (u8s x.zs)) (hl : sds.length ≤ 64) :
    ∃ a' cp' w7, (Builtin.append_ #[51, 51] 51 #[.slice a2 sds.length cp2, .slice (some ⟨W5.heap.size, 0, none⟩) 1 1]).run Try.prog (W5.alloc (.cells #[.int .u8 x.dst.b0, .int .u8 x.dst.b1, .int .u8 x.dst.b2, .int .u8 x.dst.b3, .int .u8 x.dst.b4, .int .u8 x.dst.b5, .int .i64 x.kind, .slice pa pn pc] 59)) = .ok (.slice a' (sds.length + 1) cp') w7 ∧ Hid (OutI w w7 d C S S1 a cp V a1 cp1 V1 a' cp' (sds ++ [x]) (l ++ [(x, .slice pa pn pc)])) ∧ Hid (∀ (b : Nat) (C : Array Value) (t : TypeId) (f : Nat × Nat), W5.heap[b]? = some (Obj.cells C t f) → t ≠ 59 → w7.heap[b]? = some (Obj.cells C t f)) := by
  have hsz : w.heap.size ≤ W.heap.size := h.on.turn.size
  have hcs : (cutW W w.heap.size).heap.size = w.heap.size := by simp [cutW]; omega
  have hI : ROI (cutW W w.heap.size) W a2 sds.length cp2 l := ⟨h.len, h.out, by rw [hcs]; exact h.new, cutW_below hsz⟩
  obtain ⟨a', cp', w7, hrun, R7, K7⟩ := hI.one hb x hd hl
  have h5 := h.next hb
  have hbw := R7.out.below
  rw [hcs] at hbw
  have hK : ∀ i, i < w.heap.size → w7.heap[i]? = W.heap[i]? := fun i hi => (hbw.block i hi).trans ((cutW_below hsz).block i (by rw [hcs]; exact hi)).symm
  refine ⟨a', cp', w7, hrun, ⟨⟨⟨?_, hbw.os.trans h.on.turn.os, hbw.tape.trans h.on.turn.tape, hbw.output.trans h.on.turn.output, by have := hbw.size; rw [hcs] at this; exact this, fun k h1 h2 hk => (hK k hk).trans (h.on.turn.block k h1 h2 hk), h.on.turn.row, h.on.turn.vs⟩, K7.out _ _ _ _ h5.on.box (by decide)⟩, by rw [List.map_append, h.map]; rfl, ?_, ?_⟩, K7⟩
  · refine h5.on.turn.rc.keep ((K7.out _ _ _ _ h5.on.turn.rc.box (by decide)).trans h5.on.turn.rc.box.symm) (fun b hb' => ?_) (fun y hy b hb' => ?_)
    · obtain ⟨cur, hc⟩ := h5.on.turn.rc.row.obj hb'
      rw [K7.out _ _ _ _ hc (by decide), hc]
    · obtain ⟨C', f, hc⟩ := row_obj (h5.on.turn.rc.pks y hy) hb'
      rw [K7.out _ _ _ _ hc (by decide), hc]
  · rw [List.length_append]; exact R7.out.out
  · intro b hb'
    have := R7.out.new b (by rw [List.length_append] at hb'; exact hb')
    rw [hcs] at this
    exact this
end
theorem rtell_on (d : Nat) (S : St) (a : Option Addr) (cp : Nat) (V : Int → Value) (n : Int) (C : Array Value) (w : World) (x : RcW w d S a cp V) :
    Calls Try.prog 50 #[.pointer (some ⟨d, 0, none⟩), .int .i64 n] (w.alloc (.cells C 42)) fun e w' => e = .returned (.tuple #[]) ∧ Hid (OnI w w' d C S { S with now := hearN S.now n } a cp V a cp V) :=
  (rtell_x d S a cp V n _ (OnI.first x C).turn.rc).mono fun e w' ⟨h1, h2⟩ => ⟨h1, (OnI.first x C).turned h2.out⟩
theorem onF_eq {S : St} {p : Arp} {own now : Int} (ho : opB p.op = true) (hg : grpB p.s = false) : onF S p own now = ((lrnR { S with now := hearN S.now now } p own).1, (lrnR { S with now := hearN S.now now } p own).2 ++ if askedB p own = true then [tellS { S with now := hearN S.now now } p] else []) := by
  unfold onF lrnR
  simp only [ho, hg]
  simp
theorem lrnR_len (S : St) (p : Arp) (own : Int) : (lrnR S p own).2.length ≤ 1 := by
  unfold lrnR learnF
  split
  · split
    · dsimp only; split <;> simp
    · split
      · split <;> simp
      · simp
  · simp
theorem lrnR_own (S : St) (p : Arp) (own : Int) : (lrnR S p own).1.own = S.own := by
  unfold lrnR learnF
  split
  · split
    · rfl
    · split
      · split <;> rfl
      · rfl
  · rfl
theorem know_ok {S : St} {ip : Int} {mc : Mac} {L' : List Ab} (h : S.ok) (hn : look S.L ip = none) (hr : roomL S.most S.L = some L') (hi : ipOk ip) (hm : mc.ok) :
    St.ok { S with L := put L' (knE S ip mc) } ∧ ∀ z ∈ L', z.ip ≠ ip := by
  obtain ⟨h1, h2, h3⟩ := roomL_some hr h.len h.rise
  have h4 := put_len_le (S := S) (L' := L') hr h.len h.rise (knE S ip mc)
  refine ⟨⟨h.own, h.most, h.now, h2.put _, h4, fun z hz => ?_⟩, fun z hz => look_none hn z (h3 z hz)⟩
  rcases mem_put.1 hz with rfl | ⟨h5, _⟩
  · exact knE_ok h hi hm
  · exact h.ents z (h3 z h5)
theorem rput_k (d : Nat) (S : St) (a : Option Addr) (cp : Nat) (V : Int → Value) (ip t : Int) (mc : Mac) (hne : ∀ z ∈ S.L, z.ip ≠ ip) (w : World) (x : RcW w d S a cp V) (hok : St.ok { S with L := put S.L ⟨ip, aft t 600, mc, 0, 0, []⟩ }) :
    Calls Try.prog 56 #[.pointer (some ⟨d, 0, none⟩), .agg #[.int .u32 ip, .int .u8 mc.b0, .int .u8 mc.b1, .int .u8 mc.b2, .int .u8 mc.b3, .int .u8 mc.b4, .int .u8 mc.b5, .int .i64 2, .int .i64 (aft t 600), .int .i64 0, .bool false, .int .u32 0, .slice none 0 0]] w fun r w' => r = .returned (.tuple #[]) ∧ ∃ a' cp', Hid (RTurn w w' d S { S with L := put S.L ⟨ip, aft t 600, mc, 0, 0, []⟩ } a a' cp cp' V (upd V ip (.slice none 0 0))) :=
  (rput_any d S a cp V ⟨ip, aft t 600, mc, 0, 0, []⟩ none 0 0 hne w x hok (Row.nil _ _)).mono fun e w' ⟨h1, a', cp', H7, N7, B7⟩ => ⟨h1, a', cp', RTurn.of_but H7.out B7.out (fun b hb => Or.inl (N7.out b hb)) (fun z hz b hb => by
    rcases mem_put.1 hz with rfl | ⟨h1, h2⟩
    · rw [upd_same] at hb; simp [Value.ownBlock] at hb
    · rw [upd_other V _ h2] at hb; exact Or.inr ⟨z, h1, hb⟩)⟩
theorem step_append_at {ops : Array Oper} {o : Oper} {a : Act} {w : World} {K : Act → World → Prop} {Q : Exit → Act → World → Prop} {E : Prop} (n : Tmp) (hn : o.dst = some n) (hgd : o.guard = none) (d s : Operand) (t t' : TypeId)
    (ho : o.op = .call { callee := .builtin .append, args := #[d, s], argTypes := #[t, t'] }) (v u : Value) (hd : a.eval d = v) (hs : a.eval s = u) {v' : Value} {w' : World}
    (hr : (Builtin.append_ #[t, t'] o.type #[v, u]).run Try.prog w = .ok v' w') (h : K (a.put (some n) v') w') :
    if Region.wanted o (yielded ops a.tmps) = true then Oper.wp Try.prog o a w K Q else E :=
  step_append_run hgd d s t t' ho v u hd hs hr (by rw [hn]; exact h)
theorem step_store_mid {ops : Array Oper} {o : Oper} {a : Act} {w : World} {K : Act → World → Prop} {Q : Exit → Act → World → Prop} {E : Prop} (hn : o.dst = none) (hgd : o.guard = none) (ty : TypeId) (x y : Operand) (ho : o.op = .store ty x y)
    (b off : Nat) (cells : Array Value) (hx : a.eval x = .pointer (some ⟨b, off, none⟩)) (hy : a.eval y = .agg cells)
    (ht : w.there b off cells.size) (hi : (Try.prog.info? ty).map (·.size) = some cells.size) (h1 : cells.all (·.oneCell') = true)
    (h : K (a.put none undef) (w.setCells b off cells.toList)) :
    if Region.wanted o (yielded ops a.tmps) = true then Oper.wp Try.prog o a w K Q else E := by
  have hw : Region.wanted o (yielded ops a.tmps) = true := by simp [Region.wanted, hgd]
  rw [if_pos hw]
  exact wp_store_mid ty x y ho b off cells hx hy ht hi h1 (by rw [hn]; exact h)
theorem RowS.setAll {e : TypeId} {sz g n cap : Nat} (Y : List Value) : ∀ (l old X : List Value) (w : World), old.length = l.length → RowS w e sz (.slice (some ⟨g, 0, none⟩) n cap) n (X ++ old ++ Y) → RowS (w.setCells g X.length l) e sz (.slice (some ⟨g, 0, none⟩) n cap) n (X ++ l ++ Y)
  | [], old, X, w, hl, h => by
    have : old = [] := List.length_eq_zero_iff.1 hl
    subst this
    exact h
  | v :: r, [], X, w, hl, h => by simp at hl
  | v :: r, o1 :: os, X, w, hl, h => by
    rw [World.setCells]
    have h1 := (h.set (j := X.length) (by simp) v).1
    have e1 : (X ++ o1 :: os ++ Y).set X.length v = (X ++ [v]) ++ os ++ Y := by simp
    rw [e1] at h1
    have h2 := RowS.setAll Y r os (X ++ [v]) _ (by simpa using hl) h1
    simp only [List.length_append, List.length_singleton] at h2
    rw [show X ++ v :: r ++ Y = X ++ [v] ++ r ++ Y by simp]
    exact h2
theorem But.setCells (g : Nat) : ∀ (l : List Value) (w : World) (o : Nat), But g w (w.setCells g o l)
  | [], w, o => But.refl g w
  | v :: r, w, o => (But.setCell g w o v).trans (But.setCells g r _ (o + 1))
/-- 'c.L[at] = e', e an entry that is known. -/
theorem RcW.learn {w : World} {d : Nat} {S : St} {cp : Nat} {V : Int → Value} {k g : Nat} {y : Ab} (x : RcW w d S (some ⟨g, 0, none⟩) cp V) (hy : S.L[k]? = some y) {ip : Int} (hip : y.ip = ip) {mc : Mac} (hm : mc.ok) :
    w.there g (k * 13) 13 ∧ RcW (w.setCells g (k * 13) (rfC (knE S ip mc) (.slice none 0 0)).toList) d { S with L := put S.L (knE S ip mc) } (some ⟨g, 0, none⟩) cp (upd V ip (.slice none 0 0)) := by
  obtain ⟨g', hg', hc⟩ := x.ent hy
  simp only [Option.some.injEq, Addr.mk.injEq, and_true] at hg'
  subst hg'
  obtain ⟨cur, hcur⟩ := x.row.obj (g := g) rfl
  have hyo := x.ok.ents y (List.mem_of_getElem? hy)
  refine ⟨fun j hj => ⟨?_, frozen_of_heap hcur _⟩, ?_⟩
  · rw [hc j hj]
    simp [rfC]
    omega
  · rw [← hip]
    refine x.putAt (y' := knE S y.ip mc) hy rfl (knE_ok x.ok hyo.ip hm) rfl (But.setCells g _ _ _) (Row.nil _ _) (fun X Y e1 e2 => ?_)
    have h1 := x.row
    rw [e1] at h1
    rw [← e2]
    exact RowS.setAll Y _ _ X w (by simp [rfC]) h1
section
variable {w W W' : World} {d : Nat} {C : Array Value} {S S1 S2 : St} {a a2 : Option Addr} {cp cp1 cp2 g : Nat} {V V1 V2 : Int → Value} {sds : List Sd} {l : List (Sd × Value)}
theorem OutI.put (h : OutI w W d C S S1 a cp V (some ⟨g, 0, none⟩) cp1 V1 a2 cp2 sds l) (rc : RcW W' d S2 (some ⟨g, 0, none⟩) cp1 V2) (hb : But g W W') (hv : ∀ y ∈ S2.L, ∀ b, (V2 y.ip).ownBlock = some b → ∃ z ∈ S1.L, (V1 z.ip).ownBlock = some b) : OutI w W' d C S S2 a cp V (some ⟨g, 0, none⟩) cp1 V2 a2 cp2 sds l := by
  have t : RTurn W W' d S1 S2 (some ⟨g, 0, none⟩) (some ⟨g, 0, none⟩) cp1 cp1 V1 V2 := ⟨rc, hb.os, hb.tape, hb.output, hb.size, fun k h1 h2 hk => hb.block k (fun e => h2 (by rw [e]; rfl)) hk, fun b hb' => Or.inr hb', fun y hy b hb' => Or.inr (hv y hy b hb')⟩
  obtain ⟨cur, hcur⟩ := h.on.turn.rc.row.obj (g := g) rfl
  exact ⟨h.on.turned t, h.map, ⟨h.out.row.keep fun b hb' => hb.block b (rowS_not h.out.row hcur (by decide) b hb') (h.out.row.lt hb'), fun p hp => (h.out.dat p hp).keep fun b hb' => hb.block b (row_not (h.out.dat p hp) hcur (by decide) b hb') ((h.out.dat p hp).lt hb'), h.out.form⟩, h.new⟩
end
end Go.Proofs.Ytdgjpikphooilaa

/-
  The document's cache: On. Written by mkron.py.
-/
namespace Go.Proofs.Ytdgjpikphooilaa
open Go.RowKit
set_option linter.all false

set_option maxRecDepth 40000 in
set_option maxHeartbeats 8000000 in
theorem ronA (d : Nat) (S : St) (a : Option Addr) (cp : Nat) (V : Int → Value) (o si di s0 s1 s2 s3 s4 s5 d0 d1 d2 d3 d4 d5 own now : Int) (w : World) (x : RcW w d S a cp V) (hp : (Arp.mk o ⟨s0, s1, s2, s3, s4, s5⟩ si ⟨d0, d1, d2, d3, d4, d5⟩ di).ok) (ho : opB o = true) (hg : grpB ⟨s0, s1, s2, s3, s4, s5⟩ = false) :
    Calls Try.prog 29 #[.pointer (some ⟨d, 0, none⟩), .agg #[.int .i64 o, .int .u8 s0, .int .u8 s1, .int .u8 s2, .int .u8 s3, .int .u8 s4, .int .u8 s5, .int .u32 si, .int .u8 d0, .int .u8 d1, .int .u8 d2, .int .u8 d3, .int .u8 d4, .int .u8 d5, .int .u32 di], .int .u32 own, .int .i64 now] w fun e w' => ∃ a2 cp2, e = .returned (.slice a2 (onF S (Arp.mk o ⟨s0, s1, s2, s3, s4, s5⟩ si ⟨d0, d1, d2, d3, d4, d5⟩ di) own now).2.length cp2) ∧ Hid (RAns w w' d S (onF S (Arp.mk o ⟨s0, s1, s2, s3, s4, s5⟩ si ⟨d0, d1, d2, d3, d4, d5⟩ di) own now).1 a cp V a2 cp2 (onF S (Arp.mk o ⟨s0, s1, s2, s3, s4, s5⟩ si ⟨d0, d1, d2, d3, d4, d5⟩ di) own now).2) := by
  have HT := hid (rtell_on d S a cp V now #[.int .i64 o, .int .u8 s0, .int .u8 s1, .int .u8 s2, .int .u8 s3, .int .u8 s4, .int .u8 s5, .int .u32 si, .int .u8 d0, .int .u8 d1, .int .u8 d2, .int .u8 d3, .int .u8 d4, .int .u8 d5, .int .u32 di] w x)
  have HG := hid (fun w1 => rgroup_x ⟨s0, s1, s2, s3, s4, s5⟩ w1 hp.2.1)
  simp only [Mac.val] at HG
  rw [hg] at HG
  have HH := hid (fun w1 => refIsHost_any si w1 hp.2.2.1.1 hp.2.2.1.2)
  have HP := hid hp
  have hop : o = 1 ∨ o = 2 := by simp [opB] at ho; omega
  have HF : Hid (onF S (Arp.mk o ⟨s0, s1, s2, s3, s4, s5⟩ si ⟨d0, d1, d2, d3, d4, d5⟩ di) own now = ((lrnR { S with now := hearN S.now now } (Arp.mk o ⟨s0, s1, s2, s3, s4, s5⟩ si ⟨d0, d1, d2, d3, d4, d5⟩ di) own).1, (lrnR { S with now := hearN S.now now } (Arp.mk o ⟨s0, s1, s2, s3, s4, s5⟩ si ⟨d0, d1, d2, d3, d4, d5⟩ di) own).2 ++ if askedB (Arp.mk o ⟨s0, s1, s2, s3, s4, s5⟩ si ⟨d0, d1, d2, d3, d4, d5⟩ di) own = true then [tellS { S with now := hearN S.now now } (Arp.mk o ⟨s0, s1, s2, s3, s4, s5⟩ si ⟨d0, d1, d2, d3, d4, d5⟩ di)] else [])) := onF_eq ho hg
  have HSO : Hid (({ S with now := hearN S.now now } : St).own = S.own) := rfl
  rw [HF.out]
  clear x hp HF ho
  generalize ({ S with now := hearN S.now now } : St) = S1 at *
  have HLR : Hid (∃ R, R = lrnR S1 (Arp.mk o ⟨s0, s1, s2, s3, s4, s5⟩ si ⟨d0, d1, d2, d3, d4, d5⟩ di) own) := ⟨_, rfl⟩
  obtain ⟨R, hR⟩ := HLR.out
  rw [← hR]
  have HR := hid hR
  clear HLR hR
  dsimp only
  generalize hF2 : (R.2 ++ if askedB (Arp.mk o ⟨s0, s1, s2, s3, s4, s5⟩ si ⟨d0, d1, d2, d3, d4, d5⟩ di) own = true then [tellS S1 (Arp.mk o ⟨s0, s1, s2, s3, s4, s5⟩ si ⟨d0, d1, d2, d3, d4, d5⟩ di)] else []) = F2
  have HF2 := hid hF2
  clear hF2
  go_enter Try.func29, Try.ntmps29
  go_wp2_with fail
  refine HT.out.mono ?_
  rintro e w1 ⟨rfl, H1⟩
  have hcx := H1.out.cells
  clear HT
  go_wp2_with fail
  refine (HG.out _).mono ?_
  rintro e w2 ⟨rfl, hb2⟩
  have H2 := hid (H1.out.next hb2)
  clear H1 HG hb2 hcx
  have hcx := H2.out.cells
  go_upto_region 3 with fail
  go_cut [34] (fun v wx => v = .bool false ∧ w2 = wx)
  case first =>
    rcases hop with rfl | rfl
    · go_wp2_with fail
      go_meet
      case rel => exact ⟨rfl, rfl⟩
    · go_wp2_with fail
      go_meet
      case rel => exact ⟨rfl, rfl⟩
  case rest =>
    obtain ⟨rfl, rfl⟩ := hcut
    go_upto_region 6 with fail
    go_cut [11] (fun v wx => v = .bool (askedB (Arp.mk o ⟨s0, s1, s2, s3, s4, s5⟩ si ⟨d0, d1, d2, d3, d4, d5⟩ di) own) ∧ w2 = wx)
    case first =>
      by_cases h1 : own = 0
      · have h1' : (own != 0) = false := by simp [h1]
        go_wp2_with fail
        go_meet
        case rel => exact ⟨by simp [askedB, h1], rfl⟩
      · have h1' : (own != 0) = true := by simp [h1]
        rcases hop with rfl | rfl
        · go_wp2_with fail
          go_meet
          case rel => exact ⟨by simp [askedB, h1], rfl⟩
        · go_wp2_with fail
          go_meet
          case rel => exact ⟨by simp [askedB, h1], rfl⟩
    case rest =>
      obtain ⟨rfl, rfl⟩ := hcut
      go_wp2_with fail
      refine (HH.out _).mono ?_
      rintro e wz ⟨rfl, hwz⟩
      subst wz
      go_upto_region 8 with fail
      go_cut [12, 57] (fun _ v wx => v = .bool (wantB (Arp.mk o ⟨s0, s1, s2, s3, s4, s5⟩ si ⟨d0, d1, d2, d3, d4, d5⟩ di) own) ∧ w2 = wx)
      case first =>
        cases hh : hostB si
        · go_wp2_with fail
          go_meet
          case rel => exact ⟨by simp [wantB, hh], rfl⟩
        · go_wp2_with fail
          go_meet
          case rel => exact ⟨by simp [wantB, hh], rfl⟩
      case rest =>
        obtain ⟨rfl, rfl⟩ := hcut
        generalize hak : askedB (Arp.mk o ⟨s0, s1, s2, s3, s4, s5⟩ si ⟨d0, d1, d2, d3, d4, d5⟩ di) own = ak at *
        generalize hwt : wantB (Arp.mk o ⟨s0, s1, s2, s3, s4, s5⟩ si ⟨d0, d1, d2, d3, d4, d5⟩ di) own = wt at *
        have HAK := hid hak
        have HWT := hid hwt
        clear hak hwt
        go_upto_if 57 with fail
        go_cut [10, 13, 14, 15] (fun v _ _ _ wx => ∃ a2 cp2 a1 cp1 V1 l, v = .slice a2 R.2.length cp2 ∧ Hid (OutI w wx d #[.int .i64 o, .int .u8 s0, .int .u8 s1, .int .u8 s2, .int .u8 s3, .int .u8 s4, .int .u8 s5, .int .u32 si, .int .u8 d0, .int .u8 d1, .int .u8 d2, .int .u8 d3, .int .u8 d4, .int .u8 d5, .int .u32 di] S R.1 a cp V a1 cp1 V1 a2 cp2 R.2 l))
        case first =>
          cases wt
          · have hR : R = (S1, []) := by
              rw [HR.out]; unfold lrnR; rw [if_neg (by rw [HWT.out]; simp)]
            subst hR
            go_wp2_with fail
            go_meet
            case rel => exact ⟨none, 0, a, cp, V, [], rfl, OutI.void H2.out⟩
          · have HR2 : Hid (R = learnF S1 si ⟨s0, s1, s2, s3, s4, s5⟩ ak) := hid (by
              rw [HR.out]; unfold lrnR; rw [if_pos HWT.out, HAK.out])
            cases hl : look S1.L si with
            | some y =>
              have HAT := hid (rat_some d S1 a cp V si y w2 H2.out.turn.rc hl)
              have HYI : Hid (y.ip = si) := (look_some hl).2
              have hR : R = ({ S1 with L := put S1.L (knE S1 si ⟨s0, s1, s2, s3, s4, s5⟩) }, if 0 < y.q then [Sd.mk ⟨s0, s1, s2, s3, s4, s5⟩ 2048 y.zs] else []) := by
                rw [HR2.out]; unfold learnF; rw [hl]
              clear HR2 HR HWT hl
              go_wp2_with fail
              refine HAT.out.mono ?_
              rintro e w3 ⟨k, rfl, HY, HB3⟩
              have H3 := hid (H2.out.next HB3.out)
              clear HAT hcx H2 HB3
              have HBH := hid (fun W (h : Below w3.heap.size w3 W) => rbehind_any d S1 a cp V 600 (by omega) W (H3.out.turn.rc.below h))
              have HMM : Hid (∀ W, Below w3.heap.size w3 W → ∀ q, W.cell? ⟨w.heap.size, q, none⟩ = (#[.int .i64 o, .int .u8 s0, .int .u8 s1, .int .u8 s2, .int .u8 s3, .int .u8 s4, .int .u8 s5, .int .u32 si, .int .u8 d0, .int .u8 d1, .int .u8 d2, .int .u8 d3, .int .u8 d4, .int .u8 d5, .int .u32 di] : Array Value)[q]?) := fun W h => (H3.out.next h).cells
              go_upto_region 10 with fail
              go_cut [14] (fun v wx => v = .pointer (some ⟨w3.heap.size, 0, none⟩) ∧ (w3.alloc (.cells #[.int .u32 si, .int .u8 s0, .int .u8 s1, .int .u8 s2, .int .u8 s3, .int .u8 s4, .int .u8 s5, .int .i64 2, .int .i64 (aft S1.now 600), .int .i64 0, .bool false, .int .u32 0, .slice none 0 0] 103)).drew = wx)
              case first =>
                go_region_held3 (fun X => ∀ q, X.cell? ⟨w.heap.size, q, none⟩ = (#[.int .i64 o, .int .u8 s0, .int .u8 s1, .int .u8 s2, .int .u8 s3, .int .u8 s4, .int .u8 s5, .int .u32 si, .int .u8 d0, .int .u8 d1, .int .u8 d2, .int .u8 d3, .int .u8 d4, .int .u8 d5, .int .u32 di] : Array Value)[q]?) (first | assumption | exact HMM.out _ (Below.refl _ _) | exact HMM.out _ (Below.refl _ _).drew | exact HMM.out _ (bpush (Below.refl _ _) _).drew) (first
                  | (go_at_call 55; (first | refine (HBH.out _ (Below.refl _ _).drew).mono ?_ | refine (HBH.out _ (bpush (Below.refl _ _) _).drew).mono ?_); rintro e wz ⟨rfl, hwz⟩; subst wz)
                  | fail)
                all_goals
                  as_aux_lemma =>
                    go_wp2_with fail
                    go_meet
                    case rel => exact ⟨rfl, rfl⟩
              case rest =>
                obtain ⟨rfl, hw4⟩ := hcut
                obtain ⟨w4, hwc⟩ : ∃ z, z = wc := ⟨_, rfl⟩
                rw [← hwc] at hw4 ⊢
                clear hwc
                have HB4 : Hid (Below w3.heap.size w3 w4) := hid (by rw [← hw4]; exact (bpush (Below.refl _ _) _).drew)
                have HE4 : Hid (w4.heap[w3.heap.size]? = some (.cells #[.int .u32 si, .int .u8 s0, .int .u8 s1, .int .u8 s2, .int .u8 s3, .int .u8 s4, .int .u8 s5, .int .i64 2, .int .i64 (aft S1.now 600), .int .i64 0, .bool false, .int .u32 0, .slice none 0 0] 103 (0, 0))) := hid (by rw [← hw4]; exact heap_new w3 _)
                have H4 := hid (H3.out.next HB4.out)
                have HGN : Hid (∀ b, (Value.slice a S1.L.length cp).ownBlock = some b → b ≠ w3.heap.size) := fun b hb e => by have := H3.out.turn.rc.row.lt hb; omega
                clear hw4 HB4 H3 HMM HBH
                generalize w3.heap.size = ge at *
                have hkl : k < S1.L.length := (List.getElem?_eq_some_iff.1 HY.out).1
                have hl64 : S1.L.length ≤ 64 := by have := H4.out.turn.rc.ok.len; have := H4.out.turn.rc.ok.most; omega
                obtain ⟨g, hga, hc⟩ := H4.out.turn.rc.ent HY.out
                obtain ⟨pa, pc, hv, _⟩ := (H4.out.turn.rc.pks y (List.mem_of_getElem? HY.out)).form
                generalize (u8s y.zs).length = pn at hv
                have HV := hid hv
                subst hga
                have c7 : w4.cell? ⟨d, 7, none⟩ = some (.slice (some ⟨g, 0, none⟩) S1.L.length cp) := H4.out.turn.rc.cells 7
                have e10 : w4.cell? ⟨g, k * 13 + 10, none⟩ = some (.bool (wtV y.q)) := hc 10 (by omega)
                have hk0 : (0 : Int) ≤ (k : Int) := by omega
                have hkl' : (k : Int) < (S1.L.length : Int) := by omega
                clear hc hv
                go_upto_if 80 with fail
                go_cut [10] (fun v wx => ∃ a2 cp2 l, v = .slice a2 R.2.length cp2 ∧ Hid (OutI w wx d #[.int .i64 o, .int .u8 s0, .int .u8 s1, .int .u8 s2, .int .u8 s3, .int .u8 s4, .int .u8 s5, .int .u32 si, .int .u8 d0, .int .u8 d1, .int .u8 d2, .int .u8 d3, .int .u8 d4, .int .u8 d5, .int .u32 di] S S1 (some ⟨g, 0, none⟩) cp V (some ⟨g, 0, none⟩) cp V a2 cp2 R.2 l) ∧ Hid (wx.heap[ge]? = some (.cells #[.int .u32 si, .int .u8 s0, .int .u8 s1, .int .u8 s2, .int .u8 s3, .int .u8 s4, .int .u8 s5, .int .i64 2, .int .i64 (aft S1.now 600), .int .i64 0, .bool false, .int .u32 0, .slice none 0 0] 103 (0, 0))))
                case first =>
                  by_cases hq : 0 < y.q
                  · have hwt : wtV y.q = true := by unfold wtV; simp [hq]
                    rw [hwt] at e10 ⊢
                    have hR2 : R.2 = [Sd.mk ⟨s0, s1, s2, s3, s4, s5⟩ 2048 y.zs] := by rw [hR, if_pos hq]
                    clear hR hq hwt
                    have HRW : Hid (Row w4 5 (.slice pa pn pc) (u8s y.zs)) := hid (by rw [← HV.out]; exact H4.out.turn.rc.pks y (List.mem_of_getElem? HY.out))
                    have HM4 : Hid (∀ W, Below w4.heap.size w4 W → (∀ q, W.cell? ⟨w.heap.size, q, none⟩ = (#[.int .i64 o, .int .u8 s0, .int .u8 s1, .int .u8 s2, .int .u8 s3, .int .u8 s4, .int .u8 s5, .int .u32 si, .int .u8 d0, .int .u8 d1, .int .u8 d2, .int .u8 d3, .int .u8 d4, .int .u8 d5, .int .u32 di] : Array Value)[q]?) ∧ W.cell? ⟨d, 7, none⟩ = some (.slice (some ⟨g, 0, none⟩) S1.L.length cp) ∧ W.cell? ⟨g, k * 13 + 12, none⟩ = some (.slice pa pn pc)) := fun W h => by
                      have h5 := H4.out.next h
                      obtain ⟨g', hg', hc'⟩ := h5.turn.rc.ent HY.out
                      simp only [Option.some.injEq, Addr.mk.injEq, and_true] at hg'
                      subst hg'
                      exact ⟨h5.cells, h5.turn.rc.cells 7, by rw [hc' 12 (by omega), HV.out]; rfl⟩
                    obtain ⟨a', cp', w7, hrun, HO7, HK7⟩ := (OutI.void H4.out).added (W5 := w4.drew) (Below.refl _ _).drew (Sd.mk ⟨s0, s1, s2, s3, s4, s5⟩ 2048 y.zs) (HRW.out.below (Below.refl _ _).drew) (by simp)
                    have HM7 : Hid ((∀ q, w7.cell? ⟨w.heap.size, q, none⟩ = (#[.int .i64 o, .int .u8 s0, .int .u8 s1, .int .u8 s2, .int .u8 s3, .int .u8 s4, .int .u8 s5, .int .u32 si, .int .u8 d0, .int .u8 d1, .int .u8 d2, .int .u8 d3, .int .u8 d4, .int .u8 d5, .int .u32 di] : Array Value)[q]?) ∧ w7.cell? ⟨d, 7, none⟩ = some (.slice (some ⟨g, 0, none⟩) S1.L.length cp) ∧ w7.cell? ⟨g, k * 13 + 12, none⟩ = some (.slice pa pn pc)) := by
                      obtain ⟨g', hg', hc'⟩ := HO7.out.on.turn.rc.ent HY.out
                      simp only [Option.some.injEq, Addr.mk.injEq, and_true] at hg'
                      subst hg'
                      exact ⟨HO7.out.on.cells, HO7.out.on.turn.rc.cells 7, by rw [hc' 12 (by omega), HV.out]; rfl⟩
                    go_wp2_with fail
                    go_region_held_law (fun W => (∀ q, W.cell? ⟨w.heap.size, q, none⟩ = (#[.int .i64 o, .int .u8 s0, .int .u8 s1, .int .u8 s2, .int .u8 s3, .int .u8 s4, .int .u8 s5, .int .u32 si, .int .u8 d0, .int .u8 d1, .int .u8 d2, .int .u8 d3, .int .u8 d4, .int .u8 d5, .int .u32 di] : Array Value)[q]?) ∧ W.cell? ⟨d, 7, none⟩ = some (.slice (some ⟨g, 0, none⟩) S1.L.length cp) ∧ W.cell? ⟨g, k * 13 + 12, none⟩ = some (.slice pa pn pc)) (first
                      | assumption
                      | exact HM4.out _ (Below.refl _ _)
                      | exact HM4.out _ (Below.refl _ _).drew
                      | exact HM4.out _ (bpush (Below.refl _ _) _).drew
                      | exact HM7.out) (first
                      | (refine step_append_at 94 rfl rfl _ _ _ _ rfl _ _ rfl rfl hrun ?_)
                      | fail)
                    all_goals
                      go_wp2_with fail
                      go_meet
                      case rel => exact ⟨a', cp', _, by rw [hR2]; rfl, hid (by rw [hR2]; exact HO7.out), HK7.out ge _ _ _ (kept HE4.out (Below.refl _ _).drew) (by decide)⟩
                  · have hwt : wtV y.q = false := by unfold wtV; simp [hq]
                    rw [hwt] at e10 ⊢
                    have hR2 : R.2 = [] := by rw [hR, if_neg hq]
                    clear hR
                    go_wp2_with fail
                    go_meet
                    case rel => exact ⟨none, 0, [], by rw [hR2]; rfl, hid (by rw [hR2]; exact OutI.void H4.out), HE4⟩
                case rest =>
                  obtain ⟨a2, cp2, l, rfl, HO, HE5⟩ := hcut
                  obtain ⟨w5, hwc⟩ : ∃ z, z = wc := ⟨_, rfl⟩
                  rw [← hwc] at HO HE5 ⊢
                  clear hwc c7 e10 H4 HE4
                  have HM5 : Hid (∀ W, Below w5.heap.size w5 W → (∀ q, W.cell? ⟨ge, q, none⟩ = (#[.int .u32 si, .int .u8 s0, .int .u8 s1, .int .u8 s2, .int .u8 s3, .int .u8 s4, .int .u8 s5, .int .i64 2, .int .i64 (aft S1.now 600), .int .i64 0, .bool false, .int .u32 0, .slice none 0 0] : Array Value)[q]?) ∧ W.cell? ⟨d, 7, none⟩ = some (.slice (some ⟨g, 0, none⟩) S1.L.length cp)) := fun W h => ⟨fun q => cell_of_heap (kept HE5.out h) q, (HO.out.on.next h).turn.rc.cells 7⟩
                  have HLN := hid (HO.out.on.turn.rc.learn HY.out HYI.out (mc := ⟨s0, s1, s2, s3, s4, s5⟩) HP.out.2.1)
                  obtain ⟨g', hg', hc5⟩ := HO.out.on.turn.rc.ent HY.out
                  simp only [Option.some.injEq, Addr.mk.injEq, and_true] at hg'
                  subst hg'
                  obtain ⟨cur5, hcur5⟩ := HO.out.on.turn.rc.row.obj (g := g) rfl
                  obtain ⟨hcE, c75⟩ := HM5.out _ (Below.refl _ _)
                  have e0 : w5.cell? ⟨g, k * 13, none⟩ = some (.int .u32 y.ip) := hc5 0 (by omega)
                  have e1 : w5.cell? ⟨g, k * 13 + 1, none⟩ = some (.int .u8 y.mac.b0) := hc5 1 (by omega)
                  have e2 : w5.cell? ⟨g, k * 13 + 2, none⟩ = some (.int .u8 y.mac.b1) := hc5 2 (by omega)
                  have e3 : w5.cell? ⟨g, k * 13 + 3, none⟩ = some (.int .u8 y.mac.b2) := hc5 3 (by omega)
                  have e4 : w5.cell? ⟨g, k * 13 + 4, none⟩ = some (.int .u8 y.mac.b3) := hc5 4 (by omega)
                  have e5 : w5.cell? ⟨g, k * 13 + 5, none⟩ = some (.int .u8 y.mac.b4) := hc5 5 (by omega)
                  have e6 : w5.cell? ⟨g, k * 13 + 6, none⟩ = some (.int .u8 y.mac.b5) := hc5 6 (by omega)
                  have e7 : w5.cell? ⟨g, k * 13 + 7, none⟩ = some (.int .i64 (stV y.q)) := hc5 7 (by omega)
                  have e8 : w5.cell? ⟨g, k * 13 + 8, none⟩ = some (.int .i64 y.unt) := hc5 8 (by omega)
                  have e9 : w5.cell? ⟨g, k * 13 + 9, none⟩ = some (.int .i64 y.q) := hc5 9 (by omega)
                  have e10 : w5.cell? ⟨g, k * 13 + 10, none⟩ = some (.bool (wtV y.q)) := hc5 10 (by omega)
                  have e11 : w5.cell? ⟨g, k * 13 + 11, none⟩ = some (.int .u32 y.src) := hc5 11 (by omega)
                  have e12 : w5.cell? ⟨g, k * 13 + 12, none⟩ = some (.slice pa pn pc) := by rw [hc5 12 (by omega), HV.out]; rfl
                  have f0 : w5.frozen? ⟨g, k * 13, none⟩ = false := frozen_of_heap hcur5 _
                  have f1 : w5.frozen? ⟨g, k * 13 + 1, none⟩ = false := frozen_of_heap hcur5 _
                  have f2 : w5.frozen? ⟨g, k * 13 + 2, none⟩ = false := frozen_of_heap hcur5 _
                  have f3 : w5.frozen? ⟨g, k * 13 + 3, none⟩ = false := frozen_of_heap hcur5 _
                  have f4 : w5.frozen? ⟨g, k * 13 + 4, none⟩ = false := frozen_of_heap hcur5 _
                  have f5 : w5.frozen? ⟨g, k * 13 + 5, none⟩ = false := frozen_of_heap hcur5 _
                  have f6 : w5.frozen? ⟨g, k * 13 + 6, none⟩ = false := frozen_of_heap hcur5 _
                  have f7 : w5.frozen? ⟨g, k * 13 + 7, none⟩ = false := frozen_of_heap hcur5 _
                  have f8 : w5.frozen? ⟨g, k * 13 + 8, none⟩ = false := frozen_of_heap hcur5 _
                  have f9 : w5.frozen? ⟨g, k * 13 + 9, none⟩ = false := frozen_of_heap hcur5 _
                  have f10 : w5.frozen? ⟨g, k * 13 + 10, none⟩ = false := frozen_of_heap hcur5 _
                  have f11 : w5.frozen? ⟨g, k * 13 + 11, none⟩ = false := frozen_of_heap hcur5 _
                  have f12 : w5.frozen? ⟨g, k * 13 + 12, none⟩ = false := frozen_of_heap hcur5 _
                  clear hc5 hcur5 HM5
                  go_upto_region 14 with fail
                  go_region
                  clear e0 e1 e2 e3 e4 e5 e6 e7 e8 e9 e10 e11 e12 f0 f1 f2 f3 f4 f5 f6 f7 f8 f9 f10 f11 f12 hcE c75
                  have hR1 : R.1 = { S1 with L := put S1.L (knE S1 si ⟨s0, s1, s2, s3, s4, s5⟩) } := by rw [hR]
                  have HF := hid ((HO.out.put HLN.out.2 (But.setCells g _ _ _) (fun z hz b hb => by
                    rcases mem_put.1 hz with rfl | ⟨h1, h2⟩
                    · rw [show (knE S1 si ⟨s0, s1, s2, s3, s4, s5⟩).ip = si from rfl, upd_same] at hb; simp [Value.ownBlock] at hb
                    · rw [upd_other V _ (show z.ip ≠ si from h2)] at hb; exact ⟨z, h1, hb⟩)).next (Below.refl _ _).drew)
                  rw [← hR1] at HF
                  clear hR1 hR HLN HO
                  go_wp2_with fail
                  go_meet
                  case rel => exact ⟨a2, cp2, some ⟨g, 0, none⟩, cp, _, l, rfl, HF⟩
            | none =>
              have HAT := hid (rat_none d S1 a cp V si w2 H2.out.turn.rc hl)
              have HKO : Hid (∀ L', roomL S1.most S1.L = some L' → _) := fun L' h => know_ok (mc := ⟨s0, s1, s2, s3, s4, s5⟩) H2.out.turn.rc.ok hl h HP.out.2.2.1 HP.out.2.1
              have HR3 : Hid (R = if ak = true then (match roomL S1.most S1.L with | none => (S1, []) | some L' => ({ S1 with L := put L' (knE S1 si ⟨s0, s1, s2, s3, s4, s5⟩) }, [])) else (S1, [])) := hid (by
                rw [HR2.out]; unfold learnF; rw [hl]; cases ak <;> cases roomL S1.most S1.L <;> rfl)
              clear HR2 HR HWT hl
              go_wp2_with fail
              refine HAT.out.mono ?_
              rintro e w3 ⟨rfl, HB3⟩
              have H3 := hid (H2.out.next HB3.out)
              clear HAT hcx H2 HB3
              have HBH := hid (fun W (h : Below w3.heap.size w3 W) => rbehind_any d S1 a cp V 600 (by omega) W (H3.out.turn.rc.below h))
              have HMM : Hid (∀ W, Below w3.heap.size w3 W → ∀ q, W.cell? ⟨w.heap.size, q, none⟩ = (#[.int .i64 o, .int .u8 s0, .int .u8 s1, .int .u8 s2, .int .u8 s3, .int .u8 s4, .int .u8 s5, .int .u32 si, .int .u8 d0, .int .u8 d1, .int .u8 d2, .int .u8 d3, .int .u8 d4, .int .u8 d5, .int .u32 di] : Array Value)[q]?) := fun W h => (H3.out.next h).cells
              go_upto_region 10 with fail
              go_cut [14] (fun v wx => v = .pointer (some ⟨w3.heap.size, 0, none⟩) ∧ (w3.alloc (.cells #[.int .u32 si, .int .u8 s0, .int .u8 s1, .int .u8 s2, .int .u8 s3, .int .u8 s4, .int .u8 s5, .int .i64 2, .int .i64 (aft S1.now 600), .int .i64 0, .bool false, .int .u32 0, .slice none 0 0] 103)).drew = wx)
              case first =>
                go_region_held3 (fun X => ∀ q, X.cell? ⟨w.heap.size, q, none⟩ = (#[.int .i64 o, .int .u8 s0, .int .u8 s1, .int .u8 s2, .int .u8 s3, .int .u8 s4, .int .u8 s5, .int .u32 si, .int .u8 d0, .int .u8 d1, .int .u8 d2, .int .u8 d3, .int .u8 d4, .int .u8 d5, .int .u32 di] : Array Value)[q]?) (first | assumption | exact HMM.out _ (Below.refl _ _) | exact HMM.out _ (Below.refl _ _).drew | exact HMM.out _ (bpush (Below.refl _ _) _).drew) (first
                  | (go_at_call 55; (first | refine (HBH.out _ (Below.refl _ _).drew).mono ?_ | refine (HBH.out _ (bpush (Below.refl _ _) _).drew).mono ?_); rintro e wz ⟨rfl, hwz⟩; subst wz)
                  | fail)
                all_goals
                  as_aux_lemma =>
                    go_wp2_with fail
                    go_meet
                    case rel => exact ⟨rfl, rfl⟩
              case rest =>
                obtain ⟨rfl, hw4⟩ := hcut
                obtain ⟨w4, hwc⟩ : ∃ z, z = wc := ⟨_, rfl⟩
                rw [← hwc] at hw4 ⊢
                clear hwc
                have HB4 : Hid (Below w3.heap.size w3 w4) := hid (by rw [← hw4]; exact (bpush (Below.refl _ _) _).drew)
                have HE4 : Hid (w4.heap[w3.heap.size]? = some (.cells #[.int .u32 si, .int .u8 s0, .int .u8 s1, .int .u8 s2, .int .u8 s3, .int .u8 s4, .int .u8 s5, .int .i64 2, .int .i64 (aft S1.now 600), .int .i64 0, .bool false, .int .u32 0, .slice none 0 0] 103 (0, 0))) := hid (by rw [← hw4]; exact heap_new w3 _)
                have H4 := hid (H3.out.next HB4.out)
                have HGN : Hid (∀ b, (Value.slice a S1.L.length cp).ownBlock = some b → b ≠ w3.heap.size) := fun b hb e => by have := H3.out.turn.rc.row.lt hb; omega
                clear hw4 HB4 H3 HMM HBH
                generalize w3.heap.size = ge at *
                cases ak
                · have hR1 : R = (S1, []) := by rw [HR3.out]; rfl
                  subst hR1
                  go_wp2_with fail
                  go_meet
                  case rel => exact ⟨none, 0, a, cp, V, [], rfl, OutI.void H4.out⟩
                · have HRM := hid (rroom_any d S1 a cp V w4 H4.out.turn.rc)
                  go_wp2_with fail
                  refine HRM.out.mono ?_
                  rintro e w5 (⟨hr, rfl, T5⟩ | ⟨L', a5, cp5, hr, rfl, T5⟩)
                  · have hR1 : R = (S1, []) := by rw [HR3.out, hr]; rfl
                    subst hR1
                    have H5 := hid (H4.out.turned T5.out)
                    clear HRM HKO HR3 hr
                    go_wp2_with fail
                    go_meet
                    case rel => exact ⟨none, 0, a, cp, V, [], rfl, OutI.void H5.out⟩
                  · have hR1 : R = ({ S1 with L := put L' (knE S1 si ⟨s0, s1, s2, s3, s4, s5⟩) }, []) := by rw [HR3.out, hr]; rfl
                    subst hR1
                    have H5 := hid (H4.out.turned T5.out)
                    have HE5 : Hid (w5.heap[ge]? = some (.cells #[.int .u32 si, .int .u8 s0, .int .u8 s1, .int .u8 s2, .int .u8 s3, .int .u8 s4, .int .u8 s5, .int .i64 2, .int .i64 (aft S1.now 600), .int .i64 0, .bool false, .int .u32 0, .slice none 0 0] 103 (0, 0))) := hid ((T5.out.block ge (fun e => by
                      have h1 := H4.out.turn.rc.box
                      rw [← e, HE4.out] at h1
                      simp at h1) (fun e => HGN.out ge e rfl) (heap_lt HE4.out)).trans HE4.out)
                    have hcE : ∀ q, w5.cell? ⟨ge, q, none⟩ = (#[.int .u32 si, .int .u8 s0, .int .u8 s1, .int .u8 s2, .int .u8 s3, .int .u8 s4, .int .u8 s5, .int .i64 2, .int .i64 (aft S1.now 600), .int .i64 0, .bool false, .int .u32 0, .slice none 0 0] : Array Value)[q]? := fun q => cell_of_heap HE5.out q
                    have HPU := hid (rput_k d { S1 with L := L' } a5 cp5 V si S1.now ⟨s0, s1, s2, s3, s4, s5⟩ (HKO.out L' hr).2 w5 T5.out.rc (HKO.out L' hr).1)
                    clear HRM HKO HR3 hr
                    go_wp2_with fail
                    refine HPU.out.mono ?_
                    rintro e w6 ⟨rfl, a6, cp6, T6⟩
                    have H6 := hid (H5.out.turned T6.out)
                    clear HPU hcE
                    go_wp2_with fail
                    go_meet
                    case rel => exact ⟨none, 0, a6, cp6, _, [], rfl, OutI.void H6.out⟩
        case rest =>
          obtain ⟨a2, cp2, a1, cp1, V1, l, rfl, HO⟩ := hcut
          obtain ⟨w5, hwc⟩ : ∃ z, z = wc := ⟨_, rfl⟩
          rw [← hwc] at HO ⊢
          clear hwc hcx H2
          have hRl := lrnR_len S1 (Arp.mk o ⟨s0, s1, s2, s3, s4, s5⟩ si ⟨d0, d1, d2, d3, d4, d5⟩ di) own
          rw [← HR.out] at hRl
          have HRO : Hid (R.1.own = S1.own) := hid (by rw [HR.out]; exact lrnR_own S1 (Arp.mk o ⟨s0, s1, s2, s3, s4, s5⟩ si ⟨d0, d1, d2, d3, d4, d5⟩ di) own)
          clear HR HWT
          cases ak
          · have HEF : Hid (R.2 = F2) := hid (by have h := HF2.out; rw [if_neg (by simp), List.append_nil] at h; exact h)
            clear HAK HF2
            go_wp2_with fail
            go_ret
            rw [← HEF.out]
            exact ⟨a2, cp2, rfl, HO.out.ans⟩
          · have HEF : Hid (R.2 ++ [tellS S1 (Arp.mk o ⟨s0, s1, s2, s3, s4, s5⟩ si ⟨d0, d1, d2, d3, d4, d5⟩ di)] = F2) := hid (by have h := HF2.out; rw [if_pos rfl] at h; exact h)
            clear HAK HF2
            have HOW : Hid (R.1.own = S.own) := hid (HRO.out.trans HSO.out)
            have HM5 : Hid (∀ W, Below w5.heap.size w5 W → (∀ q, W.cell? ⟨w.heap.size, q, none⟩ = (#[.int .i64 o, .int .u8 s0, .int .u8 s1, .int .u8 s2, .int .u8 s3, .int .u8 s4, .int .u8 s5, .int .u32 si, .int .u8 d0, .int .u8 d1, .int .u8 d2, .int .u8 d3, .int .u8 d4, .int .u8 d5, .int .u32 di] : Array Value)[q]?) ∧ W.cell? ⟨d, 0, none⟩ = some (.int .u8 S.own.b0) ∧ W.cell? ⟨d, 1, none⟩ = some (.int .u8 S.own.b1) ∧ W.cell? ⟨d, 2, none⟩ = some (.int .u8 S.own.b2) ∧ W.cell? ⟨d, 3, none⟩ = some (.int .u8 S.own.b3) ∧ W.cell? ⟨d, 4, none⟩ = some (.int .u8 S.own.b4) ∧ W.cell? ⟨d, 5, none⟩ = some (.int .u8 S.own.b5)) := fun W h => by
              have h5 := HO.out.next h
              have hc := h5.on.turn.rc.cells
              rw [← HOW.out]
              exact ⟨h5.on.cells, hc 0, hc 1, hc 2, hc 3, hc 4, hc 5⟩
            have HTE := hid (fun w1 => refTell_any S.own (Arp.mk o ⟨s0, s1, s2, s3, s4, s5⟩ si ⟨d0, d1, d2, d3, d4, d5⟩ di) w1)
            have HOWO : Hid S.own.ok := hid (by rw [← HOW.out]; exact HO.out.on.turn.rc.ok.own)
            have HEN := hid (fun w1 => refEncode_ok (tellP S.own (Arp.mk o ⟨s0, s1, s2, s3, s4, s5⟩ si ⟨d0, d1, d2, d3, d4, d5⟩ di)) w1 ⟨by simp [tellP], HOWO.out, HP.out.2.2.2.2, HP.out.2.1, HP.out.2.2.1⟩ rfl)
            have HZS : Hid (encL (tellP S.own (Arp.mk o ⟨s0, s1, s2, s3, s4, s5⟩ si ⟨d0, d1, d2, d3, d4, d5⟩ di)) = (tellS S1 (Arp.mk o ⟨s0, s1, s2, s3, s4, s5⟩ si ⟨d0, d1, d2, d3, d4, d5⟩ di)).zs) := hid (by unfold tellS; rw [HSO.out])
            simp only [Arp.val, Mac.val, tellP] at HTE HEN
            go_wp2_with fail
            go_region_held3 (fun W => (∀ q, W.cell? ⟨w.heap.size, q, none⟩ = (#[.int .i64 o, .int .u8 s0, .int .u8 s1, .int .u8 s2, .int .u8 s3, .int .u8 s4, .int .u8 s5, .int .u32 si, .int .u8 d0, .int .u8 d1, .int .u8 d2, .int .u8 d3, .int .u8 d4, .int .u8 d5, .int .u32 di] : Array Value)[q]?) ∧ W.cell? ⟨d, 0, none⟩ = some (.int .u8 S.own.b0) ∧ W.cell? ⟨d, 1, none⟩ = some (.int .u8 S.own.b1) ∧ W.cell? ⟨d, 2, none⟩ = some (.int .u8 S.own.b2) ∧ W.cell? ⟨d, 3, none⟩ = some (.int .u8 S.own.b3) ∧ W.cell? ⟨d, 4, none⟩ = some (.int .u8 S.own.b4) ∧ W.cell? ⟨d, 5, none⟩ = some (.int .u8 S.own.b5)) (first | assumption | exact HM5.out _ (Below.refl _ _) | exact HM5.out _ (Below.refl _ _).drew) (first
              | (go_at_call 22; refine (HTE.out _).mono ?_; rintro e w6 ⟨rfl, hb6⟩; have HB6 := hid (bundrew hb6); have hm6 := HM5.out w6 HB6.out)
              | (go_at_call 61; refine (HEN.out _).mono ?_; rintro e w7 ⟨a7, n7, c7, rfl, hr7, hf7, hb7⟩; have HB7 := hid (bstep HB6.out hb7); have hm7 := HM5.out w7 HB7.out)
              | fail)
            have HRW := hid hr7
            have HB := HB7
            obtain ⟨a8, cp8, w8, hrun, HO8, _⟩ := HO.out.added HB.out (tellS S1 (Arp.mk o ⟨s0, s1, s2, s3, s4, s5⟩ si ⟨d0, d1, d2, d3, d4, d5⟩ di)) (pa := a7) (pn := n7) (pc := c7) (by rw [← HZS.out]; exact HRW.out) (by omega)
            simp only [tellS] at hrun
            have hcx := (HM5.out _ HB.out).1
            clear hr7 hf7 hb7 hm7 hm6 hb6 HM5 HTE HEN HB6 HB7 HRW HO
            go_wp2_with (first
              | (at_builtin; refine wpList_append_run _ rfl _ _ _ _ rfl _ _ rfl rfl hrun ?_)
              | fail)
            go_ret
            rw [← HEF.out]
            exact ⟨a8, cp8, by rw [List.length_append]; rfl, HO8.out.ans⟩
end Go.Proofs.Ytdgjpikphooilaa

/-
  The document's cache: On, whole. Written by mkron.py.
-/
namespace Go.Proofs.Ytdgjpikphooilaa
open Go.RowKit
set_option linter.all false

set_option maxRecDepth 40000 in
set_option maxHeartbeats 4000000 in
theorem ronX (d : Nat) (S : St) (a : Option Addr) (cp : Nat) (V : Int → Value) (o si di s0 s1 s2 s3 s4 s5 d0 d1 d2 d3 d4 d5 own now : Int) (w : World) (x : RcW w d S a cp V) (hp : (Arp.mk o ⟨s0, s1, s2, s3, s4, s5⟩ si ⟨d0, d1, d2, d3, d4, d5⟩ di).ok) (h1 : ¬ o = 1) (h2 : ¬ o = 2) :
    Calls Try.prog 29 #[.pointer (some ⟨d, 0, none⟩), .agg #[.int .i64 o, .int .u8 s0, .int .u8 s1, .int .u8 s2, .int .u8 s3, .int .u8 s4, .int .u8 s5, .int .u32 si, .int .u8 d0, .int .u8 d1, .int .u8 d2, .int .u8 d3, .int .u8 d4, .int .u8 d5, .int .u32 di], .int .u32 own, .int .i64 now] w fun e w' => e = .returned (.slice none 0 0) ∧ Hid (RAns w w' d S { S with now := hearN S.now now } a cp V none 0 []) := by
  have HT := hid (rtell_on d S a cp V now #[.int .i64 o, .int .u8 s0, .int .u8 s1, .int .u8 s2, .int .u8 s3, .int .u8 s4, .int .u8 s5, .int .u32 si, .int .u8 d0, .int .u8 d1, .int .u8 d2, .int .u8 d3, .int .u8 d4, .int .u8 d5, .int .u32 di] w x)
  have HG := hid (fun w1 => rgroup_x ⟨s0, s1, s2, s3, s4, s5⟩ w1 hp.2.1)
  simp only [Mac.val] at HG
  generalize grpB ⟨s0, s1, s2, s3, s4, s5⟩ = gb at HG
  have h1' : (o != 1) = true := by simpa using h1
  have h2' : (o != 2) = true := by simpa using h2
  clear x hp
  go_enter Try.func29, Try.ntmps29
  go_wp2_with fail
  refine HT.out.mono ?_
  rintro e w1 ⟨rfl, H1⟩
  have hcx := H1.out.cells
  clear HT
  go_wp2_with fail
  refine (HG.out _).mono ?_
  rintro e w2 ⟨rfl, hb2⟩
  have H2 := hid (H1.out.next hb2)
  clear H1 HG hb2 hcx
  have hcx := H2.out.cells
  go_wp2_with fail
  all_goals
    go_ret
    exact ⟨rfl, (OutI.void H2.out).ans⟩
set_option maxRecDepth 40000 in
set_option maxHeartbeats 4000000 in
theorem ronG (d : Nat) (S : St) (a : Option Addr) (cp : Nat) (V : Int → Value) (o si di s0 s1 s2 s3 s4 s5 d0 d1 d2 d3 d4 d5 own now : Int) (w : World) (x : RcW w d S a cp V) (hp : (Arp.mk o ⟨s0, s1, s2, s3, s4, s5⟩ si ⟨d0, d1, d2, d3, d4, d5⟩ di).ok) (ho : o = 1 ∨ o = 2) (hg : grpB ⟨s0, s1, s2, s3, s4, s5⟩ = true) :
    Calls Try.prog 29 #[.pointer (some ⟨d, 0, none⟩), .agg #[.int .i64 o, .int .u8 s0, .int .u8 s1, .int .u8 s2, .int .u8 s3, .int .u8 s4, .int .u8 s5, .int .u32 si, .int .u8 d0, .int .u8 d1, .int .u8 d2, .int .u8 d3, .int .u8 d4, .int .u8 d5, .int .u32 di], .int .u32 own, .int .i64 now] w fun e w' => e = .returned (.slice none 0 0) ∧ Hid (RAns w w' d S { S with now := hearN S.now now } a cp V none 0 []) := by
  have HT := hid (rtell_on d S a cp V now #[.int .i64 o, .int .u8 s0, .int .u8 s1, .int .u8 s2, .int .u8 s3, .int .u8 s4, .int .u8 s5, .int .u32 si, .int .u8 d0, .int .u8 d1, .int .u8 d2, .int .u8 d3, .int .u8 d4, .int .u8 d5, .int .u32 di] w x)
  have HG := hid (fun w1 => rgroup_x ⟨s0, s1, s2, s3, s4, s5⟩ w1 hp.2.1)
  simp only [Mac.val] at HG
  rw [hg] at HG
  clear hg
  clear x hp
  go_enter Try.func29, Try.ntmps29
  go_wp2_with fail
  refine HT.out.mono ?_
  rintro e w1 ⟨rfl, H1⟩
  have hcx := H1.out.cells
  clear HT
  go_wp2_with fail
  refine (HG.out _).mono ?_
  rintro e w2 ⟨rfl, hb2⟩
  have H2 := hid (H1.out.next hb2)
  clear H1 HG hb2 hcx
  have hcx := H2.out.cells
  rcases ho with rfl | rfl
  · go_wp2_with fail
    all_goals
      go_ret
      exact ⟨rfl, (OutI.void H2.out).ans⟩
  · go_wp2_with fail
    all_goals
      go_ret
      exact ⟨rfl, (OutI.void H2.out).ans⟩
theorem ron_any (d : Nat) (S : St) (a : Option Addr) (cp : Nat) (V : Int → Value) (p : Arp) (own now : Int) (w : World) (x : RcW w d S a cp V) (hp : p.ok) :
    Calls Try.prog 29 #[.pointer (some ⟨d, 0, none⟩), p.val, .int .u32 own, .int .i64 now] w fun e w' => ∃ a2 cp2, e = .returned (.slice a2 (onF S p own now).2.length cp2) ∧ Hid (RAns w w' d S (onF S p own now).1 a cp V a2 cp2 (onF S p own now).2) := by
  obtain ⟨o, ⟨s0, s1, s2, s3, s4, s5⟩, si, ⟨d0, d1, d2, d3, d4, d5⟩, di⟩ := p
  by_cases ho : opB o = true
  · by_cases hg : grpB ⟨s0, s1, s2, s3, s4, s5⟩ = true
    · have hop : o = 1 ∨ o = 2 := by simp [opB] at ho; omega
      have e : onF S (Arp.mk o ⟨s0, s1, s2, s3, s4, s5⟩ si ⟨d0, d1, d2, d3, d4, d5⟩ di) own now = ({ S with now := hearN S.now now }, []) := by unfold onF; simp only [hg]; simp
      rw [e]
      exact (ronG d S a cp V o si di s0 s1 s2 s3 s4 s5 d0 d1 d2 d3 d4 d5 own now w x hp hop hg).mono fun e w' ⟨h1, h2⟩ => ⟨none, 0, h1, h2⟩
    · exact ronA d S a cp V o si di s0 s1 s2 s3 s4 s5 d0 d1 d2 d3 d4 d5 own now w x hp ho (by simpa using hg)
  · have hop : ¬ o = 1 ∧ ¬ o = 2 := by simp [opB] at ho; omega
    have e : onF S (Arp.mk o ⟨s0, s1, s2, s3, s4, s5⟩ si ⟨d0, d1, d2, d3, d4, d5⟩ di) own now = ({ S with now := hearN S.now now }, []) := by unfold onF; simp only [show opB o = false by simpa using ho]; simp
    rw [e]
    exact (ronX d S a cp V o si di s0 s1 s2 s3 s4 s5 d0 d1 d2 d3 d4 d5 own now w x hp hop.1 hop.2).mono fun e w' ⟨h1, h2⟩ => ⟨none, 0, h1, h2⟩
end Go.Proofs.Ytdgjpikphooilaa

/-
  The document's SameSends, of two rows that are the same.
-/
namespace Go.Proofs.Ytdgjpikphooilaa
open Go.RowKit
set_option linter.all false

theorem sd_get : ∀ (l : List (Sd × Value)) (k j : Nat) (p : Sd × Value), l[k]? = some p → j < 8 → (sdCells l)[k * 8 + j]? = (p.1.cells p.2)[j]?
  | [], k, j, p, h, _ => by simp at h
  | x :: l, 0, j, p, h, hj => by
    simp at h; subst h
    simp only [sdCells, List.flatMap_cons, Nat.zero_mul, Nat.zero_add]
    rw [List.getElem?_append_left (by simp [Sd.cells]; omega), Array.getElem?_toList]
  | x :: l, k + 1, j, p, h, hj => by
    simp at h
    have ih := sd_get l k j p h hj
    simp only [sdCells, List.flatMap_cons] at ih ⊢
    rw [List.getElem?_append_right (by simp [Sd.cells]; omega)]
    rw [show (k + 1) * 8 + j - (x.1.cells x.2).toList.length = k * 8 + j from by simp [Sd.cells]; omega]
    exact ih
theorem ROut.ent {w : World} {a : Option Addr} {n cp : Nat} {l : List (Sd × Value)} (h : ROut w (.slice a n cp) l) {k : Nat} {p : Sd × Value} (hp : l[k]? = some p) : ∃ g, a = some ⟨g, 0, none⟩ ∧ ∀ j, j < 8 → w.cell? ⟨g, k * 8 + j, none⟩ = (p.1.cells p.2)[j]? := by
  have hk : k < l.length := (List.getElem?_eq_some_iff.1 hp).1
  obtain ⟨g, cap, h1, h2, h3⟩ := h.row.some_of (by omega)
  have hrow := h.row
  simp only [Value.slice.injEq] at h1
  obtain ⟨rfl, hn, rfl⟩ := h1
  rw [hn] at hrow
  refine ⟨g, rfl, fun j hj => ?_⟩
  have h4 := sd_get l k j p hp hj
  have h5 : j < (p.1.cells p.2).size := by simp [Sd.cells]; omega
  rw [Array.getElem?_eq_getElem h5] at h4 ⊢
  exact RowS.cell hrow h4
set_option maxRecDepth 40000 in
set_option maxHeartbeats 8000000 in
theorem same_sends (w : World) (a b : Option Addr) (n m cp cq : Nat) (l l' : List (Sd × Value)) (h1 : ROut w (.slice a n cp) l) (h2 : ROut w (.slice b m cq) l') (hn : l.length = n) (hm : l'.length = m) (he : l.map (·.1) = l'.map (·.1)) (hz : ∀ p ∈ l, p.1.dst.ok ∧ ∀ z ∈ p.1.zs, 0 ≤ z ∧ z ≤ 255) (hb : n ≤ 1000) :
    Calls Try.prog 59 #[.slice a n cp, .slice b m cq] w fun e w' => e = .returned (.bool true) ∧ ∃ k, w' = w.drewN k := by
  have hmn : m = n := by rw [← hm, ← hn, ← List.length_map (f := (·.1)), ← he, List.length_map]
  subst hmn
  have H1 := hid h1
  have H2 := hid h2
  have HN := hid hn
  have HM := hid hm
  have HE := hid he
  have HZ := hid hz
  clear h1 h2 hn hm he hz
  go_enter Try.func59, Try.ntmps59
  go_wp2_with fail
  go_loopw [5] (fun v wr => ∃ (k q : Nat), v = .int .i64 k ∧ k ≤ m ∧ wr = w.drewN q) (fun v _ => m - (intOf3 v).toNat)
  case atStart => exact ⟨0, 0, rfl, Nat.zero_le _, rfl⟩
  case round =>
    obtain ⟨k, q, rfl, hk, hwr⟩ := hrel
    have HW := hid hwr
    clear hwr
    by_cases hkl : k < m
    · obtain ⟨p, hp⟩ : ∃ p, l[k]? = some p := ⟨_, List.getElem?_eq_getElem (by rw [HN.out]; exact hkl)⟩
      obtain ⟨p', hp'⟩ : ∃ p, l'[k]? = some p := ⟨_, List.getElem?_eq_getElem (by rw [HM.out]; exact hkl)⟩
      have hpp : p'.1 = p.1 := by
        have h3 : (l.map (·.1))[k]? = (l'.map (·.1))[k]? := by rw [HE.out]
        simp [hp, hp'] at h3
        exact h3.symm
      have hbel : Below w.heap.size w wr := by rw [HW.out]; exact bdrewN w q
      have r1 : ROut wr (.slice a m cp) l := ⟨H1.out.row.below hbel, fun p hp => (H1.out.dat p hp).below hbel, H1.out.form⟩
      have r2 : ROut wr (.slice b m cq) l' := ⟨H2.out.row.below hbel, fun p hp => (H2.out.dat p hp).below hbel, H2.out.form⟩
      obtain ⟨g, rfl, hc⟩ := r1.ent hp
      obtain ⟨g', rfl, hc'⟩ := r2.ent hp'
      obtain ⟨pa, pn, pc, hv⟩ := r1.form p (List.mem_of_getElem? hp)
      obtain ⟨pa', pn', pc', hv'⟩ := r2.form p' (List.mem_of_getElem? hp')
      have hcv : ∀ z, (convert 40 9 (.slice pa pn pc)).run Try.prog (wr.drewN z) = .ok (.string (strOfNums p.1.zs)) (wr.drewN z) := fun z => by
        have := (r1.dat p (List.mem_of_getElem? hp)).conv (HZ.out p (List.mem_of_getElem? hp)).2 z
        rw [hv] at this
        exact this
      have hcv' : ∀ z, (convert 40 9 (.slice pa' pn' pc')).run Try.prog (wr.drewN z) = .ok (.string (strOfNums p.1.zs)) (wr.drewN z) := fun z => by
        have := (r2.dat p' (List.mem_of_getElem? hp')).conv (by rw [hpp]; exact (HZ.out p (List.mem_of_getElem? hp)).2) z
        rw [hv', hpp] at this
        exact this
      rw [hpp] at hc'
      have eM : ∀ W : World, (Op.equalIn 10000 23 (.agg #[.int .u8 p.1.dst.b0, .int .u8 p.1.dst.b1, .int .u8 p.1.dst.b2, .int .u8 p.1.dst.b3, .int .u8 p.1.dst.b4, .int .u8 p.1.dst.b5]) (.agg #[.int .u8 p.1.dst.b0, .int .u8 p.1.dst.b1, .int .u8 p.1.dst.b2, .int .u8 p.1.dst.b3, .int .u8 p.1.dst.b4, .int .u8 p.1.dst.b5])).run Try.prog W = .ok true W := fun W => by
        have h3 := mac_eq p.1.dst p.1.dst (HZ.out p (List.mem_of_getElem? hp)).1 (HZ.out p (List.mem_of_getElem? hp)).1 W
        rw [decide_eq_true rfl] at h3
        exact h3
      have c0 : wr.cell? ⟨g, k * 8, none⟩ = some (.int .u8 p.1.dst.b0) := hc 0 (by omega)
      have c1 : wr.cell? ⟨g, k * 8 + 1, none⟩ = some (.int .u8 p.1.dst.b1) := hc 1 (by omega)
      have c2 : wr.cell? ⟨g, k * 8 + 2, none⟩ = some (.int .u8 p.1.dst.b2) := hc 2 (by omega)
      have c3 : wr.cell? ⟨g, k * 8 + 3, none⟩ = some (.int .u8 p.1.dst.b3) := hc 3 (by omega)
      have c4 : wr.cell? ⟨g, k * 8 + 4, none⟩ = some (.int .u8 p.1.dst.b4) := hc 4 (by omega)
      have c5 : wr.cell? ⟨g, k * 8 + 5, none⟩ = some (.int .u8 p.1.dst.b5) := hc 5 (by omega)
      have c6 : wr.cell? ⟨g, k * 8 + 6, none⟩ = some (.int .i64 p.1.kind) := hc 6 (by omega)
      have c7 : wr.cell? ⟨g, k * 8 + 7, none⟩ = some (.slice pa pn pc) := by rw [hc 7 (by omega), hv]; rfl
      have d0 : wr.cell? ⟨g', k * 8, none⟩ = some (.int .u8 p.1.dst.b0) := hc' 0 (by omega)
      have d1 : wr.cell? ⟨g', k * 8 + 1, none⟩ = some (.int .u8 p.1.dst.b1) := hc' 1 (by omega)
      have d2 : wr.cell? ⟨g', k * 8 + 2, none⟩ = some (.int .u8 p.1.dst.b2) := hc' 2 (by omega)
      have d3 : wr.cell? ⟨g', k * 8 + 3, none⟩ = some (.int .u8 p.1.dst.b3) := hc' 3 (by omega)
      have d4 : wr.cell? ⟨g', k * 8 + 4, none⟩ = some (.int .u8 p.1.dst.b4) := hc' 4 (by omega)
      have d5 : wr.cell? ⟨g', k * 8 + 5, none⟩ = some (.int .u8 p.1.dst.b5) := hc' 5 (by omega)
      have d6 : wr.cell? ⟨g', k * 8 + 6, none⟩ = some (.int .i64 p.1.kind) := hc' 6 (by omega)
      have d7 : wr.cell? ⟨g', k * 8 + 7, none⟩ = some (.slice pa' pn' pc') := by rw [hc' 7 (by omega), hv']; rfl
      clear hc hc' r1 r2 hbel hv hv' hp hp' hpp H1 H2
      have hk0 : (0 : Int) ≤ (k : Int) := by omega
      have hkm : (k : Int) < (m : Int) := by omega
      generalize strOfNums p.1.zs = X at *
      have hs := str_same X
      have eK : (p.1.kind != p.1.kind) = false := by simp
      go_wp2_with fail
      go_quiet (fail)
      go_wp2_with fail
      go_roundw
      case rel => exact ⟨k + 1, q + nq, by first | rfl | (congr 1; omega), by omega, by rw [HW.out]; simp [World.drewN, Nat.add_assoc]⟩
      case measure => simp only [intOf3]; omega
    · have hkk : k = m := by omega
      clear hkl
      go_wp2_with fail
      go_ret
      exact ⟨rfl, q, HW.out⟩
end Go.Proofs.Ytdgjpikphooilaa

/-
  The document's SameNeighs, of two rows that are the same. Written by mkns.py.
-/
namespace Go.Proofs.Ytdgjpikphooilaa
open Go.RowKit
set_option linter.all false

theorem cellsNb : Try.prog.cellsOf 68 = 11 := by kernel_rfl
theorem cellsBo : Try.prog.cellsOf 4 = 1 := by kernel_rfl
theorem keyNb : Try.prog.keyTypeAt 3 68 = true := by kernel_rfl
set_option maxRecDepth 20000 in
set_option maxHeartbeats 1000000 in
theorem nb_same (y : Ab) (hy : y.ok) (w : World) : (Op.equalIn 10000 68 (.agg #[.int .u32 y.ip, .int .u8 y.mac.b0, .int .u8 y.mac.b1, .int .u8 y.mac.b2, .int .u8 y.mac.b3, .int .u8 y.mac.b4, .int .u8 y.mac.b5, .int .i64 (stV y.q), .int .i64 y.unt, .int .i64 y.q, .bool (wtV y.q)]) (.agg #[.int .u32 y.ip, .int .u8 y.mac.b0, .int .u8 y.mac.b1, .int .u8 y.mac.b2, .int .u8 y.mac.b3, .int .u8 y.mac.b4, .int .u8 y.mac.b5, .int .i64 (stV y.q), .int .i64 y.unt, .int .i64 y.q, .bool (wtV y.q)])).run Try.prog w = .ok true w := by
  have hst : -9223372036854775808 ≤ stV y.q ∧ stV y.q ≤ 9223372036854775807 := by unfold stV; split <;> omega
  have hun : -9223372036854775808 ≤ y.unt ∧ y.unt ≤ 9223372036854775807 := by have := hy.unt; omega
  have hqq : -9223372036854775808 ≤ y.q ∧ y.q ≤ 9223372036854775807 := by have := hy.q; omega
  obtain ⟨h0, h1, h2, h3, h4, h5⟩ := hy.mac
  have hip : 0 ≤ y.ip ∧ y.ip ≤ 4294967295 := hy.ip
  have hk : Try.prog.keyLits 4 68 (Value.cells (.agg #[.int .u32 y.ip, .int .u8 y.mac.b0, .int .u8 y.mac.b1, .int .u8 y.mac.b2, .int .u8 y.mac.b3, .int .u8 y.mac.b4, .int .u8 y.mac.b5, .int .i64 (stV y.q), .int .i64 y.unt, .int .i64 y.q, .bool (wtV y.q)])).toList = some [.int .u32 y.ip, .int .u8 y.mac.b0, .int .u8 y.mac.b1, .int .u8 y.mac.b2, .int .u8 y.mac.b3, .int .u8 y.mac.b4, .int .u8 y.mac.b5, .int .i64 (stV y.q), .int .i64 y.unt, .int .i64 y.q, .bool (wtV y.q)] := by
    simp [Program.keyLits, Try.underlying68, Try.underlying23, Try.underlying5, Try.underlying39, Try.underlying3, Try.underlying4, cellsNb, cellsMac, cellsU8, cellsU32, cellsInt, cellsBo, Value.cells, List.range_succ, wf_u8 _ h0, wf_u8 _ h1, wf_u8 _ h2, wf_u8 _ h3, wf_u8 _ h4, wf_u8 _ h5, wf_u32 _ hip, wf_i64 _ hst, wf_i64 _ hun, wf_i64 _ hqq]
  have hf : (Value.formed Try.prog 68 (.agg #[.int .u32 y.ip, .int .u8 y.mac.b0, .int .u8 y.mac.b1, .int .u8 y.mac.b2, .int .u8 y.mac.b3, .int .u8 y.mac.b4, .int .u8 y.mac.b5, .int .i64 (stV y.q), .int .i64 y.unt, .int .i64 y.q, .bool (wtV y.q)])) = true := by
    simp [Value.formed, Try.underlying68, cellsNb]
  obtain ⟨r, hr, hi⟩ := run_equalIn_deep (P := Try.prog) 9997 3 68 keyNb w 4 4 _ _ _ _ hf hf hk hk
  rw [hr, hi.2 rfl]
theorem nb_get : ∀ (l : List Ab) (k j : Nat) (p : Ab), l[k]? = some p → j < 11 → (nbs l)[k * 11 + j]? = (lookC p)[j]?
  | [], k, j, p, h, _ => by simp at h
  | x :: l, 0, j, p, h, hj => by
    simp at h; subst h
    simp only [nbs, List.flatMap_cons, Nat.zero_mul, Nat.zero_add]
    rw [List.getElem?_append_left (by simp [lookC, nbC]; omega), Array.getElem?_toList]
  | x :: l, k + 1, j, p, h, hj => by
    simp at h
    have ih := nb_get l k j p h hj
    simp only [nbs, List.flatMap_cons] at ih ⊢
    rw [List.getElem?_append_right (by simp [lookC, nbC]; omega)]
    rw [show (k + 1) * 11 + j - (lookC x).toList.length = k * 11 + j from by simp [lookC, nbC]; omega]
    exact ih
theorem nb_ent {w : World} {a : Option Addr} {cp : Nat} {l : List Ab} (h : RowS w 68 11 (.slice a l.length cp) l.length (nbs l)) {k : Nat} {p : Ab} (hp : l[k]? = some p) : ∃ g, a = some ⟨g, 0, none⟩ ∧ ∀ j, j < 11 → w.cell? ⟨g, k * 11 + j, none⟩ = (lookC p)[j]? := by
  have hk : k < l.length := (List.getElem?_eq_some_iff.1 hp).1
  obtain ⟨g, cap, h1, h2, h3⟩ := h.some_of (by omega)
  simp only [Value.slice.injEq] at h1
  obtain ⟨rfl, _, rfl⟩ := h1
  refine ⟨g, rfl, fun j hj => ?_⟩
  have h4 := nb_get l k j p hp hj
  have h5 : j < (lookC p).size := by simp [lookC, nbC]; omega
  rw [Array.getElem?_eq_getElem h5] at h4 ⊢
  exact RowS.cell h h4
set_option maxRecDepth 40000 in
set_option maxHeartbeats 8000000 in
theorem same_neighs (w : World) (a b : Option Addr) (cp cq : Nat) (l : List Ab) (h1 : RowS w 68 11 (.slice a l.length cp) l.length (nbs l)) (h2 : RowS w 68 11 (.slice b l.length cq) l.length (nbs l)) (hz : ∀ y ∈ l, y.ok) (hb : l.length ≤ 64) :
    Calls Try.prog 33 #[.slice a l.length cp, .slice b l.length cq] w fun e w' => e = .returned (.bool true) ∧ ∃ k, w' = w.drewN k := by
  have H1 := hid h1
  have H2 := hid h2
  have HZ := hid hz
  clear h1 h2 hz
  go_enter Try.func33, Try.ntmps33
  go_wp2_with fail
  go_loopw [5] (fun v wr => ∃ (k q : Nat), v = .int .i64 k ∧ k ≤ l.length ∧ wr = w.drewN q) (fun v _ => l.length - (intOf3 v).toNat)
  case atStart => exact ⟨0, 0, rfl, Nat.zero_le _, rfl⟩
  case round =>
    obtain ⟨k, q, rfl, hk, hwr⟩ := hrel
    have HW := hid hwr
    clear hwr
    by_cases hkl : k < l.length
    · obtain ⟨y, hp⟩ : ∃ p, l[k]? = some p := ⟨_, List.getElem?_eq_getElem hkl⟩
      have hbel : Below w.heap.size w wr := by rw [HW.out]; exact bdrewN w q
      obtain ⟨g, rfl, hc⟩ := nb_ent (H1.out.below hbel) hp
      obtain ⟨g', rfl, hc'⟩ := nb_ent (H2.out.below hbel) hp
      have eM := fun W => nb_same y (HZ.out y (List.mem_of_getElem? hp)) W
      have c0 : wr.cell? ⟨g, k * 11, none⟩ = some (.int .u32 y.ip) := hc 0 (by omega)
      have c1 : wr.cell? ⟨g, k * 11 + 1, none⟩ = some (.int .u8 y.mac.b0) := hc 1 (by omega)
      have c2 : wr.cell? ⟨g, k * 11 + 2, none⟩ = some (.int .u8 y.mac.b1) := hc 2 (by omega)
      have c3 : wr.cell? ⟨g, k * 11 + 3, none⟩ = some (.int .u8 y.mac.b2) := hc 3 (by omega)
      have c4 : wr.cell? ⟨g, k * 11 + 4, none⟩ = some (.int .u8 y.mac.b3) := hc 4 (by omega)
      have c5 : wr.cell? ⟨g, k * 11 + 5, none⟩ = some (.int .u8 y.mac.b4) := hc 5 (by omega)
      have c6 : wr.cell? ⟨g, k * 11 + 6, none⟩ = some (.int .u8 y.mac.b5) := hc 6 (by omega)
      have c7 : wr.cell? ⟨g, k * 11 + 7, none⟩ = some (.int .i64 (stV y.q)) := hc 7 (by omega)
      have c8 : wr.cell? ⟨g, k * 11 + 8, none⟩ = some (.int .i64 y.unt) := hc 8 (by omega)
      have c9 : wr.cell? ⟨g, k * 11 + 9, none⟩ = some (.int .i64 y.q) := hc 9 (by omega)
      have c10 : wr.cell? ⟨g, k * 11 + 10, none⟩ = some (.bool (wtV y.q)) := hc 10 (by omega)
      have d0 : wr.cell? ⟨g', k * 11, none⟩ = some (.int .u32 y.ip) := hc' 0 (by omega)
      have d1 : wr.cell? ⟨g', k * 11 + 1, none⟩ = some (.int .u8 y.mac.b0) := hc' 1 (by omega)
      have d2 : wr.cell? ⟨g', k * 11 + 2, none⟩ = some (.int .u8 y.mac.b1) := hc' 2 (by omega)
      have d3 : wr.cell? ⟨g', k * 11 + 3, none⟩ = some (.int .u8 y.mac.b2) := hc' 3 (by omega)
      have d4 : wr.cell? ⟨g', k * 11 + 4, none⟩ = some (.int .u8 y.mac.b3) := hc' 4 (by omega)
      have d5 : wr.cell? ⟨g', k * 11 + 5, none⟩ = some (.int .u8 y.mac.b4) := hc' 5 (by omega)
      have d6 : wr.cell? ⟨g', k * 11 + 6, none⟩ = some (.int .u8 y.mac.b5) := hc' 6 (by omega)
      have d7 : wr.cell? ⟨g', k * 11 + 7, none⟩ = some (.int .i64 (stV y.q)) := hc' 7 (by omega)
      have d8 : wr.cell? ⟨g', k * 11 + 8, none⟩ = some (.int .i64 y.unt) := hc' 8 (by omega)
      have d9 : wr.cell? ⟨g', k * 11 + 9, none⟩ = some (.int .i64 y.q) := hc' 9 (by omega)
      have d10 : wr.cell? ⟨g', k * 11 + 10, none⟩ = some (.bool (wtV y.q)) := hc' 10 (by omega)
      clear hc hc' hbel hp H1 H2
      generalize stV y.q = sv at *
      generalize wtV y.q = wv at *
      have hk0 : (0 : Int) ≤ (k : Int) := by omega
      have hkm : (k : Int) < (l.length : Int) := by omega
      go_wp2_with fail
      go_quiet (fail)
      go_wp2_with fail
      go_roundw
      case rel => exact ⟨k + 1, q + nq, by first | rfl | (congr 1; omega), by omega, by rw [HW.out]; simp [World.drewN, Nat.add_assoc]⟩
      case measure => simp only [intOf3]; omega
    · have hkk : k = l.length := by omega
      clear hkl
      go_wp2_with fail
      go_ret
      exact ⟨rfl, q, HW.out⟩
end Go.Proofs.Ytdgjpikphooilaa

/-
  The book of BBook, BBookP and BOwned once more, for up to 5000000000000 lists (namespace Big).
-/
/-
  The statements' book of lists that came out: Take. For every seat.
-/
namespace Go.Proofs.Ytdgjpikphooilaa.Big
open Go.RowKit
set_option linter.all false

theorem infoSl : (Try.prog.info? 40).map (fun i => (i.zero, i.size, i.bytes)) = some (some (.slice none 0 0), 1, 24) := by kernel_rfl
theorem infoStr : (Try.prog.info? 9).map (fun i => (i.zero, i.size, i.bytes)) = some (some (.string ⟨#[]⟩), 1, 16) := by kernel_rfl

/-- block k is one of the book's own. -/
def InBook (gk : Nat) (L V : Value) (k : Nat) : Prop := k = gk ∨ L.ownBlock = some k ∨ V.ownBlock = some k
/-- the book at gk holds the lists ls: each as a value and the bytes that it had; no two of them share a block, none lies in a block of the book's. -/
structure BookI (w : World) (B gk : Nat) (L V : Value) (ls : List (Value × List Int)) : Prop where
  box : w.heap[gk]? = some (.cells #[L, V] 35 (0, 0))
  lists : Row w 40 L (ls.map Prod.fst)
  was : Row w 9 V (ls.map fun p => .string (strOfNums p.2))
  low : ∀ k, InBook gk L V k → B ≤ k
  bL : L.ownBlock ≠ some gk
  bV : V.ownBlock ≠ some gk
  bLV : ∀ b, L.ownBlock = some b → V.ownBlock ≠ some b
  rows : ∀ p, p ∈ ls → Row w 5 p.1 (u8s p.2) ∧ (∀ z, z ∈ p.2 → 0 ≤ z ∧ z ≤ 255) ∧ p.2.length ≤ 140737488351232
  own : ∀ (j : Nat) p, ls[j]? = some p → ∀ b, p.1.ownBlock = some b → B ≤ b ∧ ¬ InBook gk L V b ∧ ∀ (j' : Nat) p', j' ≠ j → ls[j']? = some p' → p'.1.ownBlock ≠ some b
  few : ls.length ≤ 5000000000000

theorem Row.one {w : World} {e : TypeId} {v : Value} {vs : List Value} (h : Row w e v vs) : v.oneCell' = true := by
  rcases h with ⟨rfl, _⟩ | ⟨g, cap, cur, lo, hi, rfl, _⟩ <;> rfl
theorem slice_one (a : Option Addr) (l c : Nat) : (Value.slice a l c).oneCell' = true := rfl
theorem string_one (s : ByteArray) : (Value.string s).oneCell' = true := rfl
theorem BookI.new (w : World) (B : Nat) (hB : B ≤ w.heap.size) : BookI (w.alloc (.cells #[.slice none 0 0, .slice none 0 0] 35)) B w.heap.size (.slice none 0 0) (.slice none 0 0) [] :=
  ⟨heap_new _ _, Row.nil _ _, Row.nil _ _, fun k hk => by rcases hk with rfl | h | h <;> simp_all [Value.ownBlock], by simp [Value.ownBlock], by simp [Value.ownBlock], by simp [Value.ownBlock], by simp, by simp, by simp⟩
/-- what the book leaves alone is let alone. -/
theorem BookI.keep {w w' : World} {B gk : Nat} {L V : Value} {ls : List (Value × List Int)} (h : BookI w B gk L V ls) (hk : ∀ k, InBook gk L V k → w'.heap[k]? = w.heap[k]?) (hl : ∀ p, p ∈ ls → ∀ b, p.1.ownBlock = some b → w'.heap[b]? = w.heap[b]?) : BookI w' B gk L V ls :=
  ⟨(hk gk (Or.inl rfl)).trans h.box, h.lists.keep fun b hb => hk b (Or.inr (Or.inl hb)), h.was.keep fun b hb => hk b (Or.inr (Or.inr hb)), h.low, h.bL, h.bV, h.bLV, fun p hp => ⟨(h.rows p hp).1.keep fun b hb => hl p hp b hb, (h.rows p hp).2⟩, h.own, h.few⟩
theorem BookI.lt {w : World} {B gk : Nat} {L V : Value} {ls : List (Value × List Int)} (h : BookI w B gk L V ls) : ∀ k, InBook gk L V k → k < w.heap.size := fun k hk => by
  rcases hk with rfl | hk | hk
  · exact heap_lt h.box
  · exact h.lists.lt hk
  · exact h.was.lt hk
theorem BookI.below {w w' : World} {B gk : Nat} {L V : Value} {ls : List (Value × List Int)} (h : BookI w B gk L V ls) (hb : Below w.heap.size w w') : BookI w' B gk L V ls :=
  h.keep (fun k hk => hb.block k (h.lt k hk)) (fun p hp b hv => hb.block b ((h.rows p hp).1.lt hv))

/-- an append moves a slice to a block from N on, or leaves it in its own. -/
def Moved (N : Nat) (v v' : Value) : Prop := ∃ g n c, v' = .slice (some ⟨g, 0, none⟩) n c ∧ (v.ownBlock = some g ∨ N ≤ g)
theorem Moved.of {N : Nat} {w w' : World} {v v' : Value} {n : Nat} (h : (∃ g cap, v = .slice (some ⟨g, 0, none⟩) n cap ∧ v' = .slice (some ⟨g, 0, none⟩) (n + 1) cap) ∨ ∃ g cap, v' = .slice (some ⟨g, 0, none⟩) (n + 1) cap ∧ w.heap.size ≤ g ∧ w.grownBy w' none) (hN : N ≤ w.heap.size) : Moved N v v' := by
  rcases h with ⟨g, cap, rfl, rfl⟩ | ⟨g, cap, rfl, hg, _⟩
  · exact ⟨g, _, _, rfl, Or.inl rfl⟩
  · exact ⟨g, _, _, rfl, Or.inr (by omega)⟩
theorem Moved.own {N : Nat} {v v' : Value} (h : Moved N v v') {b : Nat} (hb : v'.ownBlock = some b) : v.ownBlock = some b ∨ N ≤ b := by
  obtain ⟨g, n, c, rfl, hg⟩ := h
  simp [Value.ownBlock] at hb
  subst hb
  exact hg
theorem BookI.step {w w4 : World} {B gk : Nat} {L V L' V' v : Value} {ls : List (Value × List Int)} {zs : List Int} (h : BookI w B gk L V ls) (hB : B ≤ w.heap.size) (hr : Row w 5 v (u8s zs)) (hz : ∀ z, z ∈ zs → 0 ≤ z ∧ z ≤ 255) (hl : zs.length ≤ 140737488351232) (hf : ls.length < 5000000000000)
    (ho : ∀ b, v.ownBlock = some b → B ≤ b ∧ ¬ InBook gk L V b ∧ ∀ p, p ∈ ls → p.1.ownBlock ≠ some b)
    (box : w4.heap[gk]? = some (.cells #[L', V'] 35 (0, 0))) (rL : Row w4 40 L' (ls.map Prod.fst ++ [v])) (rV : Row w4 9 V' ((ls.map fun p => .string (strOfNums p.2)) ++ [.string (strOfNums zs)]))
    (mL : Moved w.heap.size L L') (mV : Moved w.heap.size V V') (bLV : ∀ b, L'.ownBlock = some b → V'.ownBlock ≠ some b) (hk : ∀ k, k < w.heap.size → ¬ InBook gk L V k → w4.heap[k]? = w.heap[k]?) :
    BookI w4 B gk L' V' (ls ++ [(v, zs)]) ∧ (∀ k, InBook gk L' V' k → InBook gk L V k ∨ w.heap.size ≤ k) := by
  have hgk := heap_lt h.box
  have fresh : ∀ k, InBook gk L' V' k → InBook gk L V k ∨ w.heap.size ≤ k := fun k hk => by
    rcases hk with rfl | hk | hk
    · exact Or.inl (Or.inl rfl)
    · rcases mL.own hk with h1 | h1
      · exact Or.inl (Or.inr (Or.inl h1))
      · exact Or.inr h1
    · rcases mV.own hk with h1 | h1
      · exact Or.inl (Or.inr (Or.inr h1))
      · exact Or.inr h1
  have notIn : ∀ b, b < w.heap.size → ¬ InBook gk L V b → ¬ InBook gk L' V' b := fun b hb hn hi => by
    rcases fresh b hi with h1 | h1
    · exact hn h1
    · omega
  have rows' : ∀ p, p ∈ ls → Row w4 5 p.1 (u8s p.2) := fun p hp => (h.rows p hp).1.keep fun b hb => by
    obtain ⟨j, hj⟩ := List.getElem?_of_mem hp
    exact hk b ((h.rows p hp).1.lt hb) (h.own j p hj b hb).2.1
  refine ⟨⟨box, by simpa using rL, by simpa using rV, fun k hk => ?_, fun e => ?_, fun e => ?_, bLV, fun p hp => ?_, fun j p hj b hb => ?_, by simp; omega⟩, fresh⟩
  · rcases fresh k hk with h1 | h1
    · exact h.low k h1
    · omega
  · rcases mL.own e with h1 | h1
    · exact h.bL h1
    · omega
  · rcases mV.own e with h1 | h1
    · exact h.bV h1
    · omega
  · rcases List.mem_append.1 hp with hp | hp
    · exact ⟨rows' p hp, (h.rows p hp).2⟩
    · simp at hp
      subst hp
      exact ⟨hr.keep fun b hb => hk b (hr.lt hb) (ho b hb).2.1, hz, hl⟩
  · rcases Nat.lt_or_ge j ls.length with hj1 | hj1
    · rw [List.getElem?_append_left hj1] at hj
      obtain ⟨o1, o2, o3⟩ := h.own j p hj b hb
      have hbs : b < w.heap.size := (h.rows p (List.mem_of_getElem? hj)).1.lt hb
      refine ⟨o1, notIn b hbs o2, fun j' p' hne hj' => ?_⟩
      rcases Nat.lt_or_ge j' ls.length with hj2 | hj2
      · rw [List.getElem?_append_left hj2] at hj'
        exact o3 j' p' hne hj'
      · rw [List.getElem?_append_right hj2] at hj'
        have : p' = (v, zs) := by
          rcases Nat.eq_zero_or_pos (j' - ls.length) with h0 | h0
          · rw [h0] at hj'; simpa using hj'.symm
          · rw [List.getElem?_eq_none (by simp; omega)] at hj'; simp at hj'
        subst this
        exact fun e => (ho b e).2.2 p (List.mem_of_getElem? hj) hb
    · rw [List.getElem?_append_right hj1] at hj
      have : p = (v, zs) := by
        rcases Nat.eq_zero_or_pos (j - ls.length) with h0 | h0
        · rw [h0] at hj; simpa using hj.symm
        · rw [List.getElem?_eq_none (by simp; omega)] at hj; simp at hj
      subst this
      obtain ⟨o1, o2, o3⟩ := ho b hb
      have hjl : j = ls.length := by
        rcases Nat.eq_zero_or_pos (j - ls.length) with h0 | h0
        · omega
        · rw [List.getElem?_eq_none (by simp; omega)] at hj; simp at hj
      refine ⟨o1, notIn b (hr.lt hb) o2, fun j' p' hne hj' => ?_⟩
      have hj2 : j' < ls.length := by
        have := (List.getElem?_eq_some_iff.1 hj').1
        simp at this
        omega
      rw [List.getElem?_append_left hj2] at hj'
      exact o3 p' (List.mem_of_getElem? hj')

set_option maxRecDepth 20000 in
set_option maxHeartbeats 1000000 in
theorem take_any (gk : Nat) (L V v : Value) (ls : List (Value × List Int)) (zs : List Int) (B : Nat) (w : World) (h : BookI w B gk L V ls) (hB : B ≤ w.heap.size) (hr : Row w 5 v (u8s zs)) (hz : ∀ z, z ∈ zs → 0 ≤ z ∧ z ≤ 255) (hl : zs.length ≤ 140737488351232) (hf : ls.length < 5000000000000)
    (ho : ∀ b, v.ownBlock = some b → B ≤ b ∧ ¬ InBook gk L V b ∧ ∀ p, p ∈ ls → p.1.ownBlock ≠ some b) :
    Calls Try.prog 58 #[.pointer (some ⟨gk, 0, none⟩), v] w fun e w' => e = .returned (.tuple #[]) ∧ ∃ L' V', BookI w' B gk L' V' (ls ++ [(v, zs)]) ∧ (∀ k, k < w.heap.size → ¬ InBook gk L V k → w'.heap[k]? = w.heap[k]?) ∧ (∀ k, InBook gk L' V' k → InBook gk L V k ∨ w.heap.size ≤ k) ∧ Below B w w' := by
  obtain ⟨a, c, hv, _⟩ := hr.form
  obtain ⟨aL, cL, hLe, _⟩ := h.lists.form
  obtain ⟨aV, cV, hVe, _⟩ := h.was.form
  obtain ⟨pt, hpv, hpz, hpo⟩ := hr.part hz
  rw [u8s_len] at hv
  have hgk := heap_lt h.box
  -- the lists
  have r0 : Row (w.alloc (.cells #[v] 40)) 40 L (ls.map Prod.fst) := h.lists.below ((Below.refl _ _).alloc (Nat.le_refl _) _)
  obtain ⟨L', w1, hap0, rL, hgr0, hL'⟩ := append_one 32 32 40 _ 24 Try.underlying32 infoSl rfl r0 v hr.one w.heap.size _ (heap_new _ _) (by simp; unfold maxLen; omega) (by simp; omega)
  have m0 : Moved w.heap.size L L' := Moved.of hL' (by simp)
  obtain ⟨gL, nL, cL', hL'e, xx0⟩ := id m0
  have sz0 : w.heap.size + 1 ≤ w1.heap.size := by have := hgr0.size; simpa using this
  have box1 : w1.heap[gk]? = some (.cells #[L, V] 35 (0, 0)) := (hgr0.block gk (by simp; omega) (fun e => h.bL e.symm)).trans ((heap_old _ _ hgk).trans h.box)
  have rV1 : Row w1 9 V (ls.map fun p => .string (strOfNums p.2)) := (h.was.below ((Below.refl _ _).alloc (Nat.le_refl _) _)).grown hgr0 (fun b hb e => h.bLV b e hb)
  have keep1 : ∀ k, k < w.heap.size → L.ownBlock ≠ some k → w1.heap[k]? = w.heap[k]? := fun k hk hn => (hgr0.block k (by simp; omega) (fun e => hn e.symm)).trans (heap_old _ _ hk)
  have nL' : L'.ownBlock ≠ some gk := fun e => by rcases m0.own e with h1 | h1; · exact h.bL h1
                                                  · omega
  -- the box behind the first store
  have hw2 : ∃ w2, w2 = w1.setCell ⟨gk, 0, none⟩ L' := ⟨_, rfl⟩
  obtain ⟨w2, hw2⟩ := hw2
  have box2 : w2.heap[gk]? = some (.cells #[L', V] 35 (0, 0)) := by rw [hw2]; exact heap_setCell box1
  have hg2 : w1.grownBy w2 (some gk) := by rw [hw2]; exact grown_setCell w1 gk 0 L'
  have rL2 := rL.grown hg2 (fun b hb e => by simp only [Option.some.injEq] at e; subst e; exact nL' hb)
  have rV2 := rV1.grown hg2 (fun b hb e => by simp only [Option.some.injEq] at e; subst e; exact h.bV hb)
  -- what was
  have r1 : Row (w2.alloc (.cells #[.string (strOfNums zs)] 9)).drew 9 V (ls.map fun p => .string (strOfNums p.2)) := rV2.below (((Below.refl _ w2).alloc (Nat.le_refl _) _).drew)
  obtain ⟨V', w3, hap1, rV3, hgr1, hV'⟩ := append_one 33 33 9 _ 16 Try.underlying33 infoStr rfl r1 (.string (strOfNums zs)) rfl w2.heap.size _ (heap_new w2 _) (by simp; unfold maxLen; omega) (by simp; omega)
  have sz2 : w2.heap.size = w1.heap.size := by rw [hw2]; simp [World.setCell]
  have m1 : Moved w2.heap.size V V' := Moved.of hV' (by simp)
  obtain ⟨gV, nV, cV', hV'e, xx1⟩ := id m1
  have mV : Moved w.heap.size V V' := by
    obtain ⟨g, n, c', e1, e2⟩ := m1
    exact ⟨g, n, c', e1, e2.imp id (fun e => by omega)⟩
  have lt2 : gk < w2.heap.size := heap_lt box2
  have sz3 : w2.heap.size + 1 ≤ w3.heap.size := by have := hgr1.size; simpa using this
  have box3 : w3.heap[gk]? = some (.cells #[L', V] 35 (0, 0)) := (hgr1.block gk (by simp; omega) (fun e => h.bV e.symm)).trans ((heap_old w2 _ lt2).trans box2)
  have hLV : ∀ b, L'.ownBlock = some b → V.ownBlock ≠ some b := fun b hb e => by
    rcases m0.own hb with h1 | h1
    · exact h.bLV b h1 e
    · have := h.was.lt e; omega
  have rL3 : Row w3 40 L' (ls.map Prod.fst ++ [v]) := (rL2.below (((Below.refl _ w2).alloc (Nat.le_refl _) _).drew)).grown hgr1 (fun b hb e => hLV b hb e)
  have nV' : V'.ownBlock ≠ some gk := fun e => by rcases m1.own e with h1 | h1; · exact h.bV h1
                                                  · omega
  have bLV : ∀ b, L'.ownBlock = some b → V'.ownBlock ≠ some b := fun b hb e => by
    rcases m1.own e with h1 | h1
    · exact hLV b hb h1
    · have := rL2.lt hb; omega
  have hg4 : w3.grownBy (w3.setCell ⟨gk, 1, none⟩ V') (some gk) := grown_setCell w3 gk 1 V'
  have keep4 : ∀ k, k < w.heap.size → ¬ InBook gk L V k → (w3.setCell ⟨gk, 1, none⟩ V').heap[k]? = w.heap[k]? := fun k hk hn => by
    rw [hg4.block k (by omega) (fun e => hn (Or.inl (by simpa using e))), hgr1.block k (by simp; omega) (fun e => hn (Or.inr (Or.inr e.symm))), show (w2.alloc _).drew.heap[k]? = w2.heap[k]? from heap_old w2 _ (by omega), hg2.block k (by omega) (fun e => hn (Or.inl (by simpa using e))), keep1 k hk (fun e => hn (Or.inr (Or.inl e)))]
  have fin := h.step (w4 := w3.setCell ⟨gk, 1, none⟩ V') hB hr hz hl hf ho (heap_setCell box3) (rL3.grown hg4 (fun b hb e => by simp only [Option.some.injEq] at e; subst e; exact nL' hb)) (rV3.grown hg4 (fun b hb e => by simp only [Option.some.injEq] at e; subst e; exact nV' hb)) m0 mV bLV keep4
  have hbel : Below B w (w3.setCell ⟨gk, 1, none⟩ V') := ⟨hg4.os.trans (hgr1.os.trans (hg2.os.trans hgr0.os)), hg4.tape.trans (hgr1.tape.trans (hg2.tape.trans hgr0.tape)), hg4.output.trans (hgr1.output.trans (hg2.output.trans hgr0.output)), by have := hg4.size; omega, fun k hk => keep4 k (by omega) (fun hi => by have := h.low k hi; omega)⟩
  have HFIN : Hid (∃ L' V', BookI (w3.setCell ⟨gk, 1, none⟩ (.slice (some ⟨gV, 0, none⟩) nV cV')) B gk L' V' (ls ++ [(v, zs)]) ∧ (∀ k, k < w.heap.size → ¬ InBook gk L V k → (w3.setCell ⟨gk, 1, none⟩ (.slice (some ⟨gV, 0, none⟩) nV cV')).heap[k]? = w.heap[k]?) ∧ (∀ k, InBook gk L' V' k → InBook gk L V k ∨ w.heap.size ≤ k) ∧ Below B w (w3.setCell ⟨gk, 1, none⟩ (.slice (some ⟨gV, 0, none⟩) nV cV'))) := by
    rw [← hV'e]
    exact ⟨L', V', fin.1, keep4, fin.2, hbel⟩
  have HC0 : Hid (∀ q, w.cell? ⟨gk, q, none⟩ = (#[L, V] : Array Value)[q]?) := fun q => cell_of_heap h.box q
  have HC1 : Hid (∀ q, w1.cell? ⟨gk, q, none⟩ = (#[L, V] : Array Value)[q]?) := fun q => cell_of_heap box1 q
  have HZ1 : Hid (∀ q, w1.frozen? ⟨gk, q, none⟩ = false) := fun q => frozen_of_heap box1 q
  have HC2 : Hid (∀ q, w2.cell? ⟨gk, q, none⟩ = (#[L', V] : Array Value)[q]?) := fun q => cell_of_heap box2 q
  have HC3 : Hid (∀ q, w3.cell? ⟨gk, q, none⟩ = (#[L', V] : Array Value)[q]?) := fun q => cell_of_heap box3 q
  have HZ3 : Hid (∀ q, w3.frozen? ⟨gk, q, none⟩ = false) := fun q => frozen_of_heap box3 q
  have HCV : Hid ((convert 40 9 v).run Try.prog w2.drew = .ok (.string (strOfNums zs)) w2.drew) := by
    rw [hpv, ← hpz]
    refine conv_part pt _ ⟨hpo.1, hpo.2.1, ?_⟩
    rcases hpo.2.2 with he | ⟨b, o, hpa, hc⟩
    · exact Or.inl he
    · refine Or.inr ⟨b, o, hpa, fun j hj => ?_⟩
      have hlt := World.block_lt_of_cell? w _ (hc j hj)
      have hvb : v.ownBlock = some b := by rw [hpv]; simp [Part.val, hpa, Value.ownBlock]
      show w2.cell? _ = _
      have hn := (ho b hvb).2.1
      rw [World.cell?_of_block (w := w) (a := ⟨b, o + j, none⟩) (by rw [hg2.block b (by simp only at hlt; omega) (fun e => hn (Or.inl (by simpa using e))), keep1 b hlt (fun e => hn (Or.inr (Or.inl e)))]), hc j hj]
  have HAP0 := hid hap0
  have HAP1 := hid hap1
  have HW2 := hid hw2
  clear sz2 sz3 sz0 xx0 xx1 hap0 hap1 hw2 hV' hL' rL rV3 rL3 rL2 rV2 rV1 r0 r1 fin keep4 keep1 bLV hLV hg4 hgr0 hgr1 hg2 box1 box2 box3 hbel m0 m1 mV nL' nV' hpo hpv hpz h hr ho
  subst hv hLe hVe hL'e hV'e
  simp only [List.length_map] at *
  have hc0 := HC0.out
  have hc1 := HC1.out
  have hz1 := HZ1.out
  go_enter Try.func58, Try.ntmps58
  go_wp2_with (first | (at_builtin; refine wpList_append_run _ rfl (.tmp 8) (.tmp 10) 32 32 rfl _ _ rfl rfl HAP0.out ?_))
  rw [← HW2.out]
  clear hc0 hc1 hz1
  have hc2 := HC2.out
  have hcv := HCV.out
  have hc3 := HC3.out
  have hz3 := HZ3.out
  go_region_law (refine step_append_run rfl (.tmp 18) (.tmp 21) 33 33 rfl _ _ rfl rfl HAP1.out ?_)
  all_goals go_wp2
  all_goals exact bodyPost_end (v := .tuple #[]) (by simp [results, Try.results58, go_sem]) rfl ⟨rfl, HFIN.out⟩
end Go.Proofs.Ytdgjpikphooilaa.Big

/-
  The statements' book: what Owned keeps, round by round. For every seat.
-/
namespace Go.Proofs.Ytdgjpikphooilaa.Big
open Go.RowKit
set_option linter.all false

def markV (i n : Nat) : Int := ((i : Int) * 7 + (n : Int) * 13 + (i : Int) / 256 + 1) % 256
def marks (i n : Nat) : List Int := (List.range n).map (markV i)
theorem marks_len (i n : Nat) : (marks i n).length = n := by simp [marks]
theorem marks_succ (i n : Nat) : marks i (n + 1) = marks i n ++ [markV i n] := by simp [marks, List.range_succ]
theorem marks_at (i n j : Nat) (h : j < n) : (marks i n)[j]? = some (markV i j) := by simp [marks, h]
theorem marks_take (i n m : Nat) (h : m ≤ n) : (marks i n).take m = marks i m := by
  apply List.ext_getElem?
  intro j
  rw [List.getElem?_take]
  by_cases hj : j < m
  · rw [if_pos hj, marks_at i n j (by omega), marks_at i m j hj]
  · rw [if_neg hj, List.getElem?_eq_none (by rw [marks_len]; omega)]
theorem set_drop (a zs : List Int) (x : Int) (m : Nat) (hm : m = a.length) (h : m < zs.length) : (a ++ zs.drop m).set m x = (a ++ [x]) ++ zs.drop (m + 1) := by
  subst hm
  rw [List.set_append_right _ _ (Nat.le_refl _), Nat.sub_self, List.drop_eq_getElem_cons h, List.set_cons_zero, List.append_assoc]
  rfl
set_option maxHeartbeats 400000 in
theorem mark_any (i n : Nat) (w : World) (hi : i ≤ 5000000000000) (hn : n ≤ 281474976710656) : Calls Try.prog 35 #[.int .i64 i, .int .i64 n] w fun e w' => e = .returned (.int .u8 (markV i n)) ∧ w' = w := by
  have HM : Hid (((i : Int) * 7 + (n : Int) * 13 + (i : Int) / 256 + 1) % 256 = markV i n) := rfl
  go_enter Try.func35, Try.ntmps35
  go_wp2
  go_ret
  exact ⟨ret_int (by first | exact HM.out | (rw [← HM.out]; simp only [IntKind.wrap_u8])), rfl⟩

/-- v reads as zs at the head of its block. -/
def Reads (w : World) (v : Value) (zs : List Int) : Prop := ∀ j, j < zs.length → ∃ b cap, v = .slice (some ⟨b, 0, none⟩) zs.length cap ∧ w.cell? ⟨b, j, none⟩ = some (.int .u8 (zs.getD j 0))
theorem Reads.of_row {w : World} {v : Value} {zs : List Int} (h : Row w 5 v (u8s zs)) : Reads w v zs := fun j hj => by
  obtain ⟨g, cap, hv, hc⟩ := h.cell j (by rw [u8s_len]; exact hj)
  rw [u8s_len] at hv
  refine ⟨g, cap, hv, ?_⟩
  rw [hc]
  simp [u8s, hj]
theorem Reads.keep {w w' : World} {v : Value} {zs : List Int} (h : Reads w v zs) (hk : ∀ b, v.ownBlock = some b → b < w.heap.size → w'.heap[b]? = w.heap[b]?) : Reads w' v zs := fun j hj => by
  obtain ⟨b, cap, hv, hc⟩ := h j hj
  exact ⟨b, cap, hv, by rw [World.cell?_of_block (w := w) (a := ⟨b, j, none⟩) (hk b (by rw [hv]; rfl) (World.block_lt_of_cell? w _ hc)), hc]⟩
/-- a longer slice of the same block reads as the shorter one does. -/
theorem Reads.of_longer {w : World} {b n m cap : Nat} {zs ys : List Int} (h : Row w 5 (.slice (some ⟨b, 0, none⟩) m cap) (u8s ys)) (hp : ys.take zs.length = zs) : Reads w (.slice (some ⟨b, 0, none⟩) zs.length n) zs := fun j hj => by
  have hl : zs.length ≤ ys.length := by have := congrArg List.length hp; simp at this; omega
  obtain ⟨g, cap', hv, hc⟩ := h.cell j (by rw [u8s_len]; omega)
  simp only [Value.slice.injEq, Option.some.injEq, Addr.mk.injEq] at hv
  obtain ⟨⟨rfl, _⟩, _⟩ := hv
  refine ⟨b, n, rfl, ?_⟩
  rw [hc]
  have e : (ys.take zs.length)[j]? = zs[j]? := by rw [hp]
  rw [List.getElem?_take, if_pos hj] at e
  have hjy : j < ys.length := by omega
  simp only [u8s, List.getElem_map, List.getD_eq_getElem?_getD]
  rw [← e, List.getElem?_eq_getElem hjy]
  rfl

/-- behind k rounds of Owned's second loop: gv is the list of the grown ones, gvs. -/
structure OwnedI (w wr : World) (B gk : Nat) (L V : Value) (ls : List (Value × List Int)) (k : Nat) (gv : Value) (gvs : List Value) : Prop where
  len : gvs.length = k
  row : Row wr 40 gv gvs
  book : ∀ b, InBook gk L V b → wr.heap[b]? = w.heap[b]?
  later : ∀ j p b, k ≤ j → ls[j]? = some p → p.1.ownBlock = some b → wr.heap[b]? = w.heap[b]?
  done : ∀ j p, j < k → ls[j]? = some p → ∃ g, gvs[j]? = some g ∧ Row wr 5 g (u8s (marks j (p.2.length + 9))) ∧ Reads wr p.1 (marks j p.2.length) ∧ (g.ownBlock = p.1.ownBlock ∨ ∀ b, g.ownBlock = some b → w.heap.size ≤ b)
  apart : ∀ (j j' : Nat) g g' b, j ≠ j' → gvs[j]? = some g → gvs[j']? = some g' → g.ownBlock = some b → g'.ownBlock ≠ some b
  off : ∀ (j : Nat) g b, gvs[j]? = some g → g.ownBlock = some b → gv.ownBlock ≠ some b
  fresh : ∀ b, gv.ownBlock = some b → w.heap.size ≤ b
  size : w.heap.size ≤ wr.heap.size
  below : Below B w wr
  rest : ∀ b, b < w.heap.size → ¬ InBook gk L V b → (∀ p, p ∈ ls → p.1.ownBlock ≠ some b) → wr.heap[b]? = w.heap[b]?
theorem OwnedI.start {w wr : World} {B gk : Nat} {L V : Value} {ls : List (Value × List Int)} (hh : wr.heap = w.heap) (hb : Below B w wr) : OwnedI w wr B gk L V ls 0 (.slice none 0 0) [] :=
  ⟨rfl, Row.nil _ _, fun b _ => by rw [hh], fun j p b _ _ _ => by rw [hh], fun j p h => by omega, by simp, by simp, by simp [Value.ownBlock], by rw [hh]; exact Nat.le_refl _, hb, fun b _ _ _ => by rw [hh]⟩

/-- one round: list k is marked and grown between wr and w2, the list of the grown ones gets it between w2 and w3. -/
theorem OwnedI.step {w wr w2 w3 : World} {B gk : Nat} {L V gv gv' g : Value} {ls : List (Value × List Int)} {k : Nat} {gvs : List Value} {p : Value × List Int} (hB : B ≤ w.heap.size) (hbk : BookI w B gk L V ls) (h : OwnedI w wr B gk L V ls k gv gvs) (hp : ls[k]? = some p)
    (hg2 : wr.grownBy w2 p.1.ownBlock) (rg : Row w2 5 g (u8s (marks k (p.2.length + 9)))) (rd : Reads w2 p.1 (marks k p.2.length)) (hgb : g.ownBlock = p.1.ownBlock ∨ ∃ b, g.ownBlock = some b ∧ wr.heap.size ≤ b)
    (hg3 : w2.grownBy w3 gv.ownBlock) (rv : Row w3 40 gv' (gvs ++ [g])) (hm : Moved w2.heap.size gv gv') : OwnedI w w3 B gk L V ls (k + 1) gv' (gvs ++ [g]) := by
  have hl := h.len
  have hpm : p ∈ ls := List.mem_of_getElem? hp
  have plt : ∀ b, p.1.ownBlock = some b → b < w.heap.size := fun b hb => (hbk.rows p hpm).1.lt hb
  have s2 := hg2.size
  have s3 := hg3.size
  have ss := h.size
  have gvlt : ∀ b, gv.ownBlock = some b → b < wr.heap.size := fun b hb => h.row.lt hb
  -- a block of before that is neither list k's nor gv's
  have keep : ∀ b, b < wr.heap.size → p.1.ownBlock ≠ some b → gv.ownBlock ≠ some b → w3.heap[b]? = wr.heap[b]? := fun b hb h1 h2 => by
    rw [hg3.block b (by omega) (fun e => h2 e.symm), hg2.block b hb (fun e => h1 e.symm)]
  have old : ∀ b, b < w.heap.size → p.1.ownBlock ≠ some b → w3.heap[b]? = wr.heap[b]? := fun b hb h1 => keep b (by omega) h1 (fun e => by have := h.fresh b e; omega)
  have gblt : ∀ b, g.ownBlock = some b → b < w2.heap.size := fun b hb => rg.lt hb
  have goff : ∀ b, g.ownBlock = some b → gv.ownBlock ≠ some b := fun b hb e => by
    rcases hgb with h1 | ⟨b', h1, h2⟩
    · have a1 := plt b (by rw [← h1]; exact hb)
      have a2 := h.fresh b e
      omega
    · rw [hb] at h1
      simp only [Option.some.injEq] at h1
      have := gvlt b e
      omega
  have gnew : ∀ (j : Nat) g', gvs[j]? = some g' → ∀ b, g'.ownBlock = some b → g.ownBlock ≠ some b := fun j g' hj b hb e => by
    have hjk : j < k := by have := (List.getElem?_eq_some_iff.1 hj).1; omega
    obtain ⟨pj, hpj⟩ : ∃ pj, ls[j]? = some pj := by
      have : k < ls.length := (List.getElem?_eq_some_iff.1 hp).1
      exact ⟨ls[j]'(by omega), List.getElem?_eq_getElem _⟩
    obtain ⟨gj, hgj, rj, _, oj⟩ := h.done j pj hjk hpj
    rw [hj] at hgj
    simp only [Option.some.injEq] at hgj
    subst hgj
    rcases hgb with h1 | ⟨b', h1, h2⟩
    · rw [h1] at e
      rcases oj with o1 | o1
      · exact (hbk.own k p hp b e).2.2 j pj (by omega) hpj (by rw [← o1]; exact hb)
      · have a1 := o1 b hb
        have a2 := plt b e
        omega
    · rw [e] at h1
      simp only [Option.some.injEq] at h1
      have := rj.lt hb
      omega
  refine ⟨by simp [hl], rv, fun b hb => ?_, fun j pj b hj hpj hb => ?_, fun j pj hj hpj => ?_, fun j j' g1 g2 b hne h1 h2 hb => ?_, fun j g1 b h1 hb => ?_, fun b hb => ?_, by omega, ?_, fun b hlt hn hl => ?_⟩
  · have hlt := hbk.lt b hb
    rw [old b hlt (fun e => (hbk.own k p hp b e).2.1 hb), h.book b hb]
  · have hlt : b < w.heap.size := (hbk.rows pj (List.mem_of_getElem? hpj)).1.lt hb
    rw [old b hlt (fun e => (hbk.own j pj hpj b hb).2.2 k p (by omega) hp e), h.later j pj b (by omega) hpj hb]
  · rcases Nat.lt_or_ge j k with hjk | hjk
    · obtain ⟨gj, hgj, rj, dj, oj⟩ := h.done j pj hjk hpj
      refine ⟨gj, by rw [List.getElem?_append_left (by omega)]; exact hgj, rj.keep fun b hb => ?_, dj.keep fun b hb hlt => ?_, oj⟩
      · refine keep b (rj.lt hb) (fun e => ?_) (fun e => h.off j gj b hgj hb e)
        rcases oj with o1 | o1
        · exact (hbk.own k p hp b e).2.2 j pj (by omega) hpj (by rw [← o1]; exact hb)
        · have a1 := o1 b hb
          have a2 := plt b e
          omega
      · have hbw : b < w.heap.size := (hbk.rows pj (List.mem_of_getElem? hpj)).1.lt hb
        exact old b hbw (fun e => (hbk.own k p hp b e).2.2 j pj (by omega) hpj hb)
    · have hjk' : j = k := by omega
      subst hjk'
      rw [hp] at hpj
      simp only [Option.some.injEq] at hpj
      subst hpj
      refine ⟨g, by rw [List.getElem?_append_right (by omega), hl]; simp, rg.grown hg3 (fun b hb e => goff b hb e), rd.keep fun b hb hlt => ?_, ?_⟩
      · exact hg3.block b hlt (fun e => by
          have a1 := plt b hb
          have a2 := h.fresh b e.symm
          omega)
      · rcases hgb with h1 | ⟨b', h1, h2⟩
        · exact Or.inl h1
        · exact Or.inr fun b hb => by rw [hb] at h1; simp only [Option.some.injEq] at h1; omega
  · rcases Nat.lt_or_ge j k with hjk | hjk
    · rw [List.getElem?_append_left (by omega)] at h1
      rcases Nat.lt_or_ge j' k with hjk' | hjk'
      · rw [List.getElem?_append_left (by omega)] at h2
        exact h.apart j j' g1 g2 b hne h1 h2 hb
      · have hj' : j' = k := by have := (List.getElem?_eq_some_iff.1 h2).1; simp [hl] at this; omega
        subst hj'
        rw [List.getElem?_append_right (by omega), hl] at h2
        simp at h2
        subst h2
        exact gnew j g1 h1 b hb
    · have hj : j = k := by have := (List.getElem?_eq_some_iff.1 h1).1; simp [hl] at this; omega
      subst hj
      rw [List.getElem?_append_right (by omega), hl] at h1
      simp at h1
      subst h1
      have hj' : j' < j := by have := (List.getElem?_eq_some_iff.1 h2).1; simp [hl] at this; omega
      rw [List.getElem?_append_left (by omega)] at h2
      exact fun e => gnew j' g2 h2 b e hb
  · intro e
    have hblt : b < w2.heap.size ∧ gv.ownBlock ≠ some b := by
      rcases Nat.lt_or_ge j k with hjk | hjk
      · rw [List.getElem?_append_left (by omega)] at h1
        obtain ⟨pj, hpj⟩ : ∃ pj, ls[j]? = some pj := by
          have : k < ls.length := (List.getElem?_eq_some_iff.1 hp).1
          exact ⟨ls[j]'(by omega), List.getElem?_eq_getElem _⟩
        obtain ⟨gj, hgj, rj, _, _⟩ := h.done j pj hjk hpj
        rw [h1] at hgj
        simp only [Option.some.injEq] at hgj
        subst hgj
        have := rj.lt hb
        exact ⟨by omega, h.off j g1 b h1 hb⟩
      · have hj : j = k := by have := (List.getElem?_eq_some_iff.1 h1).1; simp [hl] at this; omega
        subst hj
        rw [List.getElem?_append_right (by omega), hl] at h1
        simp at h1
        subst h1
        exact ⟨gblt b hb, goff b hb⟩
    rcases hm.own e with h3 | h3
    · exact hblt.2 h3
    · omega
  · rcases hm.own hb with h3 | h3
    · exact h.fresh b h3
    · omega
  · exact ⟨hg3.os.trans (hg2.os.trans h.below.os), hg3.tape.trans (hg2.tape.trans h.below.tape), hg3.output.trans (hg2.output.trans h.below.output), by have := h.below.size; omega, fun b hb => by
      rw [old b (by omega) (fun e => by have := (hbk.own k p hp b e).1; omega), h.below.block b hb]⟩
  · rw [old b hlt (hl p hpm), h.rest b hlt hn hl]
theorem u8s_set (zs : List Int) (j : Nat) (x : Int) : (u8s zs).set j (.int .u8 x) = u8s (zs.set j x) := by simp [u8s, List.map_set]
theorem Row.head {w : World} {e : TypeId} {a : Option Addr} {n c : Nat} {vs : List Value} (h : Row w e (.slice a n c) vs) : n = vs.length ∧ (a = none ∨ ∃ b, a = some ⟨b, 0, none⟩ ∧ b < w.heap.size) := by
  rcases h with ⟨h1, rfl⟩ | ⟨g, cap, cur, lo, hi, hv, hg, _⟩
  · simp only [Value.slice.injEq] at h1
    exact ⟨by simp [h1.2.1], Or.inl h1.1⟩
  · simp only [Value.slice.injEq] at hv
    exact ⟨hv.2.1, Or.inr ⟨g, hv.1, heap_lt hg⟩⟩
/-- a byte is put behind a list that is being grown. -/
theorem grow_step {W0 wx : World} {a : Option Addr} {l c k q : Nat} {g : Value} (hrow : Row wx 5 g (u8s (marks k (l + q)))) (hrd : Reads wx (.slice a l c) (marks k l)) (hgb : g.ownBlock = (Value.slice a l c).ownBlock ∨ ∃ b, g.ownBlock = some b ∧ W0.heap.size ≤ b)
    (hgr : W0.grownBy wx (Value.slice a l c).ownBlock) (hlv : a = none ∨ ∃ b, a = some ⟨b, 0, none⟩ ∧ b < W0.heap.size) (hl : l ≤ 140737488351232) (hq : q ≤ 9) :
    ∃ gg nn cc w', (Builtin.append_ #[40, 40] 40 #[g, .slice (some ⟨wx.heap.size, 0, none⟩) 1 1]).run Try.prog (wx.alloc (.cells #[.int .u8 (markV k (l + q))] 5)) = .ok (.slice (some ⟨gg, 0, none⟩) nn cc) w' ∧
      W0.grownBy w' (Value.slice a l c).ownBlock ∧ Row w' 5 (.slice (some ⟨gg, 0, none⟩) nn cc) (u8s (marks k (l + (q + 1)))) ∧ Reads w' (.slice a l c) (marks k l) ∧ ((Value.slice (some ⟨gg, 0, none⟩) nn cc).ownBlock = (Value.slice a l c).ownBlock ∨ ∃ b, (Value.slice (some ⟨gg, 0, none⟩) nn cc).ownBlock = some b ∧ W0.heap.size ≤ b) := by
  have ra := hrow.below (w' := wx.alloc (.cells #[.int .u8 (markV k (l + q))] 5)) ((Below.refl _ _).alloc (Nat.le_refl _) _)
  have hsz := hgr.size
  obtain ⟨g', w', hrun, row', hgr', hcase⟩ := append_one 40 40 5 _ 1 Try.underlying40 infoU8 rfl ra (.int .u8 (markV k (l + q))) rfl wx.heap.size _ (heap_new _ _) (by rw [u8s_len, marks_len]; unfold maxLen; omega) (by rw [u8s_len, marks_len]; omega)
  have erow : u8s (marks k (l + q)) ++ [Value.int .u8 (markV k (l + q))] = u8s (marks k (l + (q + 1))) := by
    rw [show l + (q + 1) = l + q + 1 by omega, marks_succ, u8s_app]; rfl
  rw [erow] at row'
  have hgr2 : W0.grownBy w' (Value.slice a l c).ownBlock := by
    refine grown_trans (grown_trans hgr (grown_alloc wx _ _) (Or.inl rfl)) hgr' ?_
    rcases hgb with h1 | ⟨b, h1, h2⟩
    · exact Or.inl h1
    · exact Or.inr fun g hg => by rw [h1] at hg; simp only [Option.some.injEq] at hg; omega
  rcases hcase with ⟨g0, cap, e1, e2⟩ | ⟨g0, cap, e2, hnew, hnone⟩
  · subst e1 e2
    refine ⟨g0, _, cap, w', hrun, hgr2, row', ?_, ?_⟩
    · rcases hlv with rfl | ⟨b, rfl, hb⟩
      · intro j hj
        obtain ⟨b, cap, hv, _⟩ := hrd j hj
        simp at hv
      · rcases hgb with h1 | ⟨b', h1, h2⟩
        · simp [Value.ownBlock] at h1
          subst h1
          have := Reads.of_longer (n := c) (zs := marks k l) row' (by rw [marks_len]; exact marks_take _ _ _ (by omega))
          rw [marks_len] at this
          exact this
        · refine hrd.keep fun b2 hb2 hlt => ?_
          simp [Value.ownBlock] at hb2
          subst hb2
          rw [hgr'.block b (by simp; omega) (fun e => by rw [h1] at e; simp only [Option.some.injEq] at e; omega)]
          exact heap_old wx _ hlt
    · exact hgb
  · subst e2
    refine ⟨g0, _, cap, w', hrun, hgr2, row', ?_, Or.inr ⟨g0, rfl, by simp at hnew; omega⟩⟩
    refine hrd.keep fun b2 hb2 hlt => ?_
    rw [hnone.block b2 (by simp; omega) (by simp)]
    exact heap_old wx _ hlt
end Go.Proofs.Ytdgjpikphooilaa.Big

/-
  The statements' book: Owned. For every seat.
-/
namespace Go.Proofs.Ytdgjpikphooilaa.Big
open Go.RowKit
set_option linter.all false

theorem BookI.at {w : World} {B gk : Nat} {L V : Value} {ls : List (Value × List Int)} (h : BookI w B gk L V ls) {k : Nat} {p : Value × List Int} (hk : ls[k]? = some p) :
    ∃ gL cL gV cV, L = .slice (some ⟨gL, 0, none⟩) ls.length cL ∧ V = .slice (some ⟨gV, 0, none⟩) ls.length cV ∧ w.cell? ⟨gL, k, none⟩ = some p.1 ∧ w.cell? ⟨gV, k, none⟩ = some (.string (strOfNums p.2)) := by
  obtain ⟨hlt, hp⟩ := List.getElem?_eq_some_iff.1 hk
  obtain ⟨gL, cL, e1, c1⟩ := h.lists.cell k (by simpa using hlt)
  obtain ⟨gV, cV, e2, c2⟩ := h.was.cell k (by simpa using hlt)
  simp only [List.length_map, List.getElem_map] at e1 c1 e2 c2
  rw [hp] at c1 c2
  exact ⟨gL, cL, gV, cV, e1, e2, c1, c2⟩
theorem BookI.conv {w : World} {B gk : Nat} {L V : Value} {ls : List (Value × List Int)} (h : BookI w B gk L V ls) {p : Value × List Int} (hp : p ∈ ls) (m : Nat) : (convert 40 9 p.1).run Try.prog (w.drewN m) = .ok (.string (strOfNums p.2)) (w.drewN m) := by
  obtain ⟨pt, e1, e2, ok⟩ := (h.rows p hp).1.part (h.rows p hp).2.1
  rw [e1, ← e2]
  exact conv_part pt _ (Part.ok_drewN ok m)
theorem BookI.heap_eq {w wr : World} {B gk : Nat} {L V : Value} {ls : List (Value × List Int)} (h : BookI w B gk L V ls) (hh : wr.heap = w.heap) : BookI wr B gk L V ls := h.keep (fun k _ => by rw [hh]) (fun p _ b _ => by rw [hh])
theorem str_same (s : ByteArray) : (s != s) = false := by
  have : (s == s) = true := by
    cases s with | mk d => show (d == d) = true; simp
  show (!(s == s)) = false
  rw [this]; rfl

set_option maxRecDepth 20000 in
set_option maxHeartbeats 2000000 in
theorem owned_any (gk : Nat) (L V : Value) (ls : List (Value × List Int)) (B : Nat) (w : World) (h : BookI w B gk L V ls) (hB : B ≤ w.heap.size) :
    Calls Try.prog 10 #[.pointer (some ⟨gk, 0, none⟩)] w fun e w' => e = .returned (.bool true) ∧ Below B w w' ∧ (∀ b, b < w.heap.size → ¬ InBook gk L V b → (∀ p, p ∈ ls → p.1.ownBlock ≠ some b) → w'.heap[b]? = w.heap[b]?) := by
  obtain ⟨N, hN⟩ : ∃ N, ls.length = N := ⟨_, rfl⟩
  have HN := hid hN
  have hNb : N ≤ 5000000000000 := by rw [← hN]; exact h.few
  obtain ⟨aL, cL, hLe, hjunk⟩ := h.lists.form
  rw [List.length_map, hN] at hLe
  have HBK := hid h
  have HBB := hid hB
  have HC : Hid (∀ wr : World, wr.heap[gk]? = w.heap[gk]? → ∀ q, wr.cell? ⟨gk, q, none⟩ = (#[L, V] : Array Value)[q]?) := fun wr hw q => cell_of_heap (hw.trans h.box) q
  clear hN hB h hjunk
  subst hLe
  go_enter Try.func10, Try.ntmps10
  go_wp2
  go_loopw [3] (fun i wr => ∃ k : Nat, k ≤ N ∧ i = .int .i64 k ∧ wr.heap = w.heap ∧ Below B w wr) (fun i _ => N - (intOf i).toNat)
  case atStart => exact ⟨0, Nat.zero_le _, rfl, rfl, Below.refl _ _⟩
  case round =>
    obtain ⟨k, hk, rfl, hh, hb⟩ := hrel
    have HH := hid hh
    have HB := hid hb
    have hc := HC.out wr (by rw [hh])
    clear hh hb
    by_cases hlt : k < N
    · obtain ⟨p, hp⟩ : ∃ p, ls[k]? = some p := ⟨ls[k]'(by rw [HN.out]; exact hlt), List.getElem?_eq_getElem _⟩
      have hbr := HBK.out.heap_eq HH.out
      obtain ⟨gL, cL', gV, cV', eL, eV, c1, c2⟩ := hbr.at hp
      have hcv := hbr.conv (List.mem_of_getElem? hp)
      obtain ⟨a, c, e3, _⟩ := (hbr.rows p (List.mem_of_getElem? hp)).1.form
      rw [u8s_len] at e3
      rw [HN.out] at eL eV
      simp only [Value.slice.injEq] at eL
      obtain ⟨rfl, _, rfl⟩ := eL
      subst eV
      rw [e3] at c1 hcv
      have hs := str_same (strOfNums p.2)
      generalize strOfNums p.2 = S at *
      generalize p.2.length = l at *
      clear e3 hp hbr
      go_wp2
      go_quiet (fail)
      go_wp2
      go_roundw
      case rel => exact ⟨k + 1, by omega, by go_num, HH.out, ⟨HB.out.os, HB.out.tape, HB.out.output, HB.out.size, HB.out.block⟩⟩
      case measure => simp [intOf]; omega
    · go_wp2
      clear hc
      go_loopw [4, 5] (fun gs i wx => ∃ k : Nat, ∃ gvs : List Value, k ≤ N ∧ i = .int .i64 k ∧ OwnedI w wx B gk (.slice aL N cL) V ls k gs gvs) (fun _ i _ => N - (intOf i).toNat)
      case atStart => exact ⟨0, [], Nat.zero_le _, rfl, OwnedI.start HH.out HB.out⟩
      case round =>
        obtain ⟨j, gvs, hj, rfl, ho⟩ := hrel
        obtain ⟨W0, rfl⟩ : ∃ W0, W0 = wr := ⟨_, rfl⟩
        have HO := hid ho
        obtain ⟨ag0, cg0, eg0, hjk0⟩ := ho.row.form
        rw [ho.len] at eg0
        have hc := HC.out W0 (ho.book gk (Or.inl rfl))
        clear ho hjk0
        subst eg0
        by_cases hlj : j < N
        · obtain ⟨p, hp⟩ : ∃ p, ls[j]? = some p := ⟨ls[j]'(by rw [HN.out]; exact hlj), List.getElem?_eq_getElem _⟩
          obtain ⟨gL, cL', gV, cV', eL, eV, c1, c2⟩ := HBK.out.at hp
          have hrows := HBK.out.rows p (List.mem_of_getElem? hp)
          have r0 : Row W0 5 p.1 (u8s p.2) := hrows.1.keep fun b hb => HO.out.later j p b (Nat.le_refl _) hp hb
          obtain ⟨a, c, e3, hjk⟩ := r0.form
          rw [u8s_len] at e3
          rw [HN.out] at eL
          simp only [Value.slice.injEq] at eL
          obtain ⟨rfl, _, rfl⟩ := eL
          have c1' : W0.cell? ⟨gL, j, none⟩ = some (.slice a p.2.length c) := by
            rw [World.cell?_of_block (w := w) (a := ⟨gL, j, none⟩) (HO.out.book gL (Or.inr (Or.inl rfl))), c1, e3]
          have hpl := hrows.2.2
          obtain ⟨ps, hps⟩ : ∃ ps, ps = p.2 := ⟨_, rfl⟩
          obtain ⟨pv, hpv⟩ : ∃ pv, pv = p.1 := ⟨_, rfl⟩
          rw [← hps] at hpl c1' e3 r0
          rw [← hpv] at e3 r0
          subst e3
          have HP : Hid (ls[j]? = some (.slice a ps.length c, ps)) := by unfold Hid; rw [hp, hpv, hps]
          have HR0 := hid r0
          have HLT : Hid (∀ b, (Value.slice a ps.length c).ownBlock = some b → b < w.heap.size) := fun b hb => hrows.1.lt (by rw [← hpv]; exact hb)
          have hhd := r0.head.2
          have HHD : Hid (a = none ∨ ∃ b, a = some ⟨b, 0, none⟩ ∧ b < W0.heap.size) := hhd
          clear hhd hp hps hpv hrows c1 c2 eV r0 hjk
          obtain ⟨l, hll⟩ : ∃ l, ps.length = l := ⟨_, rfl⟩
          have HLL := hid hll
          rw [hll] at c1' hpl HR0 HP HLT
          clear hll
          go_wp2
          clear hc c1'
          go_loopw [7] (fun i wx => ∃ m : Nat, m ≤ l ∧ i = .int .i64 m ∧ W0.grownBy wx (Value.slice a l c).ownBlock ∧ Row wx 5 (.slice a l c) (u8s (marks j m ++ ps.drop m))) (fun i _ => l - (intOf i).toNat)
          case atStart => exact ⟨0, Nat.zero_le _, rfl, grown_refl _ _, by simpa [marks] using HR0.out⟩
          case round =>
            obtain ⟨m, hm, rfl, hgr, hrow⟩ := hrel
            have HGR := hid hgr
            have HROW := hid hrow
            clear hgr hrow
            by_cases hml : m < l
            · obtain ⟨g, hag, ⟨u, hu⟩, hfz, hset⟩ := HROW.out.set m (by rw [u8s_len, List.length_append, marks_len, List.length_drop, HLL.out]; omega) (.int .u8 (markV j m))
              rw [u8s_set, set_drop _ _ _ _ (marks_len j m).symm (by rw [HLL.out]; exact hml), ← marks_succ] at hset
              have HSET := hid hset
              have HAG := hid hag
              clear hset
              subst hag
              go_wp2_with (first | (go_at_call 35; refine (mark_any _ _ _ (by omega) (by omega)).mono ?_; rintro e w' ⟨rfl, rfl⟩))
              go_roundw
              case rel => exact ⟨m + 1, by omega, by go_num, grown_trans HGR.out (grown_setCell _ _ _ _) (Or.inl rfl), HSET.out⟩
              case measure => simp [intOf]; omega
            · have hme : m = l := by omega
              subst hme
              have HR1 : Hid (Row wr 5 (.slice a m c) (u8s (marks j m))) := by
                have := HROW.out
                rw [List.drop_eq_nil_of_le (by rw [HLL.out]; exact Nat.le_refl _), List.append_nil] at this
                exact this
              go_wp2
              obtain ⟨W1, rfl⟩ : ∃ W1, W1 = wr := ⟨_, rfl⟩
              clear HROW
              go_loopw [8, 9, 10] (fun g i mm wx => ∃ (q : Nat), q ≤ 9 ∧ i = .int .i64 q ∧ W0.grownBy wx (Value.slice a m c).ownBlock ∧ Row wx 5 g (u8s (marks j (m + q))) ∧ Reads wx (.slice a m c) (marks j m) ∧ (g.ownBlock = (Value.slice a m c).ownBlock ∨ ∃ b, g.ownBlock = some b ∧ W0.heap.size ≤ b)) (fun _ i _ _ => 9 - (intOf i).toNat)
              case atStart => exact ⟨0, by omega, rfl, HGR.out, HR1.out, Reads.of_row HR1.out |> (fun h => by exact h), Or.inl rfl⟩
              case round =>
                obtain ⟨q, hq, rfl, hgr, hrow, hrd, hgb⟩ := hrel
                have HGR2 := hid hgr
                have HROW2 := hid hrow
                have HRD2 := hid hrd
                have HGB2 := hid hgb
                obtain ⟨ag, cg, eg, hjk⟩ := hrow.form
                rw [u8s_len, marks_len] at eg
                clear hgr hrow hrd hgb hjk
                subst eg
                by_cases hq9 : q < 9
                · obtain ⟨gg, nn, cc, w', hrun, f1, f2, f3, f4⟩ := grow_step HROW2.out HRD2.out HGB2.out HGR2.out HHD.out hpl (by omega)
                  have HRUN := hid hrun
                  have HF1 := hid f1
                  have HF2 := hid f2
                  have HF3 := hid f3
                  have HF4 := hid f4
                  clear hrun f1 f2 f3 f4
                  go_wp2_with (first
                    | (go_at_call 35; rw [show ((m : Int) + (q : Int)) = ((m + q : Nat) : Int) by omega]; refine (mark_any _ _ _ (by omega) (by omega)).mono ?_; rintro e w' ⟨rfl, rfl⟩)
                    | (at_builtin; refine wpList_append_run _ rfl (.tmp 79) (.tmp 81) 40 40 rfl _ _ rfl rfl HRUN.out ?_))
                  go_roundw
                  case rel => exact ⟨q + 1, by omega, by go_num, HF1.out, HF2.out, HF3.out, HF4.out⟩
                  case measure => simp [intOf]; omega
                · have hq9e : q = 9 := by omega
                  subst hq9e
                  have rgs := (HO.out.row.grown HGR2.out (fun b hb e => by have a1 := HLT.out b e; have a2 := HO.out.fresh b hb; omega)).below (w' := wr.alloc (.cells #[.slice ag (m + 9) cg] 40)) ((Below.refl _ _).alloc (Nat.le_refl _) _)
                  obtain ⟨gv', w3, hrun, rv, hgr3, hcase⟩ := append_one 32 32 40 _ 24 Try.underlying32 infoSl rfl rgs (.slice ag (m + 9) cg) rfl wr.heap.size _ (heap_new _ _) (by rw [HO.out.len]; unfold maxLen; omega) (by rw [HO.out.len]; omega)
                  have hmv : Moved wr.heap.size _ gv' := Moved.of hcase (by simp)
                  have HST := hid (OwnedI.step HBB.out HBK.out HO.out HP.out HGR2.out (by rw [HLL.out]; exact HROW2.out) (by rw [HLL.out]; exact HRD2.out) HGB2.out (grown_trans (grown_alloc wr _ _) hgr3 (Or.inl rfl)) rv hmv)
                  have HRUN := hid hrun
                  obtain ⟨g5, n5, c5, e5, _⟩ := hmv
                  subst e5
                  clear rgs hrun rv hgr3 hcase
                  go_wp2_with (first
                    | (at_builtin; refine wpList_append_run _ rfl (.tmp 83) (.tmp 85) 32 32 rfl _ _ rfl rfl HRUN.out ?_))
                  go_roundw
                  case rel => exact ⟨j + 1, _, by omega, by go_num, HST.out⟩
                  case measure => simp [intOf]; omega
        · have hje : j = N := by omega
          subst hje
          go_wp2
          go_loop [11] (fun i => ∃ q : Nat, q ≤ j ∧ i = .int .i64 q) (fun i => j - (intOf i).toNat)
          case atStart => exact ⟨0, Nat.zero_le _, rfl⟩
          case round =>
            obtain ⟨q, hq, rfl⟩ := hrel
            by_cases hqj : q < j
            · obtain ⟨p, hp⟩ : ∃ p, ls[q]? = some p := ⟨ls[q]'(by rw [HN.out]; exact hqj), List.getElem?_eq_getElem _⟩
              obtain ⟨gL, cL', gV, cV', eL, eV, c1, c2⟩ := HBK.out.at hp
              rw [HN.out] at eL
              simp only [Value.slice.injEq] at eL
              obtain ⟨rfl, _, rfl⟩ := eL
              have hrows := HBK.out.rows p (List.mem_of_getElem? hp)
              obtain ⟨a, c, e3, hjk⟩ := hrows.1.form
              rw [u8s_len] at e3
              have hpl := hrows.2.2
              obtain ⟨g, hg, rg, rd, _⟩ := HO.out.done q p hqj hp
              rw [e3] at c1 rd
              obtain ⟨l, hll⟩ : ∃ l, p.2.length = l := ⟨_, rfl⟩
              rw [hll] at c1 rg rd hpl
              have c1' : W0.cell? ⟨gL, q, none⟩ = some (.slice a l c) := by
                rw [World.cell?_of_block (w := w) (a := ⟨gL, q, none⟩) (HO.out.book gL (Or.inr (Or.inl rfl))), c1]
              obtain ⟨gG, cG, e4, c4⟩ := HO.out.row.cell q (by rw [HO.out.len]; exact hqj)
              rw [HO.out.len] at e4
              simp only [Value.slice.injEq] at e4
              obtain ⟨rfl, _, rfl⟩ := e4
              have e5 : gvs[q]'(by rw [HO.out.len]; exact hqj) = g := by
                have := List.getElem?_eq_getElem (l := gvs) (i := q) (by rw [HO.out.len]; exact hqj)
                rw [hg] at this
                simpa using this.symm
              rw [e5] at c4
              obtain ⟨ag, cg, e6, hjk2⟩ := rg.form
              rw [u8s_len, marks_len] at e6
              subst e6
              have HRG := hid rg
              have HRD := hid rd
              clear e5 hg rg rd c1 c2 eV e3 hll hrows hp hjk hjk2
              go_wp2
              go_loop [13, 14] (fun i _ => ∃ r : Nat, r ≤ l + 9 ∧ i = .int .i64 r) (fun i _ => l + 9 - (intOf i).toNat)
              case atStart => exact ⟨0, Nat.zero_le _, rfl⟩
              case round =>
                obtain ⟨r, hr, rfl⟩ := hrel
                by_cases hrl : r < l + 9
                · obtain ⟨g6, c6, e7, c7⟩ := HRG.out.cell r (by rw [u8s_len, marks_len]; exact hrl)
                  rw [u8s_len, marks_len] at e7
                  simp only [Value.slice.injEq] at e7
                  obtain ⟨rfl, _, rfl⟩ := e7
                  have c7' : W0.cell? ⟨g6, r, none⟩ = some (.int .u8 (markV q r)) := by
                    rw [c7]
                    simp [u8s, marks]
                  have hne : (markV q r != markV q r) = false := by simp
                  have hrl' : (r : Int) < (l : Int) + 9 := by omega
                  clear c7
                  by_cases hr2 : r < l
                  · obtain ⟨b8, c8, e8, c9⟩ := HRD.out r (by rw [marks_len]; exact hr2)
                    rw [marks_len] at e8
                    simp only [Value.slice.injEq] at e8
                    obtain ⟨rfl, _, rfl⟩ := e8
                    have c9' : W0.cell? ⟨b8, r, none⟩ = some (.int .u8 (markV q r)) := by
                      rw [c9, List.getD_eq_getElem?_getD, marks_at q l r hr2]; rfl
                    have hr2' : (r : Int) < (l : Int) := by omega
                    clear c9
                    generalize hmk : markV q r = MK at *
                    have HMK := hid hmk
                    clear hmk
                    go_wp2_with (first
                      | (go_at_call 35; refine (mark_any _ _ _ (by omega) (by omega)).mono ?_; rintro e w' ⟨rfl, rfl⟩; rw [HMK.out]))
                    go_round
                    case rel => exact ⟨r + 1, by omega, by go_num⟩
                    case measure => simp [intOf]; omega
                  · have hr2' : decide ((r : Int) < (l : Int)) = false := by simp; omega
                    generalize hmk : markV q r = MK at *
                    have HMK := hid hmk
                    clear hmk
                    go_wp2_with (first
                      | (go_at_call 35; refine (mark_any _ _ _ (by omega) (by omega)).mono ?_; rintro e w' ⟨rfl, rfl⟩; rw [HMK.out]))
                    go_round
                    case rel => exact ⟨r + 1, by omega, by go_num⟩
                    case measure => simp [intOf]; omega
                · go_wp2
                  go_round
                  case rel => exact ⟨q + 1, by omega, by go_num⟩
                  case measure => simp [intOf]; omega
            · go_wp2
              go_ret
              exact ⟨rfl, HO.out.below, fun b h1 h2 h3 => HO.out.rest b h1 h2 (fun p hp => h3 p.1 p.2 hp)⟩
end Go.Proofs.Ytdgjpikphooilaa.Big

/-
  Neigh: the pair of caches, and the book, beside one another.
-/
namespace Go.Proofs.Ytdgjpikphooilaa
open Go.RowKit
set_option linter.all false

theorem ne_ty {w : World} {b b' : Nat} {C C' : Array Value} {t t' : TypeId} {f f' : Nat × Nat} (h1 : w.heap[b]? = some (.cells C t f)) (h2 : w.heap[b']? = some (.cells C' t' f')) (ht : t ≠ t') : b ≠ b' := by
  rintro rfl
  rw [h1] at h2
  simp only [Option.some.injEq, Obj.cells.injEq] at h2
  exact ht h2.2.1
theorem ne_mp {w : World} {b b' : Nat} {C : Array Value} {t : TypeId} {f : Nat × Nat} {es : Array MapEntry} {n : Nat} (h1 : w.heap[b]? = some (.cells C t f)) (h2 : w.heap[b']? = some (.map es n)) : b ≠ b' := by
  rintro rfl
  rw [h1] at h2
  simp at h2
theorem Row.objX {w : World} {e : TypeId} {v : Value} {vs : List Value} (h : Row w e v vs) {g : Nat} (hg : v.ownBlock = some g) : ∃ cur f, w.heap[g]? = some (.cells cur e f) := by
  rcases h with ⟨rfl, _⟩ | ⟨g', cap, cur, lo, hi, rfl, h1, _⟩
  · simp [Value.ownBlock] at hg
  · simp [Value.ownBlock] at hg; subst hg; exact ⟨_, _, h1⟩
/-- the program's cache (S), the document's (T), the book, the pair's box. -/
structure NP (w0 w : World) (gp c m : Nat) (S : St) (V : Int → Value) (d : Nat) (T : St) (a : Option Addr) (cp : Nat) (U : Int → Value) (gk : Nat) (Lk Vk : Value) (ls : List (Value × List Int)) : Prop where
  box : w.heap[gp]? = some (.cells #[.pointer (some ⟨c, 0, none⟩), .pointer (some ⟨d, 0, none⟩), .pointer (some ⟨gk, 0, none⟩)] 37 (0, 0))
  ca : CaW w c m S V
  rc : RcW w d T a cp U
  bk : Big.BookI w w0.heap.size gk Lk Vk ls
  off : ∀ p ∈ ls, ∀ y ∈ S.L, ∀ b, p.1.ownBlock = some b → (V y.ip).ownBlock ≠ some b
  lc : w0.heap.size ≤ c
  lm : w0.heap.size ≤ m
  ld : w0.heap.size ≤ d
  la : ∀ b, (Value.slice a T.L.length cp).ownBlock = some b → w0.heap.size ≤ b
  lp : w0.heap.size ≤ gp
  lv : ∀ y ∈ S.L, ∀ b, (V y.ip).ownBlock = some b → w0.heap.size ≤ b
  bel : Below w0.heap.size w0 w
/-- what the program sends: no bytes of it are the book's, or wait still. -/
structure OA (w0 w : World) (S : St) (V : Int → Value) (ls : List (Value × List Int)) (v : Value) (l : List (Sd × Value)) : Prop where
  outs : Outs w v l
  low : ∀ p ∈ l, ∀ b, p.2.ownBlock = some b → w0.heap.size ≤ b
  nls : ∀ p ∈ l, ∀ b, p.2.ownBlock = some b → ∀ q ∈ ls, q.1.ownBlock ≠ some b
  nv : ∀ p ∈ l, ∀ b, p.2.ownBlock = some b → ∀ y ∈ S.L, (V y.ip).ownBlock ≠ some b
  lrow : ∀ b, v.ownBlock = some b → w0.heap.size ≤ b
section
variable {w0 w w' : World} {gp c m : Nat} {S S' : St} {V V2 : Int → Value} {d : Nat} {T T' : St} {a a' : Option Addr} {cp cp' : Nat} {U U' : Int → Value} {gk : Nat} {Lk Vk : Value} {ls : List (Value × List Int)}
theorem NP.below (h : NP w0 w gp c m S V d T a cp U gk Lk Vk ls) (hb : Below w.heap.size w w') : NP w0 w' gp c m S V d T a cp U gk Lk Vk ls :=
  { h with box := kept h.box hb, ca := h.ca.below hb, rc := h.rc.below hb, bk := h.bk.below hb, bel := bstep h.bel hb }
theorem OA.below {v : Value} {l : List (Sd × Value)} (h : OA w0 w S V ls v l) (hb : Below w.heap.size w w') : OA w0 w' S V ls v l := { h with outs := h.outs.below hb }
/-- the book's blocks have kinds of their own. -/
theorem NP.book_ty (h : NP w0 w gp c m S V d T a cp U gk Lk Vk ls) : ∀ k, Big.InBook gk Lk Vk k → ∃ C t f, w.heap[k]? = some (.cells C t f) ∧ (t = 35 ∨ t = 40 ∨ t = 9) := by
  rintro k (rfl | hk | hk)
  · exact ⟨_, _, _, h.bk.box, Or.inl rfl⟩
  · obtain ⟨cur, f, hc⟩ := h.bk.lists.objX hk
    exact ⟨_, _, _, hc, Or.inr (Or.inl rfl)⟩
  · obtain ⟨cur, f, hc⟩ := h.bk.was.objX hk
    exact ⟨_, _, _, hc, Or.inr (Or.inr rfl)⟩
theorem NP.no_book (h : NP w0 w gp c m S V d T a cp U gk Lk Vk ls) {k : Nat} {C : Array Value} {t : TypeId} {f : Nat × Nat} (hk : w.heap[k]? = some (.cells C t f)) (h1 : t ≠ 35) (h2 : t ≠ 40) (h3 : t ≠ 9) : ¬ Big.InBook gk Lk Vk k := fun hi => by
  obtain ⟨C', t', f', hc, ht⟩ := h.book_ty k hi
  rw [hk] at hc
  simp only [Option.some.injEq, Obj.cells.injEq] at hc
  rcases ht with e | e | e
  · exact h1 (hc.2.1.trans e)
  · exact h2 (hc.2.1.trans e)
  · exact h3 (hc.2.1.trans e)
/-- the program's cache turns. -/
theorem NP.prog (h : NP w0 w gp c m S V d T a cp U gk Lk Vk ls) {v : Value} {sds : List Sd} {l : List (Sd × Value)} (A : AnsI w w' c m S S' V v sds l V2) : NP w0 w' gp c m S' V2 d T a cp U gk Lk Vk ls ∧ OA w0 w' S' V2 ls v l := by
  obtain ⟨es, clock, hm, _⟩ := h.ca.map
  have hcb := h.ca.box
  have nc : ∀ {k : Nat} {C : Array Value} {t : TypeId} {f : Nat × Nat}, w.heap[k]? = some (.cells C t f) → t ≠ 76 → w'.heap[k]? = some (.cells C t f) := fun {k C t f} hk ht => (A.two.block k (ne_ty hk hcb ht) (ne_mp hk hm) (heap_lt hk)).trans hk
  have nk : ∀ {k : Nat} {C : Array Value} {t : TypeId} {f : Nat × Nat}, w.heap[k]? = some (.cells C t f) → t ≠ 76 → w'.heap[k]? = w.heap[k]? := fun hk ht => (nc hk ht).trans hk.symm
  have hs := h.bel.size
  have hlt : ∀ q ∈ ls, ∀ b, q.1.ownBlock = some b → b < w.heap.size := fun q hq b hb => (h.bk.rows q hq).1.lt hb
  refine ⟨{ box := nc h.box (by decide), ca := A.ca, rc := h.rc.keep (nk h.rc.box (by decide)) (fun b hb => ?_) (fun y hy b hb => ?_), bk := h.bk.keep (fun k hk => ?_) (fun p hp b hb => ?_), off := fun p hp y hy b hb hv => ?_, lc := h.lc, lm := h.lm, ld := h.ld, la := h.la, lp := h.lp, lv := fun y hy b hb => ?_, bel := h.bel.trans (A.two.below h.lc h.lm hs) },
    ⟨A.outs, fun p hp b hb => ?_, fun p hp b hb q hq hqb => ?_, fun p hp b hb y hy => A.off p hp y hy b hb, fun b hb => Nat.le_trans hs (A.new b hb)⟩⟩
  · obtain ⟨cur, hc⟩ := h.rc.row.obj hb
    exact nk hc (by decide)
  · obtain ⟨cur, f, hc⟩ := (h.rc.pks y hy).objX hb
    exact nk hc (by decide)
  · obtain ⟨C', t', f', hc, ht⟩ := h.book_ty k hk
    refine nk hc ?_
    rcases ht with rfl | rfl | rfl <;> decide
  · obtain ⟨cur, f, hc⟩ := (h.bk.rows p hp).1.objX hb
    exact nk hc (by decide)
  · rcases A.vsrc y hy b hv with h1 | ⟨z, hz, h1⟩
    · have := hlt p hp b hb; omega
    · exact h.off p hp z hz b hb h1
  · rcases A.vsrc y hy b hb with h1 | ⟨z, hz, h1⟩
    · omega
    · exact h.lv z hz b h1
  · rcases A.src p hp b hb with h1 | ⟨z, hz, h1⟩
    · omega
    · exact h.lv z hz b h1
  · rcases A.src p hp b hb with h1 | ⟨z, hz, h1⟩
    · have := hlt q hq b hqb; omega
    · exact h.off q hq z hz b hqb h1
/-- the document's cache turns. -/
theorem NP.doc (h : NP w0 w gp c m S V d T a cp U gk Lk Vk ls) (A : RTurn w w' d T T' a a' cp cp' U U') : NP w0 w' gp c m S V d T' a' cp' U' gk Lk Vk ls := by
  have hdb := h.rc.box
  have nk : ∀ {k : Nat} {C : Array Value} {t : TypeId} {f : Nat × Nat}, w.heap[k]? = some (.cells C t f) → t ≠ 79 → t ≠ 103 → w'.heap[k]? = w.heap[k]? := fun {k C t f} hk h1 h2 => A.block k (ne_ty hk hdb h1) (fun e => by
    obtain ⟨cur, hc⟩ := h.rc.row.obj e
    exact ne_ty hk hc h2 rfl) (heap_lt hk)
  have hs := h.bel.size
  obtain ⟨es, clock, hm, _⟩ := h.ca.map
  have hmk : w'.heap[m]? = w.heap[m]? := A.block m (Ne.symm (ne_mp hdb hm)) (fun e => by
    obtain ⟨cur, hc⟩ := h.rc.row.obj e
    exact ne_mp hc hm rfl) (heap_lt hm)
  refine { box := (nk h.box (by decide) (by decide)).trans h.box, ca := h.ca.keep (nk h.ca.box (by decide) (by decide)) hmk (fun y hy b hb => ?_), rc := A.rc, bk := h.bk.keep (fun k hk => ?_) (fun p hp b hb => ?_), off := h.off, lc := h.lc, lm := h.lm, ld := h.ld, la := fun b hb => ?_, lp := h.lp, lv := h.lv, bel := h.bel.trans ⟨A.os, A.tape, A.output, A.size, fun k hk => A.block k (fun e => by have := h.ld; omega) (fun e => by have := h.la k e; omega) (by omega)⟩ }
  · obtain ⟨cur, f, hc⟩ := (h.ca.rows y hy).objX hb
    exact nk hc (by decide) (by decide)
  · obtain ⟨C', t', f', hc, ht⟩ := h.book_ty k hk
    refine nk hc ?_ ?_ <;> (rcases ht with rfl | rfl | rfl <;> decide)
  · obtain ⟨cur, f, hc⟩ := (h.bk.rows p hp).1.objX hb
    exact nk hc (by decide) (by decide)
  · rcases A.row b hb with h1 | h1
    · omega
    · exact h.la b h1
theorem OA.doc {v : Value} {l : List (Sd × Value)} (o : OA w0 w S V ls v l) (h : NP w0 w gp c m S V d T a cp U gk Lk Vk ls) (A : RTurn w w' d T T' a a' cp cp' U U') : OA w0 w' S V ls v l := by
  have nk : ∀ {k : Nat} {C : Array Value} {t : TypeId} {f : Nat × Nat}, w.heap[k]? = some (.cells C t f) → t ≠ 79 → t ≠ 103 → w'.heap[k]? = w.heap[k]? := fun {k C t f} hk h1 h2 => A.block k (ne_ty hk h.rc.box h1) (fun e => by
    obtain ⟨cur, hc⟩ := h.rc.row.obj e
    exact ne_ty hk hc h2 rfl) (heap_lt hk)
  refine { o with outs := o.outs.keep (fun b hb => ?_) (fun p hp b hb => ?_) }
  · obtain ⟨cur, hc⟩ := o.outs.row.obj hb
    exact nk hc (by decide) (by decide)
  · obtain ⟨cur, f, hc⟩ := (o.outs.dat p hp).objX hb
    exact nk hc (by decide) (by decide)
/-- the book takes one in. -/
theorem NP.take (h : NP w0 w gp c m S V d T a cp U gk Lk Vk ls) (v : Value) (zs : List Int) (hr : Row w 5 v (u8s zs)) (hz : ∀ z, z ∈ zs → 0 ≤ z ∧ z ≤ 255) (hl : zs.length ≤ 140737488351232) (hf : ls.length < 5000000000000) (h1 : ∀ b, v.ownBlock = some b → w0.heap.size ≤ b) (h2 : ∀ b, v.ownBlock = some b → ∀ q ∈ ls, q.1.ownBlock ≠ some b) (h3 : ∀ b, v.ownBlock = some b → ∀ y ∈ S.L, (V y.ip).ownBlock ≠ some b) :
    Calls Try.prog 58 #[.pointer (some ⟨gk, 0, none⟩), v] w fun e w' => e = .returned (.tuple #[]) ∧ ∃ Lk' Vk', NP w0 w' gp c m S V d T a cp U gk Lk' Vk' (ls ++ [(v, zs)]) ∧ ∀ (k : Nat) (C : Array Value) (t : TypeId) (f : Nat × Nat), w.heap[k]? = some (.cells C t f) → t ≠ 35 → t ≠ 40 → t ≠ 9 → w'.heap[k]? = some (.cells C t f) := by
  refine (Big.take_any gk Lk Vk v ls zs w0.heap.size w h.bk h.bel.size hr hz hl hf (fun b hb => ⟨h1 b hb, ?_, fun p hp => h2 b hb p hp⟩)).mono fun e w' ⟨e1, Lk', Vk', k1, k2, k3, k4⟩ => ⟨e1, Lk', Vk', ?_, fun k C t f hk t1 t2 t3 => (k2 k (heap_lt hk) (h.no_book hk t1 t2 t3)).trans hk⟩
  · obtain ⟨cur, f, hc⟩ := hr.objX hb
    exact h.no_book hc (by decide) (by decide) (by decide)
  · have nk : ∀ {k : Nat} {C : Array Value} {t : TypeId} {f : Nat × Nat}, w.heap[k]? = some (.cells C t f) → t ≠ 35 → t ≠ 40 → t ≠ 9 → w'.heap[k]? = w.heap[k]? := fun {k C t f} hk t1 t2 t3 => k2 k (heap_lt hk) (h.no_book hk t1 t2 t3)
    obtain ⟨es, clock, hm, _⟩ := h.ca.map
    have hmk : w'.heap[m]? = w.heap[m]? := k2 m (heap_lt hm) (fun hi => by
      obtain ⟨C', t', f', hc, _⟩ := h.book_ty m hi
      rw [hm] at hc; simp at hc)
    refine { box := (nk h.box (by decide) (by decide) (by decide)).trans h.box, ca := h.ca.keep (nk h.ca.box (by decide) (by decide) (by decide)) hmk (fun y hy b hb => ?_), rc := h.rc.keep (nk h.rc.box (by decide) (by decide) (by decide)) (fun b hb => ?_) (fun y hy b hb => ?_), bk := k1, off := fun p hp y hy b hb => ?_, lc := h.lc, lm := h.lm, ld := h.ld, la := h.la, lp := h.lp, lv := h.lv, bel := h.bel.trans k4 }
    · obtain ⟨cur, f, hc⟩ := (h.ca.rows y hy).objX hb
      exact nk hc (by decide) (by decide) (by decide)
    · obtain ⟨cur, hc⟩ := h.rc.row.obj hb
      exact nk hc (by decide) (by decide) (by decide)
    · obtain ⟨cur, f, hc⟩ := (h.rc.pks y hy).objX hb
      exact nk hc (by decide) (by decide) (by decide)
    · rcases List.mem_append.1 hp with hp | hp
      · exact h.off p hp y hy b hb
      · simp only [List.mem_singleton] at hp
        subst hp
        exact h3 b hb y hy
end
end Go.Proofs.Ytdgjpikphooilaa

/-
  Neigh: the statement's sent.
-/
namespace Go.Proofs.Ytdgjpikphooilaa
open Go.RowKit
set_option linter.all false

theorem wpList_store_mid {ops : Array Oper} {rest : List Oper} {o : Oper} {a : Act} {w : World} {Q : Exit → Act → World → Prop} (hgd : o.guard = none) (ty : TypeId) (x y : Operand) (ho : o.op = .store ty x y)
    (b off : Nat) (cells : Array Value) (hx : a.eval x = .pointer (some ⟨b, off, none⟩)) (hy : a.eval y = .agg cells)
    (ht : w.there b off cells.size) (hi : (Try.prog.info? ty).map (·.size) = some cells.size) (h1 : cells.all (·.oneCell') = true)
    (h : ∀ w', Hid (w' = w.setCells b off cells.toList) → wpList Try.prog ops Q rest (a.put o.dst undef) w') : wpList Try.prog ops Q (o :: rest) a w :=
  wpList_plain hgd fun _ hK => wp_store_mid ty x y ho b off cells hx hy ht hi h1 (hK _ _ (h _ rfl))
/-- a block that may be written. -/
structure Blk (w : World) (t : TypeId) (g n : Nat) : Prop where
  lie : ∃ C, w.heap[g]? = some (.cells C t (0, 0)) ∧ n ≤ C.size
theorem Blk.set {w : World} {t : TypeId} {g n : Nat} (h : Blk w t g n) (o : Nat) (l : List Value) : Blk (w.setCells g o l) t g n := by
  obtain ⟨C, hC, hn⟩ := h
  exact ⟨_, heap_setCells l w g o C t _ hC, by rw [putCells_size]; exact hn⟩
theorem Blk.there {w : World} {t : TypeId} {g n : Nat} (h : Blk w t g n) (o k : Nat) (ho : o + k ≤ n) : w.there g o k := by
  obtain ⟨C, hC, hn⟩ := h
  intro j hj
  exact ⟨by rw [cell_of_heap hC, Array.getElem?_eq_getElem (by omega)]; rfl, frozen_of_heap hC _⟩
section
variable {w0 w w' : World} {gp c m : Nat} {S S' : St} {V V2 : Int → Value} {d : Nat} {T T' : St} {a a' : Option Addr} {cp cp' : Nat} {U U' : Int → Value} {gk : Nat} {Lk Vk : Value} {ls : List (Value × List Int)}
/-- a block that is none of theirs turns. -/
theorem NP.but (h : NP w0 w gp c m S V d T a cp U gk Lk Vk ls) {g : Nat} {C : Array Value} {t : TypeId} {f : Nat × Nat} (hg : w.heap[g]? = some (.cells C t f)) (ht : t = 59 ∨ t = 68) (hl : w0.heap.size ≤ g) (hb : But g w w') : NP w0 w' gp c m S V d T a cp U gk Lk Vk ls := by
  have nk : ∀ {k : Nat} {C' : Array Value} {t' : TypeId} {f' : Nat × Nat}, w.heap[k]? = some (.cells C' t' f') → t' ≠ 59 → t' ≠ 68 → w'.heap[k]? = w.heap[k]? := fun {k C' t' f'} hk h1 h2 => hb.block k (ne_ty hk hg (fun e => ht.elim (fun e2 => h1 (e.trans e2)) (fun e2 => h2 (e.trans e2)))) (heap_lt hk)
  obtain ⟨es, clock, hm, _⟩ := h.ca.map
  have hmk : w'.heap[m]? = w.heap[m]? := hb.block m (Ne.symm (ne_mp hg hm)) (heap_lt hm)
  refine { box := (nk h.box (by decide) (by decide)).trans h.box, ca := h.ca.keep (nk h.ca.box (by decide) (by decide)) hmk (fun y hy b hb => ?_), rc := h.rc.keep (nk h.rc.box (by decide) (by decide)) (fun b hb => ?_) (fun y hy b hb => ?_), bk := h.bk.keep (fun k hk => ?_) (fun p hp b hb => ?_), off := h.off, lc := h.lc, lm := h.lm, ld := h.ld, la := h.la, lp := h.lp, lv := h.lv, bel := h.bel.trans (hb.below hl h.bel.size) }
  · obtain ⟨cur, f, hc⟩ := (h.ca.rows y hy).objX hb
    exact nk hc (by decide) (by decide)
  · obtain ⟨cur, hc⟩ := h.rc.row.obj hb
    exact nk hc (by decide) (by decide)
  · obtain ⟨cur, f, hc⟩ := (h.rc.pks y hy).objX hb
    exact nk hc (by decide) (by decide)
  · obtain ⟨C', t', f', hc, ht⟩ := h.book_ty k hk
    refine nk hc ?_ ?_ <;> (rcases ht with rfl | rfl | rfl <;> decide)
  · obtain ⟨cur, f, hc⟩ := (h.bk.rows p hp).1.objX hb
    exact nk hc (by decide) (by decide)
end
def tk (l : List (Sd × Value)) : List (Value × List Int) := l.map fun p => (p.2, p.1.zs)
/-- while the book takes them in. -/
structure SentI (w0 w : World) (gp c m : Nat) (S : St) (V : Int → Value) (d : Nat) (T : St) (a : Option Addr) (cp : Nat) (U : Int → Value) (gk : Nat) (ls : List (Value × List Int)) (v v2 : Value) (l l2 : List (Sd × Value)) (k : Nat) : Prop where
  np : ∃ Lk Vk, NP w0 w gp c m S V d T a cp U gk Lk Vk (ls ++ tk (l.take k))
  outs : Outs w v l
  rout : ROut w v2 l2
theorem ROut.keep {w w' : World} {v : Value} {l : List (Sd × Value)} (h : ROut w v l) (hv : ∀ b, v.ownBlock = some b → w'.heap[b]? = w.heap[b]?) (hd : ∀ p ∈ l, ∀ b, p.2.ownBlock = some b → w'.heap[b]? = w.heap[b]?) : ROut w' v l :=
  ⟨h.row.keep hv, fun p hp => (h.dat p hp).keep (hd p hp), h.form⟩
theorem SentI.next {w0 w : World} {gp c m : Nat} {S : St} {V : Int → Value} {d : Nat} {T : St} {a : Option Addr} {cp : Nat} {U : Int → Value} {gk : Nat} {ls : List (Value × List Int)} {v v2 : Value} {l l2 : List (Sd × Value)} {k : Nat} (h : SentI w0 w gp c m S V d T a cp U gk ls v v2 l l2 k) {p : Sd × Value} (hp : l[k]? = some p) (hz : (∀ z ∈ p.1.zs, 0 ≤ z ∧ z ≤ 255) ∧ p.1.zs.length ≤ 140737488351232) (hf : ls.length + l.length ≤ 5000000000000)
    (h1 : ∀ b, p.2.ownBlock = some b → w0.heap.size ≤ b) (h2 : ∀ b, p.2.ownBlock = some b → ∀ q ∈ ls, q.1.ownBlock ≠ some b) (h3 : ∀ b, p.2.ownBlock = some b → ∀ y ∈ S.L, (V y.ip).ownBlock ≠ some b) :
    Calls Try.prog 58 #[.pointer (some ⟨gk, 0, none⟩), p.2] w.drew fun e w' => e = .returned (.tuple #[]) ∧ Hid (SentI w0 w' gp c m S V d T a cp U gk ls v v2 l l2 (k + 1)) := by
  obtain ⟨Lk, Vk, np⟩ := h.np
  have hb : Below w.heap.size w w.drew := (Below.refl _ _).drew
  have hkl : k < l.length := (List.getElem?_eq_some_iff.1 hp).1
  have hpl : p ∈ l := List.mem_of_getElem? hp
  have ho := h.outs.below hb
  have hr := h.rout.keep (w' := w.drew) (fun _ _ => rfl) (fun _ _ _ _ => rfl)
  have htk : tk (l.take (k + 1)) = tk (l.take k) ++ [(p.2, p.1.zs)] := by rw [List.take_add_one, hp]; simp [tk]
  refine ((np.below hb).take p.2 p.1.zs (ho.dat p hpl) hz.1 hz.2 (by simp [tk]; omega) h1 (fun b hb q hq => ?_) h3).mono fun e w' ⟨e1, Lk', Vk', n1, n2⟩ => ⟨e1, ⟨Lk', Vk', by rw [htk, ← List.append_assoc]; exact n1⟩, ho.keep (fun b hb => ?_) (fun q hq b hb => ?_), hr.keep (fun b hb => ?_) (fun q hq b hb => ?_)⟩
  · rcases List.mem_append.1 hq with hq | hq
    · exact h2 b hb q hq
    · obtain ⟨q', hq', rfl⟩ := List.mem_map.1 hq
      obtain ⟨i, hi, e2⟩ := List.getElem_of_mem hq'
      have hik : i < k := by simp at hi; omega
      have e3 : l[i]'(by omega) = q' := by rw [← e2]; simp
      have := List.pairwise_iff_getElem.1 h.outs.apart i k (by omega) hkl hik
      rw [e3, (List.getElem?_eq_some_iff.1 hp).2] at this
      exact fun e4 => this b e4 hb
  · obtain ⟨cur, hc⟩ := ho.row.obj hb
    rw [n2 _ _ _ _ hc (by decide) (by decide) (by decide), hc]
  · obtain ⟨cur, f, hc⟩ := (ho.dat q hq).objX hb
    rw [n2 _ _ _ _ hc (by decide) (by decide) (by decide), hc]
  · obtain ⟨cur, hc⟩ := hr.row.obj hb
    rw [n2 _ _ _ _ hc (by decide) (by decide) (by decide), hc]
  · obtain ⟨cur, f, hc⟩ := (hr.dat q hq).objX hb
    rw [n2 _ _ _ _ hc (by decide) (by decide) (by decide), hc]
theorem sentCells : (#[.int .u8 0, .int .u8 0, .int .u8 0, .int .u8 0, .int .u8 0, .int .u8 0, .int .i64 (-1), .slice none 0 0] : Array Value).size = 8 := rfl
set_option maxRecDepth 40000 in
set_option maxHeartbeats 4000000 in
theorem sent_any (w0 w : World) (gp c m : Nat) (S : St) (V : Int → Value) (d : Nat) (T : St) (a : Option Addr) (cp : Nat) (U : Int → Value) (gk : Nat) (Lk Vk : Value) (ls : List (Value × List Int)) (va vb : Option Addr) (n vc vd : Nat) (l l2 : List (Sd × Value))
    (h : NP w0 w gp c m S V d T a cp U gk Lk Vk ls) (o : OA w0 w S V ls (.slice va n vc) l) (hn : l.length = n) (r : ROut w (.slice vb n vd) l2) (hn2 : l2.length = n) (he : l.map (·.1) = l2.map (·.1))
    (hz : ∀ p ∈ l, p.1.dst.ok ∧ (∀ z ∈ p.1.zs, 0 ≤ z ∧ z ≤ 255) ∧ p.1.zs.length ≤ 140737488351232) (hf : ls.length + n ≤ 5000000000000) (hb : n ≤ 1000) :
    Calls Try.prog 28 #[.pointer (some ⟨gp, 0, none⟩), .slice va n vc, .slice vb n vd] w fun e w' => e = .returned (.bool true) ∧ Hid (∃ Lk' Vk', NP w0 w' gp c m S V d T a cp U gk Lk' Vk' (ls ++ tk l)) := by
  have HI0 : Hid (SentI w0 w gp c m S V d T a cp U gk ls (.slice va n vc) (.slice vb n vd) l l2 0) := ⟨⟨Lk, Vk, by simpa [tk] using h⟩, o.outs, r⟩
  have HO1 := hid o.low
  have HO2 := hid o.nls
  have HO3 := hid o.nv
  have HO4 := hid o.lrow
  have HZ := hid hz
  have HN := hid hn
  have HN2 := hid hn2
  have HE := hid he
  have HF := hid hf
  clear h o r hn hn2 he hz hf
  go_enter Try.func28, Try.ntmps28
  go_wp2_with fail
  go_loopw [7] (fun v wr => ∃ k : Nat, v = .int .i64 k ∧ k ≤ n ∧ Hid (SentI w0 wr gp c m S V d T a cp U gk ls (.slice va n vc) (.slice vb n vd) l l2 k)) (fun v _ => n - (intOf3 v).toNat)
  case atStart => exact ⟨0, rfl, Nat.zero_le _, HI0⟩
  case round =>
    obtain ⟨k, rfl, hk, HI⟩ := hrel
    clear HI0
    by_cases hkn : k < n
    · obtain ⟨p, hp⟩ : ∃ p, l[k]? = some p := ⟨_, List.getElem?_eq_getElem (by have := HN.out; omega)⟩
      have hpl : p ∈ l := List.mem_of_getElem? hp
      obtain ⟨g, hga, hc⟩ := HI.out.outs.r.ent hp
      subst hga
      obtain ⟨pa, pn, pc, hpv⟩ := HI.out.outs.form p hpl
      have c7 : wr.cell? ⟨g, k * 8 + 7, none⟩ = some (.slice pa pn pc) := by rw [hc 7 (by omega), ← hpv]; rfl
      obtain ⟨Lk1, Vk1, np⟩ := HI.out.np
      have b2 : wr.cell? ⟨gp, 2, none⟩ = some (.pointer (some ⟨gk, 0, none⟩)) := by rw [cell_of_heap np.box]; rfl
      have hzp := HZ.out p hpl
      have HT0 := hid (HI.out.next hp ⟨hzp.2.1, hzp.2.2⟩ (by have := HN.out; have := HF.out; omega) (HO1.out p hpl) (HO2.out p hpl) (HO3.out p hpl))
      rw [hpv] at HT0
      have HT : Hid (Calls Try.prog 58 #[.pointer (some ⟨gk, 0, none⟩), .slice pa pn pc] wr.drew fun e w' => e = .returned (.tuple #[]) ∧ (w'.cell? ⟨gp, 2, none⟩ = some (.pointer (some ⟨gk, 0, none⟩)) ∧ w'.cell? ⟨g, k * 8 + 7, none⟩ = some (.slice pa pn pc)) ∧ Hid (SentI w0 w' gp c m S V d T a cp U gk ls (.slice (some ⟨g, 0, none⟩) n vc) (.slice vb n vd) l l2 (k + 1))) := HT0.out.mono fun e w' ⟨a1, a2⟩ => by
        refine ⟨a1, ⟨?_, ?_⟩, a2⟩
        · obtain ⟨L9, V9, np9⟩ := a2.out.np
          rw [cell_of_heap np9.box]; rfl
        · obtain ⟨g9, hg9, hc9⟩ := a2.out.outs.r.ent hp
          simp only [Option.some.injEq, Addr.mk.injEq, and_true] at hg9
          subst hg9
          rw [hc9 7 (by omega), ← hpv]; rfl
      clear HT0 np hc hp hpl hzp HI hpv
      have k0 : (0 : Int) ≤ (k : Int) := by omega
      have k1 : (k : Int) < (n : Int) := by omega
      have d2 : wr.drew.cell? ⟨gp, 2, none⟩ = some (.pointer (some ⟨gk, 0, none⟩)) := b2
      have d7 : wr.drew.cell? ⟨g, k * 8 + 7, none⟩ = some (.slice pa pn pc) := c7
      go_wp2_with fail
      go_region_held3 (fun s => s.cell? ⟨gp, 2, none⟩ = some (.pointer (some ⟨gk, 0, none⟩)) ∧ s.cell? ⟨g, k * 8 + 7, none⟩ = some (.slice pa pn pc)) (first | assumption | (refine ⟨?_, ?_⟩ <;> assumption) | go_keep) (first
        | (go_at_call 58; refine HT.out.mono ?_; go_loud (rintro e w5 ⟨rfl, hcc, HI5⟩)))
      go_wp2_with fail
      go_roundw
      case rel => exact ⟨k + 1, by first | rfl | (congr 1; omega), by omega, HI5⟩
      case measure => simp only [intOf3]; omega
    · have hkk : k = n := by omega
      subst hkk
      have HS := hid (same_sends wr va vb k k vc vd l l2 HI.out.outs.r HI.out.rout HN.out HN2.out HE.out (fun p hp => ⟨(HZ.out p hp).1, (HZ.out p hp).2.1⟩) hb)
      have hnp : ∃ Lk' Vk', NP w0 wr gp c m S V d T a cp U gk Lk' Vk' (ls ++ tk l) := by
        obtain ⟨L9, V9, np9⟩ := HI.out.np
        rw [List.take_of_length_le (by have := HN.out; omega)] at np9
        exact ⟨L9, V9, np9⟩
      have HNP := hid hnp
      have HB : Hid (0 < k → ∃ g, va = some ⟨g, 0, none⟩ ∧ w0.heap.size ≤ g ∧ Blk wr 59 g (k * 8)) := fun h0 => by
        have hrow := HI.out.outs.row
        rw [HN.out] at hrow
        obtain ⟨g, cap, e1, e2, e3⟩ := hrow.some_of h0
        simp only [Value.slice.injEq] at e1
        obtain ⟨rfl, _, rfl⟩ := e1
        refine ⟨g, rfl, HO4.out g rfl, ?_⟩
        rcases hrow.2 with ⟨e4, _⟩ | ⟨g', cap', cur, e4, _, hg, h5, h6, h7, _⟩
        · simp at e4
        · simp only [Value.slice.injEq, Option.some.injEq, Addr.mk.injEq] at e4
          obtain ⟨⟨rfl, _⟩, _, rfl⟩ := e4
          exact ⟨cur, hg, by rw [h7]; omega⟩
      clear hkn hnp HI
      go_wp2_with (first
        | (go_at_call 59; refine HS.out.mono ?_; go_loud (rintro e w5 ⟨rfl, q, hq⟩)))
      have HQ := hid hq
      clear hq
      go_loopw [9] (fun v wx => ∃ j : Nat, v = .int .i64 j ∧ j ≤ k ∧ Hid (∃ Lk' Vk', NP w0 wx gp c m S V d T a cp U gk Lk' Vk' (ls ++ tk l)) ∧ Hid (0 < k → ∃ g, va = some ⟨g, 0, none⟩ ∧ w0.heap.size ≤ g ∧ Blk wx 59 g (k * 8))) (fun v _ => k - (intOf3 v).toNat)
      case atStart =>
        refine ⟨0, rfl, Nat.zero_le _, ?_, fun h0 => ?_⟩
        · obtain ⟨L9, V9, np9⟩ := HNP.out
          exact ⟨L9, V9, np9.below (bdrewN _ q)⟩
        · obtain ⟨g, e1, e2, C, hC, hc⟩ := HB.out h0
          exact ⟨g, e1, e2, C, hC, hc⟩
      case round =>
        obtain ⟨j, rfl, hj, HP, HB5⟩ := hrel
        clear HNP HB HQ
        by_cases hjk : j < k
        · obtain ⟨g, hga, hgl, hblk⟩ := HB5.out (by omega)
          subst hga
          have ht := hblk.there (j * 8) 8 (by omega)
          have HT := hid ht
          have HK := hid hblk
          clear ht hblk
          have k0 : (0 : Int) ≤ (j : Int) := by omega
          have k1 : (j : Int) < (k : Int) := by omega
          go_wp2_with (first
            | (refine wpList_store_mid rfl 59 _ _ rfl g (j * 8) #[.int .u8 0, .int .u8 0, .int .u8 0, .int .u8 0, .int .u8 0, .int .u8 0, .int .i64 (-1), .slice none 0 0] rfl rfl HT.out (by kernel_rfl) (by kernel_rfl) ?_; intro w7 HW7)
            | fail)
          go_roundw
          case rel =>
            refine ⟨j + 1, by first | rfl | (congr 1; omega), by omega, ?_, fun h0 => ⟨g, rfl, hgl, by rw [HW7.out]; exact HK.out.set _ _⟩⟩
            obtain ⟨L9, V9, np9⟩ := HP.out
            obtain ⟨C, hC, _⟩ := HK.out
            rw [HW7.out]
            exact ⟨L9, V9, np9.but hC (Or.inl rfl) hgl (But.setCells g _ _ _)⟩
          case measure => simp only [intOf3]; omega
        · have hjj : j = k := by omega
          subst hjj
          clear hjk
          go_wp2_with fail
          go_ret
          exact ⟨rfl, HP⟩
end Go.Proofs.Ytdgjpikphooilaa

/-
  Neigh: the statement's alike.
-/
namespace Go.Proofs.Ytdgjpikphooilaa
open Go.RowKit
set_option linter.all false

/-- both caches stand as S; at most n lists are the book's. -/
def NPz (w0 w : World) (gp c m d gk : Nat) (S : St) (n : Nat) : Prop := ∃ V a cp U Lk Vk ls, NP w0 w gp c m S V d S a cp U gk Lk Vk ls ∧ ls.length ≤ n
section
variable {w0 w w' : World} {gp c m d gk : Nat} {S : St} {n : Nat}
theorem NPz.below (h : NPz w0 w gp c m d gk S n) (hb : Below w.heap.size w w') : NPz w0 w' gp c m d gk S n := by
  obtain ⟨V, a, cp, U, Lk, Vk, ls, h, hl⟩ := h
  exact ⟨V, a, cp, U, Lk, Vk, ls, h.below hb, hl⟩
theorem NPz.but (h : NPz w0 w gp c m d gk S n) {g : Nat} {C : Array Value} {t : TypeId} {f : Nat × Nat} (hg : w.heap[g]? = some (.cells C t f)) (ht : t = 59 ∨ t = 68) (hl : w0.heap.size ≤ g) (hb : But g w w') : NPz w0 w' gp c m d gk S n := by
  obtain ⟨V, a, cp, U, Lk, Vk, ls, h, hl2⟩ := h
  exact ⟨V, a, cp, U, Lk, Vk, ls, h.but hg ht hl hb, hl2⟩
theorem NPz.box (h : NPz w0 w gp c m d gk S n) : ∀ j, w.cell? ⟨gp, j, none⟩ = (#[.pointer (some ⟨c, 0, none⟩), .pointer (some ⟨d, 0, none⟩), .pointer (some ⟨gk, 0, none⟩)] : Array Value)[j]? := fun j => by
  obtain ⟨V, a, cp, U, Lk, Vk, ls, h, hl2⟩ := h
  exact cell_of_heap h.box j
theorem NPz.ok (h : NPz w0 w gp c m d gk S n) : S.ok := by
  obtain ⟨V, a, cp, U, Lk, Vk, ls, h, hl2⟩ := h
  exact h.ca.ok
theorem NPz.bel (h : NPz w0 w gp c m d gk S n) : Below w0.heap.size w0 w := by
  obtain ⟨V, a, cp, U, Lk, Vk, ls, h, hl2⟩ := h
  exact h.bel
theorem NPz.look (h : NPz w0 w gp c m d gk S n) : Calls Try.prog 20 #[.pointer (some ⟨c, 0, none⟩)] w fun e w' => ∃ a cp, e = .returned (.slice a S.L.length cp) ∧ Hid (LkI w w' a S.L.length cp S.L) := by
  obtain ⟨V, a, cp, U, Lk, Vk, ls, h, hl2⟩ := h
  exact lookS_any c m S V w h.ca
theorem NPz.rlook (h : NPz w0 w gp c m d gk S n) : Calls Try.prog 32 #[.pointer (some ⟨d, 0, none⟩)] w fun e w' => ∃ a cp, e = .returned (.slice a S.L.length cp) ∧ Hid (LkI w w' a S.L.length cp S.L) := by
  obtain ⟨V, a, cp, U, Lk, Vk, ls, h, hl2⟩ := h
  exact rlook_any d S a cp U w h.rc
theorem NPz.next (h : NPz w0 w gp c m d gk S n) : Calls Try.prog 21 #[.pointer (some ⟨c, 0, none⟩)] w fun e w' => e = .returned (.tuple #[.int .i64 (nextV S), .bool (decide (¬ S.L.length = 0))]) ∧ Hid (Below w.heap.size w w') := by
  obtain ⟨V, a, cp, U, Lk, Vk, ls, h, hl2⟩ := h
  exact nextC_any c m S V w h.ca
theorem NPz.rnext (h : NPz w0 w gp c m d gk S n) : Calls Try.prog 34 #[.pointer (some ⟨d, 0, none⟩)] w fun e w' => e = .returned (.tuple #[.int .i64 (nextV S), .bool (decide (¬ S.L.length = 0))]) ∧ Hid (Below w.heap.size w w') := by
  obtain ⟨V, a, cp, U, Lk, Vk, ls, h, hl2⟩ := h
  exact rnext_any d S a cp U w h.rc
end
/-- three rows of entries, of which the first may be written. -/
structure LkT (w0 w : World) (gp c m d gk : Nat) (S : St) (n N : Nat) (la lb lw : Option Addr) (ca cb cw : Nat) : Prop where
  np : NPz w0 w gp c m d gk S n
  again : RowS w 68 11 (.slice lb N cb) N (nbs S.L)
  want : RowS w 68 11 (.slice lw N cw) N (nbs S.L)
  row : 0 < N → ∃ g, la = some ⟨g, 0, none⟩ ∧ w0.heap.size ≤ g ∧ Blk w 68 g (N * 11) ∧ (Value.slice lb N cb).ownBlock ≠ some g ∧ (Value.slice lw N cw).ownBlock ≠ some g
theorem LkT.below {w0 w w' : World} {gp c m d gk : Nat} {S : St} {n N : Nat} {la lb lw : Option Addr} {ca cb cw : Nat} (h : LkT w0 w gp c m d gk S n N la lb lw ca cb cw) (hb : Below w.heap.size w w') : LkT w0 w' gp c m d gk S n N la lb lw ca cb cw :=
  ⟨h.np.below hb, h.again.below hb, h.want.below hb, fun h0 => by
    obtain ⟨g, e1, e2, ⟨C, hC, hn⟩, e3, e4⟩ := h.row h0
    exact ⟨g, e1, e2, ⟨C, kept hC hb, hn⟩, e3, e4⟩⟩
theorem LkT.made {w0 w w1 w2 w3 : World} {gp c m d gk : Nat} {S : St} {n N : Nat} {la lb lw : Option Addr} {ca cb cw : Nat} (h : NPz w0 w gp c m d gk S n) (hN : N = S.L.length) (l1 : LkI w w1 la N ca S.L) (l2 : LkI w1 w2 lb N cb S.L) (l3 : LkI w2 w3 lw N cw S.L) : LkT w0 w3 gp c m d gk S n N la lb lw ca cb cw := by
  have hs := h.bel.size
  have s1 := l1.below.size
  have s2 := l2.below.size
  refine ⟨h.below (bstep (bstep l1.below l2.below) l3.below), l2.row.below l3.below, l3.row, fun h0 => ?_⟩
  have hrow := l1.row.below (bstep l2.below l3.below)
  obtain ⟨g, cap, e1, e2, e3⟩ := l1.row.some_of h0
  simp only [Value.slice.injEq] at e1
  obtain ⟨rfl, _, rfl⟩ := e1
  have hg := l1.new g rfl
  have hgl := l1.row.lt (g := g) rfl
  refine ⟨g, rfl, by omega, ?_, fun e => by have := l2.new g e; omega, fun e => by have := l3.new g e; omega⟩
  rcases hrow.2 with ⟨e4, _⟩ | ⟨g', cap', cur, e4, _, hg, h5, h6, h7, _⟩
  · simp at e4
  · simp only [Value.slice.injEq, Option.some.injEq, Addr.mk.injEq] at e4
    obtain ⟨⟨rfl, _⟩, _, rfl⟩ := e4
    exact ⟨cur, hg, by rw [h7]; omega⟩
theorem LkT.set {w0 w : World} {gp c m d gk : Nat} {S : St} {n N g : Nat} {lb lw : Option Addr} {ca cb cw : Nat} (h : LkT w0 w gp c m d gk S n N (some ⟨g, 0, none⟩) lb lw ca cb cw) (h0 : 0 < N) (o : Nat) (l : List Value) : LkT w0 (w.setCells g o l) gp c m d gk S n N (some ⟨g, 0, none⟩) lb lw ca cb cw := by
  obtain ⟨g', e1, e2, hB, e3, e4⟩ := h.row h0
  simp only [Option.some.injEq, Addr.mk.injEq, and_true] at e1
  subst e1
  have hb : But g w (w.setCells g o l) := But.setCells g l w o
  obtain ⟨C, hC, hn⟩ := hB
  refine ⟨h.np.but hC (Or.inr rfl) e2 hb, h.again.keep fun b hb' => hb.block b (fun e => e3 (by rw [hb', e])) (h.again.lt hb'), h.want.keep fun b hb' => hb.block b (fun e => e4 (by rw [hb', e])) (h.want.lt hb'), fun _ => ⟨g, rfl, e2, Blk.set ⟨C, hC, hn⟩ o l, e3, e4⟩⟩
set_option maxRecDepth 40000 in
set_option maxHeartbeats 4000000 in
theorem alike_any (w0 w : World) (gp c m d gk : Nat) (S : St) (n : Nat) (h : NPz w0 w gp c m d gk S n) :
    Calls Try.prog 9 #[.pointer (some ⟨gp, 0, none⟩)] w fun e w' => e = .returned (.bool true) ∧ Hid (NPz w0 w' gp c m d gk S n) := by
  obtain ⟨N, hN⟩ : ∃ N, N = S.L.length := ⟨_, rfl⟩
  have hl64 : N ≤ 64 := by have := h.ok.len; have := h.ok.most; omega
  have HK : Hid (∀ wx, NPz w0 wx gp c m d gk S n → Calls Try.prog 20 #[.pointer (some ⟨c, 0, none⟩)] wx fun e w' => ∃ a cp, e = .returned (.slice a N cp) ∧ Hid (LkI wx w' a N cp S.L)) := fun wx hx => by rw [hN]; exact hx.look
  have HR : Hid (∀ wx, NPz w0 wx gp c m d gk S n → Calls Try.prog 32 #[.pointer (some ⟨d, 0, none⟩)] wx fun e w' => ∃ a cp, e = .returned (.slice a N cp) ∧ Hid (LkI wx w' a N cp S.L)) := fun wx hx => by rw [hN]; exact hx.rlook
  have HS : Hid (∀ wx a b ca cb, RowS wx 68 11 (.slice a N ca) N (nbs S.L) → RowS wx 68 11 (.slice b N cb) N (nbs S.L) → Calls Try.prog 33 #[.slice a N ca, .slice b N cb] wx fun e w' => e = .returned (.bool true) ∧ Below wx.heap.size wx w') := fun wx a b ca cb r1 r2 => by
    rw [hN] at r1 r2 ⊢
    exact (same_neighs wx a b ca cb S.L r1 r2 h.ok.ents (by omega)).mono fun e w' ⟨a1, k, a2⟩ => ⟨a1, by rw [a2]; exact bdrewN _ k⟩
  have HX : Hid (∀ wx, NPz w0 wx gp c m d gk S n → Calls Try.prog 21 #[.pointer (some ⟨c, 0, none⟩)] wx fun e w' => e = .returned (.tuple #[.int .i64 (nextV S), .bool (decide (¬ N = 0))]) ∧ Hid (Below wx.heap.size wx w')) := fun wx hx => by rw [hN]; exact hx.next
  have HY : Hid (∀ wx, NPz w0 wx gp c m d gk S n → Calls Try.prog 34 #[.pointer (some ⟨d, 0, none⟩)] wx fun e w' => e = .returned (.tuple #[.int .i64 (nextV S), .bool (decide (¬ N = 0))]) ∧ Hid (Below wx.heap.size wx w')) := fun wx hx => by rw [hN]; exact hx.rnext
  have HN := hid hN
  have HP := hid h
  have b0 := h.box
  clear h hN
  generalize decide (¬ N = 0) = bb at *
  generalize nextV S = nv at *
  go_enter Try.func9, Try.ntmps9
  go_wp2_with (first
    | (go_at_call 20; have _t := HP; refine (HK.out w HP.out).mono ?_; go_loud (rintro e w1 ⟨la, ca, rfl, HL1⟩; have HP1 := hid (HP.out.below HL1.out.below); have b1 := HP1.out.box; have HPP := HP; clear HP))
    | (go_at_call 20; have _t := HP1; refine (HK.out w1 HP1.out).mono ?_; go_loud (rintro e w2 ⟨lb, cb, rfl, HL2⟩; have HP2 := hid (HP1.out.below HL2.out.below); have b2 := HP2.out.box; clear HP1))
    | (go_at_call 32; refine (HR.out w2 HP2.out).mono ?_; go_loud (rintro e w3 ⟨lw, cw, rfl, HL3⟩; have HT3 := hid (LkT.made HPP.out HN.out HL1.out HL2.out HL3.out); have HL13 := hid (HL1.out.row.below (bstep HL2.out.below HL3.out.below))))
    | (go_at_call 33; have _t := HL13; refine (HS.out w3 _ _ _ _ HL13.out HT3.out.want).mono ?_; go_loud (rintro e w4 ⟨rfl, hb4⟩; have HT4 := hid (HT3.out.below hb4); clear HL13 hb4))
    | fail)
  clear HT3 HL1 HL2 HL3 HPP HP2
  go_loopw [7] (fun v wr => ∃ j : Nat, v = .int .i64 j ∧ j ≤ N ∧ Hid (LkT w0 wr gp c m d gk S n N la lb lw ca cb cw)) (fun v _ => N - (intOf3 v).toNat)
  case atStart => exact ⟨0, rfl, Nat.zero_le _, HT4⟩
  case round =>
    obtain ⟨j, rfl, hj, HT⟩ := hrel
    clear HT4
    by_cases hjN : j < N
    · obtain ⟨g, hga, hgl, hblk, _, _⟩ := HT.out.row (by omega)
      subst hga
      have HH := hid (hblk.there (j * 11) 11 (by omega))
      clear hblk
      have k0 : (0 : Int) ≤ (j : Int) := by omega
      have k1 : (j : Int) < (N : Int) := by omega
      go_wp2_with (first
        | (refine wpList_store_mid rfl 68 _ _ rfl g (j * 11) #[.int .u32 0, .int .u8 0, .int .u8 0, .int .u8 0, .int .u8 0, .int .u8 0, .int .u8 0, .int .i64 0, .int .i64 0, .int .i64 (-1), .bool false] rfl rfl HH.out (by kernel_rfl) (by kernel_rfl) ?_; intro w7 HW7)
        | fail)
      go_roundw
      case rel => exact ⟨j + 1, by first | rfl | (congr 1; omega), by omega, by rw [HW7.out]; exact HT.out.set (by omega) _ _⟩
      case measure => simp only [intOf3]; omega
    · have hjj : j = N := by omega
      subst hjj
      have c0 := HT.out.np.box
      clear hjN
      go_wp2_with (first
        | (go_at_call 33; refine (HS.out wr _ _ _ _ HT.out.again HT.out.want).mono ?_; go_loud (rintro e w5 ⟨rfl, hb5⟩; have HP5 := hid (HT.out.np.below hb5); have b5 := HP5.out.box; clear hb5))
        | (go_at_call 21; refine (HX.out w5 HP5.out).mono ?_; go_loud (rintro e w6 ⟨rfl, HB6⟩; have HP6 := hid (HP5.out.below HB6.out); have b6 := HP6.out.box))
        | (go_at_call 34; refine (HY.out w6 HP6.out).mono ?_; go_loud (rintro e w7 ⟨rfl, HB7⟩; have HP7 := hid (HP6.out.below HB7.out)))
        | fail)
      go_ret
      exact ⟨rfl, HP7⟩
end Go.Proofs.Ytdgjpikphooilaa

/-
  Neigh: what is sent is within bounds.
-/
namespace Go.Proofs.Ytdgjpikphooilaa
open Go.RowKit
set_option linter.all false

def big : Nat := 140737488351232
def SdB (s : Sd) : Prop := s.dst.ok ∧ (∀ z ∈ s.zs, 0 ≤ z ∧ z ≤ 255) ∧ s.zs.length ≤ big
def StB (S : St) : Prop := ∀ y ∈ S.L, y.zs.length ≤ big
theorem queS_b {S : St} (h : S.ok) {ip : Int} {x : Ab} (hi : ipOk ip) (hs : ipOk x.src) : SdB (queS S ip x) := by
  refine ⟨everyM_ok, encL_bd _ ?_, by show (encL _).length ≤ _; rw [encL_len]; unfold big; omega⟩
  have h1 := h.own
  have h2 : zeroMac.ok := by simp [Mac.ok, zeroMac]
  unfold ipOk at hi hs
  simp only [Arp.ok, askP]
  refine ⟨?_, ?_, ?_, ?_, ?_⟩ <;> first | exact h1 | exact h2 | exact hs | exact hi | omega
theorem tellS_b {S : St} (h : S.ok) {p : Arp} (hp : p.ok) : SdB (tellS S p) := by
  have h1 := h.own
  have hp' := hp
  obtain ⟨o, s, si, dm, di⟩ := p
  simp only [Arp.ok] at hp
  obtain ⟨p1, p2, p3, p4, p5⟩ := hp
  refine ⟨by first | exact p2 | exact p3, encL_bd _ ?_, by show (encL _).length ≤ _; rw [encL_len]; unfold big; omega⟩
  simp only [Arp.ok, tellP]
  refine ⟨?_, ?_, ?_, ?_, ?_⟩ <;> first | exact h1 | exact p2 | exact p3 | exact p4 | exact p5 | omega
theorem hear_ok {S : St} (h : S.ok) (now : Int) : St.ok { S with now := hearN S.now now } := ⟨h.own, h.most, hearN_ok h.now, h.rise, h.len, h.ents⟩
theorem put_b {L : List Ab} {x : Ab} (hL : ∀ y ∈ L, y.zs.length ≤ big) (hx : x.zs.length ≤ big) : ∀ y ∈ put L x, y.zs.length ≤ big := fun y hy => by
  rcases mem_put.1 hy with rfl | ⟨h, _⟩
  · exact hx
  · exact hL y h
theorem askNew_b {S : St} (h : S.ok) (hb : StB S) {src ip : Int} {zs : List Int} (hs : ipOk src) (hi : ipOk ip) (hl : zs.length ≤ big) : StB (askNew S src ip zs).1 ∧ (∀ s ∈ (askNew S src ip zs).2, SdB s) ∧ (askNew S src ip zs).2.length ≤ 1 := by
  unfold askNew
  split
  · exact ⟨hb, by simp, by simp⟩
  · rename_i L' hL'
    obtain ⟨_, _, h3⟩ := roomL_some hL' h.len h.rise
    refine ⟨put_b (fun y hy => hb y (h3 y hy)) hl, fun s hs' => ?_, by simp⟩
    simp only [List.mem_singleton] at hs'
    subst hs'
    exact queS_b h hi hs
theorem ask_b {S : St} (h : S.ok) (hb : StB S) {src ip : Int} {zs : List Int} (now : Int) (hs : ipOk src) (hi : ipOk ip) (hz : ∀ z ∈ zs, 0 ≤ z ∧ z ≤ 255) (hl : zs.length ≤ big) : StB (askF S src ip zs now).1 ∧ (∀ s ∈ (askF S src ip zs now).2, SdB s) ∧ (askF S src ip zs now).2.length ≤ 64 := by
  have h1 := hear_ok h now
  have hd : St.ok { S with now := hearN S.now now, L := del S.L ip } := ⟨h1.own, h1.most, h1.now, h1.rise.del _, by have := h1.len; have := List.length_filter_le (fun y : Ab => y.ip != ip) S.L; show ((del S.L ip).length : Int) ≤ _; unfold del; simp only at *; omega, fun y hy => h1.ents y (mem_del.1 hy).1⟩
  have hdb : StB { S with now := hearN S.now now, L := del S.L ip } := fun y hy => hb y (mem_del.1 hy).1
  have hn := askNew_b hd hdb hs hi hl
  simp only [askF]
  split
  · rename_i e he
    split
    · exact ⟨put_b hb hl, by simp, by simp⟩
    · split
      · refine ⟨hb, fun s hs' => ?_, by simp⟩
        simp only [List.mem_singleton] at hs'
        subst hs'
        exact ⟨(h.ents e (look_some he).1).mac, hz, hl⟩
      · exact ⟨hn.1, hn.2.1, by have := hn.2.2; omega⟩
  · exact ⟨hn.1, hn.2.1, by have := hn.2.2; omega⟩
theorem learn_b {S : St} (h : S.ok) (hb : StB S) {ip : Int} {mc : Mac} (wt : Bool) (hm : mc.ok) : StB (learnF S ip mc wt).1 ∧ (∀ s ∈ (learnF S ip mc wt).2, SdB s) ∧ (learnF S ip mc wt).2.length ≤ 1 := by
  unfold learnF
  split
  · rename_i y hy
    have hym := (look_some hy).1
    refine ⟨put_b hb (by simp [knE]), fun s hs => ?_, by split <;> simp⟩
    split at hs
    · simp only [List.mem_singleton] at hs
      subst hs
      exact ⟨hm, (h.ents y hym).zs, hb y hym⟩
    · simp at hs
  · split
    · split
      · exact ⟨hb, by simp, by simp⟩
      · rename_i L' hL'
        obtain ⟨_, _, h3⟩ := roomL_some hL' h.len h.rise
        exact ⟨put_b (fun y hy => hb y (h3 y hy)) (by simp [knE]), by simp, by simp⟩
    · exact ⟨hb, by simp, by simp⟩
theorem on_b {S : St} (h : S.ok) (hb : StB S) {p : Arp} (own now : Int) (hp : p.ok) : StB (onF S p own now).1 ∧ (∀ s ∈ (onF S p own now).2, SdB s) ∧ (onF S p own now).2.length ≤ 64 := by
  have h1 := hear_ok h now
  have hb1 : StB { S with now := hearN S.now now } := hb
  have hpm : p.s.ok := by obtain ⟨o, s, si, dm, di⟩ := p; simp only [Arp.ok] at hp; first | exact hp.2.1 | exact hp.1
  simp only [onF]
  split
  · exact ⟨hb, by simp, by simp⟩
  · have hl := learn_b h1 hb1 (ip := p.si) (askedB p own) hpm
    have ht : ∀ s ∈ (if askedB p own = true then [tellS { S with now := hearN S.now now } p] else []), SdB s := fun s hs => by
      split at hs
      · simp only [List.mem_singleton] at hs
        subst hs
        exact tellS_b h1 hp
      · simp at hs
    have hlen : (if askedB p own = true then [tellS { S with now := hearN S.now now } p] else []).length ≤ 1 := by split <;> simp
    split
    · refine ⟨hl.1, fun s hs => ?_, by rw [List.length_append]; have := hl.2.2; omega⟩
      rcases List.mem_append.1 hs with hs | hs
      · exact hl.2.1 s hs
      · exact ht s hs
    · refine ⟨hb, fun s hs => ?_, by rw [List.length_append]; simp only [List.length_nil]; omega⟩
      rcases List.mem_append.1 hs with hs | hs
      · simp at hs
      · exact ht s hs
theorem flat_len {α β : Type} (f : α → List β) : ∀ (l : List α), (∀ x ∈ l, (f x).length ≤ 1) → (l.flatMap f).length ≤ l.length
  | [], _ => by simp
  | x :: r, h => by
    rw [List.flatMap_cons, List.length_append, List.length_cons]
    have := h x (by simp)
    have := flat_len f r (fun y hy => h y (List.mem_cons_of_mem _ hy))
    omega
theorem tickS_len (S : St) (x : Ab) : (tickS S x).length ≤ 1 := by
  unfold tickS
  split
  · simp
  · split <;> simp
theorem tick_b {S : St} (h : S.ok) (hb : StB S) (now : Int) : StB (tickF S now).1 ∧ (∀ s ∈ (tickF S now).2, SdB s) ∧ (tickF S now).2.length ≤ 64 := by
  have h1 := hear_ok h now
  simp only [tickF]
  refine ⟨fun y hy => ?_, fun s hs => ?_, ?_⟩
  · obtain ⟨z, hz, e⟩ := List.mem_filterMap.1 hy
    unfold tick1 at e
    split at e
    · simp at e; subst e; exact hb z hz
    · split at e
      · simp at e; subst e; exact hb z hz
      · simp at e
  · obtain ⟨z, hz, e⟩ := List.mem_flatMap.1 hs
    unfold tickS at e
    split at e
    · simp at e
    · split at e
      · simp only [List.mem_singleton] at e
        subst e
        exact queS_b h1 (h.ents z hz).ip (h.ents z hz).src
      · simp at e
  · have h2 := flat_len (tickS { S with now := hearN S.now now }) S.L (fun x hx => tickS_len _ x)
    have := h.len; have := h.most
    omega
end Go.Proofs.Ytdgjpikphooilaa
