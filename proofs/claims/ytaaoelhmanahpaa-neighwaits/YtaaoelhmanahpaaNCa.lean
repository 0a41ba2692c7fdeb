/-
  Neigh: a cache in memory; its small methods.
-/
import Derived.Test.YtaaoelhmanahpaaNIt
namespace Go.Proofs.Ytaaoelhmanahpaa
open Go.RowKit
set_option linter.all false

def maxT : Int := 1125899906842624
/-- a cache. -/
structure St where
  own : Mac
  most : Int
  now : Int
  L : List Ab
def known (x : Ab) : Bool := decide (x.q ≤ 0)
structure Ab.ok (x : Ab) : Prop where
  ip : ipOk x.ip
  unt : 0 ≤ x.unt ∧ x.unt ≤ 1125899906842624
  mac : x.mac.ok
  q : 0 ≤ x.q ∧ x.q ≤ 3
  src : ipOk x.src
  zs : ∀ z, z ∈ x.zs → 0 ≤ z ∧ z ≤ 255
  kn : x.q = 0 → x.zs = [] ∧ x.src = 0
  asd : x.q ≠ 0 → x.mac = zeroMac
structure St.ok (S : St) : Prop where
  own : S.own.ok
  most : 1 ≤ S.most ∧ S.most ≤ 64
  now : 0 ≤ S.now ∧ S.now ≤ 1125899906842624
  rise : Rise S.L
  len : (S.L.length : Int) ≤ S.most
  ents : ∀ x ∈ S.L, x.ok
def caCells (S : St) (m : Nat) : Array Value := #[.int .u8 S.own.b0, .int .u8 S.own.b1, .int .u8 S.own.b2, .int .u8 S.own.b3, .int .u8 S.own.b4, .int .u8 S.own.b5, .int .i64 S.most, .int .i64 S.now, .map (some m)]
/-- only c and m may have turned, and new blocks come. -/
structure Two (c m : Nat) (w w' : World) : Prop where
  os : w'.os = w.os
  tape : w'.tape = w.tape
  output : w'.output = w.output
  size : w.heap.size ≤ w'.heap.size
  block : ∀ k, k ≠ c → k ≠ m → k < w.heap.size → w'.heap[k]? = w.heap[k]?
section
variable {c m : Nat} {w w' w'' : World}
theorem Two.refl (c m : Nat) (w : World) : Two c m w w := ⟨rfl, rfl, rfl, Nat.le_refl _, fun _ _ _ _ => rfl⟩
theorem Two.trans (h : Two c m w w') (k : Two c m w' w'') : Two c m w w'' := ⟨k.os.trans h.os, k.tape.trans h.tape, k.output.trans h.output, Nat.le_trans h.size k.size, fun i h1 h2 hl => (k.block i h1 h2 (Nat.lt_of_lt_of_le hl h.size)).trans (h.block i h1 h2 hl)⟩
theorem Two.of_below (h : Below w.heap.size w w') : Two c m w w' := ⟨h.os, h.tape, h.output, h.size, fun k _ _ hl => h.block k hl⟩
theorem Two.of_c (h : But c w w') : Two c m w w' := ⟨h.os, h.tape, h.output, h.size, fun k h1 _ hl => h.block k h1 hl⟩
theorem Two.of_m (h : But m w w') : Two c m w w' := ⟨h.os, h.tape, h.output, h.size, fun k _ h2 hl => h.block k h2 hl⟩
theorem Two.below {B : Nat} (h : Two c m w w') (hc : B ≤ c) (hm : B ≤ m) (hs : B ≤ w.heap.size) : Below B w w' := ⟨h.os, h.tape, h.output, h.size, fun k hl => h.block k (by omega) (by omega) (by omega)⟩
theorem Two.new {k : Nat} (h : Two c m w w') (hk : But k w' w'') (hn : w.heap.size ≤ k) : Two c m w w'' := ⟨hk.os.trans h.os, hk.tape.trans h.tape, hk.output.trans h.output, Nat.le_trans h.size hk.size, fun i h1 h2 hl => (hk.block i (by omega) (Nat.lt_of_lt_of_le hl h.size)).trans (h.block i h1 h2 hl)⟩
theorem Two.drewN (h : Two c m w w') (n : Nat) : Two c m w (w'.drewN n) := h.trans (Two.of_below ⟨rfl, rfl, rfl, Nat.le_refl _, fun _ _ => rfl⟩)
end
/-- the cache in block c, its map in block m; V: the packets as slices. -/
structure CaW (w : World) (c m : Nat) (S : St) (V : Int → Value) : Prop where
  box : w.heap[c]? = some (.cells (caCells S m) 76 (0, 0))
  map : MapE w m S.L V
  rows : ∀ x ∈ S.L, Row w 5 (V x.ip) (u8s x.zs)
  apart : ∀ x ∈ S.L, ∀ y ∈ S.L, x.ip ≠ y.ip → ∀ b, (V x.ip).ownBlock = some b → (V y.ip).ownBlock ≠ some b
  ok : S.ok
theorem row_not {w : World} {e t : TypeId} {v : Value} {vs : List Value} {k : Nat} {C : Array Value} {f : Nat × Nat} (h : Row w e v vs) (hk : w.heap[k]? = some (.cells C t f)) (hne : e ≠ t) : ∀ b, v.ownBlock = some b → b ≠ k := by
  rintro b hb rfl
  rcases h with ⟨rfl, _⟩ | ⟨g, cap, cur, lo, hi, rfl, hg, _⟩
  · simp [Value.ownBlock] at hb
  · simp [Value.ownBlock] at hb; subst hb
    rw [hg] at hk
    simp only [Option.some.injEq, Obj.cells.injEq] at hk
    exact hne hk.2.1
theorem row_not_map {w : World} {e : TypeId} {v : Value} {vs : List Value} {k : Nat} {es : Array MapEntry} {n : Nat} (h : Row w e v vs) (hk : w.heap[k]? = some (.map es n)) : ∀ b, v.ownBlock = some b → b ≠ k := by
  rintro b hb rfl
  rcases h with ⟨rfl, _⟩ | ⟨g, cap, cur, lo, hi, rfl, hg, _⟩
  · simp [Value.ownBlock] at hb
  · simp [Value.ownBlock] at hb; subst hb
    rw [hg] at hk
    simp at hk
section
variable {w w' : World} {c m : Nat} {S : St} {V : Int → Value}
theorem CaW.ltc (x : CaW w c m S V) : c < w.heap.size := heap_lt x.box
theorem CaW.ltm (x : CaW w c m S V) : m < w.heap.size := x.map.lt
theorem CaW.ne (x : CaW w c m S V) : c ≠ m := by
  rintro rfl
  obtain ⟨es, clock, h1, _⟩ := x.map
  rw [x.box] at h1
  simp at h1
theorem CaW.rowc (x : CaW w c m S V) {y : Ab} (hy : y ∈ S.L) : ∀ b, (V y.ip).ownBlock = some b → b ≠ c ∧ b ≠ m := fun b hb => by
  obtain ⟨es, clock, h1, _⟩ := x.map
  exact ⟨row_not (x.rows y hy) x.box (by decide) b hb, row_not_map (x.rows y hy) h1 b hb⟩
theorem CaW.keep (x : CaW w c m S V) (hc : w'.heap[c]? = w.heap[c]?) (hm : w'.heap[m]? = w.heap[m]?) (hr : ∀ y ∈ S.L, ∀ b, (V y.ip).ownBlock = some b → w'.heap[b]? = w.heap[b]?) : CaW w' c m S V :=
  ⟨hc.trans x.box, x.map.keep hm, fun y hy => (x.rows y hy).keep (hr y hy), x.apart, x.ok⟩
theorem CaW.below (x : CaW w c m S V) (hb : Below w.heap.size w w') : CaW w' c m S V :=
  x.keep (hb.block c x.ltc) (hb.block m x.ltm) (fun y hy b h => hb.block b ((x.rows y hy).lt h))
theorem CaW.drewN (x : CaW w c m S V) (n : Nat) : CaW (w.drewN n) c m S V := x.keep rfl rfl (fun _ _ _ _ => rfl)
theorem CaW.time (x : CaW w c m S V) (t : Int) (h0 : 0 ≤ t) (h1 : t ≤ 1125899906842624) : CaW (w.setCell ⟨c, 7, none⟩ (.int .i64 t)) c m { S with now := t } V := by
  have hne := x.ne
  have hb : But c w (w.setCell ⟨c, 7, none⟩ (.int .i64 t)) := But.setCell _ _ _ _
  refine ⟨?_, x.map.keep (hb.block m (Ne.symm hne) x.ltm), fun y hy => (x.rows y hy).keep fun b h => hb.block b (x.rowc hy b h).1 ((x.rows y hy).lt h), x.apart, ⟨x.ok.own, x.ok.most, ⟨h0, h1⟩, x.ok.rise, x.ok.len, x.ok.ents⟩⟩
  rw [heap_setCell x.box]
  rfl
theorem CaW.cells (x : CaW w c m S V) : (w.cell? ⟨c, 0, none⟩ = some (.int .u8 S.own.b0) ∧ w.cell? ⟨c, 1, none⟩ = some (.int .u8 S.own.b1) ∧ w.cell? ⟨c, 2, none⟩ = some (.int .u8 S.own.b2) ∧ w.cell? ⟨c, 3, none⟩ = some (.int .u8 S.own.b3) ∧ w.cell? ⟨c, 4, none⟩ = some (.int .u8 S.own.b4) ∧ w.cell? ⟨c, 5, none⟩ = some (.int .u8 S.own.b5)) ∧ w.cell? ⟨c, 6, none⟩ = some (.int .i64 S.most) ∧ w.cell? ⟨c, 7, none⟩ = some (.int .i64 S.now) ∧ w.cell? ⟨c, 8, none⟩ = some (.map (some m)) ∧ w.frozen? ⟨c, 7, none⟩ = false := by
  have h := x.box
  refine ⟨⟨?_, ?_, ?_, ?_, ?_, ?_⟩, ?_, ?_, ?_, frozen_of_heap h _⟩ <;> (rw [cell_of_heap h]; rfl)
end
/-- a time that is told. -/
def hearN (now n : Int) : Int := min (max now n) 1125899906842624
theorem hearN_ok {now n : Int} (h : 0 ≤ now ∧ now ≤ 1125899906842624) : 0 ≤ hearN now n ∧ hearN now n ≤ 1125899906842624 := by unfold hearN; omega
theorem hear_any (c m : Nat) (S : St) (V : Int → Value) (n : Int) (w : World) (x : CaW w c m S V) :
    Calls Try.prog 37 #[.pointer (some ⟨c, 0, none⟩), .int .i64 n] w fun e w' => e = .returned (.tuple #[]) ∧ Hid (CaW w' c m { S with now := hearN S.now n } V) ∧ Hid (But c w w') := by
  have HX := hid x
  obtain ⟨_, c6, c7, c8, f7⟩ := x.cells
  have hn := x.ok.now
  have HT := hid (x.time (hearN S.now n) (hearN_ok hn).1 (hearN_ok hn).2)
  clear x
  go_enter Try.func37, Try.ntmps37
  go_wp2
  all_goals go_end0
  all_goals first
    | (rw [show hearN S.now n = n from by unfold hearN; omega] at HT ⊢; exact ⟨rfl, HT, But.setCell _ _ _ _⟩)
    | (rw [show hearN S.now n = S.now from by unfold hearN; omega] at HT ⊢; exact ⟨rfl, HT, But.setCell _ _ _ _⟩)
    | (rw [show hearN S.now n = 1125899906842624 from by unfold hearN; omega] at HT ⊢; exact ⟨rfl, HT, But.setCell _ _ _ _⟩)
/-- a time so many ticks on. -/
def aft (now n : Int) : Int := min (now + n) 1125899906842624
theorem after_any (c m : Nat) (S : St) (V : Int → Value) (n : Int) (hn0 : 0 ≤ n ∧ n ≤ 600) (w : World) (x : CaW w c m S V) :
    Calls Try.prog 64 #[.pointer (some ⟨c, 0, none⟩), .int .i64 n] w fun e w' => e = .returned (.int .i64 (aft S.now n)) ∧ w' = w := by
  obtain ⟨_, c6, c7, c8, f7⟩ := x.cells
  have hn := x.ok.now
  clear x
  go_enter Try.func64, Try.ntmps64
  go_wp2
  all_goals go_ret
  all_goals exact ⟨ret_int (by unfold aft; omega), rfl⟩
theorem asked_any (x : Ab) (v : Value) (w : World) : Calls Try.prog 38 #[x.val v] w fun e w' => e = .returned (.bool (decide (0 < x.q))) ∧ Below w.heap.size w w' := by
  obtain ⟨i, u, ⟨b0, b1, b2, b3, b4, b5⟩, q, s, zs⟩ := x
  simp only [Ab.val]
  go_enter Try.func38, Try.ntmps38
  go_wp2
  go_ret
  exact ⟨rfl, (Below.refl _ _).alloc (Nat.le_refl _) _⟩
end Go.Proofs.Ytaaoelhmanahpaa
