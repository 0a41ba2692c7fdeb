import Derived.Test.YtdgjpikphooilaaNLook
import Derived.BigQuiet
import Derived.Test.YtdgjpikphooilaaBOwnP
import Derived.Test.YtdgjpikphooilaaNNext
import Derived.Test.YtdgjpikphooilaaBPutTo
import Derived.Test.YtdgjpikphooilaaAEnc
import Derived.Deep.RegionLaw
/-
  The document's cache in memory; its small methods.
-/
namespace Go.Proofs.Ytdgjpikphooilaa
open Go.RowKit
set_option linter.all false

def stV (q : Int) : Int := if 0 < q then 1 else 2
def wtV (q : Int) : Bool := decide (0 < q)
/-- an entry of the document's. -/
def rfC (y : Ab) (v : Value) : Array Value := #[.int .u32 y.ip, .int .u8 y.mac.b0, .int .u8 y.mac.b1, .int .u8 y.mac.b2, .int .u8 y.mac.b3, .int .u8 y.mac.b4, .int .u8 y.mac.b5, .int .i64 (stV y.q), .int .i64 y.unt, .int .i64 y.q, .bool (wtV y.q), .int .u32 y.src, v]
def rfs (L : List Ab) (V : Int → Value) : List Value := L.flatMap fun y => (rfC y (V y.ip)).toList
def rcCells (S : St) (v : Value) : Array Value := #[.int .u8 S.own.b0, .int .u8 S.own.b1, .int .u8 S.own.b2, .int .u8 S.own.b3, .int .u8 S.own.b4, .int .u8 S.own.b5, .int .i64 S.most, v, .int .i64 S.now]
theorem rfs_get (V : Int → Value) : ∀ (L : List Ab) (k j : Nat) (y : Ab), L[k]? = some y → j < 13 → (rfs L V)[k * 13 + j]? = (rfC y (V y.ip))[j]?
  | [], k, j, y, h, _ => by simp at h
  | x :: L, 0, j, y, h, hj => by
    simp at h; subst h
    simp only [rfs, List.flatMap_cons, Nat.zero_mul, Nat.zero_add]
    rw [List.getElem?_append_left (by simp [rfC]; omega), Array.getElem?_toList]
  | x :: L, k + 1, j, y, h, hj => by
    simp at h
    have ih := rfs_get V L k j y h hj
    simp only [rfs, List.flatMap_cons] at ih ⊢
    rw [List.getElem?_append_right (by simp [rfC]; omega)]
    rw [show (k + 1) * 13 + j - (rfC x (V x.ip)).toList.length = k * 13 + j from by simp [rfC]; omega]
    exact ih
theorem rfs_len (V : Int → Value) : ∀ (L : List Ab), (rfs L V).length = L.length * 13
  | [] => rfl
  | x :: L => by
    have := rfs_len V L
    simp only [rfs, List.flatMap_cons, List.length_append, List.length_cons] at this ⊢
    rw [this]; simp [rfC]; omega
/-- the document's cache in block d; V: the packets. -/
structure RcW (w : World) (d : Nat) (S : St) (a : Option Addr) (cp : Nat) (V : Int → Value) : Prop where
  box : w.heap[d]? = some (.cells (rcCells S (.slice a S.L.length cp)) 79 (0, 0))
  row : RowS w 103 13 (.slice a S.L.length cp) S.L.length (rfs S.L V)
  pks : ∀ y ∈ S.L, Row w 5 (V y.ip) (u8s y.zs)
  ok : S.ok
section
variable {w w' : World} {d : Nat} {S : St} {a : Option Addr} {cp : Nat} {V : Int → Value}
theorem RcW.lt (x : RcW w d S a cp V) : d < w.heap.size := heap_lt x.box
theorem RcW.rowd (x : RcW w d S a cp V) : ∀ b, (Value.slice a S.L.length cp).ownBlock = some b → b ≠ d := rowS_not x.row x.box (by decide)
theorem RcW.pkd (x : RcW w d S a cp V) {y : Ab} (hy : y ∈ S.L) : ∀ b, (V y.ip).ownBlock = some b → b ≠ d := row_not (x.pks y hy) x.box (by decide)
theorem RcW.keep (x : RcW w d S a cp V) (h1 : w'.heap[d]? = w.heap[d]?) (h2 : ∀ b, (Value.slice a S.L.length cp).ownBlock = some b → w'.heap[b]? = w.heap[b]?) (h3 : ∀ y ∈ S.L, ∀ b, (V y.ip).ownBlock = some b → w'.heap[b]? = w.heap[b]?) : RcW w' d S a cp V :=
  ⟨h1.trans x.box, x.row.keep h2, fun y hy => (x.pks y hy).keep (h3 y hy), x.ok⟩
theorem RcW.below (x : RcW w d S a cp V) (hb : Below w.heap.size w w') : RcW w' d S a cp V :=
  x.keep (hb.block d x.lt) (fun b h => hb.block b (x.row.lt h)) (fun y hy b h => hb.block b ((x.pks y hy).lt h))
theorem RcW.cells (x : RcW w d S a cp V) : ∀ j, w.cell? ⟨d, j, none⟩ = (rcCells S (.slice a S.L.length cp))[j]? := fun j => cell_of_heap x.box j
theorem RcW.time (x : RcW w d S a cp V) (t : Int) (h : 0 ≤ t ∧ t ≤ 1125899906842624) : RcW (w.setCell ⟨d, 8, none⟩ (.int .i64 t)) d { S with now := t } a cp V := by
  have hb : But d w (w.setCell ⟨d, 8, none⟩ (.int .i64 t)) := But.setCell _ _ _ _
  refine ⟨?_, x.row.keep fun b h => hb.block b (x.rowd b h) (x.row.lt h), fun y hy => (x.pks y hy).keep fun b h => hb.block b (x.pkd hy b h) ((x.pks y hy).lt h), ⟨x.ok.own, x.ok.most, h, x.ok.rise, x.ok.len, x.ok.ents⟩⟩
  rw [heap_setCell x.box]
  rfl
/-- entry k. -/
theorem RcW.ent (x : RcW w d S a cp V) {k : Nat} {y : Ab} (hy : S.L[k]? = some y) : ∃ g, a = some ⟨g, 0, none⟩ ∧ ∀ j, j < 13 → w.cell? ⟨g, k * 13 + j, none⟩ = (rfC y (V y.ip))[j]? := by
  have hk : k < S.L.length := (List.getElem?_eq_some_iff.1 hy).1
  obtain ⟨g, cap, h1, h2, h3⟩ := x.row.some_of (by omega)
  simp only [Value.slice.injEq] at h1
  obtain ⟨rfl, _, rfl⟩ := h1
  refine ⟨g, rfl, fun j hj => ?_⟩
  have h4 := rfs_get V S.L k j y hy hj
  have h5 : j < (rfC y (V y.ip)).size := by simp [rfC]; omega
  rw [Array.getElem?_eq_getElem h5] at h4 ⊢
  exact RowS.cell x.row h4
end
theorem refTellN {now n : Int} (h : 0 ≤ now ∧ now ≤ 1125899906842624) : max now (min n 1125899906842624) = hearN now n := by unfold hearN; omega
set_option maxHeartbeats 1000000 in
theorem rtell_any (d : Nat) (S : St) (a : Option Addr) (cp : Nat) (V : Int → Value) (n : Int) (w : World) (x : RcW w d S a cp V) :
    Calls Try.prog 50 #[.pointer (some ⟨d, 0, none⟩), .int .i64 n] w fun e w' => e = .returned (.tuple #[]) ∧ Hid (RcW w' d { S with now := hearN S.now n } a cp V) ∧ Hid (But d w w') := by
  have c8 : w.cell? ⟨d, 8, none⟩ = some (.int .i64 S.now) := x.cells 8
  have f8 : w.frozen? ⟨d, 8, none⟩ = false := frozen_of_heap x.box 8
  have hn := x.ok.now
  have HT := hid (x.time (hearN S.now n) (hearN_ok hn))
  clear x
  go_enter Try.func50, Try.ntmps50
  go_wp2
  all_goals go_end0
  all_goals first
    | (rw [← refTellN hn] at HT ⊢; exact ⟨rfl, HT, But.setCell _ _ _ _⟩)
    | (rw [show hearN S.now n = n from by unfold hearN; omega] at HT ⊢; exact ⟨rfl, HT, But.setCell _ _ _ _⟩)
    | (rw [show hearN S.now n = S.now from by unfold hearN; omega] at HT ⊢; exact ⟨rfl, HT, But.setCell _ _ _ _⟩)
    | (rw [show hearN S.now n = 1125899906842624 from by unfold hearN; omega] at HT ⊢; exact ⟨rfl, HT, But.setCell _ _ _ _⟩)
theorem rbehind_any (d : Nat) (S : St) (a : Option Addr) (cp : Nat) (V : Int → Value) (n : Int) (hn0 : 0 ≤ n ∧ n ≤ 600) (w : World) (x : RcW w d S a cp V) :
    Calls Try.prog 55 #[.pointer (some ⟨d, 0, none⟩), .int .i64 n] w fun e w' => e = .returned (.int .i64 (aft S.now n)) ∧ w' = w := by
  have c8 : w.cell? ⟨d, 8, none⟩ = some (.int .i64 S.now) := x.cells 8
  have hn := x.ok.now
  clear x
  go_enter Try.func55, Try.ntmps55
  go_wp2
  all_goals go_ret
  all_goals exact ⟨ret_int (by unfold aft; omega), rfl⟩
/-- the place of an address. -/
def atV (L : List Ab) (ip : Int) (r : Int) : Prop := (r = -1 ∧ look L ip = none) ∨ ∃ (k : Nat) (y : Ab), r = k ∧ L[k]? = some y ∧ y.ip = ip ∧ look L ip = some y
set_option maxRecDepth 20000 in
set_option maxHeartbeats 2000000 in
theorem rat_any (d : Nat) (S : St) (a : Option Addr) (cp : Nat) (V : Int → Value) (ip : Int) (w : World) (x : RcW w d S a cp V) :
    Calls Try.prog 51 #[.pointer (some ⟨d, 0, none⟩), .int .u32 ip] w fun e w' => ∃ r, e = .returned (.int .i64 r) ∧ atV S.L ip r ∧ Hid (Below w.heap.size w w') := by
  have HX := hid x
  have hl64 : S.L.length ≤ 64 := by have := x.ok.len; have := x.ok.most; omega
  clear x
  go_enter Try.func51, Try.ntmps51
  go_wp2_with fail
  go_loopw [5] (fun vi wr => ∃ (k : Nat), vi = .int .i64 k ∧ k ≤ S.L.length ∧ Hid (∀ (j : Nat) (y : Ab), j < k → S.L[j]? = some y → y.ip ≠ ip) ∧ Hid (Below w.heap.size w wr)) (fun vi _ => S.L.length - (intOf3 vi).toNat)
  case atStart => exact ⟨0, rfl, Nat.zero_le _, fun j y hj => by omega, Below.refl _ _⟩
  case round =>
    obtain ⟨k, rfl, hk, HN, HB⟩ := hrel
    have HXR := hid (HX.out.below HB.out)
    have c7 : wr.cell? ⟨d, 7, none⟩ = some (.slice a S.L.length cp) := HXR.out.cells 7
    by_cases hkl : k < S.L.length
    · obtain ⟨y, hy⟩ : ∃ y, S.L[k]? = some y := ⟨_, List.getElem?_eq_getElem hkl⟩
      obtain ⟨g, rfl, hc⟩ := HXR.out.ent hy
      have hc0 : wr.cell? ⟨g, k * 13, none⟩ = some (.int .u32 y.ip) := hc 0 (by omega)
      clear hc
      have HY := hid hy
      clear hy
      by_cases he : y.ip = ip
      · have HE : Hid (atV S.L ip k) := Or.inr ⟨k, y, rfl, HY.out, he, by
          rw [← he]; exact look_of HX.out.ok.rise (List.mem_of_getElem? HY.out)⟩
        have heb : (y.ip == ip) = true := by simpa using he
        clear he
        go_wp2_with fail
        go_ret
        exact ⟨k, rfl, HE.out, HB⟩
      · have heb : (y.ip == ip) = false := by simpa using he
        have HE : Hid (∀ (j : Nat) (z : Ab), j < k + 1 → S.L[j]? = some z → z.ip ≠ ip) := fun j z hj hz => by
          by_cases hjk : j < k
          · exact HN.out j z hjk hz
          · have : j = k := by omega
            subst this
            rw [HY.out] at hz
            simp at hz; subst hz; exact he
        clear he
        go_wp2_with fail
        go_roundw
        case rel => exact ⟨k + 1, by first | rfl | (congr 1; omega), by omega, HE, HB⟩
        case measure => simp only [intOf3]; omega
    · have HE : Hid (atV S.L ip (-1)) := Or.inl ⟨rfl, look_no fun z hz => by
        obtain ⟨j, hj, rfl⟩ := List.getElem_of_mem hz
        exact HN.out j _ (by omega) (List.getElem?_eq_getElem hj)⟩
      go_wp2_with fail
      go_ret
      exact ⟨-1, rfl, HE.out, HB⟩
end Go.Proofs.Ytdgjpikphooilaa

/-
  The document's cache: drop. Written by mkrdr.py.
-/
namespace Go.Proofs.Ytdgjpikphooilaa
open Go.RowKit
set_option linter.all false

theorem infoEn : (Try.prog.info? 103).map (fun i => (i.zero, i.size, i.bytes)) = some (some (.agg #[.int .u32 0, .int .u8 0, .int .u8 0, .int .u8 0, .int .u8 0, .int .u8 0, .int .u8 0, .int .i64 0, .int .i64 0, .int .i64 0, .bool false, .int .u32 0, .slice none 0 0]), 13, 80) := by kernel_rfl
/-- a row of entries that is being made. -/
structure RoI (w wr : World) (a : Option Addr) (n cp : Nat) (O : List Ab) (V : Int → Value) : Prop where
  len : O.length = n
  row : RowS wr 103 13 (.slice a n cp) n (rfs O V)
  new : ∀ b, (Value.slice a n cp).ownBlock = some b → w.heap.size ≤ b
  below : Below w.heap.size w wr
theorem RoI.void (w : World) (V : Int → Value) : RoI w w none 0 0 [] V := ⟨rfl, RowS.nil _ _ _, by simp [Value.ownBlock], Below.refl _ _⟩
theorem rfs_snoc (O : List Ab) (y : Ab) (V : Int → Value) : rfs (O ++ [y]) V = rfs O V ++ (rfC y (V y.ip)).toList := by simp [rfs]
theorem RoI.one {w wr w5 : World} {a : Option Addr} {n cp : Nat} {O : List Ab} {V : Int → Value} (h : RoI w wr a n cp O V) (hb : Below wr.heap.size wr w5) (y : Ab) {pa : Option Addr} {pn pc : Nat} (hv : V y.ip = .slice pa pn pc) (hl : n ≤ 64) :
    ∃ a' cp' w7, (Builtin.append_ #[77, 77] 77 #[.slice a n cp, .slice (some ⟨w5.heap.size, 0, none⟩) 1 1]).run Try.prog (w5.alloc (.cells #[.int .u32 y.ip, .int .u8 y.mac.b0, .int .u8 y.mac.b1, .int .u8 y.mac.b2, .int .u8 y.mac.b3, .int .u8 y.mac.b4, .int .u8 y.mac.b5, .int .i64 (stV y.q), .int .i64 y.unt, .int .i64 y.q, .bool (wtV y.q), .int .u32 y.src, .slice pa pn pc] 103)) = .ok (.slice a' (n + 1) cp') w7 ∧ Hid (RoI w w7 a' (n + 1) cp' (O ++ [y]) V) ∧ Hid (∀ (b : Nat) (C : Array Value) (t : TypeId) (f : Nat × Nat), w5.heap[b]? = some (Obj.cells C t f) → t ≠ 103 → w7.heap[b]? = some (Obj.cells C t f)) := by
  have he : rfC y (V y.ip) = #[.int .u32 y.ip, .int .u8 y.mac.b0, .int .u8 y.mac.b1, .int .u8 y.mac.b2, .int .u8 y.mac.b3, .int .u8 y.mac.b4, .int .u8 y.mac.b5, .int .i64 (stV y.q), .int .i64 y.unt, .int .i64 y.q, .bool (wtV y.q), .int .u32 y.src, .slice pa pn pc] := by rw [hv]; rfl
  rw [← he]
  have hbp := bpush (Below.refl w5.heap.size w5) (.cells (rfC y (V y.ip)) 103)
  have hbW := bstep hb hbp
  have rW := h.row.below hbW
  have hnew : (w5.alloc (.cells (rfC y (V y.ip)) 103)).heap[w5.heap.size]? = some (.cells (rfC y (V y.ip)) 103 (0, 0)) := heap_new _ _
  obtain ⟨v', w7, hrun, hrow, hgr, hloc⟩ := append_s 77 77 103 _ 13 80 Try.underlying77 infoEn rfl (by omega) rW ⟨w5.heap.size, 0, none⟩ 1 1 (rfC y (V y.ip)).toList (by simp [rfC])
    (fun j u hj => by
      rw [show (⟨w5.heap.size, 0, none⟩ : Addr).add j = ⟨w5.heap.size, j, none⟩ from by unfold Addr.add; split <;> simp_all, cell_of_heap hnew, ← Array.getElem?_toList]
      exact hj)
    (fun u hu => by rw [hv] at hu; simp [rfC] at hu; rcases hu with rfl | rfl | rfl | rfl | rfl | rfl | rfl | rfl | rfl | rfl | rfl | rfl | rfl <;> rfl) (by unfold maxLen; omega) (by omega)
  obtain ⟨a', cp', hv', _⟩ := hrow.form
  subst hv'
  have hsz : wr.heap.size ≤ w5.heap.size := hb.size
  have h1sz : w.heap.size ≤ wr.heap.size := h.below.size
  have keepT : ∀ b, b < (w5.alloc (.cells (rfC y (V y.ip)) 103)).heap.size → (Value.slice a n cp).ownBlock ≠ some b → w7.heap[b]? = (w5.alloc (.cells (rfC y (V y.ip)) 103)).heap[b]? := fun b hlt hne => hgr.block b hlt (fun e => hne (by simpa using e.symm))
  have hb1 : Below w.heap.size w (w5.alloc (.cells (rfC y (V y.ip)) 103)) := bstep h.below hbW
  refine ⟨a', cp', w7, hrun, ⟨by rw [List.length_append, h.len]; rfl, by rw [rfs_snoc]; exact hrow, fun b hb' => ?_, ?_⟩, fun b C t f hb' hne => ?_⟩
  · rcases hloc b (by cases a' <;> simpa [Value.ownBlock] using hb') with h2 | h2
    · exact h.new b (by cases a <;> simpa [Value.ownBlock] using h2)
    · simp at h2; omega
  · exact ⟨hgr.os.trans hb1.os, hgr.tape.trans hb1.tape, hgr.output.trans hb1.output, Nat.le_trans hb1.size hgr.size, fun i hl' => (keepT i (Nat.lt_of_lt_of_le hl' hb1.size) (fun e => by have := h.new i e; omega)).trans (hb1.block i hl')⟩
  · have hW := kept hb' hbp
    exact (keepT b (heap_lt hW) (fun e => rowS_not rW hW (Ne.symm hne) b e rfl)).trans hW
/-- the row takes the place of the cache's. -/
theorem RcW.set {w wr : World} {d : Nat} {S : St} {a a' : Option Addr} {n cp cp' : Nat} {V V' : Int → Value} {O : List Ab} (x : RcW w d S a cp V) (h : RoI w wr a' n cp' O V') (hp : ∀ y ∈ O, Row wr 5 (V' y.ip) (u8s y.zs)) (hok : St.ok { S with L := O }) : RcW (wr.setCell ⟨d, 7, none⟩ (.slice a' n cp')) d { S with L := O } a' cp' V' := by
  have hb : But d wr (wr.setCell ⟨d, 7, none⟩ (.slice a' n cp')) := But.setCell _ _ _ _
  have hl := h.len
  subst hl
  have hbox : wr.heap[d]? = some (.cells (rcCells S (.slice a S.L.length cp)) 79 (0, 0)) := (h.below.block d x.lt).trans x.box
  refine ⟨?_, h.row.keep fun b hb' => hb.block b (rowS_not h.row hbox (by decide) b hb') (h.row.lt hb'), fun y hy => (hp y hy).keep fun b hb' => hb.block b (row_not (hp y hy) hbox (by decide) b hb') ((hp y hy).lt hb'), hok⟩
  rw [heap_setCell hbox]
  rfl
theorem del_take1 {L : List Ab} {k : Nat} {y : Ab} (hy : L[k]? = some y) (ip : Int) : del (L.take (k + 1)) ip = del (L.take k) ip ++ (if y.ip = ip then [] else [y]) := by
  unfold del
  rw [List.take_add_one, hy, List.filter_append]
  by_cases h : y.ip = ip <;> simp [h]
theorem St.ok_del {S : St} (h : S.ok) (ip : Int) : St.ok { S with L := del S.L ip } :=
  ⟨h.own, h.most, h.now, h.rise.del ip, by have := List.length_filter_le (fun y : Ab => y.ip != ip) S.L; have := h.len; show ((del S.L ip).length : Int) ≤ S.most; unfold del; omega, fun z hz => h.ents z (mem_del.1 hz).1⟩
set_option maxRecDepth 20000 in
set_option maxHeartbeats 4000000 in
theorem rdrop_any (d : Nat) (S : St) (a : Option Addr) (cp : Nat) (V : Int → Value) (i0 : Nat) (z : Ab) (hz : S.L[i0]? = some z) (w : World) (x : RcW w d S a cp V) :
    Calls Try.prog 53 #[.pointer (some ⟨d, 0, none⟩), .int .i64 i0] w fun e w' => e = .returned (.tuple #[]) ∧ ∃ a' cp', Hid (RcW w' d { S with L := del S.L z.ip } a' cp' V) ∧ Hid (∀ b, (Value.slice a' (del S.L z.ip).length cp').ownBlock = some b → w.heap.size ≤ b) ∧ Hid (But d w w') := by
  have HX := hid x
  have HZ := hid hz
  have hl64 : S.L.length ≤ 64 := by have := x.ok.len; have := x.ok.most; omega
  have hi0 : i0 < S.L.length := (List.getElem?_eq_some_iff.1 hz).1
  have hdl := x.lt
  clear x hz
  go_enter Try.func53, Try.ntmps53
  go_wp2_with fail
  go_loopw [4, 5] (fun vo vi wr => ∃ (ao : Option Addr) (no k co : Nat), vo = .slice ao no co ∧ vi = .int .i64 k ∧ k ≤ S.L.length ∧ no ≤ k ∧ Hid (RoI w wr ao no co (del (S.L.take k) z.ip) V)) (fun _ vi _ => S.L.length - (intOf3 vi).toNat)
  case atStart => exact ⟨none, 0, 0, 0, rfl, rfl, Nat.zero_le _, Nat.le_refl _, RoI.void _ _⟩
  case round =>
    obtain ⟨ao, no, k, co, rfl, rfl, hk, hno, HO⟩ := hrel
    have HXR := hid (HX.out.below HO.out.below)
    have c7 : wr.cell? ⟨d, 7, none⟩ = some (.slice a S.L.length cp) := HXR.out.cells 7
    by_cases hkl : k < S.L.length
    · obtain ⟨y, hy⟩ : ∃ y, S.L[k]? = some y := ⟨_, List.getElem?_eq_getElem hkl⟩
      obtain ⟨g, rfl, hc⟩ := HXR.out.ent hy
      obtain ⟨pa, pc, hv, _⟩ := (HXR.out.pks y (List.mem_of_getElem? hy)).form
      generalize (u8s y.zs).length = pn at hv
      have e0 : wr.cell? ⟨g, k * 13, none⟩ = some (.int .u32 y.ip) := hc 0 (by omega)
      have e1 : wr.cell? ⟨g, k * 13 + 1, none⟩ = some (.int .u8 y.mac.b0) := hc 1 (by omega)
      have e2 : wr.cell? ⟨g, k * 13 + 2, none⟩ = some (.int .u8 y.mac.b1) := hc 2 (by omega)
      have e3 : wr.cell? ⟨g, k * 13 + 3, none⟩ = some (.int .u8 y.mac.b2) := hc 3 (by omega)
      have e4 : wr.cell? ⟨g, k * 13 + 4, none⟩ = some (.int .u8 y.mac.b3) := hc 4 (by omega)
      have e5 : wr.cell? ⟨g, k * 13 + 5, none⟩ = some (.int .u8 y.mac.b4) := hc 5 (by omega)
      have e6 : wr.cell? ⟨g, k * 13 + 6, none⟩ = some (.int .u8 y.mac.b5) := hc 6 (by omega)
      have e7 : wr.cell? ⟨g, k * 13 + 7, none⟩ = some (.int .i64 (stV y.q)) := hc 7 (by omega)
      have e8 : wr.cell? ⟨g, k * 13 + 8, none⟩ = some (.int .i64 y.unt) := hc 8 (by omega)
      have e9 : wr.cell? ⟨g, k * 13 + 9, none⟩ = some (.int .i64 y.q) := hc 9 (by omega)
      have e10 : wr.cell? ⟨g, k * 13 + 10, none⟩ = some (.bool (wtV y.q)) := hc 10 (by omega)
      have e11 : wr.cell? ⟨g, k * 13 + 11, none⟩ = some (.int .u32 y.src) := hc 11 (by omega)
      have e12 : wr.cell? ⟨g, k * 13 + 12, none⟩ = some (.slice pa pn pc) := by rw [hc 12 (by omega), hv]; rfl
      clear hc
      have HT := hid (del_take1 hy z.ip)
      by_cases he : k = i0
      · have hyz : y = z := by
          have := HZ.out
          rw [← he, hy] at this
          simpa using this
        have HE : Hid (RoI w wr ao no co (del (S.L.take (k + 1)) z.ip) V) := by
          rw [HT.out, if_pos (by rw [hyz]), List.append_nil]; exact HO.out
        have heb : ((k : Int) != (i0 : Int)) = false := by simp [he]
        clear he hyz hy HO HXR
        go_wp2_with fail
        go_roundw
        case rel => exact ⟨ao, no, k + 1, co, rfl, by first | rfl | (congr 1; omega), by omega, by omega, HE⟩
        case measure => simp only [intOf3]; omega
      · have hyz : ¬ y.ip = z.ip := fun e => by
          obtain ⟨h1, h2⟩ := List.getElem?_eq_some_iff.1 hy
          obtain ⟨h3, h4⟩ := List.getElem?_eq_some_iff.1 HZ.out
          have h5 := List.pairwise_iff_getElem.1 HX.out.ok.rise
          rcases Nat.lt_trichotomy k i0 with h | h | h
          · have := h5 k i0 h1 h3 h; rw [h2, h4] at this; omega
          · exact he h
          · have := h5 i0 k h3 h1 h; rw [h2, h4] at this; omega
        obtain ⟨a', cp', w7, hrun, HR7, _⟩ := HO.out.one (Below.refl _ _) y hv (by omega)
        have HE : Hid (RoI w w7 a' (no + 1) cp' (del (S.L.take (k + 1)) z.ip) V) := by
          rw [HT.out, if_neg hyz]; exact HR7.out
        have heb : ((k : Int) != (i0 : Int)) = true := by simp; omega
        clear he hyz hy HO HXR HR7 hv
        go_wp2_with (first
          | (at_builtin; refine wpList_append_run _ rfl _ _ _ _ rfl _ _ rfl rfl hrun ?_)
          | fail)
        go_roundw
        case rel => exact ⟨a', no + 1, k + 1, cp', rfl, by first | rfl | (congr 1; omega), by omega, by omega, HE⟩
        case measure => simp only [intOf3]; omega
    · have hkk : k = S.L.length := by omega
      have HO2 : Hid (RoI w wr ao no co (del S.L z.ip) V) := by
        have := HO.out
        rw [List.take_of_length_le (by omega)] at this
        exact this
      have HF := hid (HX.out.set HO2.out (fun y hy => HXR.out.pks y (mem_del.1 hy).1) (St.ok_del HX.out.ok z.ip))
      have f7 : wr.frozen? ⟨d, 7, none⟩ = false := frozen_of_heap HXR.out.box 7
      clear hkk HO
      go_wp2_with fail
      go_end0
      refine ⟨rfl, ao, co, HF, ?_, ?_⟩
      · have h1 := HO2.out.new
        rw [← HO2.out.len] at h1
        exact h1
      · exact (But.of_below HO2.out.below).trans (But.setCell _ _ _ _)
end Go.Proofs.Ytdgjpikphooilaa

/-
  The document's cache: put. Written by mkrput.py.
-/
namespace Go.Proofs.Ytdgjpikphooilaa
open Go.RowKit
set_option linter.all false

theorem put_snoc_gt {A : List Ab} {e y : Ab} (h : e.ip < y.ip) : put (A ++ [y]) e = put A e ++ [y] := by
  unfold put
  have h1 : ¬ y.ip < e.ip := by omega
  simp [List.filter_append, h, h1]
theorem put_all_lt {A : List Ab} {e : Ab} (h : ∀ z ∈ A, z.ip < e.ip) : put A e = A ++ [e] := by
  have f1 : A.filter (fun z => decide (z.ip < e.ip)) = A := List.filter_eq_self.2 (fun z hz => by simpa using h z hz)
  have f2 : A.filter (fun z => decide (e.ip < z.ip)) = [] := List.filter_eq_nil_iff.2 (fun z hz => by have := h z hz; simp; omega)
  unfold put
  rw [f1, f2]
/-- put, under way. -/
def PutS (L : List Ab) (e : Ab) (k : Nat) (dn : Bool) (O : List Ab) : Prop := (dn = false ∧ O = L.take k ∧ ∀ z ∈ L.take k, z.ip < e.ip) ∨ (dn = true ∧ O = put (L.take k) e ∧ ∃ z ∈ L.take k, e.ip < z.ip)
section
variable {L : List Ab} {e y : Ab} {k : Nat} {O : List Ab}
theorem take1 (hy : L[k]? = some y) : L.take (k + 1) = L.take k ++ [y] := by rw [List.take_add_one, hy]; rfl
theorem PutS.low (h : PutS L e k false O) (hy : L[k]? = some y) (hl : y.ip < e.ip) : PutS L e (k + 1) false (O ++ [y]) := by
  rcases h with ⟨_, h2, h3⟩ | ⟨h1, _⟩
  · refine Or.inl ⟨rfl, by rw [h2, take1 hy], fun z hz => ?_⟩
    rw [take1 hy] at hz
    rcases List.mem_append.1 hz with hz | hz
    · exact h3 z hz
    · simp at hz; subst hz; exact hl
  · cases h1
theorem PutS.now_ (h : PutS L e k false O) (hy : L[k]? = some y) (hl : e.ip < y.ip) : PutS L e (k + 1) true ((O ++ [e]) ++ [y]) := by
  rcases h with ⟨_, h2, h3⟩ | ⟨h1, _⟩
  · exact Or.inr ⟨rfl, by rw [take1 hy, put_snoc_gt hl, put_all_lt h3, h2], y, by rw [take1 hy]; simp, hl⟩
  · cases h1
theorem PutS.on (h : PutS L e k true O) (hy : L[k]? = some y) (hr : Rise L) : PutS L e (k + 1) true (O ++ [y]) := by
  rcases h with ⟨h1, _⟩ | ⟨_, h2, z, hz, h3⟩
  · cases h1
  · have hl : e.ip < y.ip := by
      obtain ⟨j, hj, rfl⟩ := List.getElem_of_mem hz
      rw [List.length_take] at hj
      obtain ⟨hk, rfl⟩ := List.getElem?_eq_some_iff.1 hy
      rw [List.getElem_take] at h3
      have := List.pairwise_iff_getElem.1 hr j k (by omega) hk (by omega)
      omega
    exact Or.inr ⟨rfl, by rw [take1 hy, put_snoc_gt hl, h2], z, by rw [take1 hy]; exact List.mem_append_left _ hz, h3⟩
theorem PutS.endF (h : PutS L e L.length false O) : O ++ [e] = put L e := by
  rcases h with ⟨_, h2, h3⟩ | ⟨h1, _⟩
  · rw [List.take_length] at h2 h3
    rw [put_all_lt h3, h2]
  · cases h1
theorem PutS.endT (h : PutS L e L.length true O) : O = put L e := by
  rcases h with ⟨h1, _⟩ | ⟨_, h2, _⟩
  · cases h1
  · rw [List.take_length] at h2; exact h2
end
theorem RoI.bel {w wr wx : World} {a : Option Addr} {n cp : Nat} {O : List Ab} {V : Int → Value} (h : RoI w wr a n cp O V) (hb : Below wr.heap.size wr wx) : RoI w wx a n cp O V :=
  ⟨h.len, h.row.below hb, h.new, bstep h.below hb⟩
set_option maxRecDepth 20000 in
set_option maxHeartbeats 8000000 in
theorem rput_any (d : Nat) (S : St) (a : Option Addr) (cp : Nat) (V : Int → Value) (e : Ab) (ea : Option Addr) (en ec : Nat) (hne : ∀ z ∈ S.L, z.ip ≠ e.ip) (w : World) (x : RcW w d S a cp V) (hok : St.ok { S with L := put S.L e }) (hrw : Row w 5 (.slice ea en ec) (u8s e.zs)) :
    Calls Try.prog 56 #[.pointer (some ⟨d, 0, none⟩), .agg #[.int .u32 e.ip, .int .u8 e.mac.b0, .int .u8 e.mac.b1, .int .u8 e.mac.b2, .int .u8 e.mac.b3, .int .u8 e.mac.b4, .int .u8 e.mac.b5, .int .i64 (stV e.q), .int .i64 e.unt, .int .i64 e.q, .bool (wtV e.q), .int .u32 e.src, .slice ea en ec]] w fun r w' => r = .returned (.tuple #[]) ∧ ∃ a' cp', Hid (RcW w' d { S with L := put S.L e } a' cp' (upd V e.ip (.slice ea en ec))) ∧ Hid (∀ b, (Value.slice a' (put S.L e).length cp').ownBlock = some b → w.heap.size ≤ b) ∧ Hid (But d w w') := by
  have HOK := hid hok
  have HNE := hid hne
  have hl64 : S.L.length ≤ 64 := by have := x.ok.len; have := x.ok.most; omega
  have hdl := x.lt
  have HB0 : Hid (Below w.heap.size w (w.alloc (.cells #[.int .u32 e.ip, .int .u8 e.mac.b0, .int .u8 e.mac.b1, .int .u8 e.mac.b2, .int .u8 e.mac.b3, .int .u8 e.mac.b4, .int .u8 e.mac.b5, .int .i64 (stV e.q), .int .i64 e.unt, .int .i64 e.q, .bool (wtV e.q), .int .u32 e.src, .slice ea en ec] 103))) := bpush (Below.refl _ _) _
  have HX := hid (x.below HB0.out)
  have HRW := hid (hrw.below HB0.out)
  have HBX : Hid ((w.alloc (.cells #[.int .u32 e.ip, .int .u8 e.mac.b0, .int .u8 e.mac.b1, .int .u8 e.mac.b2, .int .u8 e.mac.b3, .int .u8 e.mac.b4, .int .u8 e.mac.b5, .int .i64 (stV e.q), .int .i64 e.unt, .int .i64 e.q, .bool (wtV e.q), .int .u32 e.src, .slice ea en ec] 103)).heap[w.heap.size]? = some (.cells #[.int .u32 e.ip, .int .u8 e.mac.b0, .int .u8 e.mac.b1, .int .u8 e.mac.b2, .int .u8 e.mac.b3, .int .u8 e.mac.b4, .int .u8 e.mac.b5, .int .i64 (stV e.q), .int .i64 e.unt, .int .i64 e.q, .bool (wtV e.q), .int .u32 e.src, .slice ea en ec] 103 (0, 0))) := heap_new _ _
  clear x hok hrw hne
  go_enter Try.func56, Try.ntmps56
  go_wp2_with fail
  generalize w.alloc (.cells #[.int .u32 e.ip, .int .u8 e.mac.b0, .int .u8 e.mac.b1, .int .u8 e.mac.b2, .int .u8 e.mac.b3, .int .u8 e.mac.b4, .int .u8 e.mac.b5, .int .i64 (stV e.q), .int .i64 e.unt, .int .i64 e.q, .bool (wtV e.q), .int .u32 e.src, .slice ea en ec] 103) = w0 at HB0 HX HRW HBX ⊢
  go_loopw [4, 5, 6] (fun vo vd vi wr => ∃ (ao : Option Addr) (no k co : Nat) (dn : Bool) (O : List Ab), vo = .slice ao no co ∧ vd = .bool dn ∧ vi = .int .i64 k ∧ k ≤ S.L.length ∧ no ≤ k + 1 ∧ Hid (PutS S.L e k dn O) ∧ Hid (RoI w0 wr ao no co O (upd V e.ip (.slice ea en ec)))) (fun _ _ vi _ => S.L.length - (intOf3 vi).toNat)
  case atStart => exact ⟨none, 0, 0, 0, false, [], rfl, rfl, rfl, Nat.zero_le _, by omega, Or.inl ⟨rfl, rfl, by simp⟩, RoI.void _ _⟩
  case round =>
    obtain ⟨ao, no, k, co, dn, O, rfl, rfl, rfl, hk, hno, HP, HO⟩ := hrel
    have HXR := hid (HX.out.below HO.out.below)
    have HBR := hid (kept HBX.out HO.out.below)
    have c7 : wr.cell? ⟨d, 7, none⟩ = some (.slice a S.L.length cp) := HXR.out.cells 7
    by_cases hkl : k < S.L.length
    · obtain ⟨y, hy⟩ : ∃ y, S.L[k]? = some y := ⟨_, List.getElem?_eq_getElem hkl⟩
      have HY := hid hy
      have hyL := List.mem_of_getElem? hy
      obtain ⟨g, rfl, hc⟩ := HXR.out.ent hy
      have hc0 : wr.cell? ⟨g, k * 13, none⟩ = some (.int .u32 y.ip) := hc 0 (by omega)
      have hb0 : wr.cell? ⟨w.heap.size, 0, none⟩ = some (.int .u32 e.ip) := cell_of_heap HBR.out 0
      clear hc
      obtain ⟨pa, pc, hv, _⟩ := (HXR.out.pks y hyL).form
      generalize (u8s y.zs).length = pn at hv
      have HV := hid hv
      have HVU : Hid (upd V e.ip (.slice ea en ec) y.ip = .slice pa pn pc) := by
        unfold Hid
        rw [upd_other V _ (HNE.out y hyL)]; exact hv
      have HNQ := hid (HNE.out y hyL)
      clear hv hy hyL
      cases dn with
      | true =>
        go_wp2_with fail
        go_quiet (fail)
        have HOQ := hid (HO.out.bel (bdrewN wr nq))
        have HXQ := hid (HXR.out.below (bdrewN wr nq))
        have HBQ := hid (kept HBR.out (bdrewN wr nq))
        clear HO HXR HBR c7 hc0 hb0
        generalize wr.drewN nq = wq at HOQ HXQ HBQ ⊢
        have c7 : wq.cell? ⟨d, 7, none⟩ = some (.slice (some ⟨g, 0, none⟩) S.L.length cp) := HXQ.out.cells 7
        obtain ⟨g', hg', hf⟩ := HXQ.out.ent HY.out
        simp only [Option.some.injEq, Addr.mk.injEq, and_true] at hg'
        subst hg'
        have hv := HV.out
        have f0 : wq.cell? ⟨g, k * 13, none⟩ = some (.int .u32 y.ip) := hf 0 (by omega)
        have f1 : wq.cell? ⟨g, k * 13 + 1, none⟩ = some (.int .u8 y.mac.b0) := hf 1 (by omega)
        have f2 : wq.cell? ⟨g, k * 13 + 2, none⟩ = some (.int .u8 y.mac.b1) := hf 2 (by omega)
        have f3 : wq.cell? ⟨g, k * 13 + 3, none⟩ = some (.int .u8 y.mac.b2) := hf 3 (by omega)
        have f4 : wq.cell? ⟨g, k * 13 + 4, none⟩ = some (.int .u8 y.mac.b3) := hf 4 (by omega)
        have f5 : wq.cell? ⟨g, k * 13 + 5, none⟩ = some (.int .u8 y.mac.b4) := hf 5 (by omega)
        have f6 : wq.cell? ⟨g, k * 13 + 6, none⟩ = some (.int .u8 y.mac.b5) := hf 6 (by omega)
        have f7 : wq.cell? ⟨g, k * 13 + 7, none⟩ = some (.int .i64 (stV y.q)) := hf 7 (by omega)
        have f8 : wq.cell? ⟨g, k * 13 + 8, none⟩ = some (.int .i64 y.unt) := hf 8 (by omega)
        have f9 : wq.cell? ⟨g, k * 13 + 9, none⟩ = some (.int .i64 y.q) := hf 9 (by omega)
        have f10 : wq.cell? ⟨g, k * 13 + 10, none⟩ = some (.bool (wtV y.q)) := hf 10 (by omega)
        have f11 : wq.cell? ⟨g, k * 13 + 11, none⟩ = some (.int .u32 y.src) := hf 11 (by omega)
        have f12 : wq.cell? ⟨g, k * 13 + 12, none⟩ = some (.slice pa pn pc) := by rw [hf 12 (by omega), hv]; rfl
        clear hf hv
        have HP2 := hid (HP.out.on HY.out HX.out.ok.rise)
        obtain ⟨a', cp', w7, hrun, HR7, _⟩ := HOQ.out.one (Below.refl _ _) y HVU.out (by omega)
        clear HOQ HXQ HBQ HVU HV
        go_wp2_with (first
          | (at_builtin; refine wpList_append_run _ rfl _ _ _ _ rfl _ _ rfl rfl hrun ?_)
          | fail)
        go_roundw
        case rel => exact ⟨a', _, k + 1, cp', true, _, rfl, rfl, by first | rfl | (congr 1; omega), by omega, by omega, HP2, HR7⟩
        case measure => simp only [intOf3]; omega
      | false =>
        have hno2 : no ≤ k := by
          have h1 := HO.out.len
          rcases HP.out with ⟨_, h2, _⟩ | ⟨h2, _⟩
          · rw [← h1, h2, List.length_take]; omega
          · cases h2
        by_cases hgt : y.ip > e.ip
        · have hlt : decide (y.ip > e.ip) = true := by simpa using hgt
          have HLT : Hid (e.ip < y.ip) := hgt
          clear hgt
          go_wp2_with fail
          go_quiet (fail)
          have HOQ := hid (HO.out.bel (bdrewN wr nq))
          have HXQ := hid (HXR.out.below (bdrewN wr nq))
          have HBQ := hid (kept HBR.out (bdrewN wr nq))
          clear HO HXR HBR c7 hc0 hb0
          generalize wr.drewN nq = wq at HOQ HXQ HBQ ⊢
          have hb : ∀ j, wq.cell? ⟨w.heap.size, j, none⟩ = (#[.int .u32 e.ip, .int .u8 e.mac.b0, .int .u8 e.mac.b1, .int .u8 e.mac.b2, .int .u8 e.mac.b3, .int .u8 e.mac.b4, .int .u8 e.mac.b5, .int .i64 (stV e.q), .int .i64 e.unt, .int .i64 e.q, .bool (wtV e.q), .int .u32 e.src, .slice ea en ec] : Array Value)[j]? := fun j => cell_of_heap HBQ.out j
          obtain ⟨a1, cp1, w6, hrun1, HR6, _⟩ := HOQ.out.one (Below.refl _ _) e (upd_same V e.ip (.slice ea en ec)) (by omega)
          have HX6 := hid (HX.out.below HR6.out.below)
          have d7 : w6.cell? ⟨d, 7, none⟩ = some (.slice (some ⟨g, 0, none⟩) S.L.length cp) := HX6.out.cells 7
          obtain ⟨g', hg', hf⟩ := HX6.out.ent HY.out
          simp only [Option.some.injEq, Addr.mk.injEq, and_true] at hg'
          subst hg'
          have hv := HV.out
          have f0 : w6.cell? ⟨g, k * 13, none⟩ = some (.int .u32 y.ip) := hf 0 (by omega)
          have f1 : w6.cell? ⟨g, k * 13 + 1, none⟩ = some (.int .u8 y.mac.b0) := hf 1 (by omega)
          have f2 : w6.cell? ⟨g, k * 13 + 2, none⟩ = some (.int .u8 y.mac.b1) := hf 2 (by omega)
          have f3 : w6.cell? ⟨g, k * 13 + 3, none⟩ = some (.int .u8 y.mac.b2) := hf 3 (by omega)
          have f4 : w6.cell? ⟨g, k * 13 + 4, none⟩ = some (.int .u8 y.mac.b3) := hf 4 (by omega)
          have f5 : w6.cell? ⟨g, k * 13 + 5, none⟩ = some (.int .u8 y.mac.b4) := hf 5 (by omega)
          have f6 : w6.cell? ⟨g, k * 13 + 6, none⟩ = some (.int .u8 y.mac.b5) := hf 6 (by omega)
          have f7 : w6.cell? ⟨g, k * 13 + 7, none⟩ = some (.int .i64 (stV y.q)) := hf 7 (by omega)
          have f8 : w6.cell? ⟨g, k * 13 + 8, none⟩ = some (.int .i64 y.unt) := hf 8 (by omega)
          have f9 : w6.cell? ⟨g, k * 13 + 9, none⟩ = some (.int .i64 y.q) := hf 9 (by omega)
          have f10 : w6.cell? ⟨g, k * 13 + 10, none⟩ = some (.bool (wtV y.q)) := hf 10 (by omega)
          have f11 : w6.cell? ⟨g, k * 13 + 11, none⟩ = some (.int .u32 y.src) := hf 11 (by omega)
          have f12 : w6.cell? ⟨g, k * 13 + 12, none⟩ = some (.slice pa pn pc) := by rw [hf 12 (by omega), hv]; rfl
          clear hf hv
          have HP2 := hid (HP.out.now_ HY.out HLT.out)
          obtain ⟨a', cp', w7, hrun, HR7, _⟩ := HR6.out.one (Below.refl _ _) y HVU.out (by omega)
          clear HOQ HXQ HBQ HVU HV HR6 HX6
          go_wp2_with (first
            | (at_builtin; refine wpList_append_run _ rfl _ _ _ _ rfl _ _ rfl rfl hrun1 ?_)
            | (at_builtin; refine wpList_append_run _ rfl _ _ _ _ rfl _ _ rfl rfl hrun ?_)
            | fail)
          go_roundw
          case rel => exact ⟨a', _, k + 1, cp', true, _, rfl, rfl, by first | rfl | (congr 1; omega), by omega, by omega, HP2, HR7⟩
          case measure => simp only [intOf3]; omega
        · have hlt : decide (y.ip > e.ip) = false := by simp; omega
          have HLT : Hid (y.ip < e.ip) := by have := HNQ.out; unfold Hid; omega
          clear hgt
          go_wp2_with fail
          go_quiet (fail)
          have HOQ := hid (HO.out.bel (bdrewN wr nq))
          have HXQ := hid (HXR.out.below (bdrewN wr nq))
          have HBQ := hid (kept HBR.out (bdrewN wr nq))
          clear HO HXR HBR c7 hc0 hb0
          generalize wr.drewN nq = wq at HOQ HXQ HBQ ⊢
          have c7 : wq.cell? ⟨d, 7, none⟩ = some (.slice (some ⟨g, 0, none⟩) S.L.length cp) := HXQ.out.cells 7
          obtain ⟨g', hg', hf⟩ := HXQ.out.ent HY.out
          simp only [Option.some.injEq, Addr.mk.injEq, and_true] at hg'
          subst hg'
          have hv := HV.out
          have f0 : wq.cell? ⟨g, k * 13, none⟩ = some (.int .u32 y.ip) := hf 0 (by omega)
          have f1 : wq.cell? ⟨g, k * 13 + 1, none⟩ = some (.int .u8 y.mac.b0) := hf 1 (by omega)
          have f2 : wq.cell? ⟨g, k * 13 + 2, none⟩ = some (.int .u8 y.mac.b1) := hf 2 (by omega)
          have f3 : wq.cell? ⟨g, k * 13 + 3, none⟩ = some (.int .u8 y.mac.b2) := hf 3 (by omega)
          have f4 : wq.cell? ⟨g, k * 13 + 4, none⟩ = some (.int .u8 y.mac.b3) := hf 4 (by omega)
          have f5 : wq.cell? ⟨g, k * 13 + 5, none⟩ = some (.int .u8 y.mac.b4) := hf 5 (by omega)
          have f6 : wq.cell? ⟨g, k * 13 + 6, none⟩ = some (.int .u8 y.mac.b5) := hf 6 (by omega)
          have f7 : wq.cell? ⟨g, k * 13 + 7, none⟩ = some (.int .i64 (stV y.q)) := hf 7 (by omega)
          have f8 : wq.cell? ⟨g, k * 13 + 8, none⟩ = some (.int .i64 y.unt) := hf 8 (by omega)
          have f9 : wq.cell? ⟨g, k * 13 + 9, none⟩ = some (.int .i64 y.q) := hf 9 (by omega)
          have f10 : wq.cell? ⟨g, k * 13 + 10, none⟩ = some (.bool (wtV y.q)) := hf 10 (by omega)
          have f11 : wq.cell? ⟨g, k * 13 + 11, none⟩ = some (.int .u32 y.src) := hf 11 (by omega)
          have f12 : wq.cell? ⟨g, k * 13 + 12, none⟩ = some (.slice pa pn pc) := by rw [hf 12 (by omega), hv]; rfl
          clear hf hv
          have HP2 := hid (HP.out.low HY.out HLT.out)
          obtain ⟨a', cp', w7, hrun, HR7, _⟩ := HOQ.out.one (Below.refl _ _) y HVU.out (by omega)
          clear HOQ HXQ HBQ HVU HV
          go_wp2_with (first
            | (at_builtin; refine wpList_append_run _ rfl _ _ _ _ rfl _ _ rfl rfl hrun ?_)
            | fail)
          go_roundw
          case rel => exact ⟨a', _, k + 1, cp', false, _, rfl, rfl, by first | rfl | (congr 1; omega), by omega, by omega, HP2, HR7⟩
          case measure => simp only [intOf3]; omega
    · have hkk : k = S.L.length := by omega
      have HO2 := hid HO.out
      have f7 : ∀ wx : World, wx.heap[d]? = some (.cells (rcCells S (.slice a S.L.length cp)) 79 (0, 0)) → wx.frozen? ⟨d, 7, none⟩ = false := fun wx hx => frozen_of_heap hx 7
      have HPK := hid (fun (wx : World) (hb : Below w0.heap.size w0 wx) (z : Ab) (hz : z ∈ put S.L e) => (show Row wx 5 (upd V e.ip (.slice ea en ec) z.ip) (u8s z.zs) from by
        rcases mem_put.1 hz with rfl | ⟨h1, h2⟩
        · rw [upd_same]; exact HRW.out.below hb
        · rw [upd_other V _ h2]; exact (HX.out.below hb).pks z h1))
      have HNW := hid (fun b (h : w0.heap.size ≤ b) => Nat.le_trans HB0.out.size h)
      subst hkk
      cases dn with
      | true =>
        have hO := HP.out.endT
        subst hO
        have HF := hid (HX.out.set HO2.out (HPK.out _ HO2.out.below) HOK.out)
        have g7 := f7 wr HXR.out.box
        clear HP f7
        go_wp2_with fail
        go_end0
        refine ⟨rfl, ao, co, HF, fun b hb => HNW.out b (HO2.out.new b ?_), (But.of_below (bstep HB0.out HO2.out.below)).trans (But.setCell _ _ _ _)⟩
        rw [← HO2.out.len]; exact hb
      | false =>
        have hno2 : no ≤ S.L.length := by
          have h1 := HO2.out.len
          rcases HP.out with ⟨_, h2, _⟩ | ⟨h2, _⟩
          · rw [← h1, h2, List.length_take]; omega
          · cases h2
        have hbx : ∀ j, wr.cell? ⟨w.heap.size, j, none⟩ = (#[.int .u32 e.ip, .int .u8 e.mac.b0, .int .u8 e.mac.b1, .int .u8 e.mac.b2, .int .u8 e.mac.b3, .int .u8 e.mac.b4, .int .u8 e.mac.b5, .int .i64 (stV e.q), .int .i64 e.unt, .int .i64 e.q, .bool (wtV e.q), .int .u32 e.src, .slice ea en ec] : Array Value)[j]? := fun j => cell_of_heap HBR.out j
        obtain ⟨a', cp', w7, hrun, HR7, _⟩ := HO2.out.one (Below.refl _ _) e (upd_same V e.ip (.slice ea en ec)) (by omega)
        rw [HP.out.endF] at HR7
        have HF := hid (HX.out.set HR7.out (HPK.out _ HR7.out.below) HOK.out)
        have g7 := f7 w7 (HX.out.below HR7.out.below).box
        have c77 : w7.cell? ⟨d, 7, none⟩ = some (.slice a S.L.length cp) := (HX.out.below HR7.out.below).cells 7
        clear HP f7
        go_wp2_with (first
          | (at_builtin; refine wpList_append_run _ rfl _ _ _ _ rfl _ _ rfl rfl hrun ?_)
          | fail)
        go_end0
        refine ⟨rfl, a', cp', HF, fun b hb => HNW.out b (HR7.out.new b ?_), (But.of_below (bstep HB0.out HR7.out.below)).trans (But.setCell _ _ _ _)⟩
        rw [← HR7.out.len]; exact hb
end Go.Proofs.Ytdgjpikphooilaa

/-
  Appends of bytes to nil, and to what a call itself has made, as callers see them. For every seat.
-/
namespace Go.Proofs.Ytdgjpikphooilaa
open Go.RowKit
set_option linter.all false

theorem grown_from {w w' : World} {r : Option Nat} {B : Nat} (h : w.grownBy w' r) (hr : ∀ g, r = some g → B ≤ g) (hB : B ≤ w.heap.size) : Below B w w' :=
  ⟨h.os, h.tape, h.output, h.size, fun k hk => h.block k (by omega) (fun e => by have := hr k e.symm; omega)⟩
theorem append_row_part {w : World} {a : Option Addr} {n c : Nat} {zs : List Int} (h : Row w 5 (.slice a n c) (u8s zs)) (B : Nat) (hB : B ≤ w.heap.size) (hf : ∀ b, (Value.slice a n c).ownBlock = some b → B ≤ b) (pt : Part) (hok : pt.ok w) (hlen : zs.length + pt.zs.length ≤ 140737488355328) (ty : TypeId) :
    ∃ a' c' w', (Builtin.append_ #[40, 40] ty #[.slice a n c, pt.val]).run Try.prog w = .ok (.slice a' (zs.length + pt.zs.length) c') w' ∧ Row w' 5 (.slice a' (zs.length + pt.zs.length) c') (u8s (zs ++ pt.zs)) ∧ Below B w w' ∧ ∀ b, (Value.slice a' (zs.length + pt.zs.length) c').ownBlock = some b → B ≤ b := by
  obtain ⟨v', w', h1, h2, h3, h4⟩ := append_part h pt hok hlen ty
  obtain ⟨a', c', hv, _⟩ := h2.form
  rw [u8s_len, List.length_append] at hv
  subst hv
  refine ⟨a', c', w', h1, h2, grown_from h3 hf hB, fun b hb => ?_⟩
  rcases h4 with h4 | h4
  · exact hf b (by rw [← h4]; exact hb)
  · have := h4 b hb; omega
theorem append_nil_part (pt : Part) (w : World) (hok : pt.ok w) (hlen : pt.zs.length ≤ 140737488355328) (ty : TypeId) :
    ∃ a' c' w', (Builtin.append_ #[40, 40] ty #[.slice none 0 0, pt.val]).run Try.prog w = .ok (.slice a' pt.zs.length c') w' ∧ Row w' 5 (.slice a' pt.zs.length c') (u8s pt.zs) ∧ Below w.heap.size w w' ∧ ∀ b, (Value.slice a' pt.zs.length c').ownBlock = some b → w.heap.size ≤ b := by
  obtain ⟨a', c', w', h⟩ := append_row_part (zs := []) (Row.nil w 5) w.heap.size (Nat.le_refl _) (by simp [Value.ownBlock]) pt hok (by simpa using hlen) ty
  simp only [List.length_nil, Nat.zero_add, List.nil_append] at h
  exact ⟨a', c', w', h⟩
end Go.Proofs.Ytdgjpikphooilaa

/-
  Bytes of a call's own, from a block on: appends behind them. For every seat.
-/
namespace Go.Proofs.Ytdgjpikphooilaa
open Go.RowKit
set_option linter.all false

/-- bytes of a call's own, from block B on. -/
def OwnB (B : Nat) (zs : List Int) (a : Option Addr) (n c : Nat) (w : World) : Prop := Row w 5 (.slice a n c) (u8s zs) ∧ (∀ b, (Value.slice a n c).ownBlock = some b → B ≤ b) ∧ B ≤ w.heap.size
theorem OwnB.nil (w : World) : OwnB w.heap.size [] none 0 0 w := ⟨Row.nil _ _, by simp [Value.ownBlock], Nat.le_refl _⟩
theorem OwnB.len {B : Nat} {zs : List Int} {a : Option Addr} {n c : Nat} {w : World} (h : OwnB B zs a n c w) : n = zs.length := by
  obtain ⟨a', c', e, _⟩ := h.1.form
  simp only [Value.slice.injEq, u8s_len] at e
  exact e.2.1
theorem OwnB.below {B : Nat} {zs : List Int} {a : Option Addr} {n c : Nat} {w w' : World} (h : OwnB B zs a n c w) (hb : Below w.heap.size w w') : OwnB B zs a n c w' := ⟨h.1.below hb, h.2.1, Nat.le_trans h.2.2 hb.size⟩
/-- an append behind them. -/
theorem OwnB.app {B : Nat} {zs : List Int} {a : Option Addr} {n c : Nat} {w : World} (h : OwnB B zs a n c w) (pt : Part) (hok : pt.ok w) (hl : zs.length + pt.zs.length ≤ 140737488355328) (ty : TypeId) :
    ∃ a' n' c' w', (Builtin.append_ #[40, 40] ty #[.slice a n c, pt.val]).run Try.prog w = .ok (.slice a' n' c') w' ∧ OwnB B (zs ++ pt.zs) a' n' c' w' ∧ Below B w w' := by
  obtain ⟨a', c', w', h1, h2, h5, h6⟩ := append_row_part h.1 B h.2.2 h.2.1 pt hok hl ty
  exact ⟨a', _, c', w', h1, ⟨h2, h6, Nat.le_trans h.2.2 h5.size⟩, h5⟩
end Go.Proofs.Ytdgjpikphooilaa

/-
  The document's cache: copied, New, Clear, Next, Look.
-/
namespace Go.Proofs.Ytdgjpikphooilaa
open Go.RowKit
set_option linter.all false

theorem OwnB.one {B : Nat} {zs : List Int} {a : Option Addr} {n c : Nat} {w : World} (h : OwnB B zs a n c w) (x : Int) (hx : 0 ≤ x ∧ x ≤ 255) (hl : zs.length + 1 ≤ 140737488355328) :
    ∃ a' n' c' w', (Builtin.append_ #[40, 40] 40 #[.slice a n c, .slice (some ⟨w.heap.size, 0, none⟩) 1 1]).run Try.prog (w.alloc (.cells #[.int .u8 x] 5)) = .ok (.slice a' n' c') w' ∧ OwnB B (zs ++ [x]) a' n' c' w' ∧ Below B w w' := by
  have bl := bpush (Below.refl w.heap.size w) (.cells #[.int .u8 x] 5)
  obtain ⟨a', n', c', w', h1, h2, h3⟩ := (h.below bl).app ⟨some ⟨w.heap.size, 0, none⟩, 1, [x]⟩ (Part.of_row (zs := [x]) (heap_new w _) (by simp) (by simpa using hx)) (by simpa using hl) 40
  exact ⟨a', n', c', w', h1, h2, (bl.mono h.2.2).trans h3⟩
set_option maxRecDepth 20000 in
set_option maxHeartbeats 1000000 in
theorem rcopied_any (pt : Part) (w : World) (hok : pt.ok w) (hl : pt.zs.length ≤ 140737488351232) :
    Calls Try.prog 52 #[pt.val] w fun e w' => ∃ a n c, e = .returned (.slice a n c) ∧ Ans w w' pt.zs a n c := by
  have HO := hid hok
  have HV : Hid (pt.val = .slice pt.a pt.zs.length pt.c) := rfl
  rw [HV.out]
  obtain ⟨l, Hl⟩ : ∃ l, Hid (pt.zs.length = l) := ⟨_, rfl⟩
  rw [Hl.out] at hl ⊢
  clear hok
  go_enter Try.func52, Try.ntmps52
  go_wp2
  go_loopw [3, 4] (fun v i wr => ∃ (k : Nat) (a : Option Addr) (n c : Nat), k ≤ l ∧ i = .int .i64 k ∧ v = .slice a n c ∧ Hid (OwnB w.heap.size (pt.zs.take k) a n c wr ∧ Below w.heap.size w wr)) (fun _ i _ => l - (intOf i).toNat)
  case atStart => exact ⟨0, none, 0, 0, Nat.zero_le _, rfl, rfl, OwnB.nil w, Below.refl _ _⟩
  case round =>
    obtain ⟨k, a, n, c, hk, rfl, rfl, HR⟩ := hrel
    by_cases hlt : k < l
    · obtain ⟨b, o, hpa, hc⟩ : ∃ b o, pt.a = some ⟨b, o, none⟩ ∧ wr.cell? ⟨b, o + k, none⟩ = some (.int .u8 (pt.zs.getD k 0)) := by
        rcases (Part.ok_below HO.out HR.out.2).2.2 with he | ⟨b, o, ha, hc⟩
        · have := Hl.out; rw [he] at this; simp at this; omega
        · exact ⟨b, o, ha, hc k (by rw [Hl.out]; exact hlt)⟩
      obtain ⟨a', n', c', w', h1, h2, h3⟩ := HR.out.1.one (pt.zs.getD k 0) (getD_mem_bd HO.out.1 k) (by simp; omega)
      have ht : pt.zs.take k ++ [pt.zs.getD k 0] = pt.zs.take (k + 1) := by
        rw [List.take_succ_eq_append_getElem (by rw [Hl.out]; exact hlt)]; simp [List.getD_eq_getElem?_getD, show k < pt.zs.length by rw [Hl.out]; exact hlt]
      rw [ht] at h2
      have HRUN := hid h1
      have HE : Hid (OwnB w.heap.size (pt.zs.take (k + 1)) a' n' c' w' ∧ Below w.heap.size w w') := ⟨h2, HR.out.2.trans h3⟩
      clear h1 h2 h3 ht HR
      generalize pt.zs.getD k 0 = z at *
      rw [hpa]
      clear hpa
      go_wp2_with (first | (at_builtin; refine wpList_append_run _ rfl _ _ 40 40 rfl _ _ rfl rfl HRUN.out ?_) | fail)
      go_roundw
      case rel => exact ⟨k + 1, a', n', c', by omega, by go_num, rfl, HE⟩
      case measure => simp [intOf]; omega
    · have hkn : pt.zs.take k = pt.zs := List.take_of_length_le (by rw [Hl.out]; omega)
      rw [hkn] at HR
      clear hkn
      go_wp2
      go_ret
      exact ⟨_, _, _, rfl, HR.out.1.1, HR.out.1.2.1, HR.out.2⟩

set_option maxHeartbeats 1000000 in
theorem rclear_any (d : Nat) (S : St) (a : Option Addr) (cp : Nat) (V : Int → Value) (w : World) (x : RcW w d S a cp V) :
    Calls Try.prog 31 #[.pointer (some ⟨d, 0, none⟩)] w fun e w' => e = .returned (.tuple #[]) ∧ Hid (RcW w' d { S with L := [] } none 0 V) ∧ Hid (But d w w') := by
  have c7 : w.cell? ⟨d, 7, none⟩ = some (.slice a S.L.length cp) := x.cells 7
  have f7 : w.frozen? ⟨d, 7, none⟩ = false := frozen_of_heap x.box 7
  have HE := hid (x.set (RoI.void w V) (by simp) ⟨x.ok.own, x.ok.most, x.ok.now, List.Pairwise.nil, by have := x.ok.most; simp; omega, by simp⟩)
  clear x
  go_enter Try.func31, Try.ntmps31
  go_wp2
  go_end0
  exact ⟨rfl, HE, But.setCell _ _ _ _⟩
set_option maxHeartbeats 1000000 in
theorem rnew_no (m : Mac) (n : Int) (w : World) (h : n < 1 ∨ 64 < n) : Calls Try.prog 7 #[m.val, .int .i64 n] w fun e w' => e = .returned (.pointer none) ∧ Below w.heap.size w w' := by
  obtain ⟨b0, b1, b2, b3, b4, b5⟩ := m
  simp only [Mac.val]
  by_cases h1 : n < 1
  · clear h
    go_enter Try.func7, Try.ntmps7
    go_wp2
    go_ret
    first | exact ⟨rfl, Below.refl _ _⟩ | exact ⟨rfl, bpush (Below.refl _ _) _⟩
  · have h2 : 64 < n := by omega
    clear h
    go_enter Try.func7, Try.ntmps7
    go_wp2
    go_ret
    first | exact ⟨rfl, Below.refl _ _⟩ | exact ⟨rfl, bpush (Below.refl _ _) _⟩
theorem RcW.made {w : World} {d : Nat} (m : Mac) (n : Int) (V : Int → Value) (hm : m.ok) (h1 : 1 ≤ n) (h2 : n ≤ 64) (hb : w.heap[d]? = some (.cells #[.int .u8 m.b0, .int .u8 m.b1, .int .u8 m.b2, .int .u8 m.b3, .int .u8 m.b4, .int .u8 m.b5, .int .i64 n, .slice none 0 0, .int .i64 0] 79 (0, 0))) : RcW w d (newSt m n) none 0 V :=
  ⟨hb, RowS.nil _ _ _, by simp [newSt], ⟨hm, ⟨h1, h2⟩, by simp [newSt], List.Pairwise.nil, by simp [newSt]; omega, by simp [newSt]⟩⟩
set_option maxHeartbeats 1000000 in
theorem rnew_yes (m : Mac) (n : Int) (V : Int → Value) (w : World) (hm : m.ok) (h1 : 1 ≤ n) (h2 : n ≤ 64) : Calls Try.prog 7 #[m.val, .int .i64 n] w fun e w' => ∃ d, e = .returned (.pointer (some ⟨d, 0, none⟩)) ∧ w.heap.size ≤ d ∧ Hid (RcW w' d (newSt m n) none 0 V) ∧ Hid (Below w.heap.size w w') := by
  have HM := hid (fun (w : World) (d : Nat) => RcW.made (w := w) (d := d) m n V hm h1 h2)
  obtain ⟨b0, b1, b2, b3, b4, b5⟩ := m
  simp only [Mac.val] at *
  clear hm
  go_enter Try.func7, Try.ntmps7
  go_wp2
  go_ret
  have hh := ((Holds.nil w).push (.cells #[.int .u8 b0, .int .u8 b1, .int .u8 b2, .int .u8 b3, .int .u8 b4, .int .u8 b5] 23)).push (.cells #[.int .u8 b0, .int .u8 b1, .int .u8 b2, .int .u8 b3, .int .u8 b4, .int .u8 b5, .int .i64 n, .slice none 0 0, .int .i64 0] 79)
  simp only [World.size_alloc] at hh
  exact ⟨_, rfl, by simp, HM.out _ _ (hh.at 0 _ _ rfl), bpush (bpush (Below.refl _ _) _) _⟩

theorem leastL_of {L : List Ab} {u : Int} (h : LeastI L u) : u = leastL L := h.uniq (leastL_is L)
end Go.Proofs.Ytdgjpikphooilaa

/-
  The document's cache: Next, Look.
-/
namespace Go.Proofs.Ytdgjpikphooilaa
open Go.RowKit
set_option linter.all false

/-- the least Until of a list that has an element. -/
structure MinI (D : List Ab) (u : Int) : Prop where
  le : ∀ y ∈ D, u ≤ y.unt
  is : ∃ y ∈ D, u = y.unt
theorem MinI.least {D : List Ab} {u : Int} (h : MinI D u) (ht : ∀ y ∈ D, y.unt ≤ 1125899906842624) : u = leastL D := by
  obtain ⟨y, hy, e⟩ := h.is
  exact leastL_of ⟨by have := ht y hy; omega, h.le, Or.inr h.is⟩
set_option maxRecDepth 20000 in
set_option maxHeartbeats 2000000 in
theorem rnext_any (d : Nat) (S : St) (a : Option Addr) (cp : Nat) (V : Int → Value) (w : World) (x : RcW w d S a cp V) :
    Calls Try.prog 34 #[.pointer (some ⟨d, 0, none⟩)] w fun e w' => e = .returned (.tuple #[.int .i64 (nextV S), .bool (decide (¬ S.L.length = 0))]) ∧ Hid (Below w.heap.size w w') := by
  have HX := hid x
  have c7 : w.cell? ⟨d, 7, none⟩ = some (.slice a S.L.length cp) := x.cells 7
  have hl64 : S.L.length ≤ 64 := by have := x.ok.len; have := x.ok.most; omega
  clear x
  unfold nextV
  by_cases h0 : S.L.length = 0
  · rw [if_pos h0]
    have h0b : (((S.L.length : Nat) : Int) == 0) = true := by simpa using h0
    have HH0 := hid h0
    clear h0
    generalize S.L.length = N at *
    go_enter Try.func34, Try.ntmps34
    go_wp2
    go_ret2
    exact ⟨by rw [HH0.out]; rfl, Below.refl _ _⟩
  · rw [if_neg h0]
    have h0' : (((S.L.length : Nat) : Int) == 0) = false := by simpa using h0
    have HH0 := hid h0
    obtain ⟨y0, hy0⟩ : ∃ y, S.L[0]? = some y := ⟨_, List.getElem?_eq_getElem (by omega)⟩
    obtain ⟨g, rfl, hc⟩ := HX.out.ent hy0
    have hc0 : w.cell? ⟨g, 8, none⟩ = some (.int .i64 y0.unt) := hc 8 (by omega)
    have hpos : 0 < S.L.length := by omega
    have HY0 := hid hy0
    clear h0 hc hy0
    go_enter Try.func34, Try.ntmps34
    go_wp2
    go_loopw [4, 5] (fun vn vi wr => ∃ (u : Int) (k : Nat), vn = .int .i64 u ∧ vi = .int .i64 k ∧ k ≤ S.L.length ∧ Hid (MinI (y0 :: S.L.take k) u) ∧ wr = w) (fun _ vi _ => S.L.length - (intOf3 vi).toNat)
    case atStart => exact ⟨y0.unt, 0, rfl, rfl, Nat.zero_le _, ⟨by simp, y0, by simp, rfl⟩, rfl⟩
    case round =>
      obtain ⟨u, k, rfl, rfl, hk, HM, rfl⟩ := hrel
      by_cases hkl : k < S.L.length
      · obtain ⟨y, hy⟩ : ∃ y, S.L[k]? = some y := ⟨_, List.getElem?_eq_getElem hkl⟩
        obtain ⟨g', hg', hc⟩ := HX.out.ent hy
        simp only [Option.some.injEq, Addr.mk.injEq, and_true] at hg'
        subst hg'
        have hc8 : wr.cell? ⟨g, k * 13 + 8, none⟩ = some (.int .i64 y.unt) := hc 8 (by omega)
        have HT : Hid (∀ v, v = min u y.unt → MinI (y0 :: S.L.take (k + 1)) v) := fun v hv => by
          obtain ⟨h1, z, hz, h2⟩ := HM.out
          rw [take1 hy]
          refine ⟨fun t ht => ?_, ?_⟩
          · simp only [List.mem_cons, List.mem_append, List.not_mem_nil, or_false] at ht
            rcases ht with rfl | ht | rfl
            · have := h1 t (by simp); omega
            · have := h1 t (by simp [ht]); omega
            · omega
          · by_cases hlt : y.unt < u
            · exact ⟨y, by simp, by omega⟩
            · exact ⟨z, by simp only [List.mem_cons, List.mem_append] at hz ⊢; rcases hz with h | h; exact Or.inl h; exact Or.inr (Or.inl h), by omega⟩
        clear hc hy HM
        go_wp2
        go_roundw
        case rel => exact ⟨min u y.unt, k + 1, rfl, by first | rfl | (congr 1; omega), by omega, HT.out _ rfl, trivial⟩
        case measure => simp only [intOf3]; omega
      · have HE : Hid (u = leastL S.L) := by
          have h1 := HM.out
          rw [List.take_of_length_le (by omega)] at h1
          have hm := List.mem_of_getElem? HY0.out
          refine MinI.least ⟨fun y hy => h1.le y (by simp [hy]), ?_⟩ (fun y hy => (HX.out.ok.ents y hy).unt.2)
          obtain ⟨z, hz, e⟩ := h1.is
          rcases List.mem_cons.1 hz with rfl | hz
          · exact ⟨_, hm, e⟩
          · exact ⟨z, hz, e⟩
        go_wp2
        go_ret2
        refine ⟨?_, Below.refl _ _⟩
        rw [HE.out]
        simp [HH0.out]

set_option maxRecDepth 20000 in
set_option maxHeartbeats 2000000 in
theorem rlook_any (d : Nat) (S : St) (a : Option Addr) (cp : Nat) (V : Int → Value) (w : World) (x : RcW w d S a cp V) :
    Calls Try.prog 32 #[.pointer (some ⟨d, 0, none⟩)] w fun e w' => ∃ a cp, e = .returned (.slice a S.L.length cp) ∧ Hid (LkI w w' a S.L.length cp S.L) := by
  have HX := hid x
  have hl64 : S.L.length ≤ 64 := by have := x.ok.len; have := x.ok.most; omega
  clear x
  go_enter Try.func32, Try.ntmps32
  go_wp2_with fail
  go_loopw [3, 4] (fun vo vi wr => ∃ (ao : Option Addr) (k co : Nat), vo = .slice ao k co ∧ vi = .int .i64 k ∧ k ≤ S.L.length ∧ Hid (LkI w wr ao k co (S.L.take k))) (fun _ vi _ => S.L.length - (intOf3 vi).toNat)
  case atStart => exact ⟨none, 0, 0, rfl, rfl, Nat.zero_le _, LkI.void _⟩
  case round =>
    obtain ⟨ao, k, co, rfl, rfl, hk, HO⟩ := hrel
    have HXR := hid (HX.out.below HO.out.below)
    have c7 : wr.cell? ⟨d, 7, none⟩ = some (.slice a S.L.length cp) := HXR.out.cells 7
    by_cases hkl : k < S.L.length
    · obtain ⟨y, hy⟩ : ∃ y, S.L[k]? = some y := ⟨_, List.getElem?_eq_getElem hkl⟩
      obtain ⟨g, rfl, hc⟩ := HXR.out.ent hy
      have e0 : wr.cell? ⟨g, k * 13, none⟩ = some (.int .u32 y.ip) := hc 0 (by omega)
      have e1 : wr.cell? ⟨g, k * 13 + 1, none⟩ = some (.int .u8 y.mac.b0) := hc 1 (by omega)
      have e2 : wr.cell? ⟨g, k * 13 + 2, none⟩ = some (.int .u8 y.mac.b1) := hc 2 (by omega)
      have e3 : wr.cell? ⟨g, k * 13 + 3, none⟩ = some (.int .u8 y.mac.b2) := hc 3 (by omega)
      have e4 : wr.cell? ⟨g, k * 13 + 4, none⟩ = some (.int .u8 y.mac.b3) := hc 4 (by omega)
      have e5 : wr.cell? ⟨g, k * 13 + 5, none⟩ = some (.int .u8 y.mac.b4) := hc 5 (by omega)
      have e6 : wr.cell? ⟨g, k * 13 + 6, none⟩ = some (.int .u8 y.mac.b5) := hc 6 (by omega)
      have e7 : wr.cell? ⟨g, k * 13 + 7, none⟩ = some (.int .i64 (stV y.q)) := hc 7 (by omega)
      have e8 : wr.cell? ⟨g, k * 13 + 8, none⟩ = some (.int .i64 y.unt) := hc 8 (by omega)
      have e9 : wr.cell? ⟨g, k * 13 + 9, none⟩ = some (.int .i64 y.q) := hc 9 (by omega)
      have e10 : wr.cell? ⟨g, k * 13 + 10, none⟩ = some (.bool (wtV y.q)) := hc 10 (by omega)
      obtain ⟨a', cp', w7, hrun, HR7, _⟩ := HO.out.one (Below.refl _ _) y (stV y.q) (wtV y.q) rfl (by omega)
      rw [← take1 hy] at HR7
      unfold nbC at hrun
      clear hc hy HO HXR
      go_wp2_with (first
        | (at_builtin; refine wpList_append_run _ rfl _ _ _ _ rfl _ _ rfl rfl hrun ?_)
        | fail)
      go_roundw
      case rel => exact ⟨a', k + 1, cp', rfl, by first | rfl | (congr 1; omega), by omega, HR7⟩
      case measure => simp only [intOf3]; omega
    · have hkk : k = S.L.length := by omega
      subst hkk
      rw [List.take_length] at HO
      go_wp2_with fail
      go_ret
      exact ⟨_, _, rfl, HO⟩
end Go.Proofs.Ytdgjpikphooilaa

/-
  The document's cache: what a call turns; room.
-/
namespace Go.Proofs.Ytdgjpikphooilaa
open Go.RowKit
set_option linter.all false

/-- what a call of the document's cache turns. -/
structure RTurn (w w' : World) (d : Nat) (S S' : St) (a a' : Option Addr) (cp cp' : Nat) (V V' : Int → Value) : Prop where
  rc : RcW w' d S' a' cp' V'
  os : w'.os = w.os
  tape : w'.tape = w.tape
  output : w'.output = w.output
  size : w.heap.size ≤ w'.heap.size
  block : ∀ k, k ≠ d → (Value.slice a S.L.length cp).ownBlock ≠ some k → k < w.heap.size → w'.heap[k]? = w.heap[k]?
  row : ∀ b, (Value.slice a' S'.L.length cp').ownBlock = some b → w.heap.size ≤ b ∨ (Value.slice a S.L.length cp).ownBlock = some b
  vs : ∀ y ∈ S'.L, ∀ b, (V' y.ip).ownBlock = some b → w.heap.size ≤ b ∨ ∃ z ∈ S.L, (V z.ip).ownBlock = some b
section
variable {w w1 w' : World} {d : Nat} {S S1 S' : St} {a a1 a' : Option Addr} {cp cp1 cp' : Nat} {V V1 V' : Int → Value}
theorem RTurn.refl (x : RcW w d S a cp V) : RTurn w w d S S a a cp cp V V := ⟨x, rfl, rfl, rfl, Nat.le_refl _, fun _ _ _ _ => rfl, fun _ h => Or.inr h, fun y hy b h => Or.inr ⟨y, hy, h⟩⟩
theorem RTurn.trans (h : RTurn w w1 d S S1 a a1 cp cp1 V V1) (k : RTurn w1 w' d S1 S' a1 a' cp1 cp' V1 V') : RTurn w w' d S S' a a' cp cp' V V' := by
  refine ⟨k.rc, k.os.trans h.os, k.tape.trans h.tape, k.output.trans h.output, Nat.le_trans h.size k.size, fun i h1 h2 hl => ?_, fun b hb => ?_, fun y hy b hb => ?_⟩
  · refine (k.block i h1 (fun e => ?_) (Nat.lt_of_lt_of_le hl h.size)).trans (h.block i h1 h2 hl)
    rcases h.row i e with h3 | h3
    · omega
    · exact h2 h3
  · rcases k.row b hb with h1 | h1
    · exact Or.inl (Nat.le_trans h.size h1)
    · exact h.row b h1
  · rcases k.vs y hy b hb with h1 | ⟨z, hz, h1⟩
    · exact Or.inl (Nat.le_trans h.size h1)
    · exact h.vs z hz b h1
theorem RTurn.below (h : RTurn w w1 d S S' a a' cp cp' V V') (hb : Below w1.heap.size w1 w') : RTurn w w' d S S' a a' cp cp' V V' :=
  ⟨h.rc.below hb, hb.os.trans h.os, hb.tape.trans h.tape, hb.output.trans h.output, Nat.le_trans h.size hb.size, fun i h1 h2 hl => (hb.block i (Nat.lt_of_lt_of_le hl h.size)).trans (h.block i h1 h2 hl), h.row, h.vs⟩
theorem RTurn.of_below (x : RcW w d S a cp V) (hb : Below w.heap.size w w') : RTurn w w' d S S a a cp cp V V := (RTurn.refl x).below hb
/-- a call that turns the box alone, and may lay a new row. -/
theorem RTurn.of_but (x : RcW w' d S' a' cp' V') (hb : But d w w') (hr : ∀ b, (Value.slice a' S'.L.length cp').ownBlock = some b → w.heap.size ≤ b ∨ (Value.slice a S.L.length cp).ownBlock = some b) (hv : ∀ y ∈ S'.L, ∀ b, (V' y.ip).ownBlock = some b → w.heap.size ≤ b ∨ ∃ z ∈ S.L, (V z.ip).ownBlock = some b) : RTurn w w' d S S' a a' cp cp' V V' :=
  ⟨x, hb.os, hb.tape, hb.output, hb.size, fun k h1 _ hl => hb.block k h1 hl, hr, hv⟩
end
/-- the known one with the least time so far: its place. -/
def RoS (L : List Ab) (k : Nat) (r : Int) : Prop := (r = -1 ∧ ∀ y ∈ L.take k, known y = false) ∨ ∃ (j : Nat) (x : Ab), r = j ∧ j < L.length ∧ L[j]? = some x ∧ x ∈ L.take k ∧ known x = true ∧ ∀ y ∈ L.take k, known y = true → x.unt < y.unt ∨ (x.unt = y.unt ∧ x.ip ≤ y.ip)
section
variable {L : List Ab} {k : Nat} {y : Ab}
theorem RoS.skip {r : Int} (h : RoS L k r) (hy : L[k]? = some y) (hk : known y = false) : RoS L (k + 1) r := by
  rcases h with ⟨h1, h2⟩ | ⟨j, x, h1, h2, h3, h4, h5, h6⟩
  · refine Or.inl ⟨h1, fun z hz => ?_⟩
    rw [take1 hy] at hz
    rcases List.mem_append.1 hz with hz | hz
    · exact h2 z hz
    · simp at hz; subst hz; exact hk
  · refine Or.inr ⟨j, x, h1, h2, h3, by rw [take1 hy]; exact List.mem_append_left _ h4, h5, fun z hz hkz => ?_⟩
    rw [take1 hy] at hz
    rcases List.mem_append.1 hz with hz | hz
    · exact h6 z hz hkz
    · simp at hz; subst hz; rw [hk] at hkz; cases hkz
theorem RoS.first (h : RoS L k (-1)) (hy : L[k]? = some y) (hk : known y = true) : RoS L (k + 1) k := by
  rcases h with ⟨h1, h2⟩ | ⟨j, x, h1, _⟩
  · refine Or.inr ⟨k, y, rfl, (List.getElem?_eq_some_iff.1 hy).1, hy, by rw [take1 hy]; simp, hk, fun z hz hkz => ?_⟩
    rw [take1 hy] at hz
    rcases List.mem_append.1 hz with hz | hz
    · rw [h2 z hz] at hkz; cases hkz
    · simp at hz; subst hz; right; omega
  · omega
theorem RoS.take_ {j : Nat} {x : Ab} (h : RoS L k j) (hx : L[j]? = some x) (hy : L[k]? = some y) (hk : known y = true) (hl : y.unt < x.unt) : RoS L (k + 1) k := by
  rcases h with ⟨h1, h2⟩ | ⟨j', x', h1, h2, h3, h4, h5, h6⟩
  · omega
  · obtain rfl : j = j' := by omega
    rw [hx] at h3
    simp at h3
    subst h3
    refine Or.inr ⟨k, y, rfl, (List.getElem?_eq_some_iff.1 hy).1, hy, by rw [take1 hy]; simp, hk, fun z hz hkz => ?_⟩
    rw [take1 hy] at hz
    rcases List.mem_append.1 hz with hz | hz
    · have := h6 z hz hkz; left; omega
    · simp at hz; subst hz; right; omega
theorem RoS.stay {j : Nat} {x : Ab} (h : RoS L k j) (hr : Rise L) (hx : L[j]? = some x) (hy : L[k]? = some y) (hl : ¬ y.unt < x.unt) : RoS L (k + 1) j := by
  rcases h with ⟨h1, h2⟩ | ⟨j', x', h1, h2, h3, h4, h5, h6⟩
  · omega
  · obtain rfl : j = j' := by omega
    rw [hx] at h3
    simp at h3
    subst h3
    have hlt : x.ip ≤ y.ip := by
      obtain ⟨i, hi, e⟩ := List.getElem_of_mem h4
      rw [List.length_take] at hi
      rw [List.getElem_take] at e
      obtain ⟨hk, e2⟩ := List.getElem?_eq_some_iff.1 hy
      have := List.pairwise_iff_getElem.1 hr i k (by omega) hk (by omega)
      rw [e, e2] at this
      omega
    refine Or.inr ⟨j, x, rfl, h2, hx, by rw [take1 hy]; exact List.mem_append_left _ h4, h5, fun z hz hkz => ?_⟩
    rw [take1 hy] at hz
    rcases List.mem_append.1 hz with hz | hz
    · exact h6 z hz hkz
    · simp at hz; subst hz; omega
theorem RoS.fin {r : Int} (h : RoS L L.length r) (hr : Rise L) : (r = -1 ∧ oldF L = none) ∨ ∃ (j : Nat) (x : Ab), r = j ∧ L[j]? = some x ∧ oldF L = some x := by
  rcases h with ⟨h1, h2⟩ | ⟨j, x, h1, h2, h3, h4, h5, h6⟩
  · rw [List.take_length] at h2; exact Or.inl ⟨h1, oldF_none h2⟩
  · rw [List.take_length] at h4 h6; exact Or.inr ⟨j, x, h1, h3, oldF_of hr h4 h5 h6⟩
theorem RoS.at_ {r : Int} (h : RoS L k r) : r = -1 ∨ ∃ (j : Nat) (x : Ab), r = j ∧ j < L.length ∧ L[j]? = some x := by
  rcases h with ⟨h1, _⟩ | ⟨j, x, h1, h2, h3, _⟩
  · exact Or.inl h1
  · exact Or.inr ⟨j, x, h1, h2, h3⟩
end
theorem stV_known (y : Ab) : (stV y.q == 2) = known y := by
  unfold stV known
  by_cases h : 0 < y.q
  · rw [if_pos h, decide_eq_false (by omega)]; rfl
  · rw [if_neg h, decide_eq_true (by omega)]; rfl
theorem roomL_yes {most : Int} {L : List Ab} (h : (L.length : Int) < most) : roomL most L = some L := by unfold roomL; rw [if_pos h]
theorem roomL_old {most : Int} {L : List Ab} {x : Ab} (h : ¬ (L.length : Int) < most) (ho : oldF L = some x) : roomL most L = some (del L x.ip) := by unfold roomL; rw [if_neg h, ho]; rfl
theorem roomL_no {most : Int} {L : List Ab} (h : ¬ (L.length : Int) < most) (ho : oldF L = none) : roomL most L = none := by unfold roomL; rw [if_neg h, ho]; rfl
set_option maxRecDepth 20000 in
set_option maxHeartbeats 4000000 in
theorem rroom_any (d : Nat) (S : St) (a : Option Addr) (cp : Nat) (V : Int → Value) (w : World) (x : RcW w d S a cp V) :
    Calls Try.prog 54 #[.pointer (some ⟨d, 0, none⟩)] w fun e w' => (roomL S.most S.L = none ∧ e = .returned (.bool false) ∧ Hid (RTurn w w' d S S a a cp cp V V)) ∨ ∃ L' a' cp', roomL S.most S.L = some L' ∧ e = .returned (.bool true) ∧ Hid (RTurn w w' d S { S with L := L' } a a' cp cp' V V) := by
  have HX := hid x
  have hl64 : S.L.length ≤ 64 := by have := x.ok.len; have := x.ok.most; omega
  have c7 : w.cell? ⟨d, 7, none⟩ = some (.slice a S.L.length cp) := x.cells 7
  have c6 : w.cell? ⟨d, 6, none⟩ = some (.int .i64 S.most) := x.cells 6
  clear x
  by_cases hm : (S.L.length : Int) < S.most
  · have HR := hid (roomL_yes hm)
    go_enter Try.func54, Try.ntmps54
    go_wp2_with fail
    go_quiet (fail)
    have HB := hid (bdrewN w nq)
    generalize w.drewN nq = wq at HB ⊢
    clear c7 c6
    go_wp2_with fail
    go_ret
    exact Or.inr ⟨S.L, a, cp, HR.out, rfl, RTurn.of_below HX.out HB.out⟩
  · have HM := hid hm
    go_enter Try.func54, Try.ntmps54
    go_wp2_with fail
    go_quiet (fail)
    have HB := hid (bdrewN w nq)
    generalize w.drewN nq = wq at HB ⊢
    clear c7 c6
    go_wp2_with fail
    go_loopw [3, 4] (fun vr vi wr => ∃ (r : Int) (k : Nat), vr = .int .i64 r ∧ vi = .int .i64 k ∧ k ≤ S.L.length ∧ Hid (RoS S.L k r) ∧ Hid (Below w.heap.size w wr)) (fun _ vi _ => S.L.length - (intOf3 vi).toNat)
    case atStart => exact ⟨-1, 0, rfl, rfl, Nat.zero_le _, Or.inl ⟨rfl, by simp⟩, HB⟩
    case round =>
      clear HB
      obtain ⟨r, k, rfl, rfl, hk, HS, HB⟩ := hrel
      have HXR := hid (HX.out.below HB.out)
      have c7 : wr.cell? ⟨d, 7, none⟩ = some (.slice a S.L.length cp) := HXR.out.cells 7
      by_cases hkl : k < S.L.length
      · obtain ⟨y, hy⟩ : ∃ y, S.L[k]? = some y := ⟨_, List.getElem?_eq_getElem hkl⟩
        obtain ⟨g, rfl, hc⟩ := HXR.out.ent hy
        have hc7 : wr.cell? ⟨g, k * 13 + 7, none⟩ = some (.int .i64 (stV y.q)) := hc 7 (by omega)
        have hc8 : wr.cell? ⟨g, k * 13 + 8, none⟩ = some (.int .i64 y.unt) := hc 8 (by omega)
        have hst := stV_known y
        have HY := hid hy
        clear hc hy
        cases hkn : known y with
        | false =>
          rw [hkn] at hst
          have HE := hid (HS.out.skip HY.out hkn)
          clear hkn
          generalize stV y.q = sv at *
          go_wp2_with fail
          go_quiet (fail)
          have HB2 := hid (bstep HB.out (bdrewN wr nq))
          generalize wr.drewN nq = wq at HB2 ⊢
          clear c7 hc7 hc8 HXR
          go_wp2_with fail
          go_roundw
          case rel => exact ⟨r, k + 1, rfl, by first | rfl | (congr 1; omega), by omega, HE, HB2⟩
          case measure => simp only [intOf3]; omega
        | true =>
          rw [hkn] at hst
          have HK := hid hkn
          clear hkn
          rcases HS.out.at_ with rfl | ⟨j, z, rfl, hj, hz⟩
          · have HE := hid (HS.out.first HY.out HK.out)
            generalize stV y.q = sv at *
            go_wp2_with fail
            go_quiet (fail)
            have HB2 := hid (bstep HB.out (bdrewN wr nq))
            generalize wr.drewN nq = wq at HB2 ⊢
            clear c7 hc7 hc8 HXR
            go_wp2_with fail
            go_roundw
            case rel => exact ⟨k, k + 1, rfl, by first | rfl | (congr 1; omega), by omega, HE, HB2⟩
            case measure => simp only [intOf3]; omega
          · obtain ⟨g', hg', hd⟩ := HXR.out.ent hz
            simp only [Option.some.injEq, Addr.mk.injEq, and_true] at hg'
            subst hg'
            have hd8 : wr.cell? ⟨g, j * 13 + 8, none⟩ = some (.int .i64 z.unt) := hd 8 (by omega)
            have hjn : ¬ (j : Int) < 0 := by omega
            have hjl : (j : Int) < (S.L.length : Int) := by omega
            have HZ := hid hz
            clear hd hz
            by_cases hlt : y.unt < z.unt
            · have HE := hid (HS.out.take_ HZ.out HY.out HK.out hlt)
              generalize stV y.q = sv at *
              go_wp2_with fail
              go_quiet (fail)
              have HB2 := hid (bstep HB.out (bdrewN wr nq))
              generalize wr.drewN nq = wq at HB2 ⊢
              clear c7 hc7 hc8 HXR hd8
              go_wp2_with fail
              go_roundw
              case rel => exact ⟨k, k + 1, rfl, by first | rfl | (congr 1; omega), by omega, HE, HB2⟩
              case measure => simp only [intOf3]; omega
            · have HE := hid (HS.out.stay HX.out.ok.rise HZ.out HY.out hlt)
              generalize stV y.q = sv at *
              go_wp2_with fail
              go_quiet (fail)
              have HB2 := hid (bstep HB.out (bdrewN wr nq))
              generalize wr.drewN nq = wq at HB2 ⊢
              clear c7 hc7 hc8 HXR hd8
              go_wp2_with fail
              go_roundw
              case rel => exact ⟨j, k + 1, rfl, by first | rfl | (congr 1; omega), by omega, HE, HB2⟩
              case measure => simp only [intOf3]; omega
      · have hkk : k = S.L.length := by omega
        subst hkk
        rcases HS.out.fin HX.out.ok.rise with ⟨rfl, ho⟩ | ⟨j, z, rfl, hz, ho⟩
        · have HR := hid (roomL_no (Int.not_lt.2 HM.out) ho)
          clear ho
          go_wp2_with fail
          go_ret
          exact Or.inl ⟨HR.out, rfl, RTurn.of_below HX.out HB.out⟩
        · have HR := hid (roomL_old (Int.not_lt.2 HM.out) ho)
          have HD := hid (rdrop_any d S a cp V j z hz wr HXR.out)
          have hjn : ¬ (j : Int) < 0 := by omega
          clear ho hz
          go_wp2_with fail
          refine HD.out.mono ?_
          rintro e w2 ⟨rfl, a2, cp2, H2, N2, B2⟩
          have HE : Hid (RTurn w w2 d S { S with L := del S.L z.ip } a a2 cp cp2 V V) := (RTurn.of_below HX.out HB.out).trans (RTurn.of_but H2.out B2.out (fun b hb => Or.inl (N2.out b hb)) (fun y hy b hb => Or.inr ⟨y, (mem_del.1 hy).1, hb⟩))
          clear H2 N2 B2 HD
          go_wp2_with fail
          go_ret
          exact Or.inr ⟨_, a2, cp2, HR.out, rfl, HE⟩
end Go.Proofs.Ytdgjpikphooilaa

/-
  The contract of slipwayref01.Put: the same bytes as octet.Put's. For every seat.
-/
namespace Go.Proofs.Ytdgjpikphooilaa
open Go.RowKit
set_option linter.all false

theorem shr_next (n : Int) (k : Nat) (hk : k < 8) : n / 2 ^ (8 * k) / 256 = n / 2 ^ (8 * (k + 1)) := by
  have hc : k = 0 ∨ k = 1 ∨ k = 2 ∨ k = 3 ∨ k = 4 ∨ k = 5 ∨ k = 6 ∨ k = 7 := by omega
  rcases hc with rfl | rfl | rfl | rfl | rfl | rfl | rfl | rfl <;> simp only [Nat.reduceMul, Nat.reduceAdd, Int.reducePow] <;> omega
theorem shr_bd (n : Int) (k : Nat) (hk : k ≤ 8) (h0 : 0 ≤ n) (h1 : n ≤ 18446744073709551615) : 0 ≤ n / 2 ^ (8 * k) ∧ n / 2 ^ (8 * k) ≤ 18446744073709551615 := by
  have hc : k = 0 ∨ k = 1 ∨ k = 2 ∨ k = 3 ∨ k = 4 ∨ k = 5 ∨ k = 6 ∨ k = 7 ∨ k = 8 := by omega
  rcases hc with rfl | rfl | rfl | rfl | rfl | rfl | rfl | rfl | rfl <;> simp only [Nat.reduceMul, Int.reducePow] <;> omega

set_option maxHeartbeats 400000 in
theorem refPut_yes (n : Int) (m : Nat) (w : World) (h1 : 1 ≤ m) (h2 : m ≤ 8) (h3 : 0 ≤ n) (h4 : n ≤ 18446744073709551615) :
    Calls Try.prog 12 #[.int .u64 n, .int .i64 m] w fun e w' => e = .returned (.slice (some ⟨w.heap.size, 0, none⟩) m m) ∧ w' = w.alloc (.cells (putTo n m m) 5) := by
  have hmk := fun wx => Go.run_make_row' (P := Try.prog) 40 5 (.int .u8 0) 1 Try.underlying40 infoU8 rfl .i64 .i64 m (by omega) (by omega) wx
  have n1 : ¬ (m : Int) < 1 := by omega
  have n2 : ¬ (8 : Int) < m := by omega
  go_enter Try.func12, Try.ntmps12
  go_wp2
  go_loopw [0, 6] (fun nn i wr => ∃ k : Nat, k ≤ m ∧ i = .int .i64 k ∧ nn = .int .u64 (n / 2 ^ (8 * k)) ∧ wr = w.alloc (.cells (putTo n m k) 5)) (fun _ i _ => m - (intOf i).toNat)
  case atStart => exact ⟨0, Nat.zero_le _, rfl, by simp, rfl⟩
  case round =>
    obtain ⟨k, hk, rfl, rfl, rfl⟩ := hrel
    have hbd := shr_bd n k (by omega) h3 h4
    by_cases hlt : k < m
    · obtain ⟨v, hv⟩ := putTo_get n m k (m - 1 - k) (by omega)
      have HX : Hid (n / 2 ^ (8 * (k + 1)) = n / 2 ^ (8 * k) / 256) := (shr_next n k (by omega)).symm
      have HB : Hid (putTo n m (k + 1) = (putTo n m k).setIfInBounds (m - 1 - k) (.int .u8 (n / 2 ^ (8 * k) % 256))) := rfl
      generalize n / 2 ^ (8 * k) = x at *
      go_wp2
      go_roundw
      case rel => exact ⟨k + 1, by omega, by go_num, by rw [HX.out], by rw [HB.out]⟩
      case measure => simp [intOf]; omega
    · go_wp2
      go_ret
      have : k = m := by omega
      subst this
      exact ⟨rfl, rfl⟩

set_option maxHeartbeats 400000 in
theorem refPut_no (n width : Int) (w : World) (h : width < 1 ∨ 8 < width) :
    Calls Try.prog 12 #[.int .u64 n, .int .i64 width] w fun e w' => e = .returned (.slice none 0 0) ∧ w' = w := by
  by_cases h1 : width < 1
  · clear h
    go_enter Try.func12, Try.ntmps12
    go_wp2
    go_ret
    exact ⟨rfl, rfl⟩
  · have h2 : 8 < width := by omega
    clear h
    go_enter Try.func12, Try.ntmps12
    go_wp2
    go_ret
    exact ⟨rfl, rfl⟩
end Go.Proofs.Ytdgjpikphooilaa

/-
  The document's Encode: bytes behind bytes.
-/
namespace Go.Proofs.Ytdgjpikphooilaa
open Go.RowKit
set_option linter.all false

theorem take_succ_getD (L : List Int) (q : Nat) (h : q < L.length) : L.take (q + 1) = L.take q ++ [L.getD q 0] := by
  rw [List.take_succ_eq_append_getElem h]; simp [List.getD_eq_getElem?_getD, h]
/-- bytes of a call's own, laid from block B on, beside a part that is read. -/
structure Own (B : Nat) (w : World) (pt : Part) (zs : List Int) (v : Value) (wr : World) : Prop where
  row : Row wr 5 v (u8s zs)
  from' : ∀ b, v.ownBlock = some b → B ≤ b
  off : ∀ b, v.ownBlock = some b → pt.off b
  part : pt.ok wr
  below : Below B w wr
theorem Own.one {B : Nat} {w wr : World} {pt : Part} {L : List Int} {v : Value} (h : Own B w pt L v wr) (hB : B ≤ w.heap.size) (x : Int) (hl : L.length ≤ 2000) :
    ∃ gg nn cc w', (Builtin.append_ #[40, 40] 40 #[v, .slice (some ⟨wr.heap.size, 0, none⟩) 1 1]).run Try.prog (wr.alloc (.cells #[.int .u8 x] 5)) = .ok (.slice (some ⟨gg, 0, none⟩) nn cc) w' ∧ Own B w pt (L ++ [x]) (.slice (some ⟨gg, 0, none⟩) nn cc) w' := by
  have hwr : B ≤ wr.heap.size := Nat.le_trans hB h.below.size
  have bl := (Below.refl wr.heap.size wr).alloc (Nat.le_refl _) (.cells #[.int .u8 x] 5)
  have ra := h.row.below bl
  have po := Part.ok_below h.part bl
  obtain ⟨g', w', hrun, row', hgr', hcase⟩ := append_one 40 40 5 _ 1 Try.underlying40 infoU8 rfl ra (.int .u8 x) rfl wr.heap.size _ (heap_new _ _) (by rw [u8s_len]; unfold maxLen; omega) (by rw [u8s_len]; omega)
  have erow : u8s L ++ [Value.int .u8 x] = u8s (L ++ [x]) := by rw [u8s_app]; rfl
  rw [erow] at row'
  have hpo : pt.ok w' := by
    cases hv : v.ownBlock with
    | none =>
      rw [hv] at hgr'
      exact Part.ok_below po ⟨hgr'.os, hgr'.tape, hgr'.output, hgr'.size, fun k hk => hgr'.block k hk (by simp)⟩
    | some b =>
      rw [hv] at hgr'
      exact Part.ok_but po (h.off b hv) ⟨hgr'.os, hgr'.tape, hgr'.output, hgr'.size, fun k hk hl => hgr'.block k hl (fun e => hk (by simpa using e))⟩
  have hbel : Below B w w' := ((h.below.alloc (by omega) _)).grown hgr' (by simp; omega) (fun k hk => h.from' k hk)
  rcases hcase with ⟨g0, cap, e1, e2⟩ | ⟨g0, cap, e2, hnew, _⟩
  · subst e2
    exact ⟨g0, _, cap, w', hrun, row', fun b hb => h.from' b (by rw [e1]; exact hb), fun b hb => h.off b (by rw [e1]; exact hb), hpo, hbel⟩
  · subst e2
    refine ⟨g0, _, cap, w', hrun, row', fun b hb => ?_, fun b hb => ?_, hpo, hbel⟩
    · simp [Value.ownBlock] at hb; simp at hnew; omega
    · simp [Value.ownBlock] at hb
      subst hb
      exact Part.ok_new po _ hnew

set_option maxRecDepth 20000 in
set_option maxHeartbeats 1000000 in
theorem refAdd_any (B : Nat) (pt : Part) (zs : List Int) (a : Option Addr) (n c : Nat) (w : World) (hB : B ≤ w.heap.size) (h : Own B w pt zs (.slice a n c) w) (hl : zs.length + pt.zs.length ≤ 2000) :
    Calls Try.prog 72 #[.slice a n c, pt.val] w fun e w' => ∃ a' n' c', e = .returned (.slice a' n' c') ∧ Own B w pt (zs ++ pt.zs) (.slice a' n' c') w' := by
  have H0 := hid h
  have HV : Hid (pt.val = .slice pt.a pt.zs.length pt.c) := rfl
  rw [HV.out]
  obtain ⟨l, Hl⟩ : ∃ l, Hid (pt.zs.length = l) := ⟨_, rfl⟩
  rw [Hl.out] at hl
  rw [Hl.out]
  clear h
  go_enter Try.func72, Try.ntmps72
  go_wp2
  go_loopw [0, 5] (fun v i wr => ∃ q : Nat, q ≤ l ∧ i = .int .i64 q ∧ Own B w pt (zs ++ pt.zs.take q) v wr) (fun _ i _ => l - (intOf i).toNat)
  case atStart => exact ⟨0, by omega, rfl, by rw [List.take_zero, List.append_nil]; exact H0.out⟩
  case round =>
    obtain ⟨q, hq, rfl, hr⟩ := hrel
    have HR := hid hr
    obtain ⟨a4, c4, e4, hj⟩ := hr.row.form
    rw [u8s_len] at e4
    clear hr hj
    subst e4
    by_cases hql : q < l
    · obtain ⟨gg, nn, cc, w', hrun, hr'⟩ := HR.out.one hB (pt.zs.getD q 0) (by have := Hl.out; simp; omega)
      rw [List.append_assoc, ← take_succ_getD pt.zs q (by rw [Hl.out]; exact hql)] at hr'
      have HRUN := hid hrun
      have HR' := hid hr'
      clear hrun hr'
      obtain ⟨b, o, hpa, hc⟩ : ∃ b o, pt.a = some ⟨b, o, none⟩ ∧ wr.cell? ⟨b, o + q, none⟩ = some (.int .u8 (pt.zs.getD q 0)) := by
        rcases HR.out.part.2.2 with he | ⟨b, o, ha, hc⟩
        · have := Hl.out; rw [he] at this; simp at this; omega
        · exact ⟨b, o, ha, hc q (by rw [Hl.out]; exact hql)⟩
      rw [hpa]
      clear hpa
      generalize pt.zs.getD q 0 = z at *
      generalize (zs ++ pt.zs.take q).length = n4 at *
      go_wp2_with (first | (at_builtin; refine wpList_append_run _ rfl _ _ 40 40 rfl _ _ rfl rfl HRUN.out ?_) | fail)
      go_roundw
      case rel => exact ⟨q + 1, by omega, by go_num, HR'.out⟩
      case measure => simp [intOf]; omega
    · have e : pt.zs.take q = pt.zs := List.take_of_length_le (by rw [Hl.out]; omega)
      rw [e] at HR ⊢
      generalize (zs ++ pt.zs).length = n4 at *
      go_wp2
      go_ret
      exact ⟨_, _, _, rfl, HR.out⟩
end Go.Proofs.Ytdgjpikphooilaa

/-
  The document's Encode.
-/
namespace Go.Proofs.Ytdgjpikphooilaa
open Go.RowKit
set_option linter.all false

theorem head_any (w : World) : Calls Try.prog 66 #[] w fun e w' => e = .returned (.slice (some ⟨w.heap.size, 0, none⟩) 6 6) ∧ w' = w.alloc (.cells (u8s kindsM.zs).toArray 5) := by
  go_enter Try.func66, Try.ntmps66
  go_wp2
  go_ret
  exact ⟨rfl, rfl⟩
set_option maxHeartbeats 400000 in
theorem refMac_any (m : Mac) (w : World) : Calls Try.prog 73 #[m.val] w fun e w' => ∃ g, e = .returned (.slice (some ⟨g, 0, none⟩) 6 6) ∧ w.heap.size ≤ g ∧ w'.heap[g]? = some (.cells (u8s m.zs).toArray 5 (0, 0)) ∧ Below w.heap.size w w' := by
  obtain ⟨m0, m1, m2, m3, m4, m5⟩ := m
  simp only [Mac.val, Mac.zs]
  go_enter Try.func73, Try.ntmps73
  go_wp2
  go_ret
  exact ⟨w.heap.size + 1, rfl, by omega, by have := heap_new (w.alloc (.cells #[.int .u8 m0, .int .u8 m1, .int .u8 m2, .int .u8 m3, .int .u8 m4, .int .u8 m5] 23)) (.cells #[.int .u8 m0, .int .u8 m1, .int .u8 m2, .int .u8 m3, .int .u8 m4, .int .u8 m5] 5); rwa [World.size_alloc] at this, bpush (bpush (Below.refl _ _) _) _⟩
theorem refPut4_any (n : Int) (w : World) (h3 : 0 ≤ n) (h4 : n ≤ 18446744073709551615) :
    Calls Try.prog 12 #[.int .u64 n, .int .i64 4] w fun e w' => e = .returned (.slice (some ⟨w.heap.size, 0, none⟩) 4 4) ∧ w' = w.alloc (.cells (u8s (ip4 n)).toArray 5) := by
  have h := refPut_yes n 4 w (by omega) (by omega) h3 (by omega)
  rw [putTo4] at h
  exact h
/-- the document's Encode under way: the message's box, the bytes so far. -/
def RefE (w : World) (F : Array Value) (L : List Int) (v : Value) (wr : World) : Prop :=
  wr.heap[w.heap.size]? = some (.cells F 42 (0, 0)) ∧ Row wr 5 v (u8s L) ∧ (∀ b, v.ownBlock = some b → w.heap.size + 1 ≤ b) ∧ Below w.heap.size w wr
theorem RefE.below {w wr w' : World} {F : Array Value} {L : List Int} {v : Value} (h : RefE w F L v wr) (hb : Below wr.heap.size wr w') : RefE w F L v w' :=
  ⟨kept h.1 hb, h.2.1.below hb, h.2.2.1, bstep h.2.2.2 hb⟩
theorem refAdd_off {w W : World} {F : Array Value} {L : List Int} {a : Option Addr} {n c : Nat} (h : RefE w F L (.slice a n c) W) (pt : Part) (hp : pt.ok W) (hoff : ∀ b, (Value.slice a n c).ownBlock = some b → pt.off b) (hl : L.length + pt.zs.length ≤ 2000) :
    Calls Try.prog 72 #[.slice a n c, pt.val] W fun e w' => ∃ a' n' c', e = .returned (.slice a' n' c') ∧ RefE w F (L ++ pt.zs) (.slice a' n' c') w' := by
  have hs : w.heap.size + 1 ≤ W.heap.size := heap_lt h.1
  refine (refAdd_any (w.heap.size + 1) pt L a n c W hs ⟨h.2.1, h.2.2.1, hoff, hp, Below.refl _ _⟩ hl).mono ?_
  rintro e w' ⟨a', n', c', he, ho⟩
  exact ⟨a', n', c', he, (ho.below.block _ (by omega)).trans h.1, ho.row, ho.from', h.2.2.2.trans (ho.below.mono (by omega))⟩
/-- bytes that were laid behind all else. -/
theorem refAdd_new {w wr W : World} {F : Array Value} {L : List Int} {a : Option Addr} {n c : Nat} (h : RefE w F L (.slice a n c) wr) (hb : Below wr.heap.size wr W) (g m : Nat) (ys : List Int) (hm : ys.length = m) (hg : W.heap[g]? = some (.cells (u8s ys).toArray 5 (0, 0))) (hnew : wr.heap.size ≤ g) (hy : ∀ z, z ∈ ys → 0 ≤ z ∧ z ≤ 255) (hl : L.length + m ≤ 2000) :
    Calls Try.prog 72 #[.slice a n c, .slice (some ⟨g, 0, none⟩) m m] W fun e w' => ∃ a' n' c', e = .returned (.slice a' n' c') ∧ RefE w F (L ++ ys) (.slice a' n' c') w' := by
  subst hm
  exact refAdd_off (h.below hb) ⟨some ⟨g, 0, none⟩, ys.length, ys⟩ (Part.of_row hg (Nat.le_refl _) hy) (fun b hv => Or.inr fun b' o' e => by
    simp only [Option.some.injEq, Addr.mk.injEq] at e
    have := h.2.1.lt hv
    omega) hl

set_option maxHeartbeats 400000 in
theorem refEncode_no (p : Arp) (w : World) (h : opB p.op = false) :
    Calls Try.prog 61 #[p.val] w fun e w' => e = .returned (.tuple #[.slice none 0 0, .int .i64 80]) ∧ Below w.heap.size w w' := by
  obtain ⟨o, ⟨s0, s1, s2, s3, s4, s5⟩, si, ⟨d0, d1, d2, d3, d4, d5⟩, di⟩ := p
  have h1 : (o != 1) = true := by simp [opB] at h ⊢; exact h.1
  have h2 : (o != 2) = true := by simp [opB] at h ⊢; exact h.2
  clear h
  simp only [Arp.val] at *
  go_enter Try.func61, Try.ntmps61
  go_wp2
  go_ret2
  exact ⟨rfl, bpush (Below.refl _ _) _⟩

set_option maxRecDepth 20000 in
set_option maxHeartbeats 2000000 in
theorem refEncode_ok (p : Arp) (w : World) (hp : p.ok) (h : opB p.op = true) :
    Calls Try.prog 61 #[p.val] w fun e w' => ∃ a n c, e = .returned (.tuple #[.slice a n c, .int .i64 0]) ∧ Row w' 5 (.slice a n c) (u8s (encL p)) ∧ (∀ b, (Value.slice a n c).ownBlock = some b → w.heap.size ≤ b) ∧ Below w.heap.size w w' := by
  have hop : p.op = 1 ∨ p.op = 2 := by simp [opB] at h; omega
  have HH : Hid (∀ w, Calls Try.prog 66 #[] w fun e w' => e = .returned (.slice (some ⟨w.heap.size, 0, none⟩) 6 6) ∧ w' = w.alloc (.cells (u8s kindsM.zs).toArray 5)) := head_any
  have hsi := hp.2.2.1
  have hdi := hp.2.2.2.2
  have HMS : Hid (∀ w, _) := fun w => refMac_any p.s w
  have HMD : Hid (∀ w, _) := fun w => refMac_any p.d w
  have HPS : Hid (∀ w, Calls Try.prog 12 #[.int .u64 p.si, .int .i64 4] w fun e w' => e = .returned (.slice (some ⟨w.heap.size, 0, none⟩) 4 4) ∧ w' = w.alloc (.cells (u8s (ip4 p.si)).toArray 5)) := fun w => refPut4_any _ w (by omega) (by omega)
  have HPD : Hid (∀ w, Calls Try.prog 12 #[.int .u64 p.di, .int .i64 4] w fun e w' => e = .returned (.slice (some ⟨w.heap.size, 0, none⟩) 4 4) ∧ w' = w.alloc (.cells (u8s (ip4 p.di)).toArray 5)) := fun w => refPut4_any _ w (by omega) (by omega)
  have HE : Hid (encL p = kindsM.zs ++ [0, p.op] ++ p.s.zs ++ ip4 p.si ++ p.d.zs ++ ip4 p.di) := by
    unfold Hid encL op2
    rcases hop with h | h <;> rw [h] <;> rfl
  generalize encL p = EL at *
  have HBS := hid (Mac.bytes hp.2.1)
  have HBD := hid (Mac.bytes hp.2.2.2.1)
  have HIS := hid (ip4_bd p.si)
  have HID := hid (ip4_bd p.di)
  have HBK := hid (Mac.bytes kindsM_ok)
  have HBO : Hid (∀ z, z ∈ [0, p.op] → 0 ≤ z ∧ z ≤ 255) := fun z hz => by simp at hz; omega
  have HN : Hid (kindsM.zs.length = 6 ∧ p.s.zs.length = 6 ∧ (ip4 p.si).length = 4 ∧ p.d.zs.length = 6 ∧ (ip4 p.di).length = 4) := ⟨rfl, rfl, rfl, rfl, rfl⟩
  have hw8 : IntKind.u8.wrap p.op = p.op := by simp only [IntKind.wrap_u8]; omega
  have hks : IntKind.u64.wrap p.si = p.si := by simp only [IntKind.wrap_u64]; omega
  have hkd : IntKind.u64.wrap p.di = p.di := by simp only [IntKind.wrap_u64]; omega
  have n1 : (p.op != 1) = false ∨ ((p.op != 1) = true ∧ (p.op != 2) = false) := by rcases hop with h | h <;> rw [h] <;> simp
  generalize hz1 : kindsM.zs = K at *
  generalize hz3 : p.s.zs = S at *
  generalize hz4 : ip4 p.si = I at *
  generalize hz5 : p.d.zs = D at *
  generalize hz6 : ip4 p.di = J at *
  clear hz1 hz3 hz4 hz5 hz6 hp h hop hsi hdi
  obtain ⟨o, ⟨s0, s1, s2, s3, s4, s5⟩, si, ⟨d0, d1, d2, d3, d4, d5⟩, di⟩ := p
  simp only [Arp.val, Mac.val] at *
  have HR0 : Hid (∀ W, Below (w.alloc (.cells #[.int .i64 o, .int .u8 s0, .int .u8 s1, .int .u8 s2, .int .u8 s3, .int .u8 s4, .int .u8 s5, .int .u32 si, .int .u8 d0, .int .u8 d1, .int .u8 d2, .int .u8 d3, .int .u8 d4, .int .u8 d5, .int .u32 di] 42)).heap.size (w.alloc (.cells #[.int .i64 o, .int .u8 s0, .int .u8 s1, .int .u8 s2, .int .u8 s3, .int .u8 s4, .int .u8 s5, .int .u32 si, .int .u8 d0, .int .u8 d1, .int .u8 d2, .int .u8 d3, .int .u8 d4, .int .u8 d5, .int .u32 di] 42)) W → W.heap[w.heap.size]? = some (.cells #[.int .i64 o, .int .u8 s0, .int .u8 s1, .int .u8 s2, .int .u8 s3, .int .u8 s4, .int .u8 s5, .int .u32 si, .int .u8 d0, .int .u8 d1, .int .u8 d2, .int .u8 d3, .int .u8 d4, .int .u8 d5, .int .u32 di] 42 (0, 0)) ∧ Below w.heap.size w W) := fun W hb => ⟨kept (heap_new _ _) hb, bstep (bpush (Below.refl _ _) _) hb⟩
  have HRA : Hid (∀ W (g t : Nat), Below (w.alloc (.cells #[.int .i64 o, .int .u8 s0, .int .u8 s1, .int .u8 s2, .int .u8 s3, .int .u8 s4, .int .u8 s5, .int .u32 si, .int .u8 d0, .int .u8 d1, .int .u8 d2, .int .u8 d3, .int .u8 d4, .int .u8 d5, .int .u32 di] 42)).heap.size (w.alloc (.cells #[.int .i64 o, .int .u8 s0, .int .u8 s1, .int .u8 s2, .int .u8 s3, .int .u8 s4, .int .u8 s5, .int .u32 si, .int .u8 d0, .int .u8 d1, .int .u8 d2, .int .u8 d3, .int .u8 d4, .int .u8 d5, .int .u32 di] 42)) W → w.heap.size + 1 ≤ g → g ≠ t → W.heap[g]? = some (.cells (u8s K).toArray 5 (0, 0)) → W.heap[t]? = some (.cells #[.int .u8 0, .int .u8 o] 5 (0, 0)) → Calls Try.prog 72 #[.slice (some ⟨g, 0, none⟩) 6 6, .slice (some ⟨t, 0, none⟩) 2 2] W fun e w' => ∃ a' n' c', e = .returned (.slice a' n' c') ∧ RefE w #[.int .i64 o, .int .u8 s0, .int .u8 s1, .int .u8 s2, .int .u8 s3, .int .u8 s4, .int .u8 s5, .int .u32 si, .int .u8 d0, .int .u8 d1, .int .u8 d2, .int .u8 d3, .int .u8 d4, .int .u8 d5, .int .u32 di] (K ++ [0, o]) (.slice a' n' c') w') := fun W g t hb hg hne h1 h2 => by
    have hr := Row.of_heap h1 (by rw [u8s_len, HN.out.1]; decide)
    rw [u8s_len, HN.out.1] at hr
    exact refAdd_off ⟨(HR0.out W hb).1, hr, fun b e => by simp [Value.ownBlock] at e; omega, (HR0.out W hb).2⟩ ⟨some ⟨t, 0, none⟩, 2, [0, o]⟩ (Part.of_row (zs := [0, o]) h2 (by simp) HBO.out) (fun b e => Or.inr fun b' o' e' => by simp [Value.ownBlock] at e; simp at e'; omega) (by simp [HN.out.1])
  have HQ1 := hid ((((Holds.nil (w.alloc (.cells #[.int .i64 o, .int .u8 s0, .int .u8 s1, .int .u8 s2, .int .u8 s3, .int .u8 s4, .int .u8 s5, .int .u32 si, .int .u8 d0, .int .u8 d1, .int .u8 d2, .int .u8 d3, .int .u8 d4, .int .u8 d5, .int .u32 di] 42))).push (.cells (u8s K).toArray 5)).push (.cells #[.int .u8 0, .int .u8 o] 5)))
  have HQ2 := hid ((((Holds.nil (w.alloc (.cells #[.int .i64 o, .int .u8 s0, .int .u8 s1, .int .u8 s2, .int .u8 s3, .int .u8 s4, .int .u8 s5, .int .u32 si, .int .u8 d0, .int .u8 d1, .int .u8 d2, .int .u8 d3, .int .u8 d4, .int .u8 d5, .int .u32 di] 42))).push (.cells #[.int .u8 0, .int .u8 o] 5)).push (.cells (u8s K).toArray 5)))
  simp only [World.size_alloc] at HQ1 HQ2
  have HA1 : Hid (Calls Try.prog 72 #[.slice (some ⟨w.heap.size + 1, 0, none⟩) 6 6, .slice (some ⟨w.heap.size + 1 + 1, 0, none⟩) 2 2] ((((w.alloc (.cells #[.int .i64 o, .int .u8 s0, .int .u8 s1, .int .u8 s2, .int .u8 s3, .int .u8 s4, .int .u8 s5, .int .u32 si, .int .u8 d0, .int .u8 d1, .int .u8 d2, .int .u8 d3, .int .u8 d4, .int .u8 d5, .int .u32 di] 42)).alloc (.cells (u8s K).toArray 5)).alloc (.cells #[.int .u8 0, .int .u8 o] 5)).drew) fun e w' => ∃ a' n' c', e = .returned (.slice a' n' c') ∧ RefE w #[.int .i64 o, .int .u8 s0, .int .u8 s1, .int .u8 s2, .int .u8 s3, .int .u8 s4, .int .u8 s5, .int .u32 si, .int .u8 d0, .int .u8 d1, .int .u8 d2, .int .u8 d3, .int .u8 d4, .int .u8 d5, .int .u32 di] (K ++ [0, o]) (.slice a' n' c') w') := by
    refine HRA.out _ _ _ ?_ ?_ ?_ ?_ ?_
    · exact (((Below.refl _ _).alloc (Nat.le_refl _) _).alloc (by simp) _).drew
    · omega
    · omega
    · exact HQ1.out.at 1 _ _ rfl
    · exact HQ1.out.at 0 _ _ rfl
  have HA2 : Hid (Calls Try.prog 72 #[.slice (some ⟨w.heap.size + 1 + 1, 0, none⟩) 6 6, .slice (some ⟨w.heap.size + 1, 0, none⟩) 2 2] ((((w.alloc (.cells #[.int .i64 o, .int .u8 s0, .int .u8 s1, .int .u8 s2, .int .u8 s3, .int .u8 s4, .int .u8 s5, .int .u32 si, .int .u8 d0, .int .u8 d1, .int .u8 d2, .int .u8 d3, .int .u8 d4, .int .u8 d5, .int .u32 di] 42)).alloc (.cells #[.int .u8 0, .int .u8 o] 5)).alloc (.cells (u8s K).toArray 5)).drew) fun e w' => ∃ a' n' c', e = .returned (.slice a' n' c') ∧ RefE w #[.int .i64 o, .int .u8 s0, .int .u8 s1, .int .u8 s2, .int .u8 s3, .int .u8 s4, .int .u8 s5, .int .u32 si, .int .u8 d0, .int .u8 d1, .int .u8 d2, .int .u8 d3, .int .u8 d4, .int .u8 d5, .int .u32 di] (K ++ [0, o]) (.slice a' n' c') w') := by
    refine HRA.out _ _ _ ?_ ?_ ?_ ?_ ?_
    · exact (((Below.refl _ _).alloc (Nat.le_refl _) _).alloc (by simp) _).drew
    · omega
    · omega
    · exact HQ2.out.at 0 _ _ rfl
    · exact HQ2.out.at 1 _ _ rfl
  clear HQ1 HQ2 HRA HR0
  rcases n1 with n1 | ⟨n1, n2⟩
  all_goals
    go_enter Try.func61, Try.ntmps61
    go_wp2
    go_region_with (first
      | (go_at_call 66; refine (HH.out _).mono ?_; rintro e w1 ⟨rfl, hw⟩; subst w1)
      | (go_at_call 72; (first | (with_reducible refine HA1.out.mono ?_) | (with_reducible refine HA2.out.mono ?_) | fail); rintro e w2 ⟨a2, m2, k2, rfl, hr2⟩; have H2 := hid hr2; have hcc : ∀ q, w2.cell? ⟨w.heap.size, q, none⟩ = (#[.int .i64 o, .int .u8 s0, .int .u8 s1, .int .u8 s2, .int .u8 s3, .int .u8 s4, .int .u8 s5, .int .u32 si, .int .u8 d0, .int .u8 d1, .int .u8 d2, .int .u8 d3, .int .u8 d4, .int .u8 d5, .int .u32 di] : Array Value)[q]? := (fun q => cell_of_heap H2.out.1 q); clear hr2) | fail)
    all_goals
      as_aux_lemma =>
        clear hcc
        have hcc : ∀ q, w2.cell? ⟨w.heap.size, q, none⟩ = (#[.int .i64 o, .int .u8 s0, .int .u8 s1, .int .u8 s2, .int .u8 s3, .int .u8 s4, .int .u8 s5, .int .u32 si, .int .u8 d0, .int .u8 d1, .int .u8 d2, .int .u8 d3, .int .u8 d4, .int .u8 d5, .int .u32 di] : Array Value)[q]? := fun q => cell_of_heap H2.out.1 q
        go_wp2_with fail
        refine (HMS.out _).mono ?_
        rintro e w3 ⟨g3, rfl, hg3, hh3, hb3⟩
        go_wp2_with fail
        refine (refAdd_new H2.out hb3 g3 6 S HN.out.2.1 hh3 hg3 HBS.out (by simp [HN.out.1, HN.out.2.1, HN.out.2.2.1, HN.out.2.2.2.1, HN.out.2.2.2.2])).mono ?_
        rintro e w4 ⟨a4, m4, k4, rfl, hr4⟩
        have H4 := hid hr4
        clear hr4 H2 hcc hg3 hh3 hb3
        have hcc : ∀ q, w4.cell? ⟨w.heap.size, q, none⟩ = (#[.int .i64 o, .int .u8 s0, .int .u8 s1, .int .u8 s2, .int .u8 s3, .int .u8 s4, .int .u8 s5, .int .u32 si, .int .u8 d0, .int .u8 d1, .int .u8 d2, .int .u8 d3, .int .u8 d4, .int .u8 d5, .int .u32 di] : Array Value)[q]? := fun q => cell_of_heap H4.out.1 q
        go_wp2_with fail
        refine (HPS.out _).mono ?_
        rintro e w5 ⟨rfl, hw⟩
        subst w5
        go_wp2_with fail
        refine (refAdd_new H4.out ((Below.refl _ _).alloc (Nat.le_refl _) _) w4.heap.size 4 I HN.out.2.2.1 (heap_new _ _) (Nat.le_refl _) HIS.out (by simp [HN.out.1, HN.out.2.1, HN.out.2.2.1, HN.out.2.2.2.1, HN.out.2.2.2.2])).mono ?_
        rintro e w6 ⟨a6, m6, k6, rfl, hr6⟩
        have H6 := hid hr6
        clear hr6 H4 hcc
        have hcc : ∀ q, w6.cell? ⟨w.heap.size, q, none⟩ = (#[.int .i64 o, .int .u8 s0, .int .u8 s1, .int .u8 s2, .int .u8 s3, .int .u8 s4, .int .u8 s5, .int .u32 si, .int .u8 d0, .int .u8 d1, .int .u8 d2, .int .u8 d3, .int .u8 d4, .int .u8 d5, .int .u32 di] : Array Value)[q]? := fun q => cell_of_heap H6.out.1 q
        go_wp2_with fail
        refine (HMD.out _).mono ?_
        rintro e w7 ⟨g7, rfl, hg7, hh7, hb7⟩
        go_wp2_with fail
        refine (refAdd_new H6.out hb7 g7 6 D HN.out.2.2.2.1 hh7 hg7 HBD.out (by simp [HN.out.1, HN.out.2.1, HN.out.2.2.1, HN.out.2.2.2.1, HN.out.2.2.2.2])).mono ?_
        rintro e w8 ⟨a8, m8, k8, rfl, hr8⟩
        have H8 := hid hr8
        clear hr8 H6 hcc hg7 hh7 hb7
        have hcc : ∀ q, w8.cell? ⟨w.heap.size, q, none⟩ = (#[.int .i64 o, .int .u8 s0, .int .u8 s1, .int .u8 s2, .int .u8 s3, .int .u8 s4, .int .u8 s5, .int .u32 si, .int .u8 d0, .int .u8 d1, .int .u8 d2, .int .u8 d3, .int .u8 d4, .int .u8 d5, .int .u32 di] : Array Value)[q]? := fun q => cell_of_heap H8.out.1 q
        go_wp2_with fail
        refine (HPD.out _).mono ?_
        rintro e w9 ⟨rfl, hw⟩
        subst w9
        go_wp2_with fail
        refine (refAdd_new H8.out ((Below.refl _ _).alloc (Nat.le_refl _) _) w8.heap.size 4 J HN.out.2.2.2.2 (heap_new _ _) (Nat.le_refl _) HID.out (by simp [HN.out.1, HN.out.2.1, HN.out.2.2.1, HN.out.2.2.2.1, HN.out.2.2.2.2])).mono ?_
        rintro e w10 ⟨a10, m10, k10, rfl, hr10⟩
        have H10 := hid hr10
        clear hr10 H8 hcc
        go_wp2
        go_ret2
        exact ⟨_, _, _, rfl, by rw [HE.out]; exact H10.out.2.1, fun b hb => by have := H10.out.2.2.1 b hb; omega, H10.out.2.2.2⟩
/-- what Encode answers. -/
def encB (p : Arp) : List Int := if opB p.op then encL p else []
def encE (p : Arp) : Int := if opB p.op then 0 else 80
end Go.Proofs.Ytdgjpikphooilaa
