/-
  Neigh: Look. Written by mklook.py.
-/
import Derived.Test.YtaaoelhmanahpaaNOn2
import Derived.Test.YtaaoelhmanahpaaNAddr
namespace Go.Proofs.Ytaaoelhmanahpaa
open Go.RowKit
set_option linter.all false

/-- an entry, as Look tells it. -/
def nbC (y : Ab) (st : Int) (wt : Bool) : Array Value := #[.int .u32 y.ip, .int .u8 y.mac.b0, .int .u8 y.mac.b1, .int .u8 y.mac.b2, .int .u8 y.mac.b3, .int .u8 y.mac.b4, .int .u8 y.mac.b5, .int .i64 st, .int .i64 y.unt, .int .i64 y.q, .bool wt]
def lookC (y : Ab) : Array Value := nbC y (if 0 < y.q then 1 else 2) (decide (0 < y.q))
def nbs (l : List Ab) : List Value := l.flatMap fun y => (lookC y).toList
theorem infoNb : (Try.prog.info? 68).map (fun i => (i.zero, i.size, i.bytes)) = some (some (.agg #[.int .u32 0, .int .u8 0, .int .u8 0, .int .u8 0, .int .u8 0, .int .u8 0, .int .u8 0, .int .i64 0, .int .i64 0, .int .i64 0, .bool false]), 11, 48) := by kernel_rfl
structure LkI (w1 wr : World) (a : Option Addr) (n cp : Nat) (l : List Ab) : Prop where
  len : l.length = n
  row : RowS wr 68 11 (.slice a n cp) n (nbs l)
  new : ∀ b, (Value.slice a n cp).ownBlock = some b → w1.heap.size ≤ b
  below : Below w1.heap.size w1 wr
theorem LkI.start {w0 w1 wr : World} {a : Option Addr} {n cp : Nat} {l : List Ab} (h : LkI w1 wr a n cp l) (hb : Below w0.heap.size w0 w1) : LkI w0 wr a n cp l :=
  ⟨h.len, h.row, fun b hb' => Nat.le_trans hb.size (h.new b hb'), bstep hb h.below⟩
theorem LkI.void (w1 : World) : LkI w1 w1 none 0 0 [] := ⟨rfl, RowS.nil _ _ _, by simp [Value.ownBlock], Below.refl _ _⟩
theorem LkI.one {w1 wr w5 : World} {a : Option Addr} {n cp : Nat} {l : List Ab} (h : LkI w1 wr a n cp l) (hb : Below wr.heap.size wr w5) (y : Ab) (st : Int) (wt : Bool) (he : nbC y st wt = lookC y) (hl : n ≤ 64) :
    ∃ a' cp' w7, (Builtin.append_ #[65, 65] 65 #[.slice a n cp, .slice (some ⟨w5.heap.size, 0, none⟩) 1 1]).run Try.prog (w5.alloc (.cells (nbC y st wt) 68)) = .ok (.slice a' (n + 1) cp') w7 ∧ Hid (LkI w1 w7 a' (n + 1) cp' (l ++ [y])) ∧ Hid (∀ (b : Nat) (C : Array Value) (t : TypeId) (f : Nat × Nat), w5.heap[b]? = some (Obj.cells C t f) → t ≠ 68 → w7.heap[b]? = some (Obj.cells C t f)) := by
  rw [he]
  have hbp := bpush (Below.refl w5.heap.size w5) (.cells (lookC y) 68)
  have hbW := bstep hb hbp
  have rW := h.row.below hbW
  have hnew : (w5.alloc (.cells (lookC y) 68)).heap[w5.heap.size]? = some (.cells (lookC y) 68 (0, 0)) := heap_new _ _
  obtain ⟨v', w7, hrun, hrow, hgr, hloc⟩ := append_s 65 65 68 _ 11 48 Try.underlying65 infoNb rfl (by omega) rW ⟨w5.heap.size, 0, none⟩ 1 1 (lookC y).toList (by simp [lookC, nbC])
    (fun j u hj => by
      rw [show (⟨w5.heap.size, 0, none⟩ : Addr).add j = ⟨w5.heap.size, j, none⟩ from by unfold Addr.add; split <;> simp_all, cell_of_heap hnew, ← Array.getElem?_toList]
      exact hj)
    (fun u hu => by simp [lookC, nbC] at hu; rcases hu with rfl | rfl | rfl | rfl | rfl | rfl | rfl | rfl | rfl | rfl | rfl <;> rfl) (by unfold maxLen; omega) (by omega)
  obtain ⟨a', cp', hv', _⟩ := hrow.form
  subst hv'
  have hsz : wr.heap.size ≤ w5.heap.size := hb.size
  have h1sz : w1.heap.size ≤ wr.heap.size := h.below.size
  have keepT : ∀ b, b < (w5.alloc (.cells (lookC y) 68)).heap.size → (Value.slice a n cp).ownBlock ≠ some b → w7.heap[b]? = (w5.alloc (.cells (lookC y) 68)).heap[b]? := fun b hlt hne => hgr.block b hlt (fun e => hne (by simpa using e.symm))
  have hb1 : Below w1.heap.size w1 (w5.alloc (.cells (lookC y) 68)) := bstep h.below hbW
  refine ⟨a', cp', w7, hrun, ⟨by rw [List.length_append, h.len]; rfl, ?_, fun b hb' => ?_, ?_⟩, fun b C t f hb' hne => ?_⟩
  · have e1 : nbs (l ++ [y]) = nbs l ++ (lookC y).toList := by simp [nbs]
    rw [e1]
    exact hrow
  · rcases hloc b (by cases a' <;> simpa [Value.ownBlock] using hb') with h2 | h2
    · exact h.new b (by cases a <;> simpa [Value.ownBlock] using h2)
    · simp at h2; omega
  · exact ⟨hgr.os.trans hb1.os, hgr.tape.trans hb1.tape, hgr.output.trans hb1.output, Nat.le_trans hb1.size hgr.size, fun i hl' => (keepT i (Nat.lt_of_lt_of_le hl' hb1.size) (fun e => by have := h.new i e; omega)).trans (hb1.block i hl')⟩
  · have hW := kept hb' hbp
    exact (keepT b (heap_lt hW) (fun e => rowS_not rW hW (Ne.symm hne) b e rfl)).trans hW
/-- an entry's box. -/
structure BxK (b : Nat) (C : Array Value) (x : World) : Prop where
  box : x.heap[b]? = some (.cells C 87 (0, 0))
theorem bxK_mk {w : World} {b : Nat} {C : Array Value} (h1 : w.heap[b]? = some (.cells C 87 (0, 0))) : (∀ q, w.cell? ⟨b, q, none⟩ = C[q]?) ∧ BxK b C w := ⟨fun q => cell_of_heap h1 q, ⟨h1⟩⟩
theorem bxK_keep {w w' : World} {b : Nat} {C : Array Value} (h : (∀ q, w.cell? ⟨b, q, none⟩ = C[q]?) ∧ BxK b C w) (hb : Below w.heap.size w w') : (∀ q, w'.cell? ⟨b, q, none⟩ = C[q]?) ∧ BxK b C w' := bxK_mk (kept h.2.box hb)
theorem bxK_app {w6 w7 : World} {b : Nat} {C : Array Value} (hk : Hid (∀ (b : Nat) (C : Array Value) (t : TypeId) (f : Nat × Nat), w6.heap[b]? = some (Obj.cells C t f) → t ≠ 68 → w7.heap[b]? = some (Obj.cells C t f))) (h : (∀ q, w6.cell? ⟨b, q, none⟩ = C[q]?) ∧ BxK b C w6) : (∀ q, w7.cell? ⟨b, q, none⟩ = C[q]?) ∧ BxK b C w7 := bxK_mk (hk.out _ _ _ _ h.2.box (by decide))
theorem addresses_x (c m : Nat) (S : St) (V : Int → Value) (N : Nat) (hN : N = S.L.length) (w : World) (x : CaW w c m S V) :
    Calls Try.prog 50 #[.pointer (some ⟨c, 0, none⟩)] w fun e w' => ∃ g cap, e = .returned (.slice (some ⟨g, 0, none⟩) N cap) ∧ w.heap.size ≤ g ∧ Hid (∀ (t : Nat) (y : Ab), S.L[t]? = some y → w'.cell? ⟨g, t, none⟩ = some (.int .u32 y.ip)) ∧ Hid (Below w.heap.size w w') :=
  (addresses_any c m S V w x).mono fun e w' ⟨g, cap, h1, h2, h3, h4⟩ => ⟨g, cap, by rw [hN]; exact h1, h2, fun t y hy => by
    obtain ⟨ht, e1⟩ := List.getElem?_eq_some_iff.1 hy
    rw [h3 t ht, e1], h4⟩
def intOf3 : Value → Int | .int _ q => q | _ => 0
theorem entV_at {L : List Ab} {V : Int → Value} (hr : Rise L) {y : Ab} (hy : y ∈ L) : entV L V y.ip = y.val (V y.ip) := by
  unfold entV; rw [look_of hr hy]
set_option maxRecDepth 40000 in
set_option maxHeartbeats 8000000 in
theorem lookS_any (c m : Nat) (S : St) (V : Int → Value) (w : World) (x : CaW w c m S V) :
    Calls Try.prog 21 #[.pointer (some ⟨c, 0, none⟩)] w fun e w' => ∃ a cp, e = .returned (.slice a S.L.length cp) ∧ Hid (LkI w w' a S.L.length cp S.L) := by
  obtain ⟨N, hN⟩ : ∃ n, n = S.L.length := ⟨_, rfl⟩
  have HAD := hid (addresses_x c m S V N hN w x)
  have HC := hid (fun (w1 : World) (h : Below w.heap.size w w1) => x.below h)
  have hl64 : S.L.length ≤ 64 := by have := x.ok.len; have := x.ok.most; omega
  have HR := hid x.ok.rise
  have HIP := hid x.ok.ents
  clear x
  rw [← hN] at hl64 ⊢
  have HN := hid hN
  go_enter Try.func21, Try.ntmps21
  go_wp2_with (first
    | (go_at_call 50; with_reducible refine HAD.out.mono ?_; rintro e w1 ⟨g, cap, rfl, hgw, HCE, HB1⟩)
    | fail)
  go_loopw [3, 11] (fun v3 vi wr => ∃ (a : Option Addr) (k cp : Nat), v3 = .slice a k cp ∧ vi = .int .i64 k ∧ k ≤ N ∧ Hid (LkI w1 wr a k cp (S.L.take k))) (fun _ vi _ => N - (intOf3 vi).toNat)
  case atStart => exact ⟨none, 0, 0, rfl, rfl, Nat.zero_le _, LkI.void _⟩
  case round =>
    obtain ⟨a, k, cp, rfl, rfl, hk, HL⟩ := hrel
    by_cases hkN : k < N
    · obtain ⟨y, hy⟩ : ∃ y, S.L[k]? = some y := ⟨_, List.getElem?_eq_getElem (by omega)⟩
      have hyL : y ∈ S.L := List.mem_of_getElem? hy
      have htk : S.L.take (k + 1) = S.L.take k ++ [y] := by rw [List.take_add_one, hy]; rfl
      have hck : wr.cell? ⟨g, k, none⟩ = some (.int .u32 y.ip) := cell_later HL.out.below (HCE.out k y hy)
      have hbw := bstep HB1.out HL.out.below
      have hx := HC.out wr hbw
      have hc8 := hx.cells.2.2.2.1
      have hlk := hx.map.look (HIP.out y hyL).ip
      obtain ⟨pa, pc, hv, _⟩ := (hx.rows y hyL).form
      rw [entV_at HR.out hyL, hv] at hlk
      generalize (u8s y.zs).length = pn at hlk
      clear hx hbw hv
      have HONE := hid (fun (w5 : World) (hb : Below wr.heap.size wr w5) (st : Int) (wt : Bool) (he : nbC y st wt = lookC y) => HL.out.one hb y st wt he (by omega))
      rw [← htk] at HONE
      have HA := hid (asked_box y pa pn pc)
      have HA2 := hid (asked_any y (.slice pa pn pc))
      clear hy hyL htk HL HIP HCE
      obtain ⟨i, t, mc, q, sr, zs⟩ := y
      obtain ⟨b0, b1, b2, b3, b4, b5⟩ := mc
      simp only [Ab.val, nbC] at hlk hck HA HA2 HONE
      by_cases hq : 0 < q
      · have hd : decide (0 < q) = true := by simp <;> omega
        rw [hd] at HA HA2
        have HONE2 := hid (fun (w5 : World) (hb : Below wr.heap.size wr w5) => HONE.out w5 hb 1 true (by simp only [lookC, nbC, hd]; rw [if_pos hq]))
        clear HONE hd hq
        go_wp2_with (first
          | (go_at_call 38; with_reducible refine (HA.out _).mono ?_; rintro e w2 ⟨rfl, HBX, c0, HB3⟩)
          | fail)
        have HON : Hid ((∀ q', w2.drew.cell? ⟨wr.heap.size, q', none⟩ = (#[.int .i64 t, .int .u8 b0, .int .u8 b1, .int .u8 b2, .int .u8 b3, .int .u8 b4, .int .u8 b5, .int .i64 q, .int .u32 sr, .slice pa pn pc] : Array Value)[q']?) ∧ BxK wr.heap.size #[.int .i64 t, .int .u8 b0, .int .u8 b1, .int .u8 b2, .int .u8 b3, .int .u8 b4, .int .u8 b5, .int .i64 q, .int .u32 sr, .slice pa pn pc] w2.drew) := bxK_mk (w := w2.drew) HBX
        have HADD := hid (fun (w5 : World) (hb : Below w2.heap.size w2 w5) => HONE2.out w5 (bstep HB3.out hb))
        clear HBX HONE2
        go_region_held_law (fun x => (∀ q', x.cell? ⟨wr.heap.size, q', none⟩ = (#[.int .i64 t, .int .u8 b0, .int .u8 b1, .int .u8 b2, .int .u8 b3, .int .u8 b4, .int .u8 b5, .int .i64 q, .int .u32 sr, .slice pa pn pc] : Array Value)[q']?) ∧ BxK wr.heap.size #[.int .i64 t, .int .u8 b0, .int .u8 b1, .int .u8 b2, .int .u8 b3, .int .u8 b4, .int .u8 b5, .int .i64 q, .int .u32 sr, .slice pa pn pc] x) (first
          | assumption
          | exact HON.out
          | (refine bxK_keep ?_ (bpush (Below.refl _ _) _); assumption)
          | (refine bxK_app HKP ?_; first | assumption | (refine bxK_keep ?_ hb5; first | assumption | exact HON.out))
          | (refine bxK_keep ?_ hb5; first | assumption | exact HON.out)) (first
          | (refine step_append_run rfl _ _ _ _ rfl _ _ rfl rfl hrun ?_)
          | (go_at_call 38; refine (HA2.out _).mono ?_; rintro e w5 ⟨rfl, hb5⟩; obtain ⟨a', cp', w7, hrun, HL7, HKP⟩ := HADD.out w5 (bundrew hb5))
          | fail)
        all_goals
          go_wp2_with fail
          go_roundw
          case rel => exact ⟨a', k + 1, cp', rfl, by first | rfl | (congr 1; omega), by omega, HL7⟩
          case measure => simp only [intOf3]; omega
      · have hd : decide (0 < q) = false := by simp <;> omega
        rw [hd] at HA HA2
        have HONE2 := hid (fun (w5 : World) (hb : Below wr.heap.size wr w5) => HONE.out w5 hb 2 false (by simp only [lookC, nbC, hd]; rw [if_neg hq]))
        clear HONE hd hq
        go_wp2_with (first
          | (go_at_call 38; with_reducible refine (HA.out _).mono ?_; rintro e w2 ⟨rfl, HBX, c0, HB3⟩)
          | fail)
        have HON : Hid ((∀ q', w2.drew.cell? ⟨wr.heap.size, q', none⟩ = (#[.int .i64 t, .int .u8 b0, .int .u8 b1, .int .u8 b2, .int .u8 b3, .int .u8 b4, .int .u8 b5, .int .i64 q, .int .u32 sr, .slice pa pn pc] : Array Value)[q']?) ∧ BxK wr.heap.size #[.int .i64 t, .int .u8 b0, .int .u8 b1, .int .u8 b2, .int .u8 b3, .int .u8 b4, .int .u8 b5, .int .i64 q, .int .u32 sr, .slice pa pn pc] w2.drew) := bxK_mk (w := w2.drew) HBX
        have HADD := hid (fun (w5 : World) (hb : Below w2.heap.size w2 w5) => HONE2.out w5 (bstep HB3.out hb))
        clear HBX HONE2
        go_region_held_law (fun x => (∀ q', x.cell? ⟨wr.heap.size, q', none⟩ = (#[.int .i64 t, .int .u8 b0, .int .u8 b1, .int .u8 b2, .int .u8 b3, .int .u8 b4, .int .u8 b5, .int .i64 q, .int .u32 sr, .slice pa pn pc] : Array Value)[q']?) ∧ BxK wr.heap.size #[.int .i64 t, .int .u8 b0, .int .u8 b1, .int .u8 b2, .int .u8 b3, .int .u8 b4, .int .u8 b5, .int .i64 q, .int .u32 sr, .slice pa pn pc] x) (first
          | assumption
          | exact HON.out
          | (refine bxK_keep ?_ (bpush (Below.refl _ _) _); assumption)
          | (refine bxK_app HKP ?_; first | assumption | (refine bxK_keep ?_ hb5; first | assumption | exact HON.out))
          | (refine bxK_keep ?_ hb5; first | assumption | exact HON.out)) (first
          | (refine step_append_run rfl _ _ _ _ rfl _ _ rfl rfl hrun ?_)
          | (go_at_call 38; refine (HA2.out _).mono ?_; rintro e w5 ⟨rfl, hb5⟩; obtain ⟨a', cp', w7, hrun, HL7, HKP⟩ := HADD.out w5 (bundrew hb5))
          | fail)
        all_goals
          go_wp2_with fail
          go_roundw
          case rel => exact ⟨a', k + 1, cp', rfl, by first | rfl | (congr 1; omega), by omega, HL7⟩
          case measure => simp only [intOf3]; omega
    · have hkk : k = N := by omega
      subst hkk
      go_wp2
      go_ret
      refine ⟨a, cp, rfl, ?_⟩
      have h1 := HL.out
      rw [List.take_of_length_le (by omega)] at h1
      exact h1.start HB1.out
end Go.Proofs.Ytaaoelhmanahpaa
