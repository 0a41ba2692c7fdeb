/-
  Messages as they are read: the contracts of bootp's functions over them.
-/
import Derived.Test.YtoifblndpcelkaaBoRmJ
import Derived.Test.YtoifblndpcelkaaBoAsk
import Derived.Test.YtoifblndpcelkaaBoDecW
namespace Go.Proofs.Ytoifblndpcelkaa
open Go.RowKit
set_option linter.all false

/-- a message's cells, its options being read. -/
def BpV (m : Bp) (g : List Opt) (X : Array Value) (W : World) : Prop := ∃ a os c, X = m.cells (.slice a os.length c) ∧ OV W a os ∧ absO os = g
theorem BpV.below {m : Bp} {g : List Opt} {X : Array Value} {W W' : World} (h : BpV m g X W) (hb : Below W.heap.size W W') : BpV m g X W' := by
  obtain ⟨a, os, c, h1, h2, h3⟩ := h
  exact ⟨a, os, c, h1, h2.below hb, h3⟩
theorem BpV.size {m : Bp} {g : List Opt} {X : Array Value} {W : World} (h : BpV m g X W) : X.size = 18 := by
  obtain ⟨a, os, c, h1, _⟩ := h
  rw [h1]
  rfl
theorem BpV.one {m : Bp} {g : List Opt} {X : Array Value} {W : World} (h : BpV m g X W) : X.all (·.oneCell') = true := by
  obtain ⟨a, os, c, h1, _⟩ := h
  rw [h1]
  simp [Bp.cells, Value.oneCell']
theorem BpV.info {m : Bp} {g : List Opt} {X : Array Value} {W : World} (h : BpV m g X W) : (Try.prog.info? 28).map (·.size) = some X.size := by rw [h.size]; exact sizeBp
/-- the number at a place of the cells. -/
theorem BpV.at {m : Bp} {g : List Opt} {X : Array Value} {W : World} (h : BpV m g X W) (i : Nat) (hi : i < 17) (v : Value) (hv : ∀ d, (m.cells d)[i]? = some v) : X[i]? = some v := by
  obtain ⟨a, os, c, h1, _⟩ := h
  rw [h1]
  exact hv _
theorem BpV.bd {m : Bp} {g : List Opt} {X : Array Value} {W : World} (h : BpV m g X W) : ∀ o ∈ g, ∀ z ∈ o.2, 0 ≤ z ∧ z ≤ 255 := by
  obtain ⟨a, os, c, h1, h2, h3⟩ := h
  rw [← h3]
  exact abs_bd h2
/-- options that may be read. -/
structure Readable (g : List Opt) : Prop where
  lens : ∀ o ∈ g, o.2.length ≤ 140737488353280
  few : g.length ≤ 4398046511104
  nums : ∀ o ∈ g, -9223372036854775808 ≤ o.1 ∧ o.1 ≤ 9223372036854775807
theorem OptI.os {w W : World} {a : Option Addr} {n c : Nat} {g : List Opt} (h : OptI w W (.slice a n c) g) (hg : Readable g) : ∃ os, OV W a os ∧ n = os.length ∧ absO os = g := by
  obtain ⟨E, h1, h2⟩ := h
  have hcd : ∀ p ∈ E, p.1 ∈ g := fun p hp => by rw [← h2]; exact List.mem_map.2 ⟨p, hp, rfl⟩
  have hl : E.length = g.length := by rw [← h2]; simp
  obtain ⟨hv, hn⟩ := h1.view (fun p hp => hg.lens _ (hcd p hp)) (by rw [hl]; exact hg.few) (fun p hp => hg.nums _ (hcd p hp))
  exact ⟨_, hv, by rw [hn, List.length_map], by rw [ptOf_abs]; exact h2⟩
theorem OptI.bp {w W : World} {a : Option Addr} {n c : Nat} {g : List Opt} (m : Bp) (h : OptI w W (.slice a n c) g) (hg : Readable g) : BpV m g (m.cells (.slice a n c)) W := by
  obtain ⟨os, h1, h2, h3⟩ := h.os hg
  subst h2
  exact ⟨a, os, c, rfl, h1, h3⟩
theorem OV.readable {w : World} {a : Option Addr} {os : List OP} (h : OV w a os) : Readable (absO os) := by
  refine ⟨fun o ho => ?_, by rw [absO_len]; exact h.few, fun o ho => ?_⟩
  · obtain ⟨p, hp, rfl⟩ := List.mem_map.1 ho
    exact (h.oks p hp).2
  · obtain ⟨p, hp, rfl⟩ := List.mem_map.1 ho
    exact h.nums p hp
theorem readable_cons {o : Opt} {g : List Opt} (h : Readable g) (hl : o.2.length ≤ 16) (hn : 0 ≤ o.1 ∧ o.1 ≤ 255) (hf : g.length < 4398046511104) : Readable (o :: g) := by
  refine ⟨fun p hp => ?_, by simp; omega, fun p hp => ?_⟩
  · rcases List.mem_cons.1 hp with rfl | hp
    · omega
    · exact h.lens p hp
  · rcases List.mem_cons.1 hp with rfl | hp
    · omega
    · exact h.nums p hp
theorem readable_nil : Readable [] := ⟨by simp, by simp, by simp⟩
theorem took_readable {g : List Opt} (h : Took g) (hs : sumO g ≤ 140737488353280) : Readable g := ⟨fun o ho => Nat.le_trans (sumO_mem ho) hs, by have := h.few; omega, fun o ho => by have := h.apart.1 o ho; omega⟩
/-! ### The contracts -/
theorem bp_encode {m : Bp} {g : List Opt} {X : Array Value} {W : World} (hm : m.ok) (h : BpV m g X W) (hs : (layL g).length ≤ 35184372088832) :
    Calls Try.prog 14 #[.agg X] W fun e w' => ∃ ax cx, e = .returned (.tuple #[.slice ax (encZ m g).length cx, .int .i64 (encX m g)]) ∧ Hid (Ans W w' (encZ m g) ax (encZ m g).length cx) := by
  obtain ⟨a, os, c, h1, h2, h3⟩ := h
  subst h1
  subst h3
  exact encode_any m hm a c os W h2 hs
def typN (os : List OP) : Int := exN (fstP os 53).zs 1
def typG (g : List Opt) : Int := exN ((findO g 53).getD []) 1
theorem typN_abs (os : List OP) : typN os = typG (absO os) := by
  have e2 : (fstP os 53).zs = (findO (absO os) 53).getD [] := by
    rw [find_abs]
    unfold fstP
    cases fst? os 53 <;> rfl
  unfold typN typG
  rw [e2]
theorem bp_type {m : Bp} {g : List Opt} {X : Array Value} {W : World} (h : BpV m g X W) :
    Calls Try.prog 22 #[.agg X] W fun e w' => e = .returned (.int .i64 (typG g)) ∧ Hid (Below W.heap.size W w') := by
  obtain ⟨a, os, c, h1, h2, h3⟩ := h
  subst h1
  subst h3
  rw [← typN_abs]
  exact type_any m a c os W h2
theorem bp_same {m : Bp} {g : List Opt} {X Y : Array Value} {W : World} (hm : m.ok) (h : BpV m g X W) (h' : BpV m g Y W) :
    Calls Try.prog 21 #[.agg X, .agg Y] W fun e w' => e = .returned (.bool true) ∧ Hid (Below W.heap.size W w') := by
  obtain ⟨a, os, c, h1, h2, h3⟩ := h
  obtain ⟨a', os', c', h1', h2', h3'⟩ := h'
  subst h1
  subst h1'
  exact bsame_yes m hm a a' c c' os os' W h2 h2' (h3.trans h3'.symm)
theorem decR_ok {zs : List Int} (hz : ∀ z ∈ zs, 0 ≤ z ∧ z ≤ 255) (hl : zs.length ≤ 140737488353280) : Readable (decL (decR zs)) ∧ (decA (decR zs)).ok := by
  have hf : ∀ (g : List Opt), Readable g → Readable (g.filter fun o => o.1 != 52) := fun g h => ⟨fun o ho => h.lens o (List.mem_filter.1 ho).1, Nat.le_trans (List.length_filter_le _ _) h.few, fun o ho => h.nums o (List.mem_filter.1 ho).1⟩
  have hb : ∀ h, (decB zs h).ok := fun h => by
    have gd := getTo_bd zs (getD_mem_bd hz)
    have t1 : (snS zs).size ≤ 140737488353280 := by
      unfold snS
      rw [← nums_len, nums_str (txt_bd (fun z hz' => hz z (List.mem_of_mem_drop (List.mem_of_mem_take hz'))))]
      exact Nat.le_trans (txt_le _) (by simp; omega)
    have t2 : (flS zs).size ≤ 140737488353280 := by
      unfold flS
      rw [← nums_len, nums_str (txt_bd (fun z hz' => hz z (List.mem_of_mem_drop (List.mem_of_mem_take hz'))))]
      exact Nat.le_trans (txt_le _) (by simp; omega)
    refine ⟨?_, ?_, ?_, ?_, ?_, ?_, ?_, ?_, macAt_ok hz _, ?_, ?_⟩
    · show _ ≤ getTo zs 0 1 ∧ getTo zs 0 1 ≤ _
      have := gd 0 1; omega
    · show _ ≤ getTo zs 3 1 ∧ getTo zs 3 1 ≤ _
      have := gd 3 1; omega
    · show _ ≤ getTo zs 4 4 ∧ getTo zs 4 4 ≤ _
      have := gd 4 4; omega
    · show _ ≤ getTo zs 8 2 ∧ getTo zs 8 2 ≤ _
      have := gd 8 2; omega
    · show _ ≤ getTo zs 12 4 ∧ getTo zs 12 4 ≤ _
      have := gd 12 4; omega
    · show _ ≤ getTo zs 16 4 ∧ getTo zs 16 4 ≤ _
      have := gd 16 4; omega
    · show _ ≤ getTo zs 20 4 ∧ getTo zs 20 4 ≤ _
      have := gd 20 4; omega
    · show _ ≤ getTo zs 24 4 ∧ getTo zs 24 4 ≤ _
      have := gd 24 4; omega
    · show (if h = 2 ∨ h = 3 then noText else snS zs).size ≤ _
      split
      · simp [noText, ByteArray.size]
      · exact t1
    · show (if h = 1 ∨ h = 3 then noText else flS zs).size ≤ _
      split
      · simp [noText, ByteArray.size]
      · exact t2
  have he : Readable (decL (.error 0)) ∧ (decA (.error 0)).ok := ⟨readable_nil, zeroBp_ok⟩
  have h2 : ∀ h R, (∀ g, R = .ok g → Readable g) → Readable (decL (dec2 zs h R)) ∧ (decA (dec2 zs h R)).ok := fun h R hR => by
    cases R with
    | error e => exact he
    | ok g => exact ⟨hf g (hR g rfl), hb h⟩
  unfold decR
  split
  · exact he
  · next hu =>
    have h240 : 240 ≤ zs.length := by
      simp only [ne_eq, Decidable.not_not] at hu
      unfold unR at hu
      split at hu
      · omega
      · omega
    have k1 : ∀ g, parseG [] [zs.drop 240] = .ok g → Readable g := fun g hg => by
      have := okL_took (ps := [zs.drop 240]) (fun p hp z hzp => by simp at hp; subst hp; exact hz z (List.mem_of_mem_drop hzp))
      rw [hg] at this
      exact took_readable this.1 (Nat.le_trans this.2 (by simp [sumB]; omega))
    have k2 : ∀ h g, parseG [] (roomsZ zs h) = .ok g → Readable g := fun h g hg => by
      have := okL_took (rooms_bd hz h)
      rw [hg] at this
      exact took_readable this.1 (Nat.le_trans this.2 (Nat.le_trans (rooms_sum zs h h240) hl))
    cases hp : parseG [] [zs.drop 240] with
    | error e => exact he
    | ok g =>
      simp only [dec1]
      split
      · exact he
      · refine h2 _ _ (fun g' hg' => ?_)
        split at hg'
        · simp only [Except.ok.injEq] at hg'
          subst hg'
          exact k1 _ hp
        · exact k2 _ _ hg'
/-- what Decode tells. -/
theorem bp_decode (pt : Part) (w : World) (hok : pt.ok w) (hl : pt.zs.length ≤ 140737488353280) :
    Calls Try.prog 10 #[pt.val] w fun e w' => ∃ X, e = .returned (.tuple #[.agg X, .int .i64 (decX (decR pt.zs))]) ∧ Hid (BpV (decA (decR pt.zs)) (decL (decR pt.zs)) X w' ∧ Below w.heap.size w w' ∧ ∃ a n c, X = (decA (decR pt.zs)).cells (.slice a n c) ∧ OptI w w' (.slice a n c) (decL (decR pt.zs))) := by
  refine (decode_any pt w hok hl).mono ?_
  rintro e w' ⟨a, n, c, rfl, h1, h2⟩
  exact ⟨_, rfl, h1.bp _ (decR_ok hok.1 hl).1, h2, a, n, c, rfl, h1⟩
theorem bp_ask (kind : Int) (hk : -9223372036854775808 ≤ kind ∧ kind ≤ 9223372036854775807) (mac : Mac) (xid secs ci : Int) (hs : -9223372036854775808 ≤ secs ∧ secs ≤ 9223372036854775807) (a : Option Addr) (c : Nat) (os : List OP) (w : World) (h : OV w a os) (hf : os.length ≤ 4294967296) :
    Calls Try.prog 26 #[.int .i64 kind, mac.val, .int .u32 xid, .int .i64 secs, .int .u32 ci, .slice a os.length c] w fun e w' => ∃ X, e = .returned (.agg X) ∧ Hid (BpV (askM mac xid secs ci) ((53, op1 kind) :: absO os) X w' ∧ Below w.heap.size w w' ∧ ∃ a' n' c', X = (askM mac xid secs ci).cells (.slice a' n' c') ∧ OptI w w' (.slice a' n' c') ((53, op1 kind) :: absO os)) := by
  refine (bask_any kind hk mac xid secs ci hs a c os w h hf).mono ?_
  rintro e w' ⟨a', n', c', rfl, HI⟩
  exact ⟨_, rfl, HI.out.1.bp _ (readable_cons h.readable (by simp [op1]) (by simp) (by rw [absO_len]; omega)), HI.out.2, a', n', c', rfl, HI.out.1⟩
theorem bp_answer (kind : Int) (hk : -9223372036854775808 ≤ kind ∧ kind ≤ 9223372036854775807) {tm : Bp} {tg : List Opt} {X : Array Value} (yi sv : Int) (hs : 0 ≤ sv ∧ sv ≤ 4294967295) (a : Option Addr) (c : Nat) (os : List OP) (w : World) (hX : BpV tm tg X w) (h : OV w a os) (hf : os.length ≤ 4294967296) :
    Calls Try.prog 27 #[.int .i64 kind, .agg X, .int .u32 yi, .int .u32 sv, .slice a os.length c] w fun e w' => ∃ Y, e = .returned (.agg Y) ∧ Hid (BpV (ansM kind tm yi) ((53, op1 kind) :: (54, ip4 sv) :: absO os) Y w' ∧ Below w.heap.size w w' ∧ ∃ a' n' c', Y = (ansM kind tm yi).cells (.slice a' n' c') ∧ OptI w w' (.slice a' n' c') ((53, op1 kind) :: (54, ip4 sv) :: absO os)) := by
  obtain ⟨ta, tos, tc, h1, _, _⟩ := hX
  subst h1
  refine (banswer_any kind hk tm ta _ tc yi sv hs a c os w h hf).mono ?_
  rintro e w' ⟨a', n', c', rfl, HI⟩
  exact ⟨_, rfl, HI.out.1.bp _ (readable_cons (readable_cons h.readable (by simp [ip4]) (by simp) (by rw [absO_len]; omega)) (by simp [op1]) (by simp) (by simp [absO_len]; omega)), HI.out.2, a', n', c', rfl, HI.out.1⟩
end Go.Proofs.Ytoifblndpcelkaa
