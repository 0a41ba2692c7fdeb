/-
  Neigh: what is to be sent, in memory; what the document's calls leave, as functions.
-/
import Derived.Test.YtaaoelhmanahpaaNQue2
import Derived.Test.YtaaoelhmanahpaaBRowT
namespace Go.Proofs.Ytaaoelhmanahpaa
open Go.RowKit
set_option linter.all false

def sdCells (l : List (Sd × Value)) : List Value := l.flatMap fun p => (p.1.cells p.2).toList
/-- a slice of what is to be sent; each one's bytes lie in a block of their own. -/
structure Outs (w : World) (v : Value) (l : List (Sd × Value)) : Prop where
  row : RowS w 59 8 v l.length (sdCells l)
  dat : ∀ p ∈ l, Row w 5 p.2 (u8s p.1.zs)
  form : ∀ p ∈ l, ∃ a n cp, p.2 = .slice a n cp
  apart : l.Pairwise fun p q => ∀ b, p.2.ownBlock = some b → q.2.ownBlock ≠ some b
theorem Outs.nil (w : World) : Outs w (.slice none 0 0) [] := ⟨RowS.nil _ _ _, by simp, by simp, List.Pairwise.nil⟩
theorem Outs.one {w : World} {g : Nat} {x : Sd} {a : Option Addr} {n cp : Nat} (h : w.heap[g]? = some (.cells (x.cells (.slice a n cp)) 59 (0, 0))) (hd : Row w 5 (.slice a n cp) (u8s x.zs)) : Outs w (.slice (some ⟨g, 0, none⟩) 1 1) [(x, .slice a n cp)] := by
  refine ⟨⟨by simp [sdCells, Sd.cells], Or.inr ⟨g, 1, x.cells (.slice a n cp), rfl, Nat.zero_le _, h, Nat.le_refl _, by unfold maxLen; omega, by simp [Sd.cells], by simp [sdCells, Sd.cells]⟩⟩, ?_, ?_, List.pairwise_singleton _ _⟩
  · intro p hp; simp at hp; subst hp; exact hd
  · intro p hp; simp at hp; subst hp; exact ⟨_, _, _, rfl⟩
theorem Outs.keep {w w' : World} {v : Value} {l : List (Sd × Value)} (h : Outs w v l) (hv : ∀ b, v.ownBlock = some b → w'.heap[b]? = w.heap[b]?) (hd : ∀ p ∈ l, ∀ b, p.2.ownBlock = some b → w'.heap[b]? = w.heap[b]?) : Outs w' v l :=
  ⟨h.row.keep hv, fun p hp => (h.dat p hp).keep (hd p hp), h.form, h.apart⟩
theorem Outs.below {w w' : World} {v : Value} {l : List (Sd × Value)} (h : Outs w v l) (hb : Below w.heap.size w w') : Outs w' v l :=
  h.keep (fun b hv => hb.block b (h.row.lt hv)) (fun p hp b hv => hb.block b ((h.dat p hp).lt hv))
/-- an answer of the cache: what is sent, the cache behind it. -/
structure AnsI (w w' : World) (c m : Nat) (S S' : St) (V : Int → Value) (v : Value) (sds : List Sd) (l : List (Sd × Value)) (V' : Int → Value) : Prop where
  map : l.map (·.1) = sds
  outs : Outs w' v l
  new : ∀ b, v.ownBlock = some b → w.heap.size ≤ b
  src : ∀ p ∈ l, ∀ b, p.2.ownBlock = some b → w.heap.size ≤ b ∨ ∃ y ∈ S.L, (V y.ip).ownBlock = some b
  off : ∀ p ∈ l, ∀ y ∈ S'.L, ∀ b, p.2.ownBlock = some b → (V' y.ip).ownBlock ≠ some b
  vsrc : ∀ y ∈ S'.L, ∀ b, (V' y.ip).ownBlock = some b → w.heap.size ≤ b ∨ ∃ z ∈ S.L, (V z.ip).ownBlock = some b
  ca : CaW w' c m S' V'
  two : Two c m w w'
def Answ (w w' : World) (c m : Nat) (S S' : St) (V : Int → Value) (a : Option Addr) (cp : Nat) (sds : List Sd) : Prop := ∃ l V', AnsI w w' c m S S' V (.slice a sds.length cp) sds l V'
/-- nothing is sent. -/
theorem Answ.void {w w' : World} {c m : Nat} {S S' : St} {V V' : Int → Value} (hs : ∀ y ∈ S'.L, ∀ b, (V' y.ip).ownBlock = some b → w.heap.size ≤ b ∨ ∃ z ∈ S.L, (V z.ip).ownBlock = some b) (h : CaW w' c m S' V') (ht : Two c m w w') : Answ w w' c m S S' V none 0 [] :=
  ⟨[], V', rfl, Outs.nil _, by simp [Value.ownBlock], by simp, by simp, hs, h, ht⟩
/-! ### the document's Ask -/
def askNew (S : St) (src ip : Int) (zs : List Int) : St × List Sd := match roomL S.most S.L with
  | none => (S, [])
  | some L' => ({ S with L := put L' (queE S ip ⟨ip, 0, zeroMac, 0, src, zs⟩) }, [queS S ip ⟨ip, 0, zeroMac, 0, src, zs⟩])
def askF (S0 : St) (src ip : Int) (zs : List Int) (now : Int) : St × List Sd :=
  let S : St := { S0 with now := hearN S0.now now }
  match look S.L ip with
  | some e => if 0 < e.q then ({ S with L := put S.L { e with src := src, zs := zs } }, []) else if S.now < e.unt then (S, [⟨e.mac, 2048, zs⟩]) else askNew { S with L := del S.L ip } src ip zs
  | none => askNew { S with L := del S.L ip } src ip zs
theorem put_len_le {S : St} {L' : List Ab} (h : roomL S.most S.L = some L') (hl : (S.L.length : Int) ≤ S.most) (hr : Rise S.L) (x : Ab) : ((put L' x).length : Int) ≤ S.most := by
  obtain ⟨h1, h2, h3⟩ := roomL_some h hl hr
  rw [put_length h2]
  have := List.length_filter_le (fun y : Ab => y.ip != x.ip) L'
  unfold del
  omega
theorem put_len_same {L : List Ab} (hr : Rise L) {x y : Ab} (hy : y ∈ L) (e : x.ip = y.ip) : (put L x).length = L.length := by
  rw [put_length hr, e, (hr.perm_del hy).length_eq]; rfl
theorem aft_ok {now n : Int} (h : 0 ≤ now ∧ now ≤ 1125899906842624) (hn : 0 ≤ n) : 0 ≤ aft now n ∧ aft now n ≤ 1125899906842624 := by unfold aft; omega
theorem queE_ok {S : St} (h : S.ok) {ip : Int} {x : Ab} (hip : ipOk ip) (hm : x.mac.ok) (hq : 0 ≤ x.q ∧ x.q ≤ 2) (hs : ipOk x.src) (hz : ∀ z, z ∈ x.zs → 0 ≤ z ∧ z ≤ 255) (hmz : x.mac = zeroMac) : (queE S ip x).ok :=
  ⟨hip, aft_ok h.now (by omega), hm, by simp [queE]; omega, hs, hz, fun h => by simp [queE] at h; omega, fun _ => hmz⟩
end Go.Proofs.Ytaaoelhmanahpaa
