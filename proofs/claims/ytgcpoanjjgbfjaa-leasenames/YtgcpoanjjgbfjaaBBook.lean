/-
  The statements' book of lists that came out: Take. For every seat.
-/
import Derived.Test.YtgcpoanjjgbfjaaBOwn
import Derived.Deep.RegionLaw
namespace Go.Proofs.Ytgcpoanjjgbfjaa
open Go.RowKit
set_option linter.all false

theorem infoSl : (Try.prog.info? 36).map (fun i => (i.zero, i.size, i.bytes)) = some (some (.slice none 0 0), 1, 24) := by kernel_rfl
theorem infoStr : (Try.prog.info? 9).map (fun i => (i.zero, i.size, i.bytes)) = some (some (.string ⟨#[]⟩), 1, 16) := by kernel_rfl

/-- block k is one of the book's own. -/
def InBook (gk : Nat) (L V : Value) (k : Nat) : Prop := k = gk ∨ L.ownBlock = some k ∨ V.ownBlock = some k
theorem Row.one {w : World} {e : TypeId} {v : Value} {vs : List Value} (h : Row w e v vs) : v.oneCell' = true := by
  rcases h with ⟨rfl, _⟩ | ⟨g, cap, cur, lo, hi, rfl, _⟩ <;> rfl
theorem slice_one (a : Option Addr) (l c : Nat) : (Value.slice a l c).oneCell' = true := rfl
theorem string_one (s : ByteArray) : (Value.string s).oneCell' = true := rfl
/-- an append moves a slice to a block from N on, or leaves it in its own. -/
def Moved (N : Nat) (v v' : Value) : Prop := ∃ g n c, v' = .slice (some ⟨g, 0, none⟩) n c ∧ (v.ownBlock = some g ∨ N ≤ g)
theorem Moved.of {N : Nat} {w w' : World} {v v' : Value} {n : Nat} (h : (∃ g cap, v = .slice (some ⟨g, 0, none⟩) n cap ∧ v' = .slice (some ⟨g, 0, none⟩) (n + 1) cap) ∨ ∃ g cap, v' = .slice (some ⟨g, 0, none⟩) (n + 1) cap ∧ w.heap.size ≤ g ∧ w.grownBy w' none) (hN : N ≤ w.heap.size) : Moved N v v' := by
  rcases h with ⟨g, cap, rfl, rfl⟩ | ⟨g, cap, rfl, hg, _⟩
  · exact ⟨g, _, _, rfl, Or.inl rfl⟩
  · exact ⟨g, _, _, rfl, Or.inr (by omega)⟩
theorem Moved.own {N : Nat} {v v' : Value} (h : Moved N v v') {b : Nat} (hb : v'.ownBlock = some b) : v.ownBlock = some b ∨ N ≤ b := by
  obtain ⟨g, n, c, rfl, hg⟩ := h
  simp [Value.ownBlock] at hb
  subst hb
  exact hg
end Go.Proofs.Ytgcpoanjjgbfjaa
