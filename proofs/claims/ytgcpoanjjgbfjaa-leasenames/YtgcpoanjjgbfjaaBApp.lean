/-
  Appends of bytes to nil, and to what a call itself has made, as callers see them. For every seat.
-/
import Derived.Test.YtgcpoanjjgbfjaaBOwnP
namespace Go.Proofs.Ytgcpoanjjgbfjaa
open Go.RowKit
set_option linter.all false

theorem grown_from {w w' : World} {r : Option Nat} {B : Nat} (h : w.grownBy w' r) (hr : ∀ g, r = some g → B ≤ g) (hB : B ≤ w.heap.size) : Below B w w' :=
  ⟨h.os, h.tape, h.output, h.size, fun k hk => h.block k (by omega) (fun e => by have := hr k e.symm; omega)⟩
theorem append_row_part {w : World} {a : Option Addr} {n c : Nat} {zs : List Int} (h : Row w 5 (.slice a n c) (u8s zs)) (B : Nat) (hB : B ≤ w.heap.size) (hf : ∀ b, (Value.slice a n c).ownBlock = some b → B ≤ b) (pt : Part) (hok : pt.ok w) (hlen : zs.length + pt.zs.length ≤ 140737488355328) (ty : TypeId) :
    ∃ a' c' w', (Builtin.append_ #[36, 36] ty #[.slice a n c, pt.val]).run Try.prog w = .ok (.slice a' (zs.length + pt.zs.length) c') w' ∧ Row w' 5 (.slice a' (zs.length + pt.zs.length) c') (u8s (zs ++ pt.zs)) ∧ Below B w w' ∧ ∀ b, (Value.slice a' (zs.length + pt.zs.length) c').ownBlock = some b → B ≤ b := by
  obtain ⟨v', w', h1, h2, h3, h4⟩ := append_part h pt hok hlen ty
  obtain ⟨a', c', hv, _⟩ := h2.form
  rw [u8s_len, List.length_append] at hv
  subst hv
  refine ⟨a', c', w', h1, h2, grown_from h3 hf hB, fun b hb => ?_⟩
  rcases h4 with h4 | h4
  · exact hf b (by rw [← h4]; exact hb)
  · have := h4 b hb; omega
theorem append_nil_part (pt : Part) (w : World) (hok : pt.ok w) (hlen : pt.zs.length ≤ 140737488355328) (ty : TypeId) :
    ∃ a' c' w', (Builtin.append_ #[36, 36] ty #[.slice none 0 0, pt.val]).run Try.prog w = .ok (.slice a' pt.zs.length c') w' ∧ Row w' 5 (.slice a' pt.zs.length c') (u8s pt.zs) ∧ Below w.heap.size w w' ∧ ∀ b, (Value.slice a' pt.zs.length c').ownBlock = some b → w.heap.size ≤ b := by
  obtain ⟨a', c', w', h⟩ := append_row_part (zs := []) (Row.nil w 5) w.heap.size (Nat.le_refl _) (by simp [Value.ownBlock]) pt hok (by simpa using hlen) ty
  simp only [List.length_nil, Nat.zero_add, List.nil_append] at h
  exact ⟨a', c', w', h⟩
end Go.Proofs.Ytgcpoanjjgbfjaa
