/-
  The document's Hash: what Sum writes behind the bytes, and the digest's bytes.
-/
import Derived.Test.YtlephdpplfpliaaDRef5
import Derived.Test.YtlephdpplfpliaaDSum
namespace Go.Proofs.Ytlephdpplfpliaa
open Go.RowKit
set_option linter.all false

/-- the first j bytes behind the mark: zeros; then the length's. -/
def padL (n j : Nat) : List Int := 128 :: List.replicate j 0
/-- the length's bytes from the top: k of them. -/
def lenB (n k : Nat) : List Int := (List.range k).map fun i => ((8 * n / 2 ^ (56 - 8 * i) % 256 : Nat) : Int)
theorem lenB_succ (n k : Nat) : lenB n (k + 1) = lenB n k ++ [((8 * n / 2 ^ (56 - 8 * k) % 256 : Nat) : Int)] := by
  simp [lenB, List.range_succ]
theorem lenB_all (n : Nat) (h : n ≤ 1152921504606846975) : lenB n 8 = wb ((8 * n / 4294967296 : Nat) : Int) ++ wb ((8 * n % 4294967296 : Nat) : Int) := by
  simp only [lenB, List.range, List.range.loop, List.map, wb, List.cons_append, List.nil_append]
  have e : ∀ a b : Nat, a = b → ((a : Nat) : Int) = (b : Int) := fun a b h => by rw [h]
  refine List.cons_eq_cons.2 ⟨by omega, List.cons_eq_cons.2 ⟨by omega, List.cons_eq_cons.2 ⟨by omega, List.cons_eq_cons.2 ⟨by omega, List.cons_eq_cons.2 ⟨by omega, List.cons_eq_cons.2 ⟨by omega, List.cons_eq_cons.2 ⟨by omega, List.cons_eq_cons.2 ⟨by omega, rfl⟩⟩⟩⟩⟩⟩⟩⟩
theorem tail_eq (n : Nat) (h : n ≤ 1152921504606846975) : tailL n = padL n (gapOf n - 1) ++ lenB n 8 := by
  rw [lenB_all n h]
  simp [tailL, padL, List.append_assoc]
/-- a byte of the digest. -/
theorem out_at (s : St) (hs : s.ok) (i : Nat) (hi : i < 32) : (outL s).getD i 0 = s.l.getD (i / 4) 0 / 2 ^ (24 - 8 * (i % 4)) % 256 := by
  obtain ⟨a, b, c, d, e, f, g, h⟩ := s
  have hb := hs
  simp only [St.ok] at hb
  simp only [outL, St.l, List.flatMap_cons, List.flatMap_nil, wb, List.append_nil, List.cons_append, List.nil_append]
  rcases (show i = 0 ∨ i = 1 ∨ i = 2 ∨ i = 3 ∨ i = 4 ∨ i = 5 ∨ i = 6 ∨ i = 7 ∨ i = 8 ∨ i = 9 ∨ i = 10 ∨ i = 11 ∨ i = 12 ∨ i = 13 ∨ i = 14 ∨ i = 15 ∨ i = 16 ∨ i = 17 ∨ i = 18 ∨ i = 19 ∨ i = 20 ∨ i = 21 ∨ i = 22 ∨ i = 23 ∨ i = 24 ∨ i = 25 ∨ i = 26 ∨ i = 27 ∨ i = 28 ∨ i = 29 ∨ i = 30 ∨ i = 31 by omega) with rfl | rfl | rfl | rfl | rfl | rfl | rfl | rfl | rfl | rfl | rfl | rfl | rfl | rfl | rfl | rfl | rfl | rfl | rfl | rfl | rfl | rfl | rfl | rfl | rfl | rfl | rfl | rfl | rfl | rfl | rfl | rfl
  all_goals (simp [List.getD]; try omega)
end Go.Proofs.Ytlephdpplfpliaa
