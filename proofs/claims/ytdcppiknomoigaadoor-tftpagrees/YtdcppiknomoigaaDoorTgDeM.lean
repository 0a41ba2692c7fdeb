/-
  Tftp: what came out of Decode, beside other such; for the walks of TftpDecodes, TftpBack.
-/
import Derived.Test.YtdcppiknomoigaaDoorTgEnW
import Derived.Test.YtdcppiknomoigaaDoorTgP
import Derived.Test.YtdcppiknomoigaaDoorTfX
import Derived.Test.YtdcppiknomoigaaDoorTgD
namespace Go.Proofs.YtdcppiknomoigaaDoor
open Go.RowKit
set_option linter.all false

theorem dec_props {zs : List Int} {q : Tp} (hb : ∀ z, z ∈ zs → 0 ≤ z ∧ z ≤ 255) (h : decT zs = .ok q) : q.ch.length ≤ 3 ∧ q.da.length ≤ 65464 ∧ (∀ z, z ∈ q.da → 0 ≤ z ∧ z ≤ 255) := by
  unfold decT at h
  by_cases h2 : zs.length < 2
  · rw [if_pos h2] at h; cases h
  · rw [if_neg h2] at h
    by_cases h1 : be2 zs = 1
    · rw [if_pos h1] at h
      unfold decRd at h
      cases c1 : cutG (zs.drop 2) with
      | none => rw [c1] at h; cases h
      | some x =>
        obtain ⟨f, r1⟩ := x
        rw [c1] at h
        simp only at h
        split at h
        · cases h
        · cases c2 : cutG r1 with
          | none => rw [c2] at h; cases h
          | some y =>
            obtain ⟨m, r2⟩ := y
            rw [c2] at h
            simp only at h
            split at h
            · cases h
            · cases c3 : readG [] r2 with
              | error e => rw [c3] at h; cases h
              | ok l =>
                rw [c3] at h
                simp only [Except.ok.injEq] at h
                subst h
                exact ⟨chOk_3 (read_ok c3) (Nat.le_refl _), by simp [Tp.nil], by simp [Tp.nil]⟩
    · rw [if_neg h1] at h
      by_cases h6 : be2 zs = 6
      · rw [if_pos h6] at h
        cases c3 : readG [] (zs.drop 2) with
        | error e => rw [c3] at h; cases h
        | ok l =>
          rw [c3] at h
          simp only [Except.ok.injEq] at h
          subst h
          exact ⟨chOk_3 (read_ok c3) (Nat.le_refl _), by simp [Tp.nil], by simp [Tp.nil]⟩
      · rw [if_neg h6] at h
        split at h
        · unfold decNu at h
          split at h
          · cases h
          · split at h
            · simp only [Except.ok.injEq] at h
              subst h
              exact ⟨by simp [Tp.nil], by simp [Tp.nil], by simp [Tp.nil]⟩
            · split at h
              · split at h
                · cases h
                · simp only [Except.ok.injEq] at h
                  subst h
                  rename_i hl
                  exact ⟨by simp [Tp.nil], by simp only; omega, drop_bd (drop_bd hb 2) 2⟩
              · split at h
                · cases h
                · split at h
                  · cases h
                  · simp only [Except.ok.injEq] at h
                    subst h
                    exact ⟨by simp [Tp.nil], by simp [Tp.nil], by simp [Tp.nil]⟩
        · cases h
theorem decQ_props (zs : List Int) (hb : ∀ z, z ∈ zs → 0 ≤ z ∧ z ≤ 255) : (decQ zs).ch.length ≤ 3 ∧ (decQ zs).da.length ≤ 65464 ∧ (∀ z, z ∈ (decQ zs).da → 0 ≤ z ∧ z ≤ 255) := by
  unfold decQ
  cases h : decT zs with
  | error e => simp [Tp.nil]
  | ok q => exact dec_props hb h
/-- a packet that came out, its lists in blocks from lo to hi. -/
structure DcK (lo hi : Nat) (W : World) (q : Tp) (ca : Option Addr) (cc : Nat) (da : Option Addr) (dc : Nat) : Prop where
  kch : RowC W (.slice ca q.ch.length cc) q.ch
  kci : ∀ b, (Value.slice ca q.ch.length cc).ownBlock = some b → lo ≤ b ∧ b < hi
  kda : Row W 5 (.slice da q.da.length dc) (u8s q.da)
  kdi : ∀ b, (Value.slice da q.da.length dc).ownBlock = some b → lo ≤ b ∧ b < hi
theorem DcO.k {w W : World} {q : Tp} {ca da : Option Addr} {cc dc : Nat} (h : DcO w W q ca cc da dc) : DcK w.heap.size W.heap.size W q ca cc da dc :=
  ⟨h.rch, fun b hb => ⟨h.rchn b hb, RowS.lt h.rch hb⟩, h.rda, fun b hb => ⟨h.rdan b hb, h.rda.lt hb⟩⟩
section
variable {lo hi : Nat} {W W' : World} {q : Tp} {ca da : Option Addr} {cc dc : Nat}
theorem DcK.below (h : DcK lo hi W q ca cc da dc) (hb : Below W.heap.size W W') : DcK lo hi W' q ca cc da dc := ⟨RowS.below h.kch hb, h.kci, h.kda.below hb, h.kdi⟩
theorem DcK.but {g : Nat} (h : DcK lo hi W q ca cc da dc) (hb : But g W W') (hg : g < lo ∨ hi ≤ g) : DcK lo hi W' q ca cc da dc :=
  ⟨RowS.keep h.kch fun b hb' => hb.block b (by have := h.kci b hb'; omega) (RowS.lt h.kch hb'), h.kci, h.kda.but hb (fun b hb' => by have := h.kdi b hb'; omega), h.kdi⟩
theorem DcK.low {gk : Nat} (h : DcK lo hi W q ca cc da dc) (hk : ∀ k, k < gk → W'.heap[k]? = W.heap[k]?) (hg : hi ≤ gk) : DcK lo hi W' q ca cc da dc :=
  ⟨RowS.keep h.kch fun b hb' => hk b (by have := h.kci b hb'; omega), h.kci, h.kda.low hk (fun b hb' => by have := h.kdi b hb'; omega), h.kdi⟩
theorem DcK.r (h : DcK lo hi W q ca cc da dc) (hz : ∀ z, z ∈ q.da → 0 ≤ z ∧ z ≤ 255) : TpR q ca da dc W := by
  refine ⟨(RowC.chv h.kch).2, ?_⟩
  obtain ⟨pt, e1, e2, e3⟩ := h.kda.part hz
  obtain ⟨a, c, zs⟩ := pt
  simp only [Part.val] at e1 e2
  subst e2
  simp only [Value.slice.injEq] at e1
  obtain ⟨rfl, _, rfl⟩ := e1
  exact e3
end
theorem rowU_obj {w : World} {v : Value} {zs : List Value} (h : Row w 5 v zs) {b : Nat} (hb : v.ownBlock = some b) : ∃ cur f, w.heap[b]? = some (.cells cur 5 f) := by
  rcases h with ⟨h1, _⟩ | ⟨g, cp, cur, lo, hi, h1, h2, _⟩
  · rw [h1] at hb; cases hb
  · rw [h1] at hb
    simp only [Value.ownBlock, Option.some.injEq] at hb
    subst hb
    exact ⟨cur, _, h2⟩
/-- a row of bytes and one of choices lie apart. -/
theorem row_apart {w : World} {v : Value} {zs : List Value} (h : Row w 5 v zs) {u : Value} {l : List Ch} (h' : RowC w u l) {b : Nat} (hb : u.ownBlock = some b) : v.ownBlock ≠ some b := fun e => by
  obtain ⟨cur, f, h1⟩ := rowU_obj h e
  obtain ⟨cur2, h2⟩ := RowS.obj h' hb
  rw [h1] at h2
  simp only [Option.some.injEq, Obj.cells.injEq] at h2
  exact absurd h2.2.1 (by decide)
end Go.Proofs.YtdcppiknomoigaaDoor
