/-
  Tftp: choices that are read; the document's small functions.
-/
import Derived.Test.YtdcppiknomoigaaDoorBBookJ
import Derived.Test.YtdcppiknomoigaaDoorBRowT
import Derived.Test.YtdcppiknomoigaaDoorBNum
namespace Go.Proofs.YtdcppiknomoigaaDoor
open Go.RowKit
set_option linter.all false

def intOfT : Value → Int | .int _ q => q | _ => 0
theorem bdrewT (w : World) (q : Nat) : Below w.heap.size w (w.drewN q) := ⟨rfl, rfl, rfl, Nat.le_refl _, fun _ _ => rfl⟩
theorem ba_inj {X Y : ByteArray} (h : X.toList = Y.toList) : X = Y := by
  rw [ByteArray.toList_eq, ByteArray.toList_eq] at h
  cases X with | mk d => cases Y with | mk d' =>
    simp only at h
    rw [Array.ext' h]
/-- texts, as the walk compares them. -/
theorem sbeq (X Y : ByteArray) : (X.toList == Y.toList) = decide (X = Y) := by
  by_cases h : X = Y
  · subst h; simp
  · have h2 : ¬ X.toList = Y.toList := fun e => h (ba_inj e)
    rw [decide_eq_false h]
    simpa using h2
/-- a choice. -/
structure Ch where
  nm : ByteArray
  v : Int
def Ch.nil : Ch := ⟨⟨#[]⟩, 0⟩
def chC (x : Ch) : Array Value := #[.string x.nm, .int .i64 x.v]
/-- choices that are read, wherever they lie. -/
def ChV (w : World) (a : Option Addr) (l : List Ch) : Prop := l = [] ∨ ∃ b o, a = some ⟨b, o, none⟩ ∧ ∀ (k : Nat) (x : Ch), l[k]? = some x → w.cell? ⟨b, o + k * 2, none⟩ = some (.string x.nm) ∧ w.cell? ⟨b, o + k * 2 + 1, none⟩ = some (.int .i64 x.v)
theorem ChV.below {w w' : World} {a : Option Addr} {l : List Ch} (h : ChV w a l) (hb : Below w.heap.size w w') : ChV w' a l := by
  rcases h with h | ⟨b, o, h1, h2⟩
  · exact Or.inl h
  · refine Or.inr ⟨b, o, h1, fun k x hx => ?_⟩
    obtain ⟨h3, h4⟩ := h2 k x hx
    exact ⟨(hb.cell (p := ⟨b, o + k * 2, none⟩) (World.block_lt_of_cell? w _ h3)).trans h3, (hb.cell (p := ⟨b, o + k * 2 + 1, none⟩) (World.block_lt_of_cell? w _ h4)).trans h4⟩
theorem ChV.ent {w : World} {a : Option Addr} {l : List Ch} (h : ChV w a l) {k : Nat} {x : Ch} (hx : l[k]? = some x) : ∃ b o, a = some ⟨b, o, none⟩ ∧ w.cell? ⟨b, o + k * 2, none⟩ = some (.string x.nm) ∧ w.cell? ⟨b, o + k * 2 + 1, none⟩ = some (.int .i64 x.v) := by
  rcases h with h | ⟨b, o, h1, h2⟩
  · rw [h] at hx; simp at hx
  · exact ⟨b, o, h1, h2 k x hx⟩
def nBlk : ByteArray := ⟨#[98, 108, 107, 115, 105, 122, 101]⟩
def nWin : ByteArray := ⟨#[119, 105, 110, 100, 111, 119, 115, 105, 122, 101]⟩
def nTsz : ByteArray := ⟨#[116, 115, 105, 122, 101]⟩
def knownB (s : ByteArray) : Bool := decide (s = nBlk) || decide (s = nWin) || decide (s = nTsz)
theorem sBlk (s : ByteArray) : (s.toList == ([98, 108, 107, 115, 105, 122, 101] : List UInt8)) = decide (s = nBlk) := by
  rw [← sbeq, show nBlk.toList = [98, 108, 107, 115, 105, 122, 101] from by rw [ByteArray.toList_eq]; rfl]
theorem sWin (s : ByteArray) : (s.toList == ([119, 105, 110, 100, 111, 119, 115, 105, 122, 101] : List UInt8)) = decide (s = nWin) := by
  rw [← sbeq, show nWin.toList = [119, 105, 110, 100, 111, 119, 115, 105, 122, 101] from by rw [ByteArray.toList_eq]; rfl]
theorem sTsz (s : ByteArray) : (s.toList == ([116, 115, 105, 122, 101] : List UInt8)) = decide (s = nTsz) := by
  rw [← sbeq, show nTsz.toList = [116, 115, 105, 122, 101] from by rw [ByteArray.toList_eq]; rfl]
set_option maxHeartbeats 1000000 in
theorem known_any (s : ByteArray) (w : World) :
    Calls Tryd.prog 55 #[.string s] w fun e w' => e = .returned (.bool (knownB s)) ∧ w' = w := by
  have e1 := sBlk s
  have e2 := sWin s
  have e3 := sTsz s
  unfold knownB
  generalize decide (s = nBlk) = b1 at *
  generalize decide (s = nWin) = b2 at *
  generalize decide (s = nTsz) = b3 at *
  go_enter Tryd.func55, Tryd.ntmps55
  cases b1
  · cases b2
    · cases b3
      · go_wp2
        go_ret
        exact ⟨rfl, rfl⟩
      · go_wp2
        go_ret
        exact ⟨rfl, rfl⟩
    · go_wp2
      go_ret
      exact ⟨rfl, rfl⟩
  · go_wp2
    go_ret
    exact ⟨rfl, rfl⟩
/-- is a name there ahead of a place? -/
def inB (nm : ByteArray) (l : List Ch) : Bool := l.any fun x => decide (x.nm = nm)
theorem inB_take1 {l : List Ch} {k : Nat} {x : Ch} (hx : l[k]? = some x) (nm : ByteArray) : inB nm (l.take (k + 1)) = (inB nm (l.take k) || decide (x.nm = nm)) := by
  unfold inB
  rw [List.take_add_one, hx, List.any_append]
  simp
set_option maxRecDepth 20000 in
set_option maxHeartbeats 2000000 in
theorem twice_any (l : List Ch) (a : Option Addr) (n c k0 : Nat) (x0 : Ch) (w : World) (h : ChV w a l) (hn : n = l.length) (hx0 : l[k0]? = some x0) (hbig : n ≤ 9223372036854775807) :
    Calls Tryd.prog 53 #[.slice a n c, .int .i64 k0] w fun e w' => e = .returned (.bool (inB x0.nm (l.take k0))) ∧ ∃ q, w' = w.drewN q := by
  have HV := hid h
  have hk0 : k0 < n := by rw [hn]; exact (List.getElem?_eq_some_iff.1 hx0).1
  have HX0 := hid hx0
  have HN := hid hn
  have hk0i : (k0 : Int) < (n : Int) := by omega
  have hk0z : (0 : Int) ≤ (k0 : Int) := by omega
  clear h hn hx0
  go_enter Tryd.func53, Tryd.ntmps53
  go_wp2_with fail
  go_loopw [5] (fun vi wr => ∃ (k q : Nat), vi = .int .i64 k ∧ k ≤ k0 ∧ Hid (wr = w.drewN q) ∧ Hid (inB x0.nm (l.take k) = false)) (fun vi _ => k0 - (intOfT vi).toNat)
  case atStart => exact ⟨0, 0, rfl, Nat.zero_le _, rfl, by simp [inB, Hid]⟩
  case round =>
    obtain ⟨k, q, rfl, hk, HW, HI⟩ := hrel
    have HVR : Hid (ChV wr a l) := hid (by rw [HW.out]; exact HV.out.below (bdrewT w q))
    by_cases hkl : k < k0
    · obtain ⟨y, hy⟩ : ∃ y, l[k]? = some y := ⟨_, List.getElem?_eq_getElem (by rw [← HN.out]; omega)⟩
      obtain ⟨b, o, rfl, d0, d1⟩ := HVR.out.ent HX0.out
      obtain ⟨b', o', hb', c0, c1⟩ := HVR.out.ent hy
      simp only [Option.some.injEq, Addr.mk.injEq, and_true] at hb'
      obtain ⟨rfl, rfl⟩ := hb'
      have HY := hid hy
      have hs := sbeq y.nm x0.nm
      have hkz : (0 : Int) ≤ (k : Int) := by omega
      have hkn : (k : Int) < (n : Int) := by omega
      clear hy c1 d1
      by_cases he : y.nm = x0.nm
      · rw [decide_eq_true he] at hs
        have HR : Hid (inB x0.nm (l.take k0) = true) := by
          unfold Hid inB
          rw [List.any_eq_true]
          refine ⟨y, ?_, decide_eq_true he⟩
          rw [List.mem_iff_getElem?]
          exact ⟨k, by rw [List.getElem?_take, if_pos hkl]; exact HY.out⟩
        clear he HI
        go_wp2_with (first | go_quiet (fail) | fail)
        go_ret
        exact ⟨by rw [HR.out]; rfl, q + nq, by rw [HW.out]; simp [World.drewN, Nat.add_assoc]⟩
      · rw [decide_eq_false he] at hs
        have HI2 : Hid (inB x0.nm (l.take (k + 1)) = false) := by
          unfold Hid; rw [inB_take1 HY.out, HI.out, decide_eq_false he]; rfl
        clear he
        go_wp2_with (first | go_quiet (fail) | fail)
        go_roundw
        case rel => exact ⟨k + 1, q + nq, by first | rfl | (congr 1; omega), by omega, by unfold Hid; rw [HW.out]; simp [World.drewN, Nat.add_assoc], HI2⟩
        case measure => simp only [intOfT]; omega
    · obtain rfl : k = k0 := by omega
      clear hkl
      go_wp2_with fail
      go_ret
      exact ⟨by rw [HI.out]; rfl, q, HW.out⟩
end Go.Proofs.YtdcppiknomoigaaDoor
