/-
  Stations held against one another, stations within bytes; messages of arp as values, held against one another.
-/
import Derived.Test.YtgcpoanjjgbfjaaBMem
import Derived.DeepKeys
import Derived.Deep.RegionHeld3
namespace Go.Proofs.Ytgcpoanjjgbfjaa
open Go.RowKit
set_option linter.all false

theorem cellsU8 : Try.prog.cellsOf 5 = 1 := by kernel_rfl
theorem cellsU32 : Try.prog.cellsOf 30 = 1 := by kernel_rfl
theorem cellsInt : Try.prog.cellsOf 3 = 1 := by kernel_rfl
theorem cellsMac : Try.prog.cellsOf 25 = 6 := by kernel_rfl
theorem cellsSix : Try.prog.cellsOf 24 = 6 := by kernel_rfl
theorem keyMac : Try.prog.keyTypeAt 2 25 = true := by kernel_rfl
theorem keySix : Try.prog.keyTypeAt 2 24 = true := by kernel_rfl
theorem wf_u8 (b : Int) (h : 0 ≤ b ∧ b ≤ 255) : (Lit.int .u8 b).wf = true := by
  simp [Lit.wf, IntKind.min, IntKind.max, IntKind.bits, IntKind.signed]; omega
theorem wf_u32 (b : Int) (h : 0 ≤ b ∧ b ≤ 4294967295) : (Lit.int .u32 b).wf = true := by
  simp [Lit.wf, IntKind.min, IntKind.max, IntKind.bits, IntKind.signed]; omega
theorem wf_i64 (b : Int) (h : -9223372036854775808 ≤ b ∧ b ≤ 9223372036854775807) : (Lit.int .i64 b).wf = true := by
  simp [Lit.wf, IntKind.min, IntKind.max, IntKind.bits, IntKind.signed]; omega
/-- a station's six bytes. -/
structure Mac where
  b0 : Int
  b1 : Int
  b2 : Int
  b3 : Int
  b4 : Int
  b5 : Int
deriving DecidableEq
def Mac.val (m : Mac) : Value := .agg #[.int .u8 m.b0, .int .u8 m.b1, .int .u8 m.b2, .int .u8 m.b3, .int .u8 m.b4, .int .u8 m.b5]
def Mac.zs (m : Mac) : List Int := [m.b0, m.b1, m.b2, m.b3, m.b4, m.b5]
def Mac.ok (m : Mac) : Prop := (0 ≤ m.b0 ∧ m.b0 ≤ 255) ∧ (0 ≤ m.b1 ∧ m.b1 ≤ 255) ∧ (0 ≤ m.b2 ∧ m.b2 ≤ 255) ∧ (0 ≤ m.b3 ∧ m.b3 ≤ 255) ∧ (0 ≤ m.b4 ∧ m.b4 ≤ 255) ∧ (0 ≤ m.b5 ∧ m.b5 ≤ 255)
theorem Mac.bytes {m : Mac} (h : m.ok) : ∀ z, z ∈ m.zs → 0 ≤ z ∧ z ≤ 255 := fun z hz => by
  simp only [Mac.zs, List.mem_cons, List.not_mem_nil, or_false] at hz
  obtain ⟨h0, h1, h2, h3, h4, h5⟩ := h
  rcases hz with rfl | rfl | rfl | rfl | rfl | rfl <;> assumption
def zeroMac : Mac := ⟨0, 0, 0, 0, 0, 0⟩
theorem zeroMac_ok : zeroMac.ok := by simp [Mac.ok, zeroMac]
def macAt (zs : List Int) (i : Nat) : Mac := ⟨zs.getD i 0, zs.getD (i + 1) 0, zs.getD (i + 2) 0, zs.getD (i + 3) 0, zs.getD (i + 4) 0, zs.getD (i + 5) 0⟩
theorem macAt_ok {zs : List Int} (h : ∀ z, z ∈ zs → 0 ≤ z ∧ z ≤ 255) (i : Nat) : (macAt zs i).ok := ⟨getD_mem_bd h _, getD_mem_bd h _, getD_mem_bd h _, getD_mem_bd h _, getD_mem_bd h _, getD_mem_bd h _⟩
theorem macAt_zs (zs : List Int) (i : Nat) (h : i + 6 ≤ zs.length) : (macAt zs i).zs = (zs.drop i).take 6 := by
  apply List.ext_getElem
  · simp [Mac.zs]; omega
  · intro j h1 h2
    simp only [Mac.zs, List.length_cons, List.length_nil] at h1
    rcases (show j = 0 ∨ j = 1 ∨ j = 2 ∨ j = 3 ∨ j = 4 ∨ j = 5 by omega) with rfl | rfl | rfl | rfl | rfl | rfl
    all_goals
      simp [Mac.zs, macAt, List.getD_eq_getElem?_getD]
      rw [List.getElem?_eq_getElem (by omega)]
      rfl
set_option maxRecDepth 20000 in
theorem mac_eq (a b : Mac) (ha : a.ok) (hb : b.ok) (w : World) : (Op.equalIn 10000 25 a.val b.val).run Try.prog w = .ok (decide (a = b)) w := by
  have hk : ∀ m : Mac, m.ok → Try.prog.keyLits 3 25 (Value.cells m.val).toList = some [.int .u8 m.b0, .int .u8 m.b1, .int .u8 m.b2, .int .u8 m.b3, .int .u8 m.b4, .int .u8 m.b5] := fun m hm => by
    obtain ⟨h0, h1, h2, h3, h4, h5⟩ := hm
    simp [Mac.val, Program.keyLits, Try.underlying25, Try.underlying5, cellsMac, cellsU8, Value.cells, List.range_succ, wf_u8 _ h0, wf_u8 _ h1, wf_u8 _ h2, wf_u8 _ h3, wf_u8 _ h4, wf_u8 _ h5]
  have hf : ∀ m : Mac, (Value.formed Try.prog 25 m.val) = true := fun m => by
    simp [Value.formed, Try.underlying25, cellsMac, Mac.val]
  obtain ⟨r, hr, hi⟩ := run_equalIn_deep (P := Try.prog) 9998 2 25 keyMac w 3 3 _ _ _ _ (hf a) (hf b) (hk a ha) (hk b hb)
  rw [hr]
  congr 1
  cases a; cases b
  by_cases he : r = true
  · subst he
    have := hi.1 rfl
    simp only [List.cons.injEq, Lit.int.injEq, true_and, and_true] at this
    simp [this]
  · have hr' : r = false := by simpa using he
    subst hr'
    symm
    rw [decide_eq_false_iff_not]
    intro h
    exact he (hi.2 (by simp only [Mac.mk.injEq] at h; simp [h]))
set_option maxRecDepth 20000 in
/-- six bytes, an array of no name. -/
theorem six_eq (a b : Mac) (ha : a.ok) (hb : b.ok) (w : World) : (Op.equalIn 10000 24 a.val b.val).run Try.prog w = .ok (decide (a = b)) w := by
  have hk : ∀ m : Mac, m.ok → Try.prog.keyLits 3 24 (Value.cells m.val).toList = some [.int .u8 m.b0, .int .u8 m.b1, .int .u8 m.b2, .int .u8 m.b3, .int .u8 m.b4, .int .u8 m.b5] := fun m hm => by
    obtain ⟨h0, h1, h2, h3, h4, h5⟩ := hm
    simp [Mac.val, Program.keyLits, Try.underlying24, Try.underlying5, cellsSix, cellsU8, Value.cells, List.range_succ, wf_u8 _ h0, wf_u8 _ h1, wf_u8 _ h2, wf_u8 _ h3, wf_u8 _ h4, wf_u8 _ h5]
  have hf : ∀ m : Mac, (Value.formed Try.prog 24 m.val) = true := fun m => by
    simp [Value.formed, Try.underlying24, cellsSix, Mac.val]
  obtain ⟨r, hr, hi⟩ := run_equalIn_deep (P := Try.prog) 9998 2 24 keySix w 3 3 _ _ _ _ (hf a) (hf b) (hk a ha) (hk b hb)
  rw [hr]
  congr 1
  cases a; cases b
  by_cases he : r = true
  · subst he
    have := hi.1 rfl
    simp only [List.cons.injEq, Lit.int.injEq, true_and, and_true] at this
    simp [this]
  · have hr' : r = false := by simpa using he
    subst hr'
    symm
    rw [decide_eq_false_iff_not]
    intro h
    exact he (hi.2 (by simp only [Mac.mk.injEq] at h; simp [h]))

/-- a message. -/
structure Arp where
  op : Int
  s : Mac
  si : Int
  d : Mac
  di : Int
deriving DecidableEq
def Arp.cells (p : Arp) : Array Value := #[.int .i64 p.op, .int .u8 p.s.b0, .int .u8 p.s.b1, .int .u8 p.s.b2, .int .u8 p.s.b3, .int .u8 p.s.b4, .int .u8 p.s.b5, .int .u32 p.si, .int .u8 p.d.b0, .int .u8 p.d.b1, .int .u8 p.d.b2, .int .u8 p.d.b3, .int .u8 p.d.b4, .int .u8 p.d.b5, .int .u32 p.di]
def Arp.val (p : Arp) : Value := .agg #[.int .i64 p.op, .int .u8 p.s.b0, .int .u8 p.s.b1, .int .u8 p.s.b2, .int .u8 p.s.b3, .int .u8 p.s.b4, .int .u8 p.s.b5, .int .u32 p.si, .int .u8 p.d.b0, .int .u8 p.d.b1, .int .u8 p.d.b2, .int .u8 p.d.b3, .int .u8 p.d.b4, .int .u8 p.d.b5, .int .u32 p.di]
def Arp.ok (p : Arp) : Prop := (-9223372036854775808 ≤ p.op ∧ p.op ≤ 9223372036854775807) ∧ p.s.ok ∧ (0 ≤ p.si ∧ p.si ≤ 4294967295) ∧ p.d.ok ∧ (0 ≤ p.di ∧ p.di ≤ 4294967295)
def zeroArp : Arp := ⟨0, zeroMac, 0, zeroMac, 0⟩
theorem zeroArp_ok : zeroArp.ok := ⟨by simp [zeroArp], zeroMac_ok, by simp [zeroArp], zeroMac_ok, by simp [zeroArp]⟩
/-- a struct alone. -/
theorem results_row1 {P : Program} {fn : Func} {p : Tmp} {ty : TypeId} (h : fn.results = #[.cell p ty]) (tmps : Array Value) (w : World) (g : Nat) (t : TypeId) (cs : Array Value) (fr : Nat × Nat) (d : TypeDesc)
    (hp : tmps.getD p undef = .pointer (some ⟨g, 0, none⟩)) (hg : w.heap[g]? = some (.cells cs t fr))
    (hu : P.underlying ty = some d) (hd : (match d with | .struct _ | .array _ _ => true | _ => false) = true) (hi : (P.info? ty).map (·.size) = some cs.size) :
    (results fn tmps).run P w = .ok (.agg cs) w := by
  have hp' : tmps[p]?.getD undef = .pointer (some ⟨g, 0, none⟩) := by simpa using hp
  simp [results, h, hp', asAddr, run_loadVar_row w g t ty cs fr d hg hu hd hi]
end Go.Proofs.Ytgcpoanjjgbfjaa
