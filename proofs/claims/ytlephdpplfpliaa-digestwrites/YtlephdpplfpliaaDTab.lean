/-
  The table of the words k: digest.roundWords.
-/
import Derived.Test.YtlephdpplfpliaaDWord
import Derived.Deep.WholeRow
namespace Go.Proofs.Ytlephdpplfpliaa
open Go.RowKit
set_option linter.unusedVariables false

def kL : List Int := [0x428a2f98, 0x71374491, 0xb5c0fbcf, 0xe9b5dba5, 0x3956c25b, 0x59f111f1, 0x923f82a4, 0xab1c5ed5,
  0xd807aa98, 0x12835b01, 0x243185be, 0x550c7dc3, 0x72be5d74, 0x80deb1fe, 0x9bdc06a7, 0xc19bf174,
  0xe49b69c1, 0xefbe4786, 0x0fc19dc6, 0x240ca1cc, 0x2de92c6f, 0x4a7484aa, 0x5cb0a9dc, 0x76f988da,
  0x983e5152, 0xa831c66d, 0xb00327c8, 0xbf597fc7, 0xc6e00bf3, 0xd5a79147, 0x06ca6351, 0x14292967,
  0x27b70a85, 0x2e1b2138, 0x4d2c6dfc, 0x53380d13, 0x650a7354, 0x766a0abb, 0x81c2c92e, 0x92722c85,
  0xa2bfe8a1, 0xa81a664b, 0xc24b8b70, 0xc76c51a3, 0xd192e819, 0xd6990624, 0xf40e3585, 0x106aa070,
  0x19a4c116, 0x1e376c08, 0x2748774c, 0x34b0bcb5, 0x391c0cb3, 0x4ed8aa4a, 0x5b9cca4f, 0x682e6ff3,
  0x748f82ee, 0x78a5636f, 0x84c87814, 0x8cc70208, 0x90befffa, 0xa4506ceb, 0xbef9a3f7, 0xc67178f2]
def u32s (zs : List Int) : List Value := zs.map (Value.int .u32)

theorem size64 : (Try.prog.info? 61).map (·.size) = some 64 := by kernel_rfl
theorem u32s_len (zs : List Int) : (u32s zs).length = zs.length := by simp [u32s]
theorem u32s_one (zs : List Int) : ∀ v, v ∈ u32s zs → v.oneCell' = true := by
  intro v hv
  obtain ⟨z, _, rfl⟩ := List.mem_map.1 hv
  rfl
theorem u8s_len (zs : List Int) : (u8s zs).length = zs.length := by simp [u8s]
theorem u8s_one (zs : List Int) : ∀ v, v ∈ u8s zs → v.oneCell' = true := by
  intro v hv
  obtain ⟨z, _, rfl⟩ := List.mem_map.1 hv
  rfl
/-- a whole array laid into the block that was made last. -/
theorem store_new (t : TypeId) (zs : List Value) (n : Nat) (ht : (Try.prog.info? t).map (·.size) = some n) (hn : zs.length = n) (h1 : ∀ v, v ∈ zs → v.oneCell' = true) (g : Nat) (w : World) (c : Array Value) (hg : g = w.heap.size) (hc : c.size = n) :
    (storeCells ⟨g, 0, none⟩ zs 0).run Try.prog (w.alloc (.cells c t)) = .ok () (w.alloc (.cells zs.toArray t)) := by
  subst hg
  have := run_storeCells_new (P := Try.prog) w t c zs.toArray (by rw [ht]; simp [hn]) (by simp [hc, hn]) (all_oneCell_toArray h1)
  simpa using this

theorem store_at (zs : List Value) (h1 : ∀ v, v ∈ zs → v.oneCell' = true) (g : Nat) (t : TypeId) (old : Array Value) (w : World) (hg : w.heap[g]? = some (.cells old t (0, 0))) (hn : old.size = zs.length) :
    (storeCells ⟨g, 0, none⟩ zs 0).run Try.prog w = .ok () (w.setRow g zs.toArray) := by
  have := run_storeCells_from (P := Try.prog) g t zs 0 old w hg (by omega) h1
  simpa using this

theorem wpList_build_to {P : Program} {ops : Array Oper} {rest : List Oper} {o : Oper} {a : Act} {w : World} {Q : Exit → Act → World → Prop} (hg : o.guard = none) (t : TypeId) (parts : Array (Nat × Operand)) (ho : o.op = .build t parts) (cells : Array Value)
    (hf : P.built t (parts.map fun (i, x) => (i, a.eval x)).toList = some cells) (h : wpList P ops Q rest (a.put o.dst (.agg cells)) w) : wpList P ops Q (o :: rest) a w :=
  wpList_build hg t parts ho (by rw [hf]; rfl) (by rw [hf]; exact h)

theorem wpList_alloc_to {P : Program} {ops : Array Oper} {rest : List Oper} {o : Oper} {a : Act} {w : World} {Q : Exit → Act → World → Prop} (hgd : o.guard = none) (t : TypeId) (ho : o.op = .alloc t) (cells : Array Value)
    (hz : (P.info? t).map (·.zero) = some (some (.agg cells))) (h : wpList P ops Q rest (a.put o.dst (.pointer (some ⟨w.heap.size, 0, none⟩))) (w.alloc (.cells cells t))) : wpList P ops Q (o :: rest) a w :=
  wpList_plain hgd fun K hK => by
    cases hq : P.info? t with
    | none => simp [hq] at hz
    | some i =>
      have hzz : i.zero = some (.agg cells) := by simpa [hq] using hz
      have hr : (Instr.alloc t true (.tuple #[])).run P w = .ok (.pointer (some ⟨w.heap.size, 0, none⟩)) (w.alloc (.cells cells t)) := by
        simp [Instr.alloc, zeroValue, typeInfo, hq, hzz, Value.cells, go_sem]
      unfold Oper.wp execOp
      simp only [ho, Sem.run_bind, Sem.run_pure, hr, Result.andThen_ok]
      exact hK _ _ h
/-- an array sliced from a place on. -/
theorem slice_arr {P : Program} {t e : TypeId} {n : Nat} (hu : P.underlying t = some (.array n e)) (he : (P.info? e).map (·.size) = some 1) (b o l : Nat) (hl : l < n) (x : Int) (hx : x = l) (w : World) :
    (Instr.sliceAt t (.pointer (some ⟨b, o, none⟩)) (some (.int .i64 x)) none none).run P w = .ok (.slice (some ⟨b, o + l, none⟩) (n - l) (n - l)) w := by
  subst hx
  cases hq : P.info? e with
  | none => simp [hq] at he
  | some i =>
    have hs : i.size = 1 := by simpa [hq] using he
    have hne : ¬ n = l := by omega
    have hadd : (⟨b, o, none⟩ : Addr).add l = ⟨b, o + l, none⟩ := Addr.add_mid b o l
    simp [Instr.sliceAt, run_underlying hu, Instr.sureAddr, Instr.sliceBounds, Instr.sliceBound, asIntOf, sizeOf, typeInfo, hq, hs, hne, hadd]
    intro h2; omega
theorem index_arr {P : Program} {t e : TypeId} {n : Nat} (hu : P.underlying t = some (.array n e)) (he : (P.info? e).map (·.size) = some 1) (ha : ∀ w, (isAgg e).run P w = .ok false w) (cs : Array Value) (j : Nat) (hj : j < n) (v : Value) (hv : cs[j]? = some v) (w : World) :
    (Instr.index t (.agg cs) (.int .i64 (j : Int))).run P w = .ok v w := by
  cases hq : P.info? e with
  | none => simp [hq] at he
  | some i =>
    have hs : i.size = 1 := by simpa [hq] using he
    simp [Instr.index, asIntOf, run_underlying hu, hj, sizeOf, typeInfo, hq, hs, part, ha, hv]
theorem aggU32 (w : World) : (isAgg 47).run Try.prog w = .ok false w := by simp [isAgg, run_underlying Try.underlying47]
theorem aggU8 (w : World) : (isAgg 5).run Try.prog w = .ok false w := by simp [isAgg, run_underlying Try.underlying5]
theorem sizeU32 : (Try.prog.info? 47).map (·.size) = some 1 := by kernel_rfl
theorem sizeU8 : (Try.prog.info? 5).map (·.size) = some 1 := by kernel_rfl
def z64 : List Int := List.replicate 64 0
theorem z64_len : (u32s z64).length = 64 := by kernel_rfl
theorem kL_len : (u32s kL).length = 64 := by kernel_rfl
set_option maxHeartbeats 1000000 in
set_option maxRecDepth 20000 in
theorem roundWords_any (w : World) :
    Calls Try.prog 28 #[] w fun e w' => e = .returned (.agg (u32s kL).toArray) ∧ Below w.heap.size w w' := by
  have hst := store_new 61 (u32s kL) 64 size64 kL_len (u32s_one kL)
  have hl := kL_len
  go_enter Try.func28, Try.ntmps28
  go_wp2_with (first
    | (refine wpList_build_to rfl 61 _ rfl (u32s kL).toArray (by kernel_rfl) ?_))
  exact bodyPost_ret (results_cell_row (P := Try.prog) rfl _ _ w.heap.size 61 (u32s kL).toArray (0, 0) _ rfl (heap_alloc_last w _) Try.underlying61 rfl size64) rfl ⟨rfl, (Below.refl _ _).alloc (Nat.le_refl _) _⟩
end Go.Proofs.Ytlephdpplfpliaa
