/-
  bootp.Encode.
-/
import Derived.Test.YtoifblndpcelkaaBoEncM
import Derived.Lib.BufferWrite
import Derived.Deep.DeepCutAuto
namespace Go.Proofs.Ytoifblndpcelkaa
open Go.RowKit
set_option linter.all false

/-- an Encode under way: the message's box, the bytes so far, the options' bytes. -/
structure EnS (w : World) (gm g : Nat) (C : Array Value) (ao : Option Addr) (no co : Nat) (O L : List Int) (W : World) : Prop where
  box : W.heap[gm]? = some (.cells C 28 (0, 0))
  row : W.heap[g]? = some (.cells (u8s L).toArray 5 (0, 0))
  opt : Row W 5 (.slice ao no co) (u8s O)
  off : ∀ b, (Value.slice ao no co).ownBlock = some b → b ≠ g
  ne : gm ≠ g
  low : w.heap.size ≤ g
  below : Below w.heap.size w W
theorem EnS.keep {w W W' : World} {gm g : Nat} {C : Array Value} {ao : Option Addr} {no co : Nat} {O L : List Int} (h : EnS w gm g C ao no co O L W) (hb : Below W.heap.size W W') : EnS w gm g C ao no co O L W' :=
  ⟨kept h.box hb, kept h.row hb, h.opt.below hb, h.off, h.ne, h.low, bstep h.below hb⟩
theorem EnS.next {w W W' : World} {gm g : Nat} {C : Array Value} {ao : Option Addr} {no co : Nat} {O L L' : List Int} (h : EnS w gm g C ao no co O L W) (hr : W'.heap[g]? = some (.cells (u8s L').toArray 5 (0, 0))) (hb : But g W W') : EnS w gm g C ao no co O L' W' :=
  ⟨keptBut h.box hb h.ne, hr, h.opt.but hb h.off, h.off, h.ne, h.low, bbut h.below hb h.low⟩
theorem byteCells_u8s (s : ByteArray) : Lib.byteCells s.data.toList = u8s (nums s) := by
  unfold Lib.byteCells u8s nums
  rw [List.map_map]
  rfl
theorem sizeBp : (Try.prog.info? 28).map (·.size) = some 18 := by kernel_rfl
/-- 'copy(d, s)' of a text. -/
theorem step_copyS {ops : Array Oper} {o : Oper} {a : Act} {w : World} {K : Act → World → Prop} {Q : Exit → Act → World → Prop} {E : Prop} (hgd : o.guard = none) (d s : Operand)
    (ho : o.op = .call { callee := .builtin .copy, args := #[d, s], argTypes := #[33, 9] }) (x : ByteArray) (g off n cap : Nat) (L : List Int) (t : TypeId) (hd : a.eval d = .slice (some ⟨g, off, none⟩) n cap) (hs : a.eval s = .string x)
    (hg : w.heap[g]? = some (.cells (u8s L).toArray t (0, 0))) (hn : x.size ≤ n) (hsz : off + x.size ≤ L.length)
    (h : ∀ w', Hid (w'.heap[g]? = some (.cells (u8s (splice L off (nums x))).toArray t (0, 0))) → Hid (But g w w') → K (a.put o.dst (goInt x.size)) w') :
    if Region.wanted o (yielded ops a.tmps) = true then Oper.wp Try.prog o a w K Q else E := by
  have hw : Region.wanted o (yielded ops a.tmps) = true := by simp [Region.wanted, hgd]
  rw [if_pos hw]
  have hc := Lib.run_copy_row_string (P := Try.prog) w 33 9 o.type 5 g off n cap x (u8s L).toArray t Try.underlying33 sizeU8 hg hn (by simpa [u8s_len] using hsz)
  have e : ((u8s L).toArray.toList.take off ++ Lib.byteCells x.data.toList ++ (u8s L).toArray.toList.drop (off + x.size)).toArray = (u8s (splice L off (nums x))).toArray := by
    rw [byteCells_u8s, List.toList_toArray, ← splice_u8s]
    simp only [splice, u8s_len, nums_len, List.append_assoc]
  rw [e] at hc
  unfold Oper.wp
  simp only [execOp, ho, resolve, invoke, builtin, Sem.run_bind, Sem.run_pure, Result.andThen_ok, List.map_toArray, List.map_cons, List.map_nil, hd, hs, hc]
  exact h _ (setRow_heap w g _ _ t _ hg) (But.setRow g w _)
def encE (m : Bp) (os : List OP) : Int := if unE m (ovB os) = 0 then packE (absO os) 1232 else unE m (ovB os)
def encA (m : Bp) (os : List OP) : List Int := if encE m os = 0 then encL m (packA (absO os) 1232) else []
set_option maxRecDepth 20000 in
set_option maxHeartbeats 4000000 in
theorem encode_no1 (m : Bp) (a : Option Addr) (c : Nat) (os : List OP) (w : World) (h : OV w a os) (he : unE m (ovB os) ≠ 0) :
    Calls Try.prog 14 #[m.val (.slice a os.length c)] w fun e w' => e = .returned (.tuple #[.slice none 0 0, .int .i64 (unE m (ovB os))]) ∧ Hid (Below w.heap.size w w') := by
  have HU := hid (fun wx (hw : Below w.heap.size w wx) => unlayable_any m a c os wx (h.below hw))
  generalize unE m (ovB os) = E at *
  have he1 : (E != 0) = true := by simpa using he
  generalize os.length = n at *
  clear h he
  simp only [Bp.val] at *
  have HZ : Hid (some 18 = some (m.cells (.slice a n c)).size) := rfl
  generalize m.cells (.slice a n c) = C at *
  go_enter Try.func14, Try.ntmps14
  go_wp2_with (first
    | (refine wpList_load_row rfl 28 _ rfl w.heap.size rfl 28 C (0, 0) _ (heap_new w _) Try.underlying28 rfl (sizeBp.trans HZ.out) ?_)
    | (go_at_call 41; refine (HU.out _ (bpush (Below.refl _ _) _)).mono ?_; rintro e w1 ⟨rfl, HB⟩)
    | fail)
  go_ret2
  exact ⟨rfl, bstep (bpush (Below.refl _ _) _) HB.out⟩
set_option maxRecDepth 20000 in
set_option maxHeartbeats 4000000 in
theorem encode_no2 (m : Bp) (a : Option Addr) (c : Nat) (os : List OP) (w : World) (h : OV w a os) (he : unE m (ovB os) = 0) (hp : packE (absO os) 1232 ≠ 0) (hs : (layL (absO os)).length ≤ 35184372088832) :
    Calls Try.prog 14 #[m.val (.slice a os.length c)] w fun e w' => e = .returned (.tuple #[.slice none 0 0, .int .i64 (packE (absO os) 1232)]) ∧ Hid (Below w.heap.size w w') := by
  have HU := hid (fun wx (hw : Below w.heap.size w wx) => unlayable_any m a c os wx (h.below hw))
  rw [he] at HU
  have HP := hid (fun wx (hw : Below w.heap.size w wx) => pack_any a c os 1232 wx (h.below hw) (by omega) hs)
  generalize packE (absO os) 1232 = E at *
  generalize packA (absO os) 1232 = A at *
  have he1 : (E != 0) = true := by simpa using hp
  generalize os.length = n at *
  clear h he hp hs
  simp only [Bp.val] at *
  have HZ : Hid (some 18 = some (m.cells (.slice a n c)).size) := rfl
  have H17 : Hid ((m.cells (.slice a n c))[17]? = some (.slice a n c)) := rfl
  generalize m.cells (.slice a n c) = C at *
  go_enter Try.func14, Try.ntmps14
  go_wp2_with (first
    | (refine wpList_load_row rfl 28 _ rfl w.heap.size rfl 28 C (0, 0) _ (heap_new w _) Try.underlying28 rfl (sizeBp.trans HZ.out) ?_)
    | (go_at_call 41; refine (HU.out _ (bpush (Below.refl _ _) _)).mono ?_; rintro e w1 ⟨rfl, HB⟩
       have k1 : w1.cell? ⟨w.heap.size, 17, none⟩ = some (.slice a n c) := (cell_of_heap (kept (heap_new w _) HB.out) 17).trans H17.out)
    | (go_at_call 42; refine (HP.out _ (bstep (bpush (Below.refl _ _) _) HB.out)).mono ?_; rintro e w2 ⟨ax, cx, rfl, HA⟩)
    | fail)
  go_ret2
  exact ⟨rfl, bstep (bstep (bpush (Below.refl _ _) _) HB.out) HA.out.2.2⟩
end Go.Proofs.Ytoifblndpcelkaa
