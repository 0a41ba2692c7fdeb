/-
  A message's bytes, without memory.
-/
import Derived.Test.YtoifblndpcelkaaBoUnl
import Derived.Test.YtoifblndpcelkaaOPack
namespace Go.Proofs.Ytoifblndpcelkaa
open Go.RowKit
set_option linter.all false

theorem splice_seg : ∀ (S : List (List Int)) (k : Nat) (X : List Int) (o : Nat), ((S.take k).map List.length).sum = o → k < S.length → X.length = (S.getD k []).length → splice S.flatten o X = (S.set k X).flatten
  | [], k, X, o, _, hk, _ => by simp at hk
  | s :: S, 0, X, o, ho, _, hl => by
    simp at ho hl
    subst ho
    simp [splice, hl]
  | s :: S, k + 1, X, o, ho, hk, hl => by
    simp only [List.take_succ_cons, List.map_cons, List.sum_cons] at ho
    subst ho
    have ih := splice_seg S k X _ rfl (by simpa using hk) (by simpa using hl)
    simp only [List.set_cons_succ, List.flatten_cons]
    rw [← ih]
    simp only [splice, List.take_length_add_append]
    rw [Nat.add_assoc, List.drop_length_add_append]
    simp only [List.append_assoc]
def zs0 (n : Nat) : List Int := List.replicate n 0
theorem zs0_len (n : Nat) : (zs0 n).length = n := by simp [zs0]
/-- what stands behind the numbers. -/
def segT (m : Bp) (M S F K O : List Int) : List (List Int) := [M, zs0 10, S, zs0 (64 - m.sname.size), F, zs0 (128 - m.file.size), K, O, zs0 (60 - O.length)]
/-- the message's pieces behind k numbers. -/
def segN (k : Nat) (m : Bp) (H : List Int) (T : List (List Int)) : List (List Int) :=
  [if 0 < k then byN m.op 1 else [0], H, if 1 < k then byN m.hops 1 else [0], if 2 < k then byN m.xid 4 else [0, 0, 0, 0], if 3 < k then byN m.secs 2 else [0, 0], if 4 < k then byN (flagN m.all) 2 else [0, 0], if 5 < k then byN m.ci 4 else [0, 0, 0, 0], if 6 < k then byN m.yi 4 else [0, 0, 0, 0], if 7 < k then byN m.si 4 else [0, 0, 0, 0], if 8 < k then byN m.gi 4 else [0, 0, 0, 0]] ++ T
def mark4 : List Int := byN 1669485411 4
def segL (m : Bp) (O : List Int) : List (List Int) := segN 9 m (byN 262 2) (segT m m.mac.zs (nums m.sname) (nums m.file) mark4 O)
/-- a message's bytes. -/
def encL (m : Bp) (O : List Int) : List Int := (segL m O).flatten
/-- all zeros, as the pieces are. -/
def segZ (m : Bp) (O : List Int) : List (List Int) := segN 0 m [0, 0] (segT m (zs0 6) (zs0 m.sname.size) (zs0 m.file.size) (zs0 4) O)
theorem zs0_add (a b : Nat) : zs0 (a + b) = zs0 a ++ zs0 b := by simp [zs0, List.replicate_append_replicate]
/-- the whole at the beginning. -/
theorem segZ_all (m : Bp) (o : Nat) (hs : m.sname.size ≤ 64) (hf : m.file.size ≤ 128) : (segZ m (zs0 o)).flatten = zs0 (max (240 + o) 300) := by
  have e : max (240 + o) 300 = 28 + (6 + (10 + (m.sname.size + ((64 - m.sname.size) + (m.file.size + ((128 - m.file.size) + (4 + (o + (60 - o))))))))) := by omega
  rw [e]
  simp only [zs0_add]
  simp only [segZ, segN, segT, Nat.lt_irrefl, if_false, Nat.not_lt_zero, List.cons_append, List.nil_append, List.flatten_cons, List.flatten_nil, List.append_nil, zs0_len, List.append_assoc]
  rfl
theorem segT_len (m : Bp) (M S F K O : List Int) (hM : M.length = 6) (hS : S.length = m.sname.size) (hF : F.length = m.file.size) (hK : K.length = 4) (hs : m.sname.size ≤ 64) (hf : m.file.size ≤ 128) : (segT m M S F K O).flatten.length = 212 + O.length + (60 - O.length) := by
  simp only [segT, List.flatten_cons, List.flatten_nil, List.append_nil, List.length_append, zs0_len, hM, hS, hF, hK]
  omega
theorem segN_len (k : Nat) (m : Bp) (H : List Int) (T : List (List Int)) (hH : H.length = 2) : (segN k m H T).flatten.length = 28 + T.flatten.length := by
  have i1 : ∀ (p : Prop) [Decidable p] (n : Int), (if p then byN n 1 else [0]).length = 1 := fun p _ n => by split <;> rfl
  have i2 : ∀ (p : Prop) [Decidable p] (n : Int), (if p then byN n 2 else [0, 0]).length = 2 := fun p _ n => by split <;> rfl
  have i4 : ∀ (p : Prop) [Decidable p] (n : Int), (if p then byN n 4 else [0, 0, 0, 0]).length = 4 := fun p _ n => by split <;> rfl
  simp only [segN, List.cons_append, List.nil_append, List.flatten_cons, List.length_append, i1, i2, i4, hH]
  omega
theorem encL_len (m : Bp) (O : List Int) (hs : m.sname.size ≤ 64) (hf : m.file.size ≤ 128) : (encL m O).length = max (240 + O.length) 300 := by
  unfold encL segL
  rw [segN_len _ _ _ _ rfl, segT_len _ _ _ _ _ _ rfl (nums_len _) (nums_len _) rfl hs hf]
  omega
theorem encL_bd (m : Bp) (O : List Int) (hm : m.mac.ok) (hO : ∀ z, z ∈ O → 0 ≤ z ∧ z ≤ 255) : ∀ z, z ∈ encL m O → 0 ≤ z ∧ z ≤ 255 := fun z hz => by
  have h0 : ∀ n, z ∈ zs0 n → 0 ≤ z ∧ z ≤ 255 := fun n h => by
    have := List.eq_of_mem_replicate h
    omega
  simp only [encL, segL, segN, segT, List.cons_append, List.nil_append, List.flatten_cons, List.flatten_nil, List.append_nil, List.mem_append, show (0:Nat) < 9 by omega, show (1:Nat) < 9 by omega, show (2:Nat) < 9 by omega, show (3:Nat) < 9 by omega, show (4:Nat) < 9 by omega, show (5:Nat) < 9 by omega, show (6:Nat) < 9 by omega, show (7:Nat) < 9 by omega, show (8:Nat) < 9 by omega, if_true] at hz
  rcases hz with h | h | h | h | h | h | h | h | h | h | h | h | h | h | h | h | h | h | h
  all_goals first
    | exact byN_bd _ _ z h
    | exact Mac.bytes hm z h
    | exact h0 _ h
    | exact nums_bd _ z h
    | exact hO z h
def segT0 (m : Bp) (o : Nat) : List (List Int) := segT m (zs0 6) (zs0 m.sname.size) (zs0 m.file.size) (zs0 4) (zs0 o)
theorem segT0_len (m : Bp) (o : Nat) (hs : m.sname.size ≤ 64) (hf : m.file.size ≤ 128) (k : Nat) : (segN k m [0, 0] (segT0 m o)).flatten.length = max (240 + o) 300 := by
  rw [segN_len _ _ _ _ rfl, segT0, segT_len _ _ _ _ _ _ (zs0_len _) (zs0_len _) (zs0_len _) (zs0_len _) hs hf, zs0_len]
  omega
theorem seg_any {S S' : List (List Int)} {i o : Nat} {X : List Int} (h1 : ((S.take i).map List.length).sum = o) (h2 : i < S.length) (h3 : X.length = (S.getD i []).length) (h4 : S.set i X = S') : splice S.flatten o X = S'.flatten := by
  rw [splice_seg S i X o h1 h2 h3, h4]
/-- what is laid behind the numbers. -/
theorem enc_steps (m : Bp) (O : List Int) (N : Nat) (hs : m.sname.size ≤ 63) (hf : m.file.size ≤ 127) (hN : N = max (240 + O.length) 300) : ∃ L10 L11 L12 L13 L14, splice (segN 9 m [0, 0] (segT0 m O.length)).flatten 1 (byN 262 2) = L10 ∧ L10.length = N ∧ splice L10 28 m.mac.zs = L11 ∧ L11.length = N ∧ splice L11 44 (nums m.sname) = L12 ∧ L12.length = N ∧ splice L12 108 (nums m.file) = L13 ∧ L13.length = N ∧ splice L13 236 (byN 1669485411 4) = L14 ∧ L14.length = N ∧ splice L14 240 O = encL m O := by
  have t6 := zs0_len 6
  have t4 := zs0_len 4
  have ts := zs0_len m.sname.size
  have tf := zs0_len m.file.size
  have t0 := zs0_len O.length
  have n1 := nums_len m.sname
  have n2 := nums_len m.file
  have len : ∀ (H M S F K O' : List Int), H.length = 2 → M.length = 6 → S.length = m.sname.size → F.length = m.file.size → K.length = 4 → O'.length = O.length → (segN 9 m H (segT m M S F K O')).flatten.length = N := fun H M S F K O' h1 h2 h3 h4 h5 h6 => by
    rw [segN_len _ _ _ _ h1, segT_len _ _ _ _ _ _ h2 h3 h4 h5 (by omega) (by omega), h6]
    omega
  have at28 : ∀ (H : List Int) (T : List (List Int)), H.length = 2 → (((segN 9 m H T).take 10).map List.length).sum = 28 := fun H T hH => by
    simp [segN, hH, byN, op1, op2, ip4]
  have app : ∀ (H : List Int) (T : List (List Int)) (i : Nat), H.length = 2 → (((segN 9 m H T).take (10 + i)).map List.length).sum = 28 + ((T.take i).map List.length).sum := fun H T i hH => by
    have : (segN 9 m H T) = (segN 9 m H []) ++ T := by simp [segN]
    rw [this, List.take_append, List.map_append, List.sum_append]
    have hl : (segN 9 m H []).length = 10 := rfl
    rw [hl, show 10 + i - 10 = i by omega, List.take_of_length_le (by rw [hl]; omega)]
    congr 1
    have := at28 H [] hH
    rw [show (segN 9 m H []).take 10 = segN 9 m H [] from rfl] at this
    exact this
  refine ⟨_, _, _, _, _, rfl, ?_, rfl, ?_, rfl, ?_, rfl, ?_, rfl, ?_, ?_⟩
  all_goals
    have e1 : splice (segN 9 m [0, 0] (segT0 m O.length)).flatten 1 (byN 262 2) = (segN 9 m (byN 262 2) (segT0 m O.length)).flatten := seg_any (i := 1) rfl (by simp [segN]) rfl rfl
    rw [e1]
    unfold segT0
  · exact len _ _ _ _ _ _ rfl t6 ts tf t4 t0
  all_goals
    have e2 : splice (segN 9 m (byN 262 2) (segT m (zs0 6) (zs0 m.sname.size) (zs0 m.file.size) (zs0 4) (zs0 O.length))).flatten 28 m.mac.zs = (segN 9 m (byN 262 2) (segT m m.mac.zs (zs0 m.sname.size) (zs0 m.file.size) (zs0 4) (zs0 O.length))).flatten := seg_any (i := 10) (at28 _ _ rfl) (by simp [segN, segT]) (by show 6 = (zs0 6).length; rw [t6]) rfl
    rw [e2]
  · exact len _ _ _ _ _ _ rfl rfl ts tf t4 t0
  all_goals
    have e3 : splice (segN 9 m (byN 262 2) (segT m m.mac.zs (zs0 m.sname.size) (zs0 m.file.size) (zs0 4) (zs0 O.length))).flatten 44 (nums m.sname) = (segN 9 m (byN 262 2) (segT m m.mac.zs (nums m.sname) (zs0 m.file.size) (zs0 4) (zs0 O.length))).flatten :=
      seg_any (i := 12) (by rw [app _ _ 2 rfl]; simp [segT, zs0_len, Mac.zs]) (by simp [segN, segT]) (by show _ = (zs0 m.sname.size).length; rw [ts, n1]) rfl
    rw [e3]
  · exact len _ _ _ _ _ _ rfl rfl n1 tf t4 t0
  all_goals
    have e4 : splice (segN 9 m (byN 262 2) (segT m m.mac.zs (nums m.sname) (zs0 m.file.size) (zs0 4) (zs0 O.length))).flatten 108 (nums m.file) = (segN 9 m (byN 262 2) (segT m m.mac.zs (nums m.sname) (nums m.file) (zs0 4) (zs0 O.length))).flatten :=
      seg_any (i := 14) (by rw [app _ _ 4 rfl]; simp [segT, zs0_len, Mac.zs, n1]; omega) (by simp [segN, segT]) (by show _ = (zs0 m.file.size).length; rw [tf, n2]) rfl
    rw [e4]
  · exact len _ _ _ _ _ _ rfl rfl n1 n2 t4 t0
  all_goals
    have e5 : splice (segN 9 m (byN 262 2) (segT m m.mac.zs (nums m.sname) (nums m.file) (zs0 4) (zs0 O.length))).flatten 236 (byN 1669485411 4) = (segN 9 m (byN 262 2) (segT m m.mac.zs (nums m.sname) (nums m.file) mark4 (zs0 O.length))).flatten :=
      seg_any (i := 16) (by rw [app _ _ 6 rfl]; simp [segT, zs0_len, Mac.zs, n1, n2]; omega) (by simp [segN, segT]) (by show _ = (zs0 4).length; rw [t4]; rfl) rfl
    rw [e5]
  · exact len _ _ _ _ _ _ rfl rfl n1 n2 rfl t0
  · have e6 : splice (segN 9 m (byN 262 2) (segT m m.mac.zs (nums m.sname) (nums m.file) mark4 (zs0 O.length))).flatten 240 O = (segN 9 m (byN 262 2) ([m.mac.zs, zs0 10, nums m.sname, zs0 (64 - m.sname.size), nums m.file, zs0 (128 - m.file.size), mark4, O, zs0 (60 - (zs0 O.length).length)])).flatten :=
      seg_any (i := 17) (by rw [app _ _ 7 rfl]; simp [segT, zs0_len, Mac.zs, n1, n2, show mark4.length = 4 from rfl]; omega) (by simp [segN, segT]) (by show _ = (zs0 O.length).length; rw [t0]) rfl
    rw [e6, t0]
    rfl
end Go.Proofs.Ytoifblndpcelkaa
