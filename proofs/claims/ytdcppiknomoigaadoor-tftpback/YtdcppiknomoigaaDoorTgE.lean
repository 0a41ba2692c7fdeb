/-
  Tftp: bytes that the program's Encode lays: OutP; withNumber, withText, withChoices.
-/
import Derived.Test.YtdcppiknomoigaaDoorTgA
import Derived.Test.YtdcppiknomoigaaDoorShelf
import Derived.Lib.AppendStr
import Derived.Lib.AppendIntMem
namespace Go.Proofs.YtdcppiknomoigaaDoor
open Go.RowKit
set_option linter.all false

abbrev Pow10 (w : World) : Prop := Lib.TabIs Tryd.prog w "internal/strconv.uint64pow10" .u64 Lib.pow10Tab
/-- what the listed variables read as. -/
structure Env (w : World) : Prop where
  pow : Pow10 w
  syn : ∃ tp p, w.var? Tryd.prog "strconv.ErrSyntax" = some #[.iface tp p]
  rng : ∃ tp p, w.var? Tryd.prog "strconv.ErrRange" = some #[.iface tp p]
theorem var_below {w w' : World} {n : String} {cs : Array Value} (h : w.var? Tryd.prog n = some cs) (hb : Below w.heap.size w w') : w'.var? Tryd.prog n = some cs := by
  unfold World.var? at *
  cases hg : Tryd.prog.globalNamed n with
  | none => simp [hg] at h
  | some g =>
    simp only [hg, Option.bind_some] at h ⊢
    have hlt : g < w.heap.size := by
      rcases Nat.lt_or_ge g w.heap.size with h' | h'
      · exact h'
      · rw [Array.getElem?_eq_none h'] at h; simp at h
    rw [hb.block g hlt]
    exact h
theorem Env.below {w w' : World} (h : Env w) (hb : Below w.heap.size w w') : Env w' := by
  obtain ⟨h1, ⟨tp, p, h2⟩, ⟨tq, q, h3⟩⟩ := h
  exact ⟨Lib.tabBelow_of_tabIs h1 _ hb, ⟨tp, p, var_below h2 hb⟩, ⟨tq, q, var_below h3 hb⟩⟩
/-- bytes of the call's own, from block B on. -/
structure OutP (B : Nat) (w : World) (zs : List Int) (v : Value) (W : World) : Prop where
  own : W.ownsRow B 5 1 v zs.length (u8s zs)
  below : Below B w W
  le : B ≤ W.heap.size
theorem strCells_nums (s : ByteArray) : Lib.strCells s = u8s (nums s) := by simp [Lib.strCells, u8s, nums]
theorem OutP.form {B : Nat} {w W : World} {zs : List Int} {v : Value} (h : OutP B w zs v W) : ∃ a c, v = .slice a zs.length c := by
  rcases h.own.2 with ⟨h1, h2⟩ | ⟨g, cap, cur, h1, _⟩
  · exact ⟨none, 0, by rw [h1, h2]⟩
  · exact ⟨_, cap, h1⟩
theorem OutP.row {B : Nat} {w W : World} {zs : List Int} {v : Value} (h : OutP B w zs v W) : Row W 5 v (u8s zs) := by
  rcases h.own.2 with ⟨h1, h2⟩ | ⟨g, cap, cur, h1, h2, h3, h4, h5, h6, h7⟩
  · exact Or.inl ⟨h1, by rw [List.eq_nil_of_length_eq_zero h2]; rfl⟩
  · exact Or.inr ⟨g, cap, cur, 0, 0, by rw [u8s_len]; exact h1, h3, Or.inr rfl, by rw [u8s_len]; exact h4, h5, by omega, by rw [u8s_len]; simpa using h7⟩
theorem OutP.ans {w W : World} {zs : List Int} {a : Option Addr} {n c : Nat} (h : OutP w.heap.size w zs (.slice a n c) W) : Ans w W zs a n c :=
  ⟨h.row, fun b hb => (h.own.lt b hb).1, h.below⟩
theorem OutP.keep {B : Nat} {w W W' : World} {zs : List Int} {v : Value} (h : OutP B w zs v W) (hb : Below W.heap.size W W') : OutP B w zs v W' :=
  ⟨h.own.kept (row := none) ⟨hb.os, hb.tape, hb.output, hb.size, fun k hk _ => hb.block k hk⟩ (by cases v.ownBlock <;> simp), h.below.trans (hb.mono h.le), Nat.le_trans h.le hb.size⟩
theorem OutP.grow {B : Nat} {w W W' : World} {zs zs' : List Int} {v v' : Value} (h : OutP B w zs v W) (hg : W.grownBy W' v.ownBlock) (ho : W'.ownsRow B 5 1 v' zs'.length (u8s zs')) : OutP B w zs' v' W' :=
  ⟨ho, h.below.trans (grown_from hg (fun g e => (h.own.lt g e).1) h.le), Nat.le_trans h.le hg.size⟩
theorem infoU8x : ∃ i, Tryd.prog.info? 5 = some i ∧ i.zero = some (.int .u8 0) ∧ i.size = 1 ∧ i.bytes = 1 := info_three infoU8
/-- what an append may turn: the row's own block; it stays there, or moves to a new one. -/
structure OMov (W : World) (v : Value) (W' : World) (v' : Value) : Prop where
  grown : W.grownBy W' v.ownBlock
  loc : v'.ownBlock = v.ownBlock ∨ ∀ b, v'.ownBlock = some b → W.heap.size ≤ b
theorem OMov.trans {W W1 W2 : World} {v v1 v2 : Value} (h : OMov W v W1 v1) (k : OMov W1 v1 W2 v2) : OMov W v W2 v2 := by
  refine ⟨grown_trans h.grown k.grown h.loc, ?_⟩
  rcases k.loc with e | e
  · rw [e]; exact h.loc
  · exact Or.inr fun b hb => Nat.le_trans h.grown.size (e b hb)
theorem OMov.of_below {W W1 W2 : World} {v v2 : Value} (h : Below W.heap.size W W1) (k : OMov W1 v W2 v2) : OMov W v W2 v2 :=
  ⟨grown_trans ⟨h.os, h.tape, h.output, h.size, fun i hi _ => h.block i hi⟩ k.grown (Or.inl rfl), by
    rcases k.loc with e | e
    · exact Or.inl e
    · exact Or.inr fun b hb => Nat.le_trans h.size (e b hb)⟩
theorem OMov.block {W W' : World} {v v' : Value} (h : OMov W v W' v') {b : Nat} (hb : b < W.heap.size) (hn : v.ownBlock ≠ some b) : W'.heap[b]? = W.heap[b]? := h.grown.block b hb (fun e => hn e.symm)
/-- 'append(v, text...)'. -/
theorem OutP.str {B : Nat} {w W : World} {zs : List Int} {a : Option Addr} {n c : Nat} (h : OutP B w zs (.slice a n c) W) (s : ByteArray) (hl : zs.length + s.size ≤ 140737488355328) (ty : TypeId) :
    ∃ a' n' c' W', (Builtin.append_ #[24, 9] ty #[.slice a n c, .string s]).run Tryd.prog W = .ok (.slice a' n' c') W' ∧ OutP B w (zs ++ nums s) (.slice a' n' c') W' ∧ OMov W (.slice a n c) W' (.slice a' n' c') := by
  obtain ⟨i, hi, hz0, hz1, hz2⟩ := infoU8x
  obtain ⟨v', w', h1, h2, h3, _⟩ := Lib.run_append_own_string (P := Tryd.prog) W B 24 9 ty 5 i Tryd.underlying24 Tryd.underlying9 hi hz0 hz1 hz2 _ zs.length (u8s zs) h.own s (by unfold maxLen; omega) hl h.le
  have hO : OutP B w (zs ++ nums s) v' w' := h.grow h3 (by rw [u8s_app, ← strCells_nums, List.length_append, nums_len]; exact h2)
  have hloc : v'.ownBlock = (Value.slice a n c).ownBlock ∨ ∀ b, v'.ownBlock = some b → W.heap.size ≤ b := by
    rcases h.own.2 with ⟨e1, e2⟩ | ⟨g, cap, cur, e1, e2, e3, e4, e5, e6, e7⟩
    · right
      obtain ⟨v2, w2, k1, k2, _, _⟩ := Lib.run_append_own_string (P := Tryd.prog) W W.heap.size 24 9 ty 5 i Tryd.underlying24 Tryd.underlying9 hi hz0 hz1 hz2 (.slice none 0 0) 0 [] (World.ownsRow_nil W W.heap.size 5 1) s (by unfold maxLen; omega) (by omega) (Nat.le_refl _)
      rw [e1] at h1
      have e := h1.symm.trans k1
      simp only [Result.ok.injEq] at e
      rw [e.1]
      exact fun b hb => (k2.lt b hb).1
    · by_cases hr : zs.length + s.size ≤ cap
      · have k1 := Lib.run_append_room_string (P := Tryd.prog) W 24 9 ty 5 i Tryd.underlying24 Tryd.underlying9 hi hz1 g zs.length cap cur e3 s hr (by omega)
        rw [e1] at h1
        have e := h1.symm.trans k1
        simp only [Result.ok.injEq] at e
        left
        rw [e.1, e1]; rfl
      · right
        have hcell : ∀ j v, (u8s zs)[j]? = some v → W.cell? ((⟨g, 0, none⟩ : Addr).add j) = some v := fun j u hj => h.own.cells (by rw [e1]; rfl) j u hj
        have hcap := growslice_fits (need := zs.length + s.size) (old := cap) (bytes := i.bytes) (by omega) (by rw [hz2]; omega)
        have k1 := Lib.run_append_grow_string (P := Tryd.prog) W 24 9 ty 5 i (.int .u8 0) Tryd.underlying24 Tryd.underlying9 hi hz0 ⟨g, 0, none⟩ zs.length cap (u8s zs) (by rw [hz1, u8s_len]; omega) hcell s (by omega) (by omega) hcap
        rw [e1] at h1
        have e := h1.symm.trans k1
        simp only [Result.ok.injEq] at e
        rw [e.1]
        intro b hb
        simp [Value.ownBlock] at hb
        omega
  obtain ⟨a', c', e⟩ := hO.form
  rw [e] at h1 hO hloc
  exact ⟨a', _, c', w', h1, hO, h3, hloc⟩
/-- 'append(v, part...)'. -/
theorem OutP.part {B : Nat} {w W : World} {zs : List Int} {a : Option Addr} {n c : Nat} (h : OutP B w zs (.slice a n c) W) (pt : Part) (hok : pt.ok W) (hl : zs.length + pt.zs.length ≤ 140737488355328) (ty : TypeId) :
    ∃ a' n' c' W', (Builtin.append_ #[24, 24] ty #[.slice a n c, pt.val]).run Tryd.prog W = .ok (.slice a' n' c') W' ∧ OutP B w (zs ++ pt.zs) (.slice a' n' c') W' ∧ OMov W (.slice a n c) W' (.slice a' n' c') := by
  obtain ⟨i, hi, hz0, hz1, hz2⟩ := infoU8x
  rcases hok.2.2 with he | ⟨b, o, ha, hc⟩
  · have hs : Src Tryd.prog i.size 24 pt.val 0 [] W := by
      obtain ⟨a, c, ps⟩ := pt
      simp only at he
      subst he
      cases a with
      | none => exact Src.ofNil W Tryd.underlying24 c
      | some x => exact Src.ofSlice W Tryd.underlying24 x 0 c [] (by simp) (by simp) (by simp)
    rw [he, List.append_nil]
    have hnc : n ≤ c := by
      rcases h.own.2 with ⟨e1, _⟩ | ⟨g, cap, cur, e1, _, _, e4, _⟩
      · simp only [Value.slice.injEq] at e1; omega
      · simp only [Value.slice.injEq] at e1; omega
    exact ⟨_, _, _, _, run_append_nothing W _ _ _ _ i Tryd.underlying24 hi _ _ _ hnc _ hs, h, grown_refl _ _, Or.inl rfl⟩
  · obtain ⟨v2, w2, k1, _, k3, k4⟩ := append_part h.row pt hok hl ty
    have hv : pt.val = .slice (some ⟨b, o, none⟩) pt.zs.length pt.c := by unfold Part.val; rw [ha]
    rw [hv] at k1 ⊢
    obtain ⟨v', w', h1, h2, h3, _⟩ := run_append_own (P := Tryd.prog) W B 24 ty 5 i (.int .u8 0) 1 1 Tryd.underlying24 hi hz0 hz1 hz2 rfl (by decide) _ zs.length (u8s zs) h.own ⟨b, o, none⟩ pt.zs.length pt.c (u8s pt.zs) (by simp [u8s_len]) (part_news hc) (u8s_one _) (by unfold maxLen; omega) (by omega) h.le
    have e0 := k1.symm.trans h1
    simp only [Result.ok.injEq] at e0
    obtain ⟨rfl, rfl⟩ := e0
    have hO : OutP B w (zs ++ pt.zs) v2 w2 := h.grow h3 (by rw [u8s_app, List.length_append]; exact h2)
    obtain ⟨a', c', e⟩ := hO.form
    rw [e] at h1 hO k4
    exact ⟨a', _, c', w2, h1, hO, h3, k4⟩
/-- bytes that the caller has just made behind it. -/
theorem OutP.made {B : Nat} {w W : World} {zs : List Int} {a : Option Addr} {n c : Nat} (h : OutP B w zs (.slice a n c) W) (ys : List Int) (hy : ∀ z, z ∈ ys → 0 ≤ z ∧ z ≤ 255) (h0 : ys ≠ []) (hl : zs.length + ys.length ≤ 140737488355328) (ty : TypeId) :
    ∃ a' n' c' W', (Builtin.append_ #[24, 24] ty #[.slice a n c, .slice (some ⟨W.heap.size, 0, none⟩) ys.length ys.length]).run Tryd.prog (W.alloc (.cells (u8s ys).toArray 5)) = .ok (.slice a' n' c') W' ∧ OutP B w (zs ++ ys) (.slice a' n' c') W' ∧ OMov W (.slice a n c) W' (.slice a' n' c') := by
  have hb := bpush (Below.refl W.heap.size W) (.cells (u8s ys).toArray 5)
  obtain ⟨a', n', c', W', h1, h2, h3⟩ := (h.keep hb).part ⟨some ⟨W.heap.size, 0, none⟩, ys.length, ys⟩ (Part.of_row (heap_new W _) (Nat.le_refl _) hy) hl ty
  exact ⟨a', n', c', W', h1, h2, OMov.of_below hb h3⟩
set_option maxRecDepth 20000 in
set_option maxHeartbeats 1000000 in
theorem withNumber_any {B : Nat} {w W : World} {zs : List Int} {a : Option Addr} {n c : Nat} (x : Int) (hx : 0 ≤ x ∧ x ≤ 65535) (h : OutP B w zs (.slice a n c) W) (hl : zs.length ≤ 100000) :
    Calls Tryd.prog 32 #[.slice a n c, .int .i64 x] W fun e w' => ∃ a' n' c', e = .returned (.slice a' n' c') ∧ Hid (OutP B w (zs ++ op2 x) (.slice a' n' c') w' ∧ OMov W (.slice a n c) w' (.slice a' n' c')) := by
  have HP := hid (put2_any x W hx.1 (by omega))
  obtain ⟨a', n', c', W', hrun, hO⟩ := h.made (op2 x) (op2_bd x) (by simp [op2]) (by simp only [op2, List.length_cons, List.length_nil]; omega) 24
  have hl2 : (op2 x).length = 2 := rfl
  rw [hl2] at hrun
  have HR := hid hrun
  have hwx : IntKind.u64.wrap x = x := by simp only [IntKind.wrap_u64]; omega
  clear hrun hl2 h
  go_enter Tryd.func32, Tryd.ntmps32
  go_wp2_with (first
    | (go_at_call 29; refine HP.out.mono ?_; rintro e w2 ⟨rfl, rfl⟩)
    | (at_builtin; refine wpList_append_run _ rfl _ _ _ _ rfl _ _ rfl rfl HR.out ?_)
    | fail)
  go_ret
  exact ⟨a', n', c', rfl, hO⟩
set_option maxRecDepth 20000 in
set_option maxHeartbeats 1000000 in
theorem withText_any {B : Nat} {w W : World} {zs : List Int} {a : Option Addr} {n c : Nat} (s : ByteArray) (h : OutP B w zs (.slice a n c) W) (hl : zs.length + s.size ≤ 200000) :
    Calls Tryd.prog 30 #[.slice a n c, .string s] W fun e w' => ∃ a' n' c', e = .returned (.slice a' n' c') ∧ Hid (OutP B w (zs ++ nums s ++ [0]) (.slice a' n' c') w' ∧ OMov W (.slice a n c) w' (.slice a' n' c')) := by
  obtain ⟨a1, n1, c1, W1, hrun1, hO1, hM1⟩ := h.str s (by omega) 24
  have HR1 := hid hrun1
  obtain ⟨a2, n2, c2, W2, hrun2, hO2, hM2⟩ := hO1.made [0] (by simp) (by simp) (by rw [List.length_append, nums_len]; simp; omega) 24
  have HR2 := hid hrun2
  have HO2 := hid (And.intro hO2 (hM1.trans hM2))
  clear hrun1 hO1 h hrun2 hO2 hM1 hM2
  go_enter Tryd.func30, Tryd.ntmps30
  go_wp2_with (first
    | (at_builtin; refine wpList_append_run _ rfl _ _ _ _ rfl _ _ rfl rfl HR1.out ?_; clear HR1)
    | (at_builtin; refine wpList_append_run _ rfl _ _ _ _ rfl _ _ rfl rfl HR2.out ?_)
    | fail)
  go_ret
  exact ⟨a2, n2, c2, rfl, HO2⟩
theorem itoa_any (v : Int) (hv : 0 ≤ v ∧ v ≤ 2147483647) (w : World) (h : Env w) :
    Calls Tryd.prog 62 #[.int .i64 v] w fun e w' => e = .returned (.string (strOfNums (decB v.toNat))) ∧ Below w.heap.size w w' := by
  have C := Tryd.strconv_Itoa v (by omega) (by omega) w h.pow
  refine C.mono ?_
  rintro e w' ⟨rfl, k, os, rfl⟩
  have e1 : v = ((v.toNat : Nat) : Int) := by omega
  refine ⟨by rw [← itoa_str v.toNat, ← e1], ?_⟩
  exact Lib.below_grow _ _ (Nat.le_refl _) _ _
set_option maxRecDepth 20000 in
set_option maxHeartbeats 4000000 in
theorem withChoices_any {w W : World} {zs : List Int} {a : Option Addr} {n c : Nat} (l : List Ch) (la : Option Addr) (ln lc : Nat) (hE : Env w) (hV : ChV w la l) (hn : ln = l.length) (hok : chOk l l.length = true) (h : OutP w.heap.size w zs (.slice a n c) W) (hl : zs.length ≤ 1000) :
    Calls Tryd.prog 31 #[.slice a n c, .slice la ln lc] W fun e w' => ∃ a' n' c', e = .returned (.slice a' n' c') ∧ Hid (OutP w.heap.size w (zs ++ chsB l) (.slice a' n' c') w') := by
  have HE := hid hE
  have HV := hid hV
  have HN := hid hn
  have HOK := hid hok
  have HO := hid h
  have h3 : ln ≤ 3 := by have := chOk_3 hok (Nat.le_refl _); omega
  have HM : Hid (∀ (k : Nat) (y : Ch), l[k]? = some y → y.nm.size ≤ 10 ∧ (strOfNums (decB y.v.toNat)).size ≤ 10 ∧ 0 ≤ y.v ∧ y.v ≤ 2147483647) := fun k y hy => by
    have h1 := chOk_mem hok y (List.mem_of_getElem? hy)
    refine ⟨?_, by rw [strOfNums_size]; exact decB_len10 (by omega), h1.2⟩
    have h2 := h1.1
    simp only [knownB, Bool.or_eq_true, decide_eq_true_eq] at h2
    rcases h2 with (h | h) | h <;> rw [h] <;> decide
  have HT : Hid (∀ (k : Nat) (y : Ch), l[k]? = some y → zs ++ chsB (l.take (k + 1)) = ((zs ++ chsB (l.take k) ++ nums y.nm ++ [0]) ++ nums (strOfNums (decB y.v.toNat)) ++ [0])) := fun k y hy => by
    rw [List.take_add_one, hy]
    unfold chsB
    rw [List.flatMap_append, nums_str (fun z hz => by have := decB_bd _ z hz; omega)]
    simp [chB]
  have HL : Hid (∀ k, k ≤ ln → (zs ++ chsB (l.take k)).length ≤ 1000 + k * 22) := fun k hk => by
    have h1 := chsB_len (l.take k) (fun c hc => chOk_mem hok c (List.mem_of_mem_take hc))
    rw [List.length_take] at h1
    rw [List.length_append]
    have : min k l.length = k := by omega
    rw [this] at h1; omega
  clear hE hV hn hok h
  go_enter Tryd.func31, Tryd.ntmps31
  go_wp2_with fail
  go_loopw [0, 9] (fun vb vi wr => ∃ (k : Nat) (ra : Option Addr) (rn rc : Nat), vb = .slice ra rn rc ∧ vi = .int .i64 k ∧ k ≤ ln ∧ Hid (OutP w.heap.size w (zs ++ chsB (l.take k)) (.slice ra rn rc) wr)) (fun _ vi _ => ln - (intOfT vi).toNat)
  case atStart => exact ⟨0, a, n, c, rfl, rfl, Nat.zero_le _, by unfold Hid; simpa [chsB] using HO.out⟩
  case round =>
    obtain ⟨k, ra, rn, rc, rfl, rfl, hk, HR⟩ := hrel
    by_cases hkl : k < ln
    · obtain ⟨y, hy⟩ : ∃ y, l[k]? = some y := ⟨_, List.getElem?_eq_getElem (by rw [← HN.out]; omega)⟩
      have HVR := hid (HV.out.below HR.out.below)
      obtain ⟨b, o, rfl, c0, c1⟩ := HVR.out.ent hy
      obtain ⟨m1, m2, m3⟩ := HM.out k y hy
      have hlk := HL.out k hk
      have HTK := hid (HT.out k y hy)
      have hkz : (0 : Int) ≤ (k : Int) := by omega
      have hkn : (k : Int) < (ln : Int) := by omega
      have hbx := bpush (Below.refl wr.heap.size wr) (.cells #[.string y.nm, .int .i64 y.v] 56)
      obtain ⟨wx, hwx⟩ : ∃ wx, wx = wr.alloc (.cells #[.string y.nm, .int .i64 y.v] 56) := ⟨_, rfl⟩
      have HBXC : Hid (wx.heap[wr.heap.size]? = some (.cells #[.string y.nm, .int .i64 y.v] 56 (0, 0))) := by unfold Hid; rw [hwx]; exact heap_new _ _
      rw [← hwx] at hbx
      have HRX := hid (HR.out.keep hbx)
      have C1 := hid (withText_any y.nm HRX.out (by omega))
      have HNE : Hid ((Value.slice ra rn rc).ownBlock ≠ some wr.heap.size) := fun e => by have := (HR.out.own.lt _ e).2; omega
      have HZX : Hid (wr.heap.size < wx.heap.size) := by unfold Hid; rw [hwx]; simp
      obtain ⟨S, hS⟩ : ∃ S, S = strOfNums (decB y.v.toNat) := ⟨_, rfl⟩
      rw [← hS] at HTK m2
      have HS := hid hS
      have HI : Hid (∀ w1, Env w1 → Calls Tryd.prog 62 #[.int .i64 y.v] w1 fun e w' => e = .returned (.string S) ∧ Below w1.heap.size w1 w') := fun w1 he => by rw [hS]; exact itoa_any y.v m3 w1 he
      have HC1 : Hid (∀ (a1 : Option Addr) (n1 c1 : Nat) (w1 : World), OutP w.heap.size w (zs ++ chsB (l.take k) ++ nums y.nm ++ [0]) (.slice a1 n1 c1) w1 ∧ OMov wx (.slice ra rn rc) w1 (.slice a1 n1 c1) → w1.cell? ⟨wr.heap.size, 1, none⟩ = some (.int .i64 y.v) ∧ Env w1) := fun a1 n1 c1 w1 ho =>
        ⟨cell_of_heap (w := w1) ((ho.2.block HZX.out HNE.out).trans HBXC.out) 1, HE.out.below ho.1.below⟩
      have HC2 : Hid (∀ (a1 : Option Addr) (n1 c1 : Nat) (w1 w2 : World), OutP w.heap.size w (zs ++ chsB (l.take k) ++ nums y.nm ++ [0]) (.slice a1 n1 c1) w1 ∧ OMov wx (.slice ra rn rc) w1 (.slice a1 n1 c1) → Below w1.heap.size w1 w2 → Calls Tryd.prog 30 #[.slice a1 n1 c1, .string S] w2 fun e w' => ∃ a' n' c', e = .returned (.slice a' n' c') ∧ Hid (OutP w.heap.size w (zs ++ chsB (l.take (k + 1))) (.slice a' n' c') w')) := fun a1 n1 c1 w1 w2 ho hb => by
        refine (withText_any S (ho.1.keep hb) (by simp only [List.length_append, nums_len, List.length_cons, List.length_nil] at hlk ⊢; omega)).mono ?_
        rintro e w' ⟨a', n', c', rfl, HO⟩
        refine ⟨a', n', c', rfl, ?_⟩
        rw [HTK.out]
        exact HO.out.1
      rw [hwx] at C1 HC1 HC2
      clear hy hbx hwx hS m1 m2 m3 hlk HTK HRX HM HT HL
      go_wp2_with (first
        | (go_at_call 30; with_reducible refine C1.out.mono ?_; rintro e w1 ⟨a1, n1, c1', rfl, HO1⟩; obtain ⟨hc1, he1⟩ := HC1.out _ _ _ _ HO1.out; have CI := hid (HI.out _ he1); clear C1 HC1 he1)
        | (go_at_call 62; with_reducible refine CI.out.mono ?_; rintro e w2 ⟨rfl, hb2⟩; have C2 := hid (HC2.out _ _ _ _ _ HO1.out hb2); clear CI)
        | (go_at_call 30; with_reducible refine C2.out.mono ?_; rintro e w3 ⟨a3, n3, c3, rfl, HO3⟩)
        | fail)
      go_roundw
      case rel => exact ⟨k + 1, a3, n3, c3, rfl, by first | rfl | (congr 1; omega), by omega, HO3⟩
      case measure => simp only [intOfT]; omega
    · obtain rfl : k = ln := by omega
      clear hkl
      go_wp2_with fail
      go_ret
      exact ⟨ra, rn, rc, rfl, by unfold Hid; have := HR.out; rwa [List.take_of_length_le (by rw [← HN.out]; exact Nat.le_refl _)] at this⟩
end Go.Proofs.YtdcppiknomoigaaDoor
