/-
  NeighWaits: at, without, hears.
-/
import Derived.Test.YtaaoelhmanahpaaNwA
namespace Go.Proofs.Ytaaoelhmanahpaa
open Go.RowKit
set_option linter.all false

/-- the place of what waits for an address. -/
def atW (ls : List W3) (ip r : Int) : Prop := (r = -1 ∧ ∀ x ∈ ls, x.ip ≠ ip) ∨ ∃ (k : Nat) (x : W3), r = (k : Int) ∧ ls[k]? = some x ∧ x.ip = ip
set_option maxHeartbeats 1000000 in
theorem at_any (B gs : Nat) (ls : List W3) (ms : List Tl) (ip : Int) (w : World) (x : Se B w gs ls ms) (hl : ls.length ≤ 1000) :
    Calls Try.prog 14 #[.pointer (some ⟨gs, 0, none⟩), .int .u32 ip] w fun e w' => ∃ r, e = .returned (.int .i64 r) ∧ Hid (atW ls ip r) ∧ w' = w := by
  obtain ⟨al, cl, am, cm, x⟩ := x
  have HX := hid x
  have c0 := x.c0
  obtain ⟨L, hL⟩ : ∃ L, L = ls.length := ⟨_, rfl⟩
  rw [← hL] at c0 hl
  have HL := hid hL
  clear x hL
  go_enter Try.func14, Try.ntmps14
  go_wp2_with fail
  go_loop [5] (fun vi => ∃ (k : Nat), vi = .int .i64 k ∧ k ≤ L ∧ Hid (∀ (j : Nat) (y : W3), j < k → ls[j]? = some y → y.ip ≠ ip)) (fun vi => L - (intOf6 vi).toNat)
  case atStart => exact ⟨0, rfl, Nat.zero_le _, fun j y hj => by omega⟩
  case round =>
    obtain ⟨k, rfl, hk, HN⟩ := hrel
    by_cases hkl : k < L
    · obtain ⟨y, hy⟩ : ∃ y, ls[k]? = some y := ⟨_, List.getElem?_eq_getElem (by rw [← HL.out]; omega)⟩
      obtain ⟨g, rfl, hc0, hc1, hc2⟩ := HX.out.ent hy
      clear hc0 hc2
      have HY := hid hy
      clear hy
      by_cases he : y.ip = ip
      · have HE : Hid (atW ls ip k) := Or.inr ⟨k, y, rfl, HY.out, he⟩
        have heb : (y.ip == ip) = true := by simpa using he
        clear he
        go_wp2_with fail
        go_ret
        exact ⟨k, rfl, HE, rfl⟩
      · have heb : (y.ip == ip) = false := by simpa using he
        have HE : Hid (∀ (j : Nat) (z : W3), j < k + 1 → ls[j]? = some z → z.ip ≠ ip) := fun j z hj hz => by
          by_cases hjk : j < k
          · exact HN.out j z hjk hz
          · have : j = k := by omega
            subst this
            rw [HY.out] at hz
            simp at hz; subst hz; exact he
        clear he
        go_wp2_with fail
        go_round
        case rel => exact ⟨k + 1, by first | rfl | (congr 1; omega), by omega, HE⟩
        case measure => simp only [intOf6]; omega
    · have HE : Hid (atW ls ip (-1)) := Or.inl ⟨rfl, fun z hz => by
        obtain ⟨j, hj, rfl⟩ := List.getElem_of_mem hz
        exact HN.out j _ (by rw [← HL.out] at hj; omega) (List.getElem?_eq_getElem hj)⟩
      go_wp2_with fail
      go_ret
      exact ⟨-1, rfl, HE, rfl⟩
theorem erase_take1 {l : List W3} {i : Nat} {y : W3} (hy : l[i]? = some y) (k : Nat) : (l.take (i + 1)).eraseIdx k = (l.take i).eraseIdx k ++ (if i = k then [] else [y]) := by
  have hi : i < l.length := (List.getElem?_eq_some_iff.1 hy).1
  have hlen : (l.take i).length = i := by simp; omega
  rw [List.take_add_one, hy]
  simp only [Option.toList_some]
  by_cases h : i = k
  · subst h
    rw [if_pos rfl, List.append_nil, List.eraseIdx_append_of_length_le (by omega), hlen, Nat.sub_self]
    rw [show (l.take i).eraseIdx i = l.take i from List.eraseIdx_of_length_le (by omega)]
    simp
  · rw [if_neg h]
    by_cases h2 : k < i
    · rw [List.eraseIdx_append_of_lt_length (by omega)]
    · rw [List.eraseIdx_append_of_length_le (by omega), hlen, show (l.take i).eraseIdx k = l.take i from List.eraseIdx_of_length_le (by omega)]
      rw [List.eraseIdx_of_length_le (by simp; omega)]
set_option maxHeartbeats 1000000 in
theorem without_any (B gs : Nat) (ls : List W3) (ms : List Tl) (k0 : Nat) (w : World) (x : Se B w gs ls ms) (hl : ls.length ≤ 1000) :
    Calls Try.prog 44 #[.pointer (some ⟨gs, 0, none⟩), .int .i64 k0] w fun e w' => e = .returned (.tuple #[]) ∧ Hid (Se B w' gs (ls.eraseIdx k0) ms) ∧ Hid (Sk B w w') := by
  obtain ⟨al, cl, am, cm, x⟩ := x
  have HX := hid x
  obtain ⟨L, hL⟩ : ∃ L, L = ls.length := ⟨_, rfl⟩
  rw [← hL] at hl
  have HL := hid hL
  clear x hL
  go_enter Try.func44, Try.ntmps44
  go_wp2_with fail
  go_loopw [4, 5] (fun vo vi wr => ∃ (ao : Option Addr) (no k co : Nat), vo = .slice ao no co ∧ vi = .int .i64 k ∧ k ≤ L ∧ no ≤ k ∧ Hid (RowB 57 3 w wr ao no co (w3s ((ls.take k).eraseIdx k0)))) (fun _ vi _ => L - (intOf6 vi).toNat)
  case atStart => exact ⟨none, 0, 0, 0, rfl, rfl, Nat.zero_le _, Nat.le_refl _, RowB.void _ _ _⟩
  case round =>
    obtain ⟨ao, no, k, co, rfl, rfl, hk, hno, HO⟩ := hrel
    have HXR := hid (HX.out.below HO.out.below)
    have c0 := HXR.out.c0
    rw [← HL.out] at c0
    by_cases hkl : k < L
    · obtain ⟨y, hy⟩ : ∃ y, ls[k]? = some y := ⟨_, List.getElem?_eq_getElem (by rw [← HL.out]; omega)⟩
      obtain ⟨g, rfl, e0, e1, e2⟩ := HXR.out.ent hy
      have HT := hid (erase_take1 hy k0)
      by_cases he : k = k0
      · have HE : Hid (RowB 57 3 w wr ao no co (w3s ((ls.take (k + 1)).eraseIdx k0))) := by
          rw [HT.out, if_pos he, List.append_nil]; exact HO.out
        have heb : ((k : Int) != (k0 : Int)) = false := by simp [he]
        clear he hy HO HXR
        go_wp2_with fail
        go_roundw
        case rel => exact ⟨ao, no, k + 1, co, rfl, by first | rfl | (congr 1; omega), by omega, by omega, HE⟩
        case measure => simp only [intOf6]; omega
      · obtain ⟨a', cp', w7, hrun, HR7⟩ := HO.out.w3 (Below.refl _ _) y (by omega)
        have HE : Hid (RowB 57 3 w w7 a' (no + 1) cp' (w3s ((ls.take (k + 1)).eraseIdx k0))) := by
          rw [HT.out, if_neg he]; exact HR7.out
        have heb : ((k : Int) != (k0 : Int)) = true := by simp; omega
        clear he hy HO HXR HR7
        go_wp2_with (first
          | (at_builtin; refine wpList_append_run _ rfl _ _ _ _ rfl _ _ rfl rfl hrun ?_)
          | fail)
        go_roundw
        case rel => exact ⟨a', no + 1, k + 1, cp', rfl, by first | rfl | (congr 1; omega), by omega, by omega, HE⟩
        case measure => simp only [intOf6]; omega
    · have HO2 : Hid (RowB 57 3 w wr ao no co (w3s (ls.eraseIdx k0))) := by
        have := HO.out
        rw [List.take_of_length_le (by rw [← HL.out]; omega)] at this
        exact this
      have hn : no = (ls.eraseIdx k0).length := by
        have h1 := HO2.out.row.1
        rw [w3s_len] at h1
        omega
      have HF := hid (HX.out.setl hn HO2.out)
      have f0 : wr.frozen? ⟨gs, 0, none⟩ = false := frozen_of_heap HXR.out.box 0
      clear HO hn
      go_wp2_with fail
      go_end0
      exact ⟨rfl, HF.out.1, HF.out.2⟩
def hearF (ms : List Tl) (p : Arp) : List Tl := ms.filter (fun x => x.ip != p.si) ++ [⟨p.si, p.s⟩]
theorem filt_take1 {l : List Tl} {i : Nat} {y : Tl} (hy : l[i]? = some y) (ip : Int) : (l.take (i + 1)).filter (fun x => x.ip != ip) = (l.take i).filter (fun x => x.ip != ip) ++ (if y.ip = ip then [] else [y]) := by
  rw [List.take_add_one, hy, List.filter_append]
  by_cases h : y.ip = ip <;> simp [h]
set_option maxRecDepth 20000 in
set_option maxHeartbeats 2000000 in
theorem hears_any (B gs : Nat) (ls : List W3) (ms : List Tl) (p : Arp) (w : World) (x : Se B w gs ls ms) (hl : ms.length ≤ 2199023255551) :
    Calls Try.prog 17 #[.pointer (some ⟨gs, 0, none⟩), p.val] w fun e w' => e = .returned (.tuple #[]) ∧ Hid (Se B w' gs ls (hearF ms p)) ∧ Hid (Sk B w w') := by
  obtain ⟨al, cl, am, cm, x⟩ := x
  have HX := hid x
  obtain ⟨L, hL⟩ : ∃ L, L = ms.length := ⟨_, rfl⟩
  rw [← hL] at hl
  have HL := hid hL
  have HHF : Hid (∃ l', l' = hearF ms p) := ⟨_, rfl⟩
  obtain ⟨l', hl'⟩ := HHF.out
  rw [← hl']
  have HH := hid hl'
  clear x hL HHF hl'
  obtain ⟨o, ⟨s0, s1, s2, s3, s4, s5⟩, si, ⟨d0, d1, d2, d3, d4, d5⟩, di⟩ := p
  simp only [Arp.val]
  go_enter Try.func17, Try.ntmps17
  go_wp2_with fail
  have HBX := hid (heap_new w (.cells #[.int .i64 o, .int .u8 s0, .int .u8 s1, .int .u8 s2, .int .u8 s3, .int .u8 s4, .int .u8 s5, .int .u32 si, .int .u8 d0, .int .u8 d1, .int .u8 d2, .int .u8 d3, .int .u8 d4, .int .u8 d5, .int .u32 di] 42))
  have HB0 := hid (bpush (Below.refl w.heap.size w) (.cells #[.int .i64 o, .int .u8 s0, .int .u8 s1, .int .u8 s2, .int .u8 s3, .int .u8 s4, .int .u8 s5, .int .u32 si, .int .u8 d0, .int .u8 d1, .int .u8 d2, .int .u8 d3, .int .u8 d4, .int .u8 d5, .int .u32 di] 42))
  generalize w.alloc (.cells #[.int .i64 o, .int .u8 s0, .int .u8 s1, .int .u8 s2, .int .u8 s3, .int .u8 s4, .int .u8 s5, .int .u32 si, .int .u8 d0, .int .u8 d1, .int .u8 d2, .int .u8 d3, .int .u8 d4, .int .u8 d5, .int .u32 di] 42) = W at *
  go_loopw [4, 5] (fun vo vi wr => ∃ (ao : Option Addr) (no k co : Nat), vo = .slice ao no co ∧ vi = .int .i64 k ∧ k ≤ L ∧ no ≤ k ∧ Hid (RowB 96 7 W wr ao no co (tls ((ms.take k).filter fun x => x.ip != si)))) (fun _ vi _ => L - (intOf6 vi).toNat)
  case atStart => exact ⟨none, 0, 0, 0, rfl, rfl, Nat.zero_le _, Nat.le_refl _, RowB.void _ _ _⟩
  case round =>
    obtain ⟨ao, no, k, co, rfl, rfl, hk, hno, HO⟩ := hrel
    have HXR := hid ((HX.out.below HB0.out).below HO.out.below)
    have c1 := HXR.out.c1
    rw [← HL.out] at c1
    have HBR := hid (kept HBX.out HO.out.below)
    have p7 : wr.cell? ⟨w.heap.size, 7, none⟩ = some (.int .u32 si) := by rw [cell_of_heap HBR.out]; rfl
    by_cases hkl : k < L
    · obtain ⟨y, hy⟩ : ∃ y, ms[k]? = some y := ⟨_, List.getElem?_eq_getElem (by rw [← HL.out]; omega)⟩
      obtain ⟨g, rfl, e0, e1, e2, e3, e4, e5, e6⟩ := HXR.out.tent hy
      have HT := hid (filt_take1 hy si)
      have i0 : (0 : Int) ≤ (k : Int) := by omega
      have i1 : (k : Int) < (L : Int) := by omega
      by_cases he : y.ip = si
      · have HE : Hid (∀ q, RowB 96 7 W (wr.drewN q) ao no co (tls ((ms.take (k + 1)).filter fun x => x.ip != si))) := fun q => by
          rw [HT.out, if_pos he, List.append_nil]; exact HO.out.bel (bdrewN _ q)
        have heb : (y.ip != si) = false := by simp [he]
        clear he hy HO HXR HBR e1 e2 e3 e4 e5 e6
        go_wp2_with (first | go_quiet (fail) | fail)
        go_roundw
        case rel => exact ⟨ao, no, k + 1, co, rfl, by first | rfl | (congr 1; omega), by omega, by omega, HE.out _⟩
        case measure => simp only [intOf6]; omega
      · have HQ := hid (fun q => (HO.out.bel (bdrewN _ q)).tl (Below.refl (wr.drewN q).heap.size (wr.drewN q)) y (by omega))
        have heb : (y.ip != si) = true := by simpa using he
        have HE : Hid (∀ a' cp' w7, RowB 96 7 W w7 a' (no + 1) cp' (tls ((ms.take k).filter (fun x => x.ip != si) ++ [y])) → RowB 96 7 W w7 a' (no + 1) cp' (tls ((ms.take (k + 1)).filter fun x => x.ip != si))) := fun a' cp' w7 h => by
          rw [HT.out, if_neg he]; exact h
        clear he hy HO HXR HBR
        go_wp2_with (first
          | (go_quiet (fail))
          | (at_builtin; obtain ⟨a', cp', w7, hrun, HR7⟩ := HQ.out nq; refine wpList_append_run _ rfl _ _ _ _ rfl _ _ rfl rfl hrun ?_)
          | fail)
        go_roundw
        case rel => exact ⟨a', no + 1, k + 1, cp', rfl, by first | rfl | (congr 1; omega), by omega, by omega, HE.out _ _ _ HR7.out⟩
        case measure => simp only [intOf6]; omega
    · have HO2 : Hid (RowB 96 7 W wr ao no co (tls (ms.filter fun x => x.ip != si))) := by
        have := HO.out
        rw [List.take_of_length_le (by rw [← HL.out]; omega)] at this
        exact this
      obtain ⟨a', cp', w7, hrun, HR7⟩ := HO2.out.tl (Below.refl _ _) ⟨si, ⟨s0, s1, s2, s3, s4, s5⟩⟩ (by omega)
      have hn : no + 1 = l'.length := by
        have h1 := HO2.out.row.1
        rw [tls_len] at h1
        rw [HH.out]
        simp only [hearF, List.length_append, List.length_singleton]
        omega
      have HF : Hid (Se B (w7.setCell ⟨gs, 1, none⟩ (.slice a' (no + 1) cp')) gs ls l' ∧ Sk B w (w7.setCell ⟨gs, 1, none⟩ (.slice a' (no + 1) cp'))) := by
        obtain ⟨h1, h2⟩ := (HX.out.below HB0.out).setm hn (by rw [HH.out]; exact HR7.out)
        exact ⟨h1, (Sk.of_below HB0.out).trans h2⟩
      have f1 : w7.frozen? ⟨gs, 1, none⟩ = false := frozen_of_heap ((HX.out.below HB0.out).below HR7.out.below).box 1
      have c17 : w7.cell? ⟨gs, 1, none⟩ = some (.slice am L cm) := by
        have := ((HX.out.below HB0.out).below HR7.out.below).c1
        rw [← HL.out] at this
        exact this
      have p1 : wr.cell? ⟨w.heap.size, 1, none⟩ = some (.int .u8 s0) := by rw [cell_of_heap HBR.out]; rfl
      have p2 : wr.cell? ⟨w.heap.size, 2, none⟩ = some (.int .u8 s1) := by rw [cell_of_heap HBR.out]; rfl
      have p3 : wr.cell? ⟨w.heap.size, 3, none⟩ = some (.int .u8 s2) := by rw [cell_of_heap HBR.out]; rfl
      have p4 : wr.cell? ⟨w.heap.size, 4, none⟩ = some (.int .u8 s3) := by rw [cell_of_heap HBR.out]; rfl
      have p5 : wr.cell? ⟨w.heap.size, 5, none⟩ = some (.int .u8 s4) := by rw [cell_of_heap HBR.out]; rfl
      have p6 : wr.cell? ⟨w.heap.size, 6, none⟩ = some (.int .u8 s5) := by rw [cell_of_heap HBR.out]; rfl
      clear HO hn HR7 HBR HXR HH
      go_wp2_with (first
        | (at_builtin; refine wpList_append_run _ rfl _ _ _ _ rfl _ _ rfl rfl hrun ?_)
        | fail)
      go_end0
      exact ⟨rfl, HF.out.1, HF.out.2⟩
end Go.Proofs.Ytaaoelhmanahpaa
