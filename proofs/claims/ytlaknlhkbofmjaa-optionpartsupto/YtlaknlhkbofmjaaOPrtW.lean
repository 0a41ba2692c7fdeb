/-
  The walk of OptionParts.
-/
import Derived.Test.YtlaknlhkbofmjaaOLive
import Derived.Test.YtlaknlhkbofmjaaOSame
import Derived.Test.YtlaknlhkbofmjaaOOpn
import Derived.Test.YtlaknlhkbofmjaaOOpen
namespace Go.Proofs.Ytlaknlhkbofmjaa
open Go.RowKit
set_option linter.all false

theorem row_part_ok {w : World} {a : Option Addr} {n c : Nat} {zs : List Int} (h : Row w 5 (.slice a n c) (u8s zs)) (hz : ∀ z, z ∈ zs → 0 ≤ z ∧ z ≤ 255) : Part.ok w ⟨a, c, zs⟩ ∧ n = zs.length := by
  obtain ⟨⟨a', c', zs'⟩, e1, e2, ok⟩ := h.part hz
  simp only [Part.val, Value.slice.injEq] at e1
  simp only at e2
  subst e2
  obtain ⟨rfl, rfl, rfl⟩ := e1
  exact ⟨ok, rfl⟩
/-- parts that are whole are one. -/
theorem parts_one {a b l : List Int} (h1 : openB a = true) (h2 : openB b = true) : parseG [] [a, b, l] = parseG [] [a ++ b ++ l] := by
  have e1 := open_read [] a (b ++ l) h1
  simp only [parseG, List.append_assoc, e1]
  cases readG [] a with
  | error e => rfl
  | ok g1 =>
    simp only
    have e2 := open_read g1 b l h2
    rw [e2]
    cases readG g1 b with
    | error e => rfl
    | ok g2 => first | rfl | (simp only; cases readG g2 l <;> rfl)
theorem pv_of {W : World} {g : Nat} {ps : List Part} (h : W.heap[g]? = some (.cells (ps.map Part.val).toArray 41 (0, 0))) (hok : ∀ p ∈ ps, p.ok W) : PV W (some ⟨g, 0, none⟩) ps := by
  refine ⟨fun i p hp => ⟨g, 0, rfl, ?_⟩, hok⟩
  rw [Nat.zero_add, cell_of_heap h, List.getElem?_toArray, List.getElem?_map, hp]
  rfl
set_option maxRecDepth 20000 in
set_option maxHeartbeats 4000000 in
theorem optionParts_walk (pa pb pl : Part) (W : World) (ok0 : pa.ok W) (ok1 : pb.ok W) (ok2 : pl.ok W) (le0 : pa.zs.length ≤ 1048576) (le1 : pb.zs.length ≤ 1048576) (le2 : pl.zs.length ≤ 1048576) :
    Calls Try.prog 4 #[pa.val, pb.val, pl.val] W fun e w' => e = .returned (.bool true) ∧ Below W.heap.size W w' := by
  have HO0 := hid ok0
  have HO1 := hid ok1
  have HO2 := hid ok2
  obtain ⟨aa, ac, az⟩ := pa
  obtain ⟨ba, bc, bz⟩ := pb
  obtain ⟨la, lc, lz⟩ := pl
  clear ok0 ok1 ok2
  simp only [Part.val] at *
  have CO1 := fun (wx : World) (hw : Below W.heap.size W wx) => open_any ⟨aa, ac, az⟩ wx (Part.ok_below HO0.out hw) (by simp only; omega)
  have CO2 := fun (wx : World) (hw : Below W.heap.size W wx) => open_any ⟨ba, bc, bz⟩ wx (Part.ok_below HO1.out hw) (by simp only; omega)
  simp only [Part.val] at CO1 CO2
  go_enter Try.func4, Try.ntmps4
  go_wp2_with fail
  refine (awake_any W).mono ?_
  rintro e w1 ⟨rfl, HB1⟩
  go_wp2_with fail
  refine (CO1 w1 HB1.out).mono ?_
  rintro e wx ⟨rfl, rfl⟩
  go_wp2_with fail
  refine (CO2 wx HB1.out).mono ?_
  rintro e wy ⟨rfl, rfl⟩
  clear CO1 CO2
  by_cases h1 : openB az = true
  · by_cases h2 : openB bz = true
    · have HP := hid (parts_one (l := lz) h1 h2)
      rw [h1, h2]
      have b1 := HB1.out
      obtain ⟨a3, c3, w3, r3, R3, B3, F3⟩ := append_nil_part ⟨aa, ac, az⟩ wy (Part.ok_below HO0.out b1) (by simp only; omega) 41
      obtain ⟨a4, c4, w4, r4, R4, B4, F4⟩ := append_row_part R3 wy.heap.size B3.size F3 ⟨ba, bc, bz⟩ (Part.ok_below HO1.out (bstep b1 B3)) (by simp only; omega) 41
      have R4' : Row w4 5 (.slice a4 (az.length + bz.length) c4) (u8s (az ++ bz)) := R4
      obtain ⟨a5, c5, w5, r5, R5, B5, F5⟩ := append_row_part R4' wy.heap.size (Nat.le_trans B3.size B4.size) F4 ⟨la, lc, lz⟩ (Part.ok_below HO2.out (bstep b1 (B3.trans B4))) (by simp; omega) 41
      simp only [Part.val, List.length_append] at r3 r4 r5 R5
      have b5 := bstep b1 ((B3.trans B4).trans B5)
      have hall : ∀ z ∈ az ++ bz ++ lz, 0 ≤ z ∧ z ≤ 255 := fun z hz => by
        rcases List.mem_append.1 hz with hz | hz
        · rcases List.mem_append.1 hz with hz | hz
          · exact HO0.out.1 z hz
          · exact HO1.out.1 z hz
        · exact HO2.out.1 z hz
      have HR3 := hid r3
      have HR4 := hid r4
      have HR5 := hid r5
      have HB5 := hid b5
      have HRW : Hid (Row w5 5 (.slice a5 (az.length + bz.length + lz.length) c5) (u8s (az ++ bz ++ lz))) := R5
      have HALL := hid hall
      have HV6 : Hid (PV (w5.alloc (.cells #[.slice aa az.length ac, .slice ba bz.length bc, .slice la lz.length lc] 41)) (some ⟨w5.heap.size, 0, none⟩) [⟨aa, ac, az⟩, ⟨ba, bc, bz⟩, ⟨la, lc, lz⟩]) := by
        refine pv_of (heap_new w5 _) (fun p hp => ?_)
        have hb6 := bpush b5 (.cells #[.slice aa az.length ac, .slice ba bz.length bc, .slice la lz.length lc] 41)
        simp only [List.mem_cons, List.not_mem_nil, or_false] at hp
        rcases hp with rfl | rfl | rfl
        · exact Part.ok_below HO0.out hb6
        · exact Part.ok_below HO1.out hb6
        · exact Part.ok_below HO2.out hb6
      have CP1 := parse_any (some ⟨w5.heap.size, 0, none⟩) 3 _ _ HV6.out (by simp) (by simp [partsZ, sumB]; omega)
      simp only [partsZ, List.map_cons, List.map_nil, List.length_cons, List.length_nil, Nat.zero_add, Nat.reduceAdd, HP.out] at CP1
      have HTK : Hid (∀ g, parseG [] [az ++ bz ++ lz] = .ok g → Took g ∧ sumO g ≤ sumO [] + sumB [az ++ bz ++ lz]) := parseG_took [az ++ bz ++ lz] [] took_nil (fun p hp => by simp only [List.mem_singleton] at hp; subst hp; exact hall)
      have HSB : Hid (sumB [az ++ bz ++ lz] ≤ 3145728) := hid (by simp [sumB]; omega)
      have hlen : (az ++ bz ++ lz).length = az.length + bz.length + lz.length := by simp; omega
      have HLEN := hid hlen
      have CP2 : ∀ wz : World, Below w5.heap.size w5 wz → Calls Try.prog 9 #[.slice (some ⟨wz.heap.size, 0, none⟩) 1 1] (wz.alloc (.cells #[.slice a5 (az.length + bz.length + lz.length) c5] 41)) fun e w' => ∃ ax n cx, e = .returned (.tuple #[.slice ax n cx, .int .i64 (exR (parseG [] [az ++ bz ++ lz]))]) ∧ Hid (ParseI (wz.alloc (.cells #[.slice a5 (az.length + bz.length + lz.length) c5] 41)) w' (parseG [] [az ++ bz ++ lz]) (.slice ax n cx)) := fun wz hz => by
        have hv : PV (wz.alloc (.cells #[.slice a5 (az.length + bz.length + lz.length) c5] 41)) (some ⟨wz.heap.size, 0, none⟩) [⟨a5, c5, az ++ bz ++ lz⟩] := by
          refine pv_of ?_ (fun p hp => ?_)
          · have := heap_new wz (.cells #[.slice a5 (az.length + bz.length + lz.length) c5] 41)
            rw [this]
            simp only [List.map_cons, List.map_nil, Part.val, hlen]
          · simp only [List.mem_singleton] at hp
            subst hp
            exact (row_part_ok ((R5.below hz).below (bpush (Below.refl _ _) _)) hall).1
        have := parse_any (some ⟨wz.heap.size, 0, none⟩) 1 [⟨a5, c5, az ++ bz ++ lz⟩] _ hv (by simp) (by simp [partsZ, sumB]; omega)
        exact this
      have HCP2 := hid CP2
      clear CP2 r3 R3 B3 F3 r4 R4 B4 F4 R4' r5 R5 B5 F5 b1 b5 hall HV6 HRW HALL h1 h2 hlen HP
      generalize parseG [] [az ++ bz ++ lz] = RR at *
      go_wp2_with (first
        | (at_builtin; refine wpList_append_run _ rfl _ _ _ _ rfl _ _ rfl rfl HR3.out ?_; clear HR3)
        | (at_builtin; refine wpList_append_run _ rfl _ _ _ _ rfl _ _ rfl rfl HR4.out ?_; clear HR4)
        | (at_builtin; refine wpList_append_run _ rfl _ _ _ _ rfl _ _ rfl rfl HR5.out ?_; clear HR5)
        | fail)
      refine CP1.mono ?_
      rintro e w6 ⟨a6, n6, c6, rfl, P6⟩
      have b6 : Below w5.heap.size w5 w6 := by
        obtain ⟨E, h1, h2, h3⟩ := P6.out
        exact bstep (bpush (Below.refl _ _) _) h3
      have HB6 := hid (bstep HB5.out b6)
      have CP6 := HCP2.out w6 b6
      clear CP1 HCP2
      go_wp2_with fail
      refine CP6.mono ?_
      rintro e w7 ⟨a7, n7, c7, rfl, P7⟩
      obtain ⟨E6, o1, o2, o3⟩ := P6.out
      obtain ⟨E7, q1, q2, q3⟩ := P7.out
      have b7 : Below w6.heap.size w6 w7 := bstep (bpush (Below.refl _ _) _) q3
      have HB7 := hid (bstep HB6.out b7)
      have htk : Took (okL RR) ∧ ∀ o ∈ okL RR, o.2.length ≤ 3145728 := by
        cases hr : RR with
        | error x => exact ⟨took_nil, by simp [okL]⟩
        | ok g =>
          obtain ⟨t1, t2⟩ := HTK.out g hr
          refine ⟨t1, fun o ho => ?_⟩
          simp only [okL] at ho
          have := HSB.out
          unfold sumO at t2
          obtain ⟨s, t, hst⟩ := List.append_of_mem ho
          rw [hst] at t2
          simp only [List.map_append, List.map_cons, List.sum_append, List.sum_cons, List.map_nil, List.sum_nil] at t2
          omega
      have view : ∀ {B : Nat} {wz : World} {a : Option Addr} {n c : Nat} {E : List (Opt × Value)}, OwnO B wz (.slice a n c) E → codes E = okL RR → OV wz a (E.map ptOf) ∧ n = E.length := fun {B wz a n c E} ho hc => by
        have hcd : ∀ p ∈ E, p.1 ∈ okL RR := fun p hp => by rw [← hc]; exact List.mem_map.2 ⟨p, hp, rfl⟩
        refine ho.view (fun p hp => by have := htk.2 _ (hcd p hp); omega) ?_ (fun p hp => by have := htk.1.apart.1 _ (hcd p hp); omega)
        have := htk.1.few
        rw [← hc] at this
        simp only [codes, List.length_map] at this
        omega
      obtain ⟨V6, l6⟩ := view (o1.below b7) o2
      obtain ⟨V7, l7⟩ := view q1 q2
      have CS := osame_yes a6 a7 c6 c7 (E6.map ptOf) (E7.map ptOf) w7 V6 V7 (by rw [ptOf_abs, ptOf_abs]; exact o2.trans q2.symm)
      rw [List.length_map, List.length_map, ← l6, ← l7] at CS
      have hee : (exR RR == exR RR) = true := by simp
      clear CP6 P6 P7 o1 o2 o3 q1 q2 q3 b7 b6 htk view V6 V7 l6 l7 HTK
      generalize exR RR = XX at *
      go_wp2_with fail
      refine CS.mono ?_
      rintro e w8 ⟨rfl, B8⟩
      have HB8 := hid (bstep HB7.out B8.out)
      clear CS
      go_wp2
      go_ret
      exact ⟨rfl, HB8.out⟩
    · have h2' : openB bz = false := by simpa using h2
      rw [h1, h2']
      go_wp2
      go_ret
      exact ⟨rfl, HB1.out⟩
  · have h1' : openB az = false := by simpa using h1
    rw [h1']
    go_wp2
    go_ret
    exact ⟨rfl, HB1.out⟩
end Go.Proofs.Ytlaknlhkbofmjaa
