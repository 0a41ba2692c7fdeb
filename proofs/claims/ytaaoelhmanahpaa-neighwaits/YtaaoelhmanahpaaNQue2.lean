/-
  Neigh: New, Clear, question.
-/
import Derived.Test.YtaaoelhmanahpaaNQue
import Derived.Test.YtaaoelhmanahpaaNCopy
import Derived.Test.YtaaoelhmanahpaaBStep
namespace Go.Proofs.Ytaaoelhmanahpaa
open Go.RowKit
set_option linter.all false

set_option maxRecDepth 20000 in
theorem new_no (d : Mac) (n : Int) (w : World) (h : n < 1 ∨ 64 < n) : Calls Try.prog 7 #[d.val, .int .i64 n] w fun e w' => e = .returned (.pointer none) ∧ Below w.heap.size w w' := by
  obtain ⟨m0, m1, m2, m3, m4, m5⟩ := d
  simp only [Mac.val]
  by_cases h1 : n < 1
  · go_enter Try.func7, Try.ntmps7
    go_wp2
    go_ret
    exact ⟨rfl, bpush (Below.refl _ _) _⟩
  · have h2 : 64 < n := by omega
    go_enter Try.func7, Try.ntmps7
    go_wp2
    go_ret
    exact ⟨rfl, bpush (Below.refl _ _) _⟩
def newSt (d : Mac) (n : Int) : St := ⟨d, n, 0, []⟩
set_option maxRecDepth 20000 in
theorem new_yes (d : Mac) (n : Int) (w : World) (hd : d.ok) (h1 : 1 ≤ n) (h2 : n ≤ 64) : Calls Try.prog 7 #[d.val, .int .i64 n] w fun e w' => ∃ c m, e = .returned (.pointer (some ⟨c, 0, none⟩)) ∧ w.heap.size ≤ c ∧ w.heap.size ≤ m ∧ Hid (CaW w' c m (newSt d n) (fun _ => .slice none 0 0)) ∧ Hid (Below w.heap.size w w') := by
  have HD := hid hd
  clear hd
  obtain ⟨m0, m1, m2, m3, m4, m5⟩ := d
  simp only [Mac.val]
  have hmm := @run_makeMap Try.prog
  go_enter Try.func7, Try.ntmps7
  go_wp2
  go_ret
  refine ⟨w.heap.size + 1 + 1, w.heap.size + 1, rfl, by omega, by omega, ⟨?_, ⟨#[], 0, ?_, by simp [newSt], List.Pairwise.nil, by simp [newSt], by simp, by simp⟩, by simp [newSt], by simp [newSt], ⟨HD.out, ⟨h1, h2⟩, by simp [newSt], List.Pairwise.nil, by simp [newSt]; omega, by simp [newSt]⟩⟩, bpush (bpush (bpush (Below.refl _ _) _) _) _⟩
  · have := heap_new ((w.alloc (.cells #[.int .u8 m0, .int .u8 m1, .int .u8 m2, .int .u8 m3, .int .u8 m4, .int .u8 m5] 24)).alloc (.map #[] 0)) (.cells #[.int .u8 m0, .int .u8 m1, .int .u8 m2, .int .u8 m3, .int .u8 m4, .int .u8 m5, .int .i64 n, .int .i64 0, .map (some (w.heap.size + 1))] 76)
    rw [World.size_alloc, World.size_alloc] at this
    exact this
  · rw [heap_old _ _ (by simp)]
    have := heap_new (w.alloc (.cells #[.int .u8 m0, .int .u8 m1, .int .u8 m2, .int .u8 m3, .int .u8 m4, .int .u8 m5] 24)) (.map #[] 0)
    simpa using this
theorem clear_any (c m : Nat) (S : St) (V : Int → Value) (w : World) (x : CaW w c m S V) :
    Calls Try.prog 20 #[.pointer (some ⟨c, 0, none⟩)] w fun e w' => e = .returned (.tuple #[]) ∧ Hid (CaW w' c m { S with L := [] } V) ∧ Hid (Two c m w w') := by
  obtain ⟨_, c6, c7, c8, f7⟩ := x.cells
  obtain ⟨w2, h1, h2, h3⟩ := x.map.wipe 0
  have hcl : ∀ ty, (Builtin.clear_ #[74] ty #[.map (some m)]).run Try.prog w = .ok (.tuple #[]) w2 := fun ty => h1
  have HC : Hid (CaW w2 c m { S with L := [] } V) := ⟨(h3.block c x.ne x.ltc).trans x.box, h2, by simp, by simp, ⟨x.ok.own, x.ok.most, x.ok.now, List.Pairwise.nil, by have := x.ok.most; simp; omega, by simp⟩⟩
  have HT : Hid (Two c m w w2) := Two.of_m h3
  clear x h1 h2 h3
  go_enter Try.func20, Try.ntmps20
  go_wp2
  go_end0
  exact ⟨rfl, HC, HT⟩
/-- an entry laid into the cache. -/
theorem CaW.lay {w : World} {c m : Nat} {S : St} {V : Int → Value} (x : CaW w c m S V) (y : Ab) (hy : y.ok) (a : Option Addr) (n cp : Nat) (hv : Row w 5 (.slice a n cp) (u8s y.zs)) (hap : ∀ z ∈ S.L, z.ip ≠ y.ip → ∀ b, (V z.ip).ownBlock = some b → (Value.slice a n cp).ownBlock ≠ some b) (hlen : ((put S.L y).length : Int) ≤ S.most) :
    ∃ w', (Instr.mapUpdate 74 (.map (some m)) (.int .u32 y.ip) (y.val (.slice a n cp))).run Try.prog w = .ok () w' ∧ CaW w' c m { S with L := put S.L y } (upd V y.ip (.slice a n cp)) ∧ But m w w' := by
  obtain ⟨w', h1, h2, h3⟩ := x.map.put y hy.ip (.slice a n cp)
  have hvm : ∀ b, (Value.slice a n cp).ownBlock = some b → b ≠ m := by
    obtain ⟨es, clock, hm, _⟩ := x.map
    exact row_not_map hv hm
  refine ⟨w', h1, ⟨(h3.block c x.ne x.ltc).trans x.box, h2, fun z hz => ?_, fun z hz u hu hne b hb => ?_, ⟨x.ok.own, x.ok.most, x.ok.now, x.ok.rise.put y, hlen, fun z hz => ?_⟩⟩, h3⟩
  · rcases mem_put.1 hz with rfl | ⟨h4, h5⟩
    · rw [upd_same]; exact hv.but h3 hvm
    · rw [upd_other V _ h5]; exact (x.rows z h4).but h3 (fun b hb => (x.rowc h4 b hb).2)
  · rcases mem_put.1 hz with rfl | ⟨h4, h5⟩
    · rw [upd_same] at hb
      rcases mem_put.1 hu with rfl | ⟨h6, h7⟩
      · exact absurd rfl hne
      · rw [upd_other V _ h7]
        intro hc
        exact hap u h6 h7 b hc hb
    · rw [upd_other V _ h5] at hb
      rcases mem_put.1 hu with rfl | ⟨h6, h7⟩
      · rw [upd_same]
        exact hap z h4 h5 b hb
      · rw [upd_other V _ h7]
        exact x.apart z h4 u h6 hne b hb
  · rcases mem_put.1 hz with rfl | ⟨h4, _⟩
    · exact hy
    · exact x.ok.ents z h4
/-- an entry for which one more question goes out. -/
def queE (S : St) (ip : Int) (x : Ab) : Ab := ⟨ip, aft S.now 10, x.mac, x.q + 1, x.src, x.zs⟩
def queS (S : St) (ip : Int) (x : Ab) : Sd := ⟨everyM, 2054, encL (askP S.own x.src ip)⟩
/-- bytes that are to be sent, in a block of their own. -/
def Fresh (w w' : World) (v : Value) (zs : List Int) : Prop := ∃ g n cap, v = .slice (some ⟨g, 0, none⟩) n cap ∧ w.heap.size ≤ g ∧ Row w' 5 v (u8s zs)
set_option maxRecDepth 40000 in
set_option maxHeartbeats 4000000 in
theorem question_any (c m : Nat) (S : St) (V : Int → Value) (ip : Int) (x : Ab) (a : Option Addr) (n cp : Nat) (w : World) (h : CaW w c m S V) (hq : (queE S ip x).ok) (hv : Row w 5 (.slice a n cp) (u8s x.zs))
    (hap : ∀ z ∈ S.L, z.ip ≠ ip → ∀ b, (V z.ip).ownBlock = some b → (Value.slice a n cp).ownBlock ≠ some b) (hlen : ((put S.L (queE S ip x)).length : Int) ≤ S.most) :
    Calls Try.prog 41 #[.pointer (some ⟨c, 0, none⟩), .int .u32 ip, x.val (.slice a n cp)] w fun e w' => ∃ g, e = .returned ((queS S ip x).val (.slice (some ⟨g, 0, none⟩) 28 28)) ∧ Hid (w.heap.size ≤ g ∧ w'.heap[g]? = some (.cells (u8s (queS S ip x).zs).toArray 5 (0, 0))) ∧ Hid (CaW w' c m { S with L := put S.L (queE S ip x) } (upd V ip (.slice a n cp))) ∧ Hid (Two c m w w') := by
  have HAF := hid (fun (w1 : World) (y : CaW w1 c m S V) => after_any c m S V 10 (by omega) w1 y)
  have hqb := hq.q
  simp only [queE] at hqb
  have HOWN := hid h.ok.own
  have HIP := hid hq.ip
  have HSRC := hid hq.src
  obtain ⟨xi, xu, ⟨b0, b1, b2, b3, b4, b5⟩, xq, xs, xz⟩ := x
  simp only [Ab.val] at *
  have HB := hid (fun (o1 o2 : Obj) => h.below (bpush (bpush (Below.refl w.heap.size w) o1) o2))
  have HBB := hid (fun (o1 o2 : Obj) => bpush (bpush (Below.refl w.heap.size w) o1) o2)
  have HV := hid hv
  have HAP := hid hap
  obtain ⟨⟨e0, e1, e2, e3, e4, e5⟩, c6, c7, c8, f7⟩ := h.cells
  have hcl := h.ltc
  have hmw := h.ltm
  have HQ := hid hq
  have HLEN := hid hlen
  clear h hq hv hap hlen
  go_enter Try.func41, Try.ntmps41
  go_wp2_with (first
    | (go_at_call 64; with_reducible refine (HAF.out _ (HB.out _ _)).mono ?_; rintro e w1 ⟨rfl, hw⟩; subst w1)
    | fail)
  have hC := HB.out (.cells #[.int .i64 (aft S.now 10), .int .u8 b0, .int .u8 b1, .int .u8 b2, .int .u8 b3, .int .u8 b4, .int .u8 b5, .int .i64 (xq + 1), .int .u32 xs, .slice a n cp] 87) (.cells #[.int .u8 0, .int .u8 0, .int .u8 0, .int .u8 0, .int .u8 0, .int .u8 0, .int .i64 0, .slice none 0 0] 59)
  have hBl := HBB.out (.cells #[.int .i64 (aft S.now 10), .int .u8 b0, .int .u8 b1, .int .u8 b2, .int .u8 b3, .int .u8 b4, .int .u8 b5, .int .i64 (xq + 1), .int .u32 xs, .slice a n cp] 87) (.cells #[.int .u8 0, .int .u8 0, .int .u8 0, .int .u8 0, .int .u8 0, .int .u8 0, .int .i64 0, .slice none 0 0] 59)
  have hx : ((w.alloc (.cells #[.int .i64 (aft S.now 10), .int .u8 b0, .int .u8 b1, .int .u8 b2, .int .u8 b3, .int .u8 b4, .int .u8 b5, .int .i64 (xq + 1), .int .u32 xs, .slice a n cp] 87)).alloc (.cells #[.int .u8 0, .int .u8 0, .int .u8 0, .int .u8 0, .int .u8 0, .int .u8 0, .int .i64 0, .slice none 0 0] 59)).heap[w.heap.size]? = some (.cells #[.int .i64 (aft S.now 10), .int .u8 b0, .int .u8 b1, .int .u8 b2, .int .u8 b3, .int .u8 b4, .int .u8 b5, .int .i64 (xq + 1), .int .u32 xs, .slice a n cp] 87 (0, 0)) := (heap_old _ _ (by simp)).trans (heap_new _ _)
  have hz : ((w.alloc (.cells #[.int .i64 (aft S.now 10), .int .u8 b0, .int .u8 b1, .int .u8 b2, .int .u8 b3, .int .u8 b4, .int .u8 b5, .int .i64 (xq + 1), .int .u32 xs, .slice a n cp] 87)).alloc (.cells #[.int .u8 0, .int .u8 0, .int .u8 0, .int .u8 0, .int .u8 0, .int .u8 0, .int .i64 0, .slice none 0 0] 59)).heap[w.heap.size + 1]? = some (.cells #[.int .u8 0, .int .u8 0, .int .u8 0, .int .u8 0, .int .u8 0, .int .u8 0, .int .i64 0, .slice none 0 0] 59 (0, 0)) := by
    have := heap_new (w.alloc (.cells #[.int .i64 (aft S.now 10), .int .u8 b0, .int .u8 b1, .int .u8 b2, .int .u8 b3, .int .u8 b4, .int .u8 b5, .int .i64 (xq + 1), .int .u32 xs, .slice a n cp] 87)) (.cells #[.int .u8 0, .int .u8 0, .int .u8 0, .int .u8 0, .int .u8 0, .int .u8 0, .int .i64 0, .slice none 0 0] 59)
    rw [World.size_alloc] at this
    exact this
  have hvr : Row ((w.alloc (.cells #[.int .i64 (aft S.now 10), .int .u8 b0, .int .u8 b1, .int .u8 b2, .int .u8 b3, .int .u8 b4, .int .u8 b5, .int .i64 (xq + 1), .int .u32 xs, .slice a n cp] 87)).alloc (.cells #[.int .u8 0, .int .u8 0, .int .u8 0, .int .u8 0, .int .u8 0, .int .u8 0, .int .i64 0, .slice none 0 0] 59)) 5 (.slice a n cp) (u8s xz) := HV.out.below hBl
  clear HB HBB HAF e0 e1 e2 e3 e4 e5 c6 c7 c8 f7
  generalize ((w.alloc (.cells #[.int .i64 (aft S.now 10), .int .u8 b0, .int .u8 b1, .int .u8 b2, .int .u8 b3, .int .u8 b4, .int .u8 b5, .int .i64 (xq + 1), .int .u32 xs, .slice a n cp] 87)).alloc (.cells #[.int .u8 0, .int .u8 0, .int .u8 0, .int .u8 0, .int .u8 0, .int .u8 0, .int .i64 0, .slice none 0 0] 59)) = W2 at *
  have hml := hC.ltm
  obtain ⟨⟨e0, e1, e2, e3, e4, e5⟩, c6, c7, c8, f7⟩ := hC.cells
  have hbc : ∀ q, W2.cell? ⟨w.heap.size, q, none⟩ = (#[.int .i64 (aft S.now 10), .int .u8 b0, .int .u8 b1, .int .u8 b2, .int .u8 b3, .int .u8 b4, .int .u8 b5, .int .i64 (xq + 1), .int .u32 xs, .slice a n cp] : Array Value)[q]? := fun q => cell_of_heap hx q
  obtain ⟨w3, hup, hC3, hb3⟩ := CaW.lay (hC.drewN 1) (queE S ip ⟨xi, xu, ⟨b0, b1, b2, b3, b4, b5⟩, xq, xs, xz⟩) HQ.out a n cp hvr HAP.out HLEN.out
  have hup' : (Instr.mapUpdate 74 (.map (some m)) (.int .u32 ip) (.agg #[.int .i64 (aft S.now 10), .int .u8 b0, .int .u8 b1, .int .u8 b2, .int .u8 b3, .int .u8 b4, .int .u8 b5, .int .i64 (xq + 1), .int .u32 xs, .slice a n cp])).run Try.prog W2.drew = .ok () w3 := hup
  have HC3 := hid hC3
  have HT3 : Hid (Two c m w w3) := (Two.of_below hBl).trans ((Two.refl c m W2).drewN 1 |>.trans (Two.of_m hb3))
  have HX3 : Hid (w3.heap[w.heap.size]? = some (.cells #[.int .i64 (aft S.now 10), .int .u8 b0, .int .u8 b1, .int .u8 b2, .int .u8 b3, .int .u8 b4, .int .u8 b5, .int .i64 (xq + 1), .int .u32 xs, .slice a n cp] 87 (0, 0))) := (hb3.block _ (by omega) (heap_lt hx)).trans hx
  have HZ3 : Hid (w3.heap[w.heap.size + 1]? = some (.cells #[.int .u8 0, .int .u8 0, .int .u8 0, .int .u8 0, .int .u8 0, .int .u8 0, .int .i64 0, .slice none 0 0] 59 (0, 0))) := (hb3.block _ (by omega) (heap_lt hz)).trans hz
  clear hup hC hvr hBl hb3 hx hz
  go_region
  all_goals go_wp2_with fail
  clear e0 e1 e2 e3 e4 e5 c6 c7 c8 f7 hbc hml hup'
  obtain ⟨⟨e0, e1, e2, e3, e4, e5⟩, c6, c7, c8, f7⟩ := HC3.out.cells
  simp only at e0 e1 e2 e3 e4 e5 c6 c7 c8
  have hbc : w3.cell? ⟨w.heap.size, 8, none⟩ = some (.int .u32 xs) := by rw [cell_of_heap HX3.out]; rfl
  have hc3 : c < w3.heap.size := HC3.out.ltc
  have hx3 : w.heap.size < w3.heap.size := heap_lt HX3.out
  have HOP : Hid (askP S.own xs ip).ok := ⟨by simp [askP], HOWN.out, HSRC.out, zeroMac_ok, HIP.out⟩
  have HASK := hid (ask_any S.own xs ip)
  have HEV : Hid (Calls Try.prog 65 #[] w3.drew fun e w4 => e = .returned everyM.val ∧ w4.cell? ⟨c, 0, none⟩ = some (.int .u8 S.own.b0) ∧ w4.cell? ⟨c, 1, none⟩ = some (.int .u8 S.own.b1) ∧ w4.cell? ⟨c, 2, none⟩ = some (.int .u8 S.own.b2) ∧ w4.cell? ⟨c, 3, none⟩ = some (.int .u8 S.own.b3) ∧ w4.cell? ⟨c, 4, none⟩ = some (.int .u8 S.own.b4) ∧ w4.cell? ⟨c, 5, none⟩ = some (.int .u8 S.own.b5) ∧ w4.cell? ⟨w.heap.size, 8, none⟩ = some (.int .u32 xs) ∧ Hid (Below w3.heap.size w3 w4)) := (everyone_x w3.drew).mono fun e w4 ⟨h1, h2⟩ => by
    subst h2
    have hK : Below w3.heap.size w3 (w3.drew.alloc (.cells #[.int .u8 255, .int .u8 255, .int .u8 255, .int .u8 255, .int .u8 255, .int .u8 255] 24)) := ⟨rfl, rfl, rfl, by rw [World.size_alloc]; exact Nat.le_succ _, fun k hk => heap_old w3.drew _ hk⟩
    obtain ⟨⟨k0, k1, k2, k3, k4, k5⟩, _⟩ := (HC3.out.below hK).cells
    exact ⟨h1, k0, k1, k2, k3, k4, k5, by rw [cell_of_heap (kept HX3.out hK)]; rfl, hK⟩
  have HMSG := hid (fun (w1 : World) => message_any everyM (askP S.own xs ip) w1 HOP.out rfl)
  clear c6 c7 c8 f7 HV HAP HLEN HQ HOP HX3
  simp only [Mac.val, everyM, Sd.val, Sd.cells] at HASK HMSG HEV
  go_region_with (first
    | (go_at_call 65; refine HEV.out.mono ?_; rintro e w4 ⟨rfl, g0, g1, g2, g3, g4, g5, g8, HK4⟩)
    | (go_at_call 66; refine (HASK.out _).mono ?_; rintro e w5 ⟨rfl, hb5⟩)
    | (go_at_call 48; refine (HMSG.out _).mono ?_; rintro e w6 ⟨g, rfl, hg, hw6, hb6⟩; have HK6 := hid (bstep (bstep HK4.out hb5) hb6); have HG6 := hid (kept HZ3.out HK6.out); have hz6 : ∀ q, w6.cell? ⟨w.heap.size + 1, q, none⟩ = (#[.int .u8 0, .int .u8 0, .int .u8 0, .int .u8 0, .int .u8 0, .int .u8 0, .int .i64 0, .slice none 0 0] : Array Value)[q]? := fun q => cell_of_heap HG6.out q; have hf6 : ∀ q, w6.frozen? ⟨w.heap.size + 1, q, none⟩ = false := fun q => frozen_of_heap HG6.out q)
    | fail)
  all_goals
    have HS := hid (set8 HG6.out (.int .u8 255) (.int .u8 255) (.int .u8 255) (.int .u8 255) (.int .u8 255) (.int .u8 255) (.int .i64 2054) (.slice (some ⟨g, 0, none⟩) 28 28))
    have h45 := hb5.size
    clear hz6 hf6 HG6 g0 g1 g2 g3 g4 g5 g8 hb5 hb6
    generalize ((((((((w6.setCell ⟨w.heap.size + 1, 0, none⟩ (.int .u8 255)).setCell ⟨w.heap.size + 1, 1, none⟩ (.int .u8 255)).setCell ⟨w.heap.size + 1, 2, none⟩ (.int .u8 255)).setCell ⟨w.heap.size + 1, 3, none⟩ (.int .u8 255)).setCell ⟨w.heap.size + 1, 4, none⟩ (.int .u8 255)).setCell ⟨w.heap.size + 1, 5, none⟩ (.int .u8 255)).setCell ⟨w.heap.size + 1, 6, none⟩ (.int .i64 2054)).setCell ⟨w.heap.size + 1, 7, none⟩ (.slice (some ⟨g, 0, none⟩) 28 28)) = w7 at HS ⊢
    go_wp2_with fail
    have hgs : w.heap.size + 1 < w6.heap.size := by have := HS.out.2.size; have := heap_lt HZ3.out; have := HK6.out.size; omega
    have hgn : g ≠ w.heap.size + 1 := by have := HK4.out.size; have := heap_lt HZ3.out; omega
    refine bodyPost_ret (v := .agg #[.int .u8 255, .int .u8 255, .int .u8 255, .int .u8 255, .int .u8 255, .int .u8 255, .int .i64 2054, .slice (some ⟨g, 0, none⟩) 28 28]) ?_ (by rfl) ⟨g, rfl, ⟨by have := HT3.out.size; have := HK4.out.size; omega, keptBut hw6 HS.out.2 hgn⟩, (HC3.out.below HK6.out).keep (HS.out.2.block _ (by omega) (HC3.out.below HK6.out).ltc) (HS.out.2.block _ (by omega) (HC3.out.below HK6.out).ltm) (fun y hy b hb => HS.out.2.block b ((row_not ((HC3.out.below HK6.out).rows y hy) (kept HZ3.out HK6.out) (by decide)) b hb) (((HC3.out.below HK6.out).rows y hy).lt hb)), (HT3.out.trans (Two.of_below HK6.out)).new HS.out.2 (by omega)⟩
    exact results_row1 Try.results41 _ _ (w.heap.size + 1) 59 _ (0, 0) _ rfl HS.out.1 Try.underlying59 rfl (by kernel_rfl)
end Go.Proofs.Ytaaoelhmanahpaa
