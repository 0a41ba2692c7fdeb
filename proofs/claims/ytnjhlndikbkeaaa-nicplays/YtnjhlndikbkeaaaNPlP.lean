/-
  A step of a pair: Poll, and Send.
-/
import Derived.Test.YtnjhlndikbkeaaaNPlJ
import Derived.Test.YtnjhlndikbkeaaaNOrdK
namespace Go.Proofs.Ytnjhlndikbkeaaa
open Go.RowKit
set_option linter.all false

set_option maxRecDepth 20000 in
set_option maxHeartbeats 4000000 in
theorem nstep_send {wB : World} {P : NP} {own : Mac} {n m : Nat} (w : World) (j : Nat) (h : NAll wB w P own n m j) (hj : j < 2199023255552) (ho : own.ok) (ki : Int) (pa : Option Addr) (pl pc : Nat) (d0 d1 d2 d3 d4 d5 sk : Int) (sa : Option Addr) (sl sc : Nat) (hd : (⟨d0, d1, d2, d3, d4, d5⟩ : Mac).ok) (sz : List Int) (hp : Part.ok wB ⟨sa, sc, sz⟩) (hl : sl = sz.length) (hm : sl ≤ 140737488351232) :
    Calls Try.prog 11 #[.pointer (some ⟨P.gp, 0, none⟩), (.agg #[.int .i64 4, .int .i64 ki, .slice pa pl pc, .int .u8 d0, .int .u8 d1, .int .u8 d2, .int .u8 d3, .int .u8 d4, .int .u8 d5, .int .i64 sk, .slice sa sl sc])] w fun e w' => e = .returned (.bool true) ∧ NAll wB w' P own n m (j + 1) := by
  have H1 : Hid (NAll wB (w.alloc (.cells #[.int .i64 4, .int .i64 ki, .slice pa pl pc, .int .u8 d0, .int .u8 d1, .int .u8 d2, .int .u8 d3, .int .u8 d4, .int .u8 d5, .int .i64 sk, .slice sa sl sc] 47)) P own n m j) := by
    obtain ⟨S, N, k, h, hc, hk⟩ := h
    exact ⟨S, N, k, h.below (balloc w _), hc, hk⟩
  have HS := hid (sends_any _ j H1.out hj ho d0 d1 d2 d3 d4 d5 sk hd sa sl sc sz hp hl hm)
  clear h hp hl hd ho H1
  go_enter Try.func11, Try.ntmps11
  go_wp2_with (first
    | (go_at_call 31; refine HS.out.mono ?_; go_loud (rintro e w1 ⟨rfl, H2⟩; replace H2 := hid H2))
    | fail)
  go_ret
  exact ⟨rfl, H2.out⟩
theorem pollF_ok (own : Mac) : ∀ (k : Nat) (S : CS) (N : NS), (∀ (i : Nat) p, S.R[i]? = some p → p.ok) → ∀ zs, zs ∈ (pollF own k S N).1 → zs.length ≤ 1514 ∧ ∀ z, z ∈ zs → 0 ≤ z ∧ z ≤ 255
  | 0, S, N, h, zs, hz => by simp [pollF] at hz
  | k + 1, S, N, h, zs, hz => by
    cases hp : S.R[N.rt]? with
    | none => simp [pollF, hp] at hz
    | some p =>
      obtain ⟨b, ps⟩ := p
      cases b with
      | true => simp [pollF, hp] at hz
      | false =>
        rw [pollF_step own k S N ps hp] at hz
        simp only at hz
        rcases List.mem_append.1 hz with hz | hz
        · split at hz
          · simp at hz
            subst hz
            exact h _ _ hp
          · simp at hz
        · refine pollF_ok own k (S.given N.rt) _ (fun i p hi => ?_) zs hz
          simp only [CS.given] at hi
          by_cases hir : i = N.rt
          · subst hir
            rw [List.getElem?_set_self (List.getElem?_eq_some_iff.1 hp).1] at hi
            simp only [Option.some.injEq] at hi
            subst hi
            simp [Pl.ok]
          · rw [List.getElem?_set_ne (fun e => hir e.symm)] at hi
            exact h i p hi
/-- frames that came out, as guests; those from i on. -/
def Yf (w : World) (v : Value) (fs : List (List Int × Value)) : List (Nat × Obj) := gOf w v ++ fs.flatMap fun p => gOf w p.2
theorem Yf_holds {B : Nat} {w : World} {v : Value} {fs : List (List Int × Value)} (h : Frs B w v fs) : Holds w (Yf w v fs) := by
  refine (gOf_holds fun b hb => (h.lo hb).2.1).app fun t ht => ?_
  obtain ⟨p, hp, ht⟩ := List.mem_flatMap.1 ht
  exact gOf_holds (fun b hb => (h.dat p hp).1.lt hb) t ht
theorem Yf_new {B : Nat} {w : World} {v : Value} {fs : List (List Int × Value)} (h : Frs B w v fs) : ∀ t, t ∈ Yf w v fs → B ≤ t.1 ∧ t.1 < w.heap.size := fun t ht => by
  rcases List.mem_append.1 ht with ht | ht
  · exact ⟨(h.lo (gOf_mem ht).1).1, (h.lo (gOf_mem ht).1).2.1⟩
  · obtain ⟨p, hp, ht⟩ := List.mem_flatMap.1 ht
    exact ⟨(h.dat p hp).2 _ (gOf_mem ht).1, (h.dat p hp).1.lt (gOf_mem ht).1⟩
section
variable {wB w : World} {P : NP} {own : Mac} {n m k : Nat} {S SC SR : CS} {N NC NR : NS} {X : List (Nat × Obj)}
theorem ne_poll (h : NE wB w P own n m S SR N NR k X) (ho : own.ok) (b : Int) (hb : b ≤ 9223372036854775807) (Z : Nat) (hz : N.tk + N.th + free S.R ≤ Z) (hZ : Z < 4611686018427387904) :
    Calls Try.prog 18 #[.pointer (some ⟨P.q, 0, none⟩), .int .i64 b] w fun e w' => ∃ a c fs, e = .returned (.slice a fs.length c) ∧ Hid (fs.map Prod.fst = (pollF own b.toNat S N).1) ∧ Hid (Frs w.heap.size w' (.slice a fs.length c) fs) ∧ Hid (NE wB w' P own n m (pollF own b.toNat S N).2.1 SR (pollF own b.toNat S N).2.2 NR k (Yf w' (.slice a fs.length c) fs ++ X)) := by
  obtain ⟨h1, h2⟩ := h.nicG
  refine (poll_any P.q own P.c P.g P.h n m S N b Z w h1 ho hb hz hZ).mono ?_
  rintro e w' ⟨v, fs, rfl, h3, h4, h5, h6⟩
  obtain ⟨a, c, hv⟩ := h5.form
  subst hv
  exact ⟨a, c, fs, rfl, h3, h5, h2 _ _ w' _ h4 h6 (Yf_holds h5) (fun t ht => (Yf_new h5 t ht).1)⟩
theorem ne_rpoll (h : NE wB w P own n m SC S NC N k X) (ho : own.ok) (b : Int) (hb : b ≤ 9223372036854775807) (Z : Nat) (hz : N.tk + N.th + free S.R ≤ Z) (hZ : Z < 4611686018427387904) :
    Calls Try.prog 28 #[.pointer (some ⟨P.y, 0, none⟩), .int .i64 b] w fun e w' => ∃ a c fs, e = .returned (.slice a fs.length c) ∧ Hid (fs.map Prod.fst = (pollF own b.toNat S N).1) ∧ Hid (Frs w.heap.size w' (.slice a fs.length c) fs) ∧ Hid (NE wB w' P own n m SC (pollF own b.toNat S N).2.1 NC (pollF own b.toNat S N).2.2 k (Yf w' (.slice a fs.length c) fs ++ X)) := by
  obtain ⟨D, L, V, ls, hi, hl⟩ := h
  refine (rpoll_any P.y own D P.x P.rg P.cr P.rh P.ct n m S N b Z w hi.ref ho hb hz hZ).mono ?_
  rintro e w' ⟨v, fs, rfl, h3, h4, h5, h6⟩
  obtain ⟨a, c, hv⟩ := h5.form
  subst hv
  exact ⟨a, c, fs, rfl, h3, h5, D, L, V, ls, hi.with (hi.refTo' h4 (fun k hk => Or.inl hk) h6) (fun k hk => Or.inl hk) (Yf_holds h5) (fun t ht => (Yf_new h5 t ht).1), hl⟩
end
/-- a frame of a list, read in a world that has kept its blocks. -/
theorem Frs.frame {B : Nat} {w W : World} {a : Option Addr} {c : Nat} {fs : List (List Int × Value)} (h : Frs B w (.slice a fs.length c) fs) (i : Nat) (hi : i < fs.length) (h1 : Holds W (gOf w (.slice a fs.length c))) :
    ∃ gl, a = some ⟨gl, 0, none⟩ ∧ ∀ t u, (frL fs[i])[t]? = some u → W.cell? ⟨gl, i * 14 + t, none⟩ = some u := by
  rcases h.row.2 with ⟨_, h0⟩ | ⟨gl, cap, cur, hva, hB, hgl, hnc, hcm, hcs, htk⟩
  · omega
  · simp only [Value.slice.injEq] at hva
    refine ⟨gl, hva.1, fun t u ht => ?_⟩
    have ht14 : t < 14 := by have := (List.getElem?_eq_some_iff.1 ht).1; rwa [frL_len] at this
    have hW : W.heap[gl]? = w.heap[gl]? := gOf_eq h1 (by rw [hva.1]; rfl) (heap_lt hgl)
    rw [cell_of_heap (hW.trans hgl), ← Array.getElem?_toList]
    have h2 : (cur.toList.take (fs.length * 14))[i * 14 + t]? = (fs.flatMap frL)[i * 14 + t]? := by rw [htk]
    rw [List.getElem?_take, if_pos (by omega), flat14 fs i t _ (List.getElem?_eq_getElem hi) ht14] at h2
    rw [h2, ht]
/-- one frame of each list, alike. -/
structure TwoI (W : World) (a b : Option Addr) (i : Nat) (p1 p2 : Value) (zs : List Int) (gl gm : Nat) (d s : Mac) (kk : Int) (a1 : Option Addr) (n1 c1 : Nat) (a2 : Option Addr) (n2 c2 : Nat) (ys : List Int) : Prop where
  av : a = some ⟨gl, 0, none⟩
  bv : b = some ⟨gm, 0, none⟩
  v1 : p1 = .slice a1 n1 c1
  v2 : p2 = .slice a2 n2 c2
  x1 : ∀ t u, (frameC d s kk (.slice a1 n1 c1)).toList[t]? = some u → W.cell? ⟨gl, i * 14 + t, none⟩ = some u
  x2 : ∀ t u, (frameC d s kk (.slice a2 n2 c2)).toList[t]? = some u → W.cell? ⟨gm, i * 14 + t, none⟩ = some u
  r1 : Row W 5 (.slice a1 n1 c1) (u8s ys)
  r2 : Row W 5 (.slice a2 n2 c2) (u8s ys)
theorem two_of {B C : Nat} {w w2 W : World} {a b : Option Addr} {c d : Nat} {fs gs : List (List Int × Value)} (h : Frs B w (.slice a fs.length c) fs) (h2 : Frs C w2 (.slice b gs.length d) gs) (he : fs.map Prod.fst = gs.map Prod.fst) (i : Nat) (hi : i < fs.length) (hi2 : i < gs.length) (k1 : Holds W (gOf w (.slice a fs.length c))) (k2 : Holds W (gOf w2 (.slice b gs.length d))) (k3 : Holds W (gOf w fs[i].2)) (k4 : Holds W (gOf w2 gs[i].2)) (hzb : ∀ z, z ∈ fs[i].1 → 0 ≤ z ∧ z ≤ 255) :
    ∃ gl gm dd s kk a1 n1 c1 a2 n2 c2, TwoI W a b i fs[i].2 gs[i].2 fs[i].1 gl gm dd s kk a1 n1 c1 a2 n2 c2 (openR fs[i].1).ys ∧ dd.ok ∧ s.ok := by
  have hz : gs[i].1 = fs[i].1 := by
    have h3 : (fs.map Prod.fst)[i]? = (gs.map Prod.fst)[i]? := by rw [he]
    simp [hi, hi2] at h3
    exact h3.symm
  obtain ⟨gl, e1, e2⟩ := h.frame i hi k1
  obtain ⟨gm, e3, e4⟩ := h2.frame i hi2 k2
  have q1 := ((h.dat _ (List.getElem_mem hi)).1).guest k3
  have q2 := ((h2.dat _ (List.getElem_mem hi2)).1).guest k4
  rw [hz] at q2
  obtain ⟨a1, c1, v1, _⟩ := q1.form
  obtain ⟨a2, c2, v2, _⟩ := q2.form
  refine ⟨gl, gm, (openR fs[i].1).d, (openR fs[i].1).s, (openR fs[i].1).k, a1, _, c1, a2, _, c2, ⟨e1, e3, v1, v2, fun t u ht => e2 t u ?_, fun t u ht => e4 t u ?_, by rw [← v1]; exact q1, by rw [← v2]; exact q2⟩, (openR_ok _ hzb).1, (openR_ok _ hzb).2.1⟩
  · unfold frL; rw [v1]; exact ht
  · unfold frL; rw [hz, v2]; exact ht
set_option maxRecDepth 20000 in
set_option maxHeartbeats 8000000 in
theorem nstep_poll {wB : World} {P : NP} {own : Mac} {n m : Nat} (w : World) (j : Nat) (h : NAll wB w P own n m j) (hj : j < 2199023255552) (ho : own.ok) (ki : Int) (pa : Option Addr) (pl pc : Nat) (d0 d1 d2 d3 d4 d5 sk : Int) (sa : Option Addr) (sl sc : Nat) (hki : ki ≤ 9223372036854775807) :
    Calls Try.prog 11 #[.pointer (some ⟨P.gp, 0, none⟩), (.agg #[.int .i64 3, .int .i64 ki, .slice pa pl pc, .int .u8 d0, .int .u8 d1, .int .u8 d2, .int .u8 d3, .int .u8 d4, .int .u8 d5, .int .i64 sk, .slice sa sl sc])] w fun e w' => e = .returned (.bool true) ∧ NAll wB w' P own n m (j + 1) := by
  obtain ⟨S, N, k, h, hc, hk⟩ := h
  have htk := hc.tk
  have hsn := hc.sn
  obtain ⟨hA1, hA2, hA3, hA4, hA5⟩ := pollF_all own ki.toNat S N
  have HCN : Hid (Cnt (pollF own ki.toNat S N).2.1 (pollF own ki.toNat S N).2.2 (j + 1)) := ⟨(hA5 j hc.small).mono (Nat.le_succ j), by omega, by omega⟩
  have HKN : Hid (k + (pollF own ki.toNat S N).1.length ≤ (pollF own ki.toNat S N).2.2.tk + ((pollF own ki.toNat S N).2.2.sn + (pollF own ki.toNat S N).2.2.rf)) := by unfold Hid; omega
  have HKB : Hid (k + (pollF own ki.toNat S N).1.length < 4398046511104) := by unfold Hid; omega
  have HNP : Hid (∀ (W : World) (X : List (Nat × Obj)), NE wB W P own n m S S N N k X → Calls Try.prog 18 #[.pointer (some ⟨P.q, 0, none⟩), .int .i64 ki] W fun e w' => ∃ a c fs, e = .returned (.slice a fs.length c) ∧ Hid (fs.map Prod.fst = (pollF own ki.toNat S N).1) ∧ Hid (Frs W.heap.size w' (.slice a fs.length c) fs) ∧ Hid (NE wB w' P own n m (pollF own ki.toNat S N).2.1 S (pollF own ki.toNat S N).2.2 N k (Yf w' (.slice a fs.length c) fs ++ X))) := fun W X q => ne_poll q ho ki hki j htk (by omega)
  have HRP : Hid (∀ (W : World) (X : List (Nat × Obj)) (SC : CS) (NC : NS), NE wB W P own n m SC S NC N k X → Calls Try.prog 28 #[.pointer (some ⟨P.y, 0, none⟩), .int .i64 ki] W fun e w' => ∃ a c fs, e = .returned (.slice a fs.length c) ∧ Hid (fs.map Prod.fst = (pollF own ki.toNat S N).1) ∧ Hid (Frs W.heap.size w' (.slice a fs.length c) fs) ∧ Hid (NE wB w' P own n m SC (pollF own ki.toNat S N).2.1 NC (pollF own ki.toNat S N).2.2 k (Yf w' (.slice a fs.length c) fs ++ X))) := fun W X SC NC q => ne_rpoll q ho ki hki j htk (by omega)
  have H0 : Hid (NE wB (w.alloc (.cells #[.int .i64 3, .int .i64 ki, .slice pa pl pc, .int .u8 d0, .int .u8 d1, .int .u8 d2, .int .u8 d3, .int .u8 d4, .int .u8 d5, .int .i64 sk, .slice sa sl sc] 47)) P own n m S S N N k [(w.heap.size, (.cells #[.int .i64 3, .int .i64 ki, .slice pa pl pc, .int .u8 d0, .int .u8 d1, .int .u8 d2, .int .u8 d3, .int .u8 d4, .int .u8 d5, .int .i64 sk, .slice sa sl sc] 47 (0, 0)))]) := h.push _
  have HG0 : Hid (wB.heap.size ≤ w.heap.size) := h.bel.size
  have HFO : Hid (∀ zs, zs ∈ (pollF own ki.toNat S N).1 → zs.length ≤ 1514 ∧ ∀ z, z ∈ zs → 0 ≤ z ∧ z ≤ 255) := pollF_ok own ki.toNat S N (fun i p hi => plOk' h.nic.1.card.rx hi)
  generalize (pollF own ki.toNat S N).2.1 = SS at *
  generalize (pollF own ki.toNat S N).2.2 = NN at *
  generalize (pollF own ki.toNat S N).1 = FF at *
  have hgl : P.gp < (w.alloc (.cells #[.int .i64 3, .int .i64 ki, .slice pa pl pc, .int .u8 d0, .int .u8 d1, .int .u8 d2, .int .u8 d3, .int .u8 d4, .int .u8 d5, .int .i64 sk, .slice sa sl sc] 47)).heap.size := H0.out.boxP.lt
  have hol : w.heap.size < (w.alloc (.cells #[.int .i64 3, .int .i64 ki, .slice pa pl pc, .int .u8 d0, .int .u8 d1, .int .u8 d2, .int .u8 d3, .int .u8 d4, .int .u8 d5, .int .i64 sk, .slice sa sl sc] 47)).heap.size := by simp
  have HSA : Hid (∀ (W : World) (SC SR : CS) (NC NR : NS) (k' : Nat), NE wB W P own n m SC SR NC NR k' [(w.heap.size, (.cells #[.int .i64 3, .int .i64 ki, .slice pa pl pc, .int .u8 d0, .int .u8 d1, .int .u8 d2, .int .u8 d3, .int .u8 d4, .int .u8 d5, .int .i64 sk, .slice sa sl sc] 47 (0, 0)))] → W.cell? ⟨P.gp, 1, none⟩ = some (.pointer (some ⟨P.q, 0, none⟩)) ∧ W.cell? ⟨P.gp, 3, none⟩ = some (.pointer (some ⟨P.y, 0, none⟩)) ∧ W.cell? ⟨w.heap.size, 1, none⟩ = some (.int .i64 ki)) := fun W SC SR NC NR k' q => ⟨q.boxP.c1, q.boxP.c3, cellHeap (q.ho.at 0 _ _ rfl) 1 rfl⟩
  clear h hc hk htk hsn hA1 hA2 hA3 hA4 hA5 ho
  go_enter Try.func11, Try.ntmps11
  go_wp2_with fail
  generalize w.alloc (.cells #[.int .i64 3, .int .i64 ki, .slice pa pl pc, .int .u8 d0, .int .u8 d1, .int .u8 d2, .int .u8 d3, .int .u8 d4, .int .u8 d5, .int .i64 sk, .slice sa sl sc] 47) = W0 at *
  apply cut4 (H := fun W a c fs => Hid (fs.map Prod.fst = FF ∧ Frs W0.heap.size W (.slice a fs.length c) fs ∧ NE wB W P own n m SS S NN N k (Yf W (.slice a fs.length c) fs ++ [(w.heap.size, (.cells #[.int .i64 3, .int .i64 ki, .slice pa pl pc, .int .u8 d0, .int .u8 d1, .int .u8 d2, .int .u8 d3, .int .u8 d4, .int .u8 d5, .int .i64 sk, .slice sa sl sc] 47 (0, 0)))])))
  · intro hcut
    go_region_held3 (fun x => x.cell? ⟨P.gp, 1, none⟩ = some (.pointer (some ⟨P.q, 0, none⟩)) ∧ x.cell? ⟨P.gp, 3, none⟩ = some (.pointer (some ⟨P.y, 0, none⟩)) ∧ x.cell? ⟨w.heap.size, 1, none⟩ = some (.int .i64 ki)) (first | exact HSA.out _ _ _ _ _ _ (H0.out.drewN 1) | exact HS3.out | go_keep | fail) (first
      | (go_at_call 18; refine (HNP.out _ _ (H0.out.drewN 1)).mono ?_; rintro e w3 ⟨a3, c3, fs3, rfl, E3, F3, H3⟩; have HS3 := hid (HSA.out _ _ _ _ _ _ (H3.out.drop (by simp))); have hcu := hcut w3 a3 c3 fs3 ⟨E3.out, F3.out, H3.out⟩; clear E3 F3 H3)
      | fail)
    all_goals exact hcu
  intro W1 a1 c1 fs HW1
  have E1 := hid HW1.out.1
  have F1 := hid HW1.out.2.1
  have H1 := hid HW1.out.2.2
  clear HW1 H0 HNP
  have q1 := (HSA.out _ _ _ _ _ _ (H1.out.drop (by simp))).2.1
  have q2 := (HSA.out _ _ _ _ _ _ (H1.out.drop (by simp))).2.2
  have hg1 : P.gp < W1.heap.size := H1.out.boxP.lt
  have ho1 : w.heap.size < W1.heap.size := H1.out.ho.lt (p := (w.heap.size, (.cells #[.int .i64 3, .int .i64 ki, .slice pa pl pc, .int .u8 d0, .int .u8 d1, .int .u8 d2, .int .u8 d3, .int .u8 d4, .int .u8 d5, .int .i64 sk, .slice sa sl sc] 47 (0, 0)))) (by simp)
  go_wp2_with fail
  apply cut4 (H := fun W a c gs => Hid (gs.map Prod.fst = FF ∧ Frs W1.heap.size W (.slice a gs.length c) gs ∧ NE wB W P own n m SS SS NN NN k (Yf W (.slice a gs.length c) gs ++ (Yf W1 (.slice a1 fs.length c1) fs ++ [(w.heap.size, (.cells #[.int .i64 3, .int .i64 ki, .slice pa pl pc, .int .u8 d0, .int .u8 d1, .int .u8 d2, .int .u8 d3, .int .u8 d4, .int .u8 d5, .int .i64 sk, .slice sa sl sc] 47 (0, 0)))]))))
  · intro hcut
    go_region_held3 (fun x => x.cell? ⟨P.gp, 1, none⟩ = some (.pointer (some ⟨P.q, 0, none⟩)) ∧ x.cell? ⟨P.gp, 3, none⟩ = some (.pointer (some ⟨P.y, 0, none⟩)) ∧ x.cell? ⟨w.heap.size, 1, none⟩ = some (.int .i64 ki)) (first | exact HSA.out _ _ _ _ _ _ ((H1.out.drewN 1).drop (by simp)) | exact HS3.out | go_keep | fail) (first
      | (go_at_call 28; refine (HRP.out _ _ _ _ (H1.out.drewN 1)).mono ?_; rintro e w3 ⟨a3, c3, fs3, rfl, E3, F3, H3⟩; have HS3 := hid (HSA.out _ _ _ _ _ _ (H3.out.drop (by simp))); have hcu := hcut w3 a3 c3 fs3 ⟨E3.out, F3.out, H3.out⟩; clear E3 F3 H3)
      | fail)
    all_goals exact hcu
  intro W2 a2 c2 gs HW2
  have E2 := hid HW2.out.1
  have F2 := hid HW2.out.2.1
  have HEQ : Hid (fs.map Prod.fst = gs.map Prod.fst) := E1.out.trans E2.out.symm
  have hlen : gs.length = fs.length := by have := congrArg List.length HEQ.out; simpa using this.symm
  have HLEN := hid hlen
  have hll : FF.length = fs.length := by have := congrArg List.length E1.out; simpa using this.symm
  have HLL := hid hll
  /- the guests in the order in which they are let go: the data of the program's frames from i on, then the rest -/
  have H2 : Hid (NE wB W2 P own n m SS SS NN NN (k + 0) (((fs.drop 0).flatMap fun p => gOf W1 p.2) ++ (gOf W1 (.slice a1 fs.length c1) ++ Yf W2 (.slice a2 gs.length c2) gs))) := HW2.out.2.2.drop (fun t ht => by
    simp only [List.drop_zero, Yf, List.mem_append] at ht ⊢
    rcases ht with ht | ht | ht | ht
    · exact Or.inr (Or.inl (Or.inr ht))
    · exact Or.inr (Or.inl (Or.inl ht))
    · exact Or.inl (Or.inl ht)
    · exact Or.inl (Or.inr ht))
  clear HW2 H1 HRP q1 q2 hlen hll
  rw [HLEN.out]
  have HFL : Hid (fs.length < 4398046511104) := by have := HKB.out; have := HLL.out; unfold Hid; omega
  have hflb : fs.length < 4398046511104 := HFL.out
  go_wp2_with fail
  go_loopw [13] (fun iv wr => ∃ i : Nat, i ≤ fs.length ∧ iv = .int .i64 i ∧ Hid (NE wB wr P own n m SS SS NN NN (k + i) (((fs.drop i).flatMap fun p => gOf W1 p.2) ++ (gOf W1 (.slice a1 fs.length c1) ++ Yf W2 (.slice a2 gs.length c2) gs)))) (fun iv _ => fs.length - (intOf iv).toNat)
  case atStart => exact ⟨0, by omega, rfl, H2⟩
  case round =>
    obtain ⟨i, hi, rfl, H⟩ := hrel
    clear H2
    by_cases hlt : i < fs.length
    · have hlt2 : (i : Int) < fs.length := by omega
      have hig : i < gs.length := by rw [HLEN.out]; exact hlt
      have hdrop : fs.drop i = fs[i] :: fs.drop (i + 1) := List.drop_eq_getElem_cons hlt
      have HGU : Hid (∀ W, Holds W (((fs.drop i).flatMap fun p => gOf W1 p.2) ++ (gOf W1 (.slice a1 fs.length c1) ++ Yf W2 (.slice a2 gs.length c2) gs)) → Holds W (gOf W1 (.slice a1 fs.length c1)) ∧ Holds W (gOf W2 (.slice a2 gs.length c2)) ∧ Holds W (gOf W1 fs[i].2) ∧ Holds W (gOf W2 gs[i].2)) := fun W hW => by
        refine ⟨hW.right.left, hW.right.right.left, fun t ht => hW.left t (List.mem_flatMap.2 ⟨fs[i], by rw [hdrop]; exact List.mem_cons_self, ht⟩), fun t ht => hW.right.right.right t (List.mem_flatMap.2 ⟨gs[i], List.getElem_mem hig, ht⟩)⟩
      have HZS : Hid (fs[i].1.length ≤ 1514 ∧ ∀ z, z ∈ fs[i].1 → 0 ≤ z ∧ z ≤ 255) := HFO.out _ (by rw [← E1.out]; exact List.mem_map.2 ⟨fs[i], List.getElem_mem hlt, rfl⟩)
      obtain ⟨gl, gm, ⟨e0, e1, e2, e3, e4, e5⟩, ⟨s0, s1, s2, s3, s4, s5⟩, kk, b1, n1, c3, b2, n2, c4, T, hTd, hTs⟩ : ∃ gl gm dd s kk b1 n1 d1 b2 n2 d2, TwoI wr a1 a2 i fs[i].2 gs[i].2 fs[i].1 gl gm dd s kk b1 n1 d1 b2 n2 d2 (openR fs[i].1).ys ∧ dd.ok ∧ s.ok := by
        obtain ⟨h1, h2, h3, h4⟩ := HGU.out wr H.out.ho
        exact two_of F1.out F2.out HEQ.out i hlt hig h1 h2 h3 h4 HZS.out.2
      have hav := T.av
      have hbv := T.bv
      subst hav hbv
      have HT := hid T
      have HYO : Hid ((∀ z, z ∈ (openR fs[i].1).ys → 0 ≤ z ∧ z ≤ 255) ∧ (openR fs[i].1).ys.length ≤ 1500) := (openR_ok fs[i].1 HZS.out.2).2.2
      have HV1 : Hid (fs[i].2 = .slice b1 n1 c3) := T.v1
      have HPR : Hid (∀ W, Below wr.heap.size wr W → W.cell? ⟨gl, i * 14, none⟩ = some (.int .u8 e0) ∧ W.cell? ⟨gl, i * 14 + 1, none⟩ = some (.int .u8 e1) ∧ W.cell? ⟨gl, i * 14 + 2, none⟩ = some (.int .u8 e2) ∧ W.cell? ⟨gl, i * 14 + 3, none⟩ = some (.int .u8 e3) ∧ W.cell? ⟨gl, i * 14 + 4, none⟩ = some (.int .u8 e4) ∧ W.cell? ⟨gl, i * 14 + 5, none⟩ = some (.int .u8 e5) ∧ W.cell? ⟨gl, i * 14 + 6, none⟩ = some (.int .u8 s0) ∧ W.cell? ⟨gl, i * 14 + 7, none⟩ = some (.int .u8 s1) ∧ W.cell? ⟨gl, i * 14 + 8, none⟩ = some (.int .u8 s2) ∧ W.cell? ⟨gl, i * 14 + 9, none⟩ = some (.int .u8 s3) ∧ W.cell? ⟨gl, i * 14 + 10, none⟩ = some (.int .u8 s4) ∧ W.cell? ⟨gl, i * 14 + 11, none⟩ = some (.int .u8 s5) ∧ W.cell? ⟨gl, i * 14 + 12, none⟩ = some (.int .i64 kk) ∧ W.cell? ⟨gl, i * 14 + 13, none⟩ = some (.slice b1 n1 c3) ∧ W.cell? ⟨gm, i * 14, none⟩ = some (.int .u8 e0) ∧ W.cell? ⟨gm, i * 14 + 1, none⟩ = some (.int .u8 e1) ∧ W.cell? ⟨gm, i * 14 + 2, none⟩ = some (.int .u8 e2) ∧ W.cell? ⟨gm, i * 14 + 3, none⟩ = some (.int .u8 e3) ∧ W.cell? ⟨gm, i * 14 + 4, none⟩ = some (.int .u8 e4) ∧ W.cell? ⟨gm, i * 14 + 5, none⟩ = some (.int .u8 e5) ∧ W.cell? ⟨gm, i * 14 + 6, none⟩ = some (.int .u8 s0) ∧ W.cell? ⟨gm, i * 14 + 7, none⟩ = some (.int .u8 s1) ∧ W.cell? ⟨gm, i * 14 + 8, none⟩ = some (.int .u8 s2) ∧ W.cell? ⟨gm, i * 14 + 9, none⟩ = some (.int .u8 s3) ∧ W.cell? ⟨gm, i * 14 + 10, none⟩ = some (.int .u8 s4) ∧ W.cell? ⟨gm, i * 14 + 11, none⟩ = some (.int .u8 s5) ∧ W.cell? ⟨gm, i * 14 + 12, none⟩ = some (.int .i64 kk) ∧ W.cell? ⟨gm, i * 14 + 13, none⟩ = some (.slice b2 n2 c4)) := fun W hb => ⟨cell_below hb (HT.out.x1 0 _ rfl), cell_below hb (HT.out.x1 1 _ rfl), cell_below hb (HT.out.x1 2 _ rfl), cell_below hb (HT.out.x1 3 _ rfl), cell_below hb (HT.out.x1 4 _ rfl), cell_below hb (HT.out.x1 5 _ rfl), cell_below hb (HT.out.x1 6 _ rfl), cell_below hb (HT.out.x1 7 _ rfl), cell_below hb (HT.out.x1 8 _ rfl), cell_below hb (HT.out.x1 9 _ rfl), cell_below hb (HT.out.x1 10 _ rfl), cell_below hb (HT.out.x1 11 _ rfl), cell_below hb (HT.out.x1 12 _ rfl), cell_below hb (HT.out.x1 13 _ rfl), cell_below hb (HT.out.x2 0 _ rfl), cell_below hb (HT.out.x2 1 _ rfl), cell_below hb (HT.out.x2 2 _ rfl), cell_below hb (HT.out.x2 3 _ rfl), cell_below hb (HT.out.x2 4 _ rfl), cell_below hb (HT.out.x2 5 _ rfl), cell_below hb (HT.out.x2 6 _ rfl), cell_below hb (HT.out.x2 7 _ rfl), cell_below hb (HT.out.x2 8 _ rfl), cell_below hb (HT.out.x2 9 _ rfl), cell_below hb (HT.out.x2 10 _ rfl), cell_below hb (HT.out.x2 11 _ rfl), cell_below hb (HT.out.x2 12 _ rfl), cell_below hb (HT.out.x2 13 _ rfl)⟩
      have HSM : Hid (∀ W, Below wr.heap.size wr W → Calls Try.prog 29 #[.agg #[.int .u8 e0, .int .u8 e1, .int .u8 e2, .int .u8 e3, .int .u8 e4, .int .u8 e5, .int .u8 s0, .int .u8 s1, .int .u8 s2, .int .u8 s3, .int .u8 s4, .int .u8 s5, .int .i64 kk, .slice b1 n1 c3], .agg #[.int .u8 e0, .int .u8 e1, .int .u8 e2, .int .u8 e3, .int .u8 e4, .int .u8 e5, .int .u8 s0, .int .u8 s1, .int .u8 s2, .int .u8 s3, .int .u8 s4, .int .u8 s5, .int .i64 kk, .slice b2 n2 c4]] W fun e w' => e = .returned (.bool true) ∧ Below W.heap.size W w') := fun W hb => same_any ⟨e0, e1, e2, e3, e4, e5⟩ ⟨s0, s1, s2, s3, s4, s5⟩ kk _ b1 n1 c3 b2 n2 c4 W hTd hTs HYO.out.1 (HT.out.r1.below hb) (HT.out.r2.below hb)
      have hll1 : gl < wr.heap.size := World.block_lt_of_cell? wr _ (HT.out.x1 0 _ rfl)
      have hll2 : gm < wr.heap.size := World.block_lt_of_cell? wr _ (HT.out.x2 0 _ rfl)
      have hig2 : (i : Int) < gs.length := by omega
      have HNX : Hid (∀ t, t ∈ ((fs.drop (i + 1)).flatMap fun p => gOf W1 p.2) ++ (gOf W1 (.slice (some ⟨gl, 0, none⟩) fs.length c1) ++ Yf W2 (.slice (some ⟨gm, 0, none⟩) gs.length c2) gs) → fs[i].2.ownBlock ≠ some t.1) := fun t ht e => by
        have hrow := (F1.out.dat _ (List.getElem_mem hlt)).1
        rcases List.mem_append.1 ht with ht | ht
        · obtain ⟨p, hp, ht⟩ := List.mem_flatMap.1 ht
          obtain ⟨j', hj', hpe⟩ := List.getElem_of_mem hp
          rw [List.length_drop] at hj'
          have hp2 : fs[i + 1 + j']? = some p := by rw [← hpe, List.getElem_drop]; exact List.getElem?_eq_getElem (by omega)
          exact F1.out.two i (i + 1 + j') _ p (by omega) (List.getElem?_eq_getElem hlt) hp2 _ e (gOf_mem ht).1
        · rcases List.mem_append.1 ht with ht | ht
          · obtain ⟨cu1, f1, e1⟩ := hrow.cells e
            obtain ⟨_, _, cu2, e2⟩ := F1.out.lo (gOf_mem ht).1
            rw [e1] at e2
            simp at e2
          · have h1 := (Yf_new F2.out t ht).1
            have h2 := hrow.lt e
            omega
      have HGR : Hid (NE wB wr P own n m SS SS NN NN (k + i) (gOf W1 fs[i].2 ++ (((fs.drop (i + 1)).flatMap fun p => gOf W1 p.2) ++ (gOf W1 (.slice (some ⟨gl, 0, none⟩) fs.length c1) ++ Yf W2 (.slice (some ⟨gm, 0, none⟩) gs.length c2) gs)))) := by
        have h1 := H.out
        rw [hdrop, List.flatMap_cons, List.append_assoc] at h1
        exact h1
      clear T HGU H
      go_wp2_with fail
      apply cut1 (H := fun W => Hid (Below wr.heap.size wr W))
      · intro hcut
        go_region_held3 (fun x => x.cell? ⟨gl, i * 14, none⟩ = some (.int .u8 e0) ∧ x.cell? ⟨gl, i * 14 + 1, none⟩ = some (.int .u8 e1) ∧ x.cell? ⟨gl, i * 14 + 2, none⟩ = some (.int .u8 e2) ∧ x.cell? ⟨gl, i * 14 + 3, none⟩ = some (.int .u8 e3) ∧ x.cell? ⟨gl, i * 14 + 4, none⟩ = some (.int .u8 e4) ∧ x.cell? ⟨gl, i * 14 + 5, none⟩ = some (.int .u8 e5) ∧ x.cell? ⟨gl, i * 14 + 6, none⟩ = some (.int .u8 s0) ∧ x.cell? ⟨gl, i * 14 + 7, none⟩ = some (.int .u8 s1) ∧ x.cell? ⟨gl, i * 14 + 8, none⟩ = some (.int .u8 s2) ∧ x.cell? ⟨gl, i * 14 + 9, none⟩ = some (.int .u8 s3) ∧ x.cell? ⟨gl, i * 14 + 10, none⟩ = some (.int .u8 s4) ∧ x.cell? ⟨gl, i * 14 + 11, none⟩ = some (.int .u8 s5) ∧ x.cell? ⟨gl, i * 14 + 12, none⟩ = some (.int .i64 kk) ∧ x.cell? ⟨gl, i * 14 + 13, none⟩ = some (.slice b1 n1 c3) ∧ x.cell? ⟨gm, i * 14, none⟩ = some (.int .u8 e0) ∧ x.cell? ⟨gm, i * 14 + 1, none⟩ = some (.int .u8 e1) ∧ x.cell? ⟨gm, i * 14 + 2, none⟩ = some (.int .u8 e2) ∧ x.cell? ⟨gm, i * 14 + 3, none⟩ = some (.int .u8 e3) ∧ x.cell? ⟨gm, i * 14 + 4, none⟩ = some (.int .u8 e4) ∧ x.cell? ⟨gm, i * 14 + 5, none⟩ = some (.int .u8 e5) ∧ x.cell? ⟨gm, i * 14 + 6, none⟩ = some (.int .u8 s0) ∧ x.cell? ⟨gm, i * 14 + 7, none⟩ = some (.int .u8 s1) ∧ x.cell? ⟨gm, i * 14 + 8, none⟩ = some (.int .u8 s2) ∧ x.cell? ⟨gm, i * 14 + 9, none⟩ = some (.int .u8 s3) ∧ x.cell? ⟨gm, i * 14 + 10, none⟩ = some (.int .u8 s4) ∧ x.cell? ⟨gm, i * 14 + 11, none⟩ = some (.int .u8 s5) ∧ x.cell? ⟨gm, i * 14 + 12, none⟩ = some (.int .i64 kk) ∧ x.cell? ⟨gm, i * 14 + 13, none⟩ = some (.slice b2 n2 c4)) (first | exact HPR.out _ (Below.refl _ _).drew | exact HPR.out _ HB3.out | go_keep | fail) (first
          | (go_at_call 29; refine (HSM.out _ (Below.refl _ _).drew).mono ?_; rintro e w3 ⟨rfl, hb3⟩; have HB3 := hid (bstep (Below.refl wr.heap.size wr).drew hb3); clear hb3)
          | fail)
        all_goals exact hcut _ HB3
      intro W4 HB4
      have H4 := hid (HGR.out.below HB4.out)
      have hz4 := H4.out.boxP.lt
      have hll4 : gl < W4.heap.size := by have := HB4.out.size; omega
      have HSC : Hid (∀ (W : World) (k' : Nat) (X : List (Nat × Obj)), NE wB W P own n m SS SS NN NN k' X → Holds W (gOf W1 (.slice (some ⟨gl, 0, none⟩) fs.length c1)) → W.cell? ⟨P.gp, 4, none⟩ = some (.pointer (some ⟨P.gk, 0, none⟩)) ∧ W.cell? ⟨gl, i * 14 + 13, none⟩ = some (.slice b1 n1 c3)) := fun W k' X q hW => by
        obtain ⟨gl', hgl', hcl⟩ := F1.out.frame i hlt hW
        simp only [Option.some.injEq, Addr.mk.injEq, and_true] at hgl'
        subst hgl'
        exact ⟨q.boxP.c4, hcl 13 _ (by unfold frL; rw [HV1.out]; rfl)⟩
      have HGW : Hid (Holds W4 (gOf W1 (.slice (some ⟨gl, 0, none⟩) fs.length c1))) := H4.out.ho.right.right.left
      clear HPR HSM HGR
      go_wp2_with fail
      apply cut1 (H := fun W => Hid (NE wB W P own n m SS SS NN NN (k + (i + 1)) (((fs.drop (i + 1)).flatMap fun p => gOf W1 p.2) ++ (gOf W1 (.slice (some ⟨gl, 0, none⟩) fs.length c1) ++ Yf W2 (.slice (some ⟨gm, 0, none⟩) gs.length c2) gs))))
      · intro hcut
        have HTK : Hid (Calls Try.prog 30 #[.pointer (some ⟨P.gk, 0, none⟩), .slice b1 n1 c3] W4.drew fun e w' => e = .returned (.tuple #[]) ∧ Hid (NE wB w' P own n m SS SS NN NN (k + i + 1) (((fs.drop (i + 1)).flatMap fun p => gOf W1 p.2) ++ (gOf W1 (.slice (some ⟨gl, 0, none⟩) fs.length c1) ++ Yf W2 (.slice (some ⟨gm, 0, none⟩) gs.length c2) gs))) ∧ Hid (Row w' 5 (.slice b1 n1 c3) (u8s (openR fs[i].1).ys))) := by
          have := ne_take (zs := (openR fs[i].1).ys) (H4.out.drewN 1) ((F1.out.dat _ (List.getElem_mem hlt)).1.guest (H4.out.drewN 1).ho.left) HYO.out.1 (by have := HYO.out.2; omega) (by have := HKB.out; have := HLL.out; omega) (fun b hb => by have := (F1.out.dat _ (List.getElem_mem hlt)).2 b hb; have := HG0.out; omega) HNX.out
          rw [HV1.out] at this
          exact this
        go_region_held3 (fun x => x.cell? ⟨P.gp, 4, none⟩ = some (.pointer (some ⟨P.gk, 0, none⟩)) ∧ x.cell? ⟨gl, i * 14 + 13, none⟩ = some (.slice b1 n1 c3)) (first | exact HSC.out _ _ _ (H4.out.drewN 1) HGW.out | exact HS5.out | go_keep | fail) (first
          | (go_at_call 30; refine HTK.out.mono ?_; rintro e w5 ⟨rfl, H5, _⟩; have HS5 := hid (HSC.out _ _ _ H5.out H5.out.ho.right.left))
          | fail)
        all_goals exact hcut _ H5
      intro W5 H5
      go_wp2
      go_roundw
      case rel => exact ⟨i + 1, by omega, by go_num, H5⟩
      case measure => simp [intOf]; omega
    · have hge : ¬ (i : Int) < fs.length := by omega
      have hin : i = fs.length := by omega
      have HKE : Hid (k + i ≤ NN.tk + (NN.sn + NN.rf)) := by have := HKN.out; have := HLL.out; unfold Hid; omega
      clear hin
      go_wp2
      go_ret
      exact ⟨rfl, SS, NN, k + i, H.out.drop (by simp), HCN.out, HKE.out⟩
end Go.Proofs.Ytnjhlndikbkeaaa
