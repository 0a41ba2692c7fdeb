/-
  Neigh: makeRoom, Clear, New.
-/
import Derived.Test.YtaaoelhmanahpaaNOld
namespace Go.Proofs.Ytaaoelhmanahpaa
open Go.RowKit
set_option linter.all false

/-- x comes ahead of y. -/
def elder (x y : Ab) : Bool := decide (x.unt < y.unt) || (decide (x.unt = y.unt) && decide (x.ip ≤ y.ip))
/-- the known one that goes first. -/
def oldF (L : List Ab) : Option Ab := L.find? fun x => known x && L.all fun y => !known y || elder x y
theorem elder_iff {x y : Ab} : elder x y = true ↔ x.unt < y.unt ∨ (x.unt = y.unt ∧ x.ip ≤ y.ip) := by simp [elder]
theorem oldF_some {L : List Ab} {x : Ab} (h : oldF L = some x) : x ∈ L ∧ known x = true ∧ ∀ y ∈ L, known y = true → x.unt < y.unt ∨ (x.unt = y.unt ∧ x.ip ≤ y.ip) := by
  have h1 := List.find?_some h
  simp only [Bool.and_eq_true, List.all_eq_true, Bool.or_eq_true, Bool.not_eq_true'] at h1
  refine ⟨List.mem_of_find?_eq_some h, h1.1, fun y hy hk => ?_⟩
  rcases h1.2 y hy with h2 | h2
  · rw [hk] at h2; cases h2
  · exact elder_iff.1 h2
theorem oldF_of {L : List Ab} (hr : Rise L) {x : Ab} (hx : x ∈ L) (hk : known x = true) (ha : ∀ y ∈ L, known y = true → x.unt < y.unt ∨ (x.unt = y.unt ∧ x.ip ≤ y.ip)) : oldF L = some x := by
  cases e : oldF L with
  | none =>
    have := List.find?_eq_none.1 e x hx
    simp only [Bool.and_eq_true, List.all_eq_true, Bool.or_eq_true, Bool.not_eq_true', not_and] at this
    exact absurd (fun y hy => by
      cases hy2 : known y
      · exact Or.inl rfl
      · exact Or.inr (elder_iff.2 (ha y hy hy2))) (this hk)
  | some z =>
    obtain ⟨h1, h2, h3⟩ := oldF_some e
    have h4 := h3 x hx hk
    have h5 := ha z h1 h2
    rw [hr.inj h1 hx (by omega)]
theorem oldF_none {L : List Ab} (h : ∀ y ∈ L, known y = false) : oldF L = none := List.find?_eq_none.2 fun x hx => by simp [h x hx]
theorem OldI.oldF {L : List Ab} {a u : Int} {f : Bool} (h : OldI L a u f) (hr : Rise L) : (f = false ∧ a = 0 ∧ Go.Proofs.Ytaaoelhmanahpaa.oldF L = none) ∨ ∃ x ∈ L, f = true ∧ a = x.ip ∧ Go.Proofs.Ytaaoelhmanahpaa.oldF L = some x := by
  rcases h with ⟨h1, h2, h3, h4⟩ | ⟨h1, z, hz, h2, h3, h4, h5⟩
  · exact Or.inl ⟨h1, h2, oldF_none h4⟩
  · exact Or.inr ⟨z, hz, h1, h3, oldF_of hr hz h2 h5⟩
/-- room for one more; what is left then. -/
def roomL (most : Int) (L : List Ab) : Option (List Ab) := if (L.length : Int) < most then some L else (oldF L).map fun x => del L x.ip
section
variable {w w' : World} {c m : Nat} {S : St} {V : Int → Value}
theorem CaW.drop (x : CaW w c m S V) {a : Int} (ha : ipOk a) : ∃ w', (∀ ty, (Builtin.delete_ #[74, 39] ty #[.map (some m), .int .u32 a]).run Try.prog w = .ok (.tuple #[]) w') ∧ CaW w' c m { S with L := del S.L a } V ∧ But m w w' := by
  obtain ⟨w', h1, h2, h3⟩ := x.map.drop ha 0
  have hne := x.ne
  refine ⟨w', fun ty => h1, ⟨(h3.block c hne x.ltc).trans x.box, h2, fun y hy => (x.rows y (mem_del.1 hy).1).keep fun b hb => h3.block b (x.rowc (mem_del.1 hy).1 b hb).2 ((x.rows y (mem_del.1 hy).1).lt hb), fun y hy z hz => x.apart y (mem_del.1 hy).1 z (mem_del.1 hz).1, ?_⟩, h3⟩
  exact ⟨x.ok.own, x.ok.most, x.ok.now, x.ok.rise.del a, by have := x.ok.len; have h4 := List.length_filter_le (fun y : Ab => y.ip != a) S.L; show ((del S.L a).length : Int) ≤ S.most; unfold del; omega, fun y hy => x.ok.ents y (mem_del.1 hy).1⟩
end
theorem roomL_some {most : Int} {L L' : List Ab} (h : roomL most L = some L') (hm : (L.length : Int) ≤ most) (hr : Rise L) : (L'.length : Int) < most ∧ Rise L' ∧ ∀ y ∈ L', y ∈ L := by
  unfold roomL at h
  split at h
  · cases h; exact ⟨by assumption, hr, fun y hy => hy⟩
  · cases e : oldF L with
    | none => rw [e] at h; simp at h
    | some x =>
      rw [e] at h
      simp only [Option.map_some, Option.some.injEq] at h
      subst h
      have := (hr.perm_del (oldF_some e).1).length_eq
      simp only [List.length_cons] at this
      exact ⟨by omega, hr.del _, fun y hy => (mem_del.1 hy).1⟩
theorem oldest_in (c m : Nat) (S : St) (V : Int → Value) (w : World) (x : CaW w c m S V) :
    Calls Try.prog 63 #[.pointer (some ⟨c, 0, none⟩)] w fun e w' => (e = .returned (.tuple #[.int .u32 0, .bool false]) ∧ Hid (oldF S.L = none) ∧ Hid (Below w.heap.size w w')) ∨
      ∃ y w3, e = .returned (.tuple #[.int .u32 y.ip, .bool true]) ∧ Hid (oldF S.L = some y) ∧ w'.cell? ⟨c, 8, none⟩ = some (.map (some m)) ∧ (∀ ty, (Builtin.delete_ #[74, 39] ty #[.map (some m), .int .u32 y.ip]).run Try.prog w' = .ok (.tuple #[]) w3) ∧ Hid (CaW w3 c m { S with L := del S.L y.ip } V) ∧ Hid (Two c m w w3) :=
  (oldest_any c m S V w x).mono fun e w' ⟨a, u, f, h1, h2, h3⟩ => by
    rcases h2.out.oldF x.ok.rise with ⟨rfl, rfl, ho⟩ | ⟨y, hy, rfl, rfl, ho⟩
    · exact Or.inl ⟨h1, ho, h3⟩
    · have x2 := x.below h3.out
      obtain ⟨w3, hdr, hca, hbt⟩ := x2.drop (a := y.ip) (x.ok.ents y hy).ip
      exact Or.inr ⟨y, w3, h1, ho, x2.cells.2.2.2.1, hdr, hca, (Two.of_below h3.out).trans (Two.of_m hbt)⟩
set_option maxHeartbeats 1000000 in
theorem room_any (c m : Nat) (S : St) (V : Int → Value) (w : World) (x : CaW w c m S V) :
    Calls Try.prog 40 #[.pointer (some ⟨c, 0, none⟩)] w fun e w' => e = .returned (.bool (roomL S.most S.L).isSome) ∧ Hid (CaW w' c m { S with L := (roomL S.most S.L).getD S.L } V) ∧ Hid (Two c m w w') := by
  obtain ⟨_, c6, c7, c8, f7⟩ := x.cells
  have HC := hid x
  have hlen := fun ty => x.map.len ty
  have hlen1 : ∀ ty, (Builtin.len_ #[74] ty #[.map (some m)]).run Try.prog w.drew = .ok (.int .i64 S.L.length) w.drew := fun ty => (x.drewN 1).map.len ty
  clear x
  by_cases hl : (S.L.length : Int) < S.most
  · have HR : Hid (roomL S.most S.L = some S.L) := by unfold Hid roomL; rw [if_pos hl]
    go_enter Try.func40, Try.ntmps40
    go_wp2_with fail
    go_region
    all_goals go_wp2_with fail
    go_ret
    rw [HR.out]
    exact ⟨rfl, HC.out.drewN 1, (Two.refl _ _ _).drewN 1⟩
  · have HL := hid hl
    go_enter Try.func40, Try.ntmps40
    go_wp2_with fail
    have HCn : Hid (CaW w.drew c m S V) := HC.out.drewN 1
    have HTn : Hid (Two c m w w.drew) := (Two.refl _ _ _).drewN 1
    have HOn := hid (oldest_in c m S V w.drew HCn.out)
    go_region
    all_goals go_wp2_with fail
    clear HC c6 c7 c8 f7 hlen hlen1
    generalize w.drew = wq at HCn HTn HOn ⊢
    obtain ⟨_, c6, c7, c8, f7⟩ := HCn.out.cells
    go_wp2_with (first
      | (go_at_call 63; with_reducible refine HOn.out.mono ?_; rintro e w1 (⟨rfl, HO, HB⟩ | ⟨y, w3, rfl, HO, d8, hdr, HCA, HT3⟩))
      | fail)
    · go_ret
      have HR : roomL S.most S.L = none := by unfold roomL; rw [if_neg (by have := HL.out; omega), HO.out]; rfl
      rw [HR]
      exact ⟨rfl, HCn.out.below HB.out, HTn.out.trans (Two.of_below HB.out)⟩
    · have HR : Hid (roomL S.most S.L = some (del S.L y.ip)) := by unfold Hid roomL; rw [if_neg (by have := HL.out; omega), HO.out]; rfl
      go_ret
      rw [HR.out]
      exact ⟨rfl, HCA, HTn.out.trans HT3.out⟩
end Go.Proofs.Ytaaoelhmanahpaa
