/-
  NeighWaits: what each call may send, and how things stand behind it. No memory.
-/
import Derived.Test.YtaaoelhmanahpaaNwM
import Derived.Test.YtaaoelhmanahpaaNAct
import Derived.Test.YtaaoelhmanahpaaNTick
namespace Go.Proofs.Ytaaoelhmanahpaa
open Go.RowKit
set_option linter.all false

/-- no two have a number or an address in common. -/
def Dis (ls : List W3) : Prop := ∀ (i j : Nat) (x y : W3), ls[i]? = some x → ls[j]? = some y → (x.ip = y.ip ∨ x.n = y.n) → i = j
theorem Dis.nil : Dis [] := fun i j x y h => by simp at h
theorem Dis.ip {ls : List W3} (h : Dis ls) {k : Nat} {x : W3} (hx : ls[k]? = some x) {ip : Int} (e : x.ip = ip) : One ls k x fun y => y.ip = ip :=
  ⟨hx, e, fun j y hj hy => h j k y x hj hx (Or.inl (by rw [hy, e]))⟩
theorem Dis.num {ls : List W3} (h : Dis ls) {k : Nat} {x : W3} (hx : ls[k]? = some x) {n : Int} (e : x.n = n) : One ls k x fun y => y.n = n :=
  ⟨hx, e, fun j y hj hy => h j k y x hj hx (Or.inr (by rw [hy, e]))⟩
theorem Dis.erase {ls : List W3} (h : Dis ls) (k : Nat) : Dis (ls.eraseIdx k) := fun i j x y hi hj e => by
  rw [List.getElem?_eraseIdx] at hi hj
  split at hi <;> split at hj
  · exact h i j x y hi hj e
  · have := h i (j + 1) x y hi hj e; omega
  · have := h (i + 1) j x y hi hj e; omega
  · have := h (i + 1) (j + 1) x y hi hj e; omega
theorem Dis.set {ls : List W3} (h : Dis ls) {k : Nat} {x z : W3} (hx : ls[k]? = some x) (hi : z.ip = x.ip) (hn : z.n = x.n ∨ ∀ y ∈ ls, y.n ≠ z.n) : Dis (ls.set k z) := fun i j a b ha hb e => by
  have hk : k < ls.length := (List.getElem?_eq_some_iff.1 hx).1
  rw [List.getElem?_set] at ha hb
  split at ha <;> split at hb
  · omega
  · rename_i e1 e2
    (try rw [if_pos hk] at ha); simp only [Option.some.injEq] at ha; subst ha
    exfalso
    have hbm := List.mem_of_getElem? hb
    have := h k j x b hx hb (by
      rcases e with e | e
      · left; rw [← hi, e]
      · rcases hn with hn | hn
        · right; rw [← hn, e]
        · exact absurd e.symm (hn b hbm))
    omega
  · rename_i e1 e2
    (try rw [if_pos hk] at hb); simp only [Option.some.injEq] at hb; subst hb
    exfalso
    have ham := List.mem_of_getElem? ha
    have := h i k a x ha hx (by
      rcases e with e | e
      · left; rw [← hi, e]
      · rcases hn with hn | hn
        · right; rw [← hn, e]
        · exact absurd e (hn a ham))
    omega
  · exact h i j a b ha hb e
theorem Dis.snoc {ls : List W3} (h : Dis ls) {z : W3} (hi : ∀ y ∈ ls, y.ip ≠ z.ip) (hn : ∀ y ∈ ls, y.n ≠ z.n) : Dis (ls ++ [z]) := fun i j a b ha hb e => by
  rw [List.getElem?_append] at ha hb
  split at ha <;> split at hb
  · exact h i j a b ha hb e
  · rename_i e1 e2
    have hbz : b = z := by
      have := List.mem_of_getElem? hb; simpa using this
    subst hbz
    have ham := List.mem_of_getElem? ha
    rcases e with e | e
    · exact absurd e (hi a ham)
    · exact absurd e (hn a ham)
  · rename_i e1 e2
    have haz : a = z := by
      have := List.mem_of_getElem? ha; simpa using this
    subst haz
    have hbm := List.mem_of_getElem? hb
    rcases e with e | e
    · exact absurd e.symm (hi b hbm)
    · exact absurd e.symm (hn b hbm)
  · have h1 := (List.getElem?_eq_some_iff.1 ha).1
    have h2 := (List.getElem?_eq_some_iff.1 hb).1
    simp at h1 h2
    omega
theorem mem_at {ls : List W3} {x : W3} (h : x ∈ ls) : ∃ k : Nat, ls[k]? = some x := List.mem_iff_getElem?.1 h
theorem erase_mem {ls : List W3} (h : Dis ls) {k : Nat} {x y : W3} (hx : ls[k]? = some x) (hy : y ∈ ls.eraseIdx k) : y ∈ ls ∧ y.ip ≠ x.ip := by
  obtain ⟨j, hj⟩ := mem_at hy
  rw [List.getElem?_eraseIdx] at hj
  split at hj
  · exact ⟨List.mem_of_getElem? hj, fun e => by have := h j k y x hj hx (Or.inl e); omega⟩
  · exact ⟨List.mem_of_getElem? hj, fun e => by have := h (j + 1) k y x hj hx (Or.inl e); omega⟩
theorem mem_erase {ls : List W3} {k : Nat} {x y : W3} (hx : ls[k]? = some x) (hy : y ∈ ls) (hne : y.ip ≠ x.ip) : y ∈ ls.eraseIdx k := by
  obtain ⟨j, hj⟩ := mem_at hy
  have hjk : j ≠ k := fun e => by
    rw [e, hx] at hj
    simp only [Option.some.injEq] at hj
    exact hne (by rw [hj])
  rw [List.mem_iff_getElem?]
  rcases Nat.lt_or_gt_of_ne hjk with h | h
  · exact ⟨j, by rw [List.getElem?_eraseIdx, if_pos h, hj]⟩
  · exact ⟨j - 1, by rw [List.getElem?_eraseIdx, if_neg (by omega), show j - 1 + 1 = j from by omega, hj]⟩
theorem set_mem {ls : List W3} (h : Dis ls) {k : Nat} {x y z : W3} (hx : ls[k]? = some x) (hy : y ∈ ls.set k z) : y = z ∨ (y ∈ ls ∧ y.ip ≠ x.ip) := by
  obtain ⟨j, hj⟩ := mem_at hy
  rw [List.getElem?_set] at hj
  split at hj
  · rw [if_pos (List.getElem?_eq_some_iff.1 hx).1] at hj
    simp only [Option.some.injEq] at hj
    exact Or.inl hj.symm
  · exact Or.inr ⟨List.mem_of_getElem? hj, fun e => by have := h j k y x hj hx (Or.inl e); omega⟩
theorem mem_set {ls : List W3} {k : Nat} {x y z : W3} (hx : ls[k]? = some x) (hy : y ∈ ls) (hne : y.ip ≠ x.ip) : y ∈ ls.set k z := by
  obtain ⟨j, hj⟩ := mem_at hy
  have hjk : k ≠ j := fun e => by
    rw [← e, hx] at hj
    simp only [Option.some.injEq] at hj
    exact hne (by rw [hj])
  rw [List.mem_iff_getElem?]
  exact ⟨j, by rw [List.getElem?_set, if_neg hjk, hj]⟩
theorem mem_set_self {ls : List W3} {k : Nat} {x z : W3} (hx : ls[k]? = some x) : z ∈ ls.set k z := by
  rw [List.mem_iff_getElem?]
  exact ⟨k, by rw [List.getElem?_set, if_pos rfl, if_pos (List.getElem?_eq_some_iff.1 hx).1]⟩
/-- behind a call: what waits is what is asked. -/
structure Mid (S : St) (ls : List W3) (ms : List Tl) (i : Int) : Prop where
  a : ∀ x ∈ ls, ∀ y ∈ S.L, y.ip = x.ip → 0 < y.q ∧ y.q = x.q ∧ y.zs = be8 x.n
  b : ∀ y ∈ S.L, 0 < y.q → ∃ x ∈ ls, x.ip = y.ip
  c : Dis ls
  d : ∀ x ∈ ls, 0 ≤ x.n ∧ x.n < i
  e : ∀ y ∈ S.L, ¬ 0 < y.q → (⟨y.ip, y.mac⟩ : Tl) ∈ ms ∧ hostB y.ip = true
  g : ls.length ≤ 65
/-- between the rounds. -/
structure Inw (S : St) (ls : List W3) (ms : List Tl) (i : Int) : Prop where
  mid : Mid S ls ms i
  f : ∀ x ∈ ls, ∃ y ∈ S.L, y.ip = x.ip
  g : ls.length ≤ 64
theorem Mid.up {S : St} {ls : List W3} {ms : List Tl} {i j : Int} (h : Mid S ls ms i) (hij : i ≤ j) : Mid S ls ms j := { h with d := fun x hx => by have := h.d x hx; omega }
theorem Mid.sL {S S' : St} {ls : List W3} {ms : List Tl} {i : Int} (h : Mid S ls ms i) (e : S'.L = S.L) : Mid S' ls ms i :=
  ⟨by rw [e]; exact h.a, by rw [e]; exact h.b, h.c, h.d, by rw [e]; exact h.e, h.g⟩
/-! ### Ask -/
theorem queP_ok {S : St} (h : S.ok) {ip src : Int} (hi : ipOk ip) (hs : ipOk src) : (askP S.own src ip).ok := ⟨by simp [askP], h.own, hs, zeroMac_ok, hi⟩
theorem room_asked {most : Int} {L L' : List Ab} (h : roomL most L = some L') (hr : Rise L) : (∀ y ∈ L', y ∈ L) ∧ ∀ y ∈ L, 0 < y.q → y ∈ L' := by
  unfold roomL at h
  split at h
  · cases h; exact ⟨fun y hy => hy, fun y hy _ => hy⟩
  · cases ho : oldF L with
    | none => rw [ho] at h; simp at h
    | some x =>
      rw [ho] at h
      simp only [Option.map_some, Option.some.injEq] at h
      subst h
      obtain ⟨h1, h2, _⟩ := oldF_some ho
      refine ⟨fun y hy => (mem_del.1 hy).1, fun y hy hq => mem_del.2 ⟨hy, fun e => ?_⟩⟩
      rw [hr.inj hy h1 e] at hq
      simp [known] at h2
      omega
inductive AskC (ls : List W3) (ms : List Tl) (i ip : Int) : St × List Sd → Prop
  | wait (S' : St) (k : Nat) (x : W3) (hx : One ls k x fun y => y.ip = ip) (hm : Mid S' (ls.set k ⟨i, x.ip, x.q⟩) ms (i + 1)) : AskC ls ms i ip (S', [])
  | send (S' : St) (d : Mac) (hr : Rights ms i ip ls [⟨d, 2048, be8 i⟩] ls) (hm : Mid S' ls ms (i + 1)) : AskC ls ms i ip (S', [⟨d, 2048, be8 i⟩])
  | full (S' : St) (h0 : ∀ x ∈ ls, x.ip ≠ ip) (hm : Mid S' ls ms (i + 1)) : AskC ls ms i ip (S', [])
  | ask (S' : St) (d : Mac) (p : Arp) (h0 : ∀ x ∈ ls, x.ip ≠ ip) (hr : Rights ms i ip (ls ++ [⟨i, ip, 0⟩]) [⟨d, 2054, encL p⟩] (ls ++ [⟨i, ip, 1⟩])) (hm : Mid S' (ls ++ [⟨i, ip, 1⟩]) ms (i + 1)) : AskC ls ms i ip (S', [⟨d, 2054, encL p⟩])
theorem askNew_c {S0 S : St} {ls : List W3} {ms : List Tl} {i ip src : Int} (h0 : S0.ok) (h : Inw S0 ls ms i) (hi : 0 ≤ i) (hno : ∀ x ∈ ls, x.ip ≠ ip) (hS : S.own = S0.own) (hL : S.L = del S0.L ip) (hip : ipOk ip) (hsrc : ipOk src) : AskC ls ms i ip (askNew S src ip (be8 i)) := by
  have hr : Rise S.L := by rw [hL]; exact h0.rise.del ip
  unfold askNew
  split
  · refine AskC.full _ hno ⟨fun x hx y hy e => h.mid.a x hx y ?_ e, fun y hy => h.mid.b y ?_, h.mid.c, fun x hx => by have := h.mid.d x hx; omega, fun y hy => h.mid.e y ?_, h.mid.g⟩
    all_goals (rw [hL] at hy; exact (mem_del.1 hy).1)
  · rename_i L' hL'
    obtain ⟨r1, r2⟩ := room_asked hL' hr
    have r3 : ∀ y ∈ L', y ∈ S0.L ∧ y.ip ≠ ip := fun y hy => by have := r1 y hy; rw [hL] at this; exact mem_del.1 this
    have hdis : Dis (ls ++ [⟨i, ip, 0⟩]) := h.mid.c.snoc (fun y hy => hno y hy) (fun y hy => by have := h.mid.d y hy; simp only; omega)
    have hat : (ls ++ [(⟨i, ip, 0⟩ : W3)])[ls.length]? = some ⟨i, ip, 0⟩ := by simp
    have hset : (ls ++ [(⟨i, ip, 0⟩ : W3)]).set ls.length ⟨i, ip, 0 + 1⟩ = ls ++ [⟨i, ip, 1⟩] := by simp
    have hown : (askP S.own src ip).ok := by rw [hS]; exact queP_ok h0 hip hsrc
    refine AskC.ask _ everyM (askP S.own src ip) hno ?_ ⟨fun x hx y hy e => ?_, fun y hy hq => ?_, ?_, fun x hx => ?_, fun y hy hq => ?_, ?_⟩
    · rw [← hset]
      exact ⟨_, RStep.ask everyM (askP S.own src ip) hown rfl ls.length ⟨i, ip, 0⟩ (hdis.ip hat rfl) ⟨by simp, by simp⟩, rfl⟩
    · rcases mem_put.1 hy with rfl | ⟨hy, hne⟩
      · rcases List.mem_append.1 hx with hx | hx
        · exact absurd e.symm (hno x hx)
        · simp at hx; subst hx
          simp [queE]
      · rcases List.mem_append.1 hx with hx | hx
        · exact h.mid.a x hx y (r3 y hy).1 e
        · simp at hx; subst hx
          exact absurd e (r3 y hy).2
    · rcases mem_put.1 hy with rfl | ⟨hy, hne⟩
      · exact ⟨⟨i, ip, 1⟩, by simp, rfl⟩
      · obtain ⟨x, hx, e⟩ := h.mid.b y (r3 y hy).1 hq
        exact ⟨x, by simp [hx], e⟩
    · exact h.mid.c.snoc (fun y hy => hno y hy) (fun y hy => by have := h.mid.d y hy; simp only; omega)
    · rcases List.mem_append.1 hx with hx | hx
      · have := h.mid.d x hx; omega
      · simp at hx; subst hx; simp only; omega
    · rcases mem_put.1 hy with rfl | ⟨hy, hne⟩
      · exact absurd (by simp [queE]) hq
      · exact h.mid.e y (r3 y hy).1 hq
    · have := h.g; simp; omega
theorem ask_c {S : St} {ls : List W3} {ms : List Tl} {i ip src now : Int} (h0 : S.ok) (h : Inw S ls ms i) (hi : 0 ≤ i ∧ i < 9223372036854775808) (hip : ipOk ip) (hsrc : ipOk src) : AskC ls ms i ip (askF S src ip (be8 i) now) := by
  simp only [askF]
  split
  · rename_i y hy
    obtain ⟨hym, hyi⟩ := look_some hy
    split
    · rename_i hq
      obtain ⟨x, hx, e⟩ := h.mid.b y hym hq
      obtain ⟨k, hk⟩ := mem_at hx
      have hxy := h.mid.a x hx y hym e.symm
      refine AskC.wait _ k x (h.mid.c.ip hk (by rw [e, hyi])) ⟨fun x' hx' y' hy' e' => ?_, fun y' hy' hq' => ?_, h.mid.c.set hk rfl (Or.inr fun z hz => by have := h.mid.d z hz; simp only; omega), fun x' hx' => ?_, fun y' hy' hq' => ?_, by rw [List.length_set]; exact h.mid.g⟩
      · rcases mem_put.1 hy' with rfl | ⟨hy', hne⟩
        · rcases set_mem h.mid.c hk hx' with rfl | ⟨hx', hne'⟩
          · exact ⟨hq, hxy.2.1, rfl⟩
          · exact absurd (by rw [e]; exact e'.symm) hne'
        · rcases set_mem h.mid.c hk hx' with rfl | ⟨hx', hne'⟩
          · exact absurd (e'.trans e) hne
          · exact h.mid.a x' hx' y' hy' e'
      · rcases mem_put.1 hy' with rfl | ⟨hy', hne⟩
        · exact ⟨_, mem_set_self hk, e⟩
        · obtain ⟨x', hx', e2⟩ := h.mid.b y' hy' hq'
          exact ⟨x', mem_set hk hx' (fun e3 => hne (by rw [← e2, e3, e])), e2⟩
      · rcases set_mem h.mid.c hk hx' with rfl | ⟨hx', hne'⟩
        · simp only; omega
        · have := h.mid.d x' hx'; omega
      · rcases mem_put.1 hy' with rfl | ⟨hy', hne⟩
        · exact absurd hq hq'
        · exact h.mid.e y' hy' hq'
    · rename_i hq
      have hme := h.mid.e y hym hq
      split
      · refine AskC.send _ y.mac ⟨ls, RStep.now_ y.mac (h0.ents y hym).mac hi.1 hi.2 ?_, rfl⟩ (Mid.up (Mid.sL h.mid (S' := { S with now := hearN S.now now }) rfl) (by omega))
        rw [← hyi]
        exact hme.1
      · exact askNew_c h0 h hi.1 (fun x hx e => hq (h.mid.a x hx y hym (by rw [hyi, e])).1) rfl rfl hip hsrc
  · rename_i hn
    exact askNew_c h0 h hi.1 (fun x hx e => by
      obtain ⟨y, hy, e2⟩ := h.f x hx
      exact look_none hn y hy (by rw [e2, e])) rfl rfl hip hsrc
/-! ### On -/
def hrB (p : Arp) (own : Int) : Bool := opB p.op && !grpB p.s && (p.si != own)
def msF (ms : List Tl) (p : Arp) (own : Int) : List Tl := if hrB p own then hearF ms p else ms
theorem hear_mem {ms : List Tl} {p : Arp} {x : Tl} (h : x ∈ ms) (hne : x.ip ≠ p.si) : x ∈ hearF ms p := by
  unfold hearF
  simp [h, hne]
theorem Rights.append {ms : List Tl} {now ip : Int} : ∀ {ls l1 l2 : List W3} {a b : List Sd}, Rights ms now ip ls a l1 → Rights ms now ip l1 b l2 → Rights ms now ip ls (a ++ b) l2
  | ls, l1, l2, [], b, h1, h2 => by
    have : l1 = ls := h1
    subst this
    exact h2
  | ls, l1, l2, s :: a, b, ⟨l, hs, h1⟩, h2 => ⟨l, hs, Rights.append h1 h2⟩
theorem on_c {S : St} {ls : List W3} {ms : List Tl} {i : Int} (p : Arp) (own now : Int) (h0 : S.ok) (h : Inw S ls ms i) (hp : p.ok) (hi : i ≤ 9223372036854775808) : ∃ ls', Rights (msF ms p own) (-1) 0 ls (onF S p own now).2 ls' ∧ Mid (onF S p own now).1 ls' (msF ms p own) i := by
  simp only [onF]
  split
  · rename_i hno
    have hb : hrB p own = false := by
      unfold hrB
      rcases hno with e | e <;> simp [e]
    unfold msF
    rw [hb, if_neg (by simp)]
    exact ⟨ls, rfl, h.mid.sL rfl⟩
  · rename_i hno
    have ho : opB p.op = true := by
      cases e : opB p.op
      · exact absurd (Or.inl e) hno
      · rfl
    have hg : grpB p.s = false := by
      cases e : grpB p.s
      · rfl
      · exact absurd (Or.inr e) hno
    have hop : p.op = 1 ∨ p.op = 2 := by simp [opB] at ho; omega
    have hms : msF ms p own = if p.si = own then ms else hearF ms p := by
      unfold msF hrB
      rw [ho, hg]
      by_cases e : p.si = own <;> simp [e]
    -- the answer to the question, which changes nothing
    have htell : ∀ (ms' : List Tl) (l : List W3), Rights ms' (-1) 0 l (if askedB p own = true then [tellS { S with now := hearN S.now now } p] else []) l := fun ms' l => by
      split
      · exact ⟨l, RStep.tell _ _ ⟨by simp [tellP], h0.own, hp.2.2.2.2, hp.2.1, hp.2.2.1⟩ rfl, rfl⟩
      · rfl
    -- behind the part that learns
    have key : ∃ ls', Rights (msF ms p own) (-1) 0 ls (if wantB p own = true then learnF { S with now := hearN S.now now } p.si p.s (askedB p own) else ({ S with now := hearN S.now now }, [])).2 ls' ∧ Mid (if wantB p own = true then learnF { S with now := hearN S.now now } p.si p.s (askedB p own) else ({ S with now := hearN S.now now }, [])).1 ls' (msF ms p own) i := by
      by_cases hw : wantB p own = true
      · rw [if_pos hw]
        have hh : hostB p.si = true ∧ p.si ≠ own := by
          unfold wantB at hw
          simpa using hw
        rw [hms, if_neg hh.2]
        have hin : (⟨p.si, p.s⟩ : Tl) ∈ hearF ms p := by simp [hearF]
        have hmE : ∀ y ∈ S.L, ¬ 0 < y.q → y.ip ≠ p.si → (⟨y.ip, y.mac⟩ : Tl) ∈ hearF ms p ∧ hostB y.ip = true := fun y hy hq hne => ⟨hear_mem (h.mid.e y hy hq).1 hne, (h.mid.e y hy hq).2⟩
        unfold learnF
        simp only
        cases hl : look S.L p.si with
        | some y =>
          obtain ⟨hym, hyi⟩ := look_some hl
          simp only
          by_cases hq : 0 < y.q
          · rw [if_pos hq]
            obtain ⟨x, hx, e⟩ := h.mid.b y hym hq
            obtain ⟨k, hk⟩ := mem_at hx
            have hxy := h.mid.a x hx y hym e.symm
            have hxd := h.mid.d x hx
            refine ⟨ls.eraseIdx k, ⟨_, ?_, rfl⟩, fun x' hx' y' hy' e' => ?_, fun y' hy' hq' => ?_, h.mid.c.erase k, fun x' hx' => h.mid.d x' (erase_mem h.mid.c hk hx').1, fun y' hy' hq' => ?_, by rw [List.length_eraseIdx]; have := h.mid.g; split <;> omega⟩
            · rw [hxy.2.2]
              exact RStep.old p.s hp.2.1 x.n hxd.1 (by omega) (by omega) k x (h.mid.c.num hk rfl) (by rw [e, hyi]; exact hin)
            · obtain ⟨h1, h2⟩ := erase_mem h.mid.c hk hx'
              rcases mem_put.1 hy' with rfl | ⟨hy', hne⟩
              · exact absurd (by rw [e, hyi]; exact e'.symm) h2
              · exact h.mid.a x' h1 y' hy' e'
            · rcases mem_put.1 hy' with rfl | ⟨hy', hne⟩
              · simp [knE] at hq'
              · obtain ⟨x', hx', e2⟩ := h.mid.b y' hy' hq'
                exact ⟨x', mem_erase hk hx' (fun e3 => hne (by rw [← e2, e3, e, hyi]; rfl)), e2⟩
            · rcases mem_put.1 hy' with rfl | ⟨hy', hne⟩
              · exact ⟨hin, hh.1⟩
              · exact hmE y' hy' hq' hne
          · rw [if_neg hq]
            refine ⟨ls, rfl, fun x' hx' y' hy' e' => ?_, fun y' hy' hq' => ?_, h.mid.c, h.mid.d, fun y' hy' hq' => ?_, h.mid.g⟩
            · rcases mem_put.1 hy' with rfl | ⟨hy', hne⟩
              · exact absurd (h.mid.a x' hx' y hym (by rw [hyi]; exact e')).1 hq
              · exact h.mid.a x' hx' y' hy' e'
            · rcases mem_put.1 hy' with rfl | ⟨hy', hne⟩
              · simp [knE] at hq'
              · exact h.mid.b y' hy' hq'
            · rcases mem_put.1 hy' with rfl | ⟨hy', hne⟩
              · exact ⟨hin, hh.1⟩
              · exact hmE y' hy' hq' hne
        | none =>
          have hnl := look_none hl
          have stay : Mid { S with now := hearN S.now now } ls (hearF ms p) i := ⟨h.mid.a, h.mid.b, h.mid.c, h.mid.d, fun y hy hq => hmE y hy hq (hnl y hy), h.mid.g⟩
          simp only
          by_cases hwt : askedB p own = true
          · rw [if_pos hwt]
            cases hrm : roomL S.most S.L with
            | none => exact ⟨ls, rfl, stay⟩
            | some L' =>
              obtain ⟨r1, r2⟩ := room_asked hrm h0.rise
              refine ⟨ls, rfl, fun x' hx' y' hy' e' => ?_, fun y' hy' hq' => ?_, h.mid.c, h.mid.d, fun y' hy' hq' => ?_, h.mid.g⟩
              · rcases mem_put.1 hy' with rfl | ⟨hy', hne⟩
                · obtain ⟨z, hz, e2⟩ := h.f x' hx'
                  exact absurd (by rw [e2]; exact e'.symm) (hnl z hz)
                · exact h.mid.a x' hx' y' (r1 y' hy') e'
              · rcases mem_put.1 hy' with rfl | ⟨hy', hne⟩
                · simp [knE] at hq'
                · exact h.mid.b y' (r1 y' hy') hq'
              · rcases mem_put.1 hy' with rfl | ⟨hy', hne⟩
                · exact ⟨hin, hh.1⟩
                · exact hmE y' (r1 y' hy') hq' hne
          · rw [if_neg hwt]
            exact ⟨ls, rfl, stay⟩
      · rw [if_neg hw]
        refine ⟨ls, rfl, h.mid.a, h.mid.b, h.mid.c, h.mid.d, fun y hy hq => ?_, h.mid.g⟩
        rw [hms]
        split
        · exact h.mid.e y hy hq
        · rename_i hne
          obtain ⟨h1, h2⟩ := h.mid.e y hy hq
          refine ⟨hear_mem h1 fun e => hw ?_, h2⟩
          simp only at e
          unfold wantB
          rw [← e, h2]
          simpa [e] using hne
    obtain ⟨ls', k1, k2⟩ := key
    exact ⟨ls', k1.append (htell _ _), k2⟩
/-! ### Tick -/
def due (S : St) (y : Ab) : Prop := ¬ S.now < y.unt ∧ 0 < y.q ∧ y.q < 3
theorem tickS_due {S : St} {y : Ab} (h : due S y) : tickS S y = [queS S y.ip y] := by
  unfold tickS; rw [if_neg h.1, if_pos h.2]
theorem tickS_not {S : St} {y : Ab} (h : ¬ due S y) : tickS S y = [] := by
  unfold tickS
  split
  · rfl
  · rename_i h1
    rw [if_neg (fun h2 => h ⟨h1, h2⟩)]
theorem tick_rights {S : St} {ms : List Tl} (hown : S.own.ok) : ∀ (L : List Ab) (ls : List W3), Rise L → Dis ls → (∀ y ∈ L, ipOk y.ip ∧ ipOk y.src) → (∀ y ∈ L, 0 < y.q → ∃ x ∈ ls, x.ip = y.ip ∧ x.q = y.q) →
    ∃ ls', Rights ms (-1) 0 ls (L.flatMap (tickS S)) ls' ∧ Dis ls' ∧ ls'.length = ls.length ∧
      (∀ x' ∈ ls', ∃ x ∈ ls, x'.n = x.n ∧ x'.ip = x.ip ∧ ((∀ y ∈ L, y.ip = x.ip → ¬ due S y) → x'.q = x.q) ∧ (∀ y ∈ L, y.ip = x.ip → due S y → x'.q = x.q + 1)) ∧ (∀ x ∈ ls, ∃ x' ∈ ls', x'.ip = x.ip)
  | [], ls, _, hd, _, _ => ⟨ls, rfl, hd, rfl, fun x hx => ⟨x, hx, rfl, rfl, fun _ => rfl, fun y hy => by simp at hy⟩, fun x hx => ⟨x, hx, rfl⟩⟩
  | y :: r, ls, hr, hd, hok, hq => by
    have hry : ∀ z ∈ r, y.ip < z.ip := (List.pairwise_cons.1 hr).1
    have hrr : Rise r := (List.pairwise_cons.1 hr).2
    rw [List.flatMap_cons]
    by_cases hdue : due S y
    · rw [tickS_due hdue]
      obtain ⟨x, hx, e1, e2⟩ := hq y (by simp) hdue.2.1
      obtain ⟨k, hk⟩ := mem_at hx
      have hd1 : Dis (ls.set k ⟨x.n, x.ip, x.q + 1⟩) := hd.set hk rfl (Or.inl rfl)
      obtain ⟨ls', i1, i2, i3, i4, i5⟩ := tick_rights hown r (ls.set k ⟨x.n, x.ip, x.q + 1⟩) hrr hd1 (fun z hz => hok z (by simp [hz])) (fun z hz hzq => by
        obtain ⟨x2, hx2, e3, e4⟩ := hq z (by simp [hz]) hzq
        refine ⟨x2, mem_set hk hx2 (fun e5 => ?_), e3, e4⟩
        have := hry z hz
        omega)
      refine ⟨ls', ⟨_, RStep.ask everyM (askP S.own y.src y.ip) ⟨by simp [askP], hown, (hok y (by simp)).2, zeroMac_ok, (hok y (by simp)).1⟩ rfl k x (hd.ip hk e1) ⟨by rw [e2]; have := hdue.2.1; omega, by rw [e2]; exact hdue.2.2⟩, i1⟩, i2, by rw [i3, List.length_set], fun x' hx' => ?_, fun z hz => ?_⟩
      · obtain ⟨x1, hx1, f1, f2, f3, f4⟩ := i4 x' hx'
        rcases set_mem hd hk hx1 with rfl | ⟨hx1, hne⟩
        · have hnr : ∀ z ∈ r, z.ip = x.ip → ¬ due S z := fun z hz e => by have := hry z hz; omega
          have f5 := f3 hnr
          simp only at f1 f2 f5
          refine ⟨x, hx, f1, f2, fun hall => absurd hdue (hall y (by simp) e1.symm), fun z hz e3 _ => f5⟩
        · refine ⟨x1, hx1, f1, f2, fun hall => f3 fun z hz => hall z (by simp [hz]), fun z hz e3 hdz => ?_⟩
          rcases List.mem_cons.1 hz with rfl | hz
          · exact absurd (by rw [e1, e3]) hne
          · exact f4 z hz e3 hdz
      · by_cases e3 : z.ip = x.ip
        · obtain ⟨x', hx', e4⟩ := i5 _ (mem_set_self (z := ⟨x.n, x.ip, x.q + 1⟩) hk)
          exact ⟨x', hx', by rw [e4, e3]⟩
        · obtain ⟨x', hx', e4⟩ := i5 z (mem_set hk hz e3)
          exact ⟨x', hx', e4⟩
    · rw [tickS_not hdue, List.nil_append]
      obtain ⟨ls', i1, i2, i3, i4, i5⟩ := tick_rights hown r ls hrr hd (fun z hz => hok z (by simp [hz])) (fun z hz => hq z (by simp [hz]))
      refine ⟨ls', i1, i2, i3, fun x' hx' => ?_, i5⟩
      obtain ⟨x1, hx1, f1, f2, f3, f4⟩ := i4 x' hx'
      refine ⟨x1, hx1, f1, f2, fun hall => f3 fun z hz => hall z (by simp [hz]), fun z hz e3 hdz => ?_⟩
      rcases List.mem_cons.1 hz with rfl | hz
      · exact absurd hdz hdue
      · exact f4 z hz e3 hdz
theorem tick_c {S : St} {ls : List W3} {ms : List Tl} {i : Int} (now : Int) (h0 : S.ok) (h : Inw S ls ms i) : ∃ ls', Rights ms (-1) 0 ls (tickF S now).2 ls' ∧ Mid (tickF S now).1 ls' ms i := by
  obtain ⟨ls', i1, i2, i3, i4, i5⟩ := tick_rights (S := { S with now := hearN S.now now }) (ms := ms) h0.own S.L ls h0.rise h.mid.c (fun y hy => ⟨(h0.ents y hy).ip, (h0.ents y hy).src⟩) (fun y hy hq => by
    obtain ⟨x, hx, e⟩ := h.mid.b y hy hq
    exact ⟨x, hx, e, (h.mid.a x hx y hy e.symm).2.1.symm⟩)
  have hmem : ∀ z ∈ (tickF S now).1.L, ∃ y ∈ S.L, tick1 { S with now := hearN S.now now } y = some z := fun z hz => List.mem_filterMap.1 hz
  refine ⟨ls', i1, fun x' hx' z hz e => ?_, fun z hz hq => ?_, i2, fun x' hx' => ?_, fun z hz hq => ?_, by rw [i3]; exact h.mid.g⟩
  · obtain ⟨y, hy, e1⟩ := hmem z hz
    obtain ⟨x, hx, f1, f2, f3, f4⟩ := i4 x' hx'
    unfold tick1 at e1
    split at e1
    · rename_i hu
      simp only [Option.some.injEq] at e1
      subst e1
      have hxy := h.mid.a x hx y hy (by rw [e, f2])
      refine ⟨hxy.1, ?_, by rw [f1]; exact hxy.2.2⟩
      rw [f3 fun z hz e2 hd => ?_]
      · exact hxy.2.1
      · have : z = y := h0.rise.inj hz hy (by rw [e2, e, f2])
        subst this
        exact hd.1 hu
    · rename_i hu
      split at e1
      · rename_i hq
        simp only [Option.some.injEq] at e1
        subst e1
        have e' : y.ip = x.ip := by rw [← f2]; exact e
        have hxy := h.mid.a x hx y hy e'
        refine ⟨by simp [queE]; omega, ?_, by rw [f1]; exact hxy.2.2⟩
        rw [f4 y hy e' ⟨hu, hq⟩, ← hxy.2.1]
        rfl
      · simp at e1
  · obtain ⟨y, hy, e1⟩ := hmem z hz
    have hyz : y.ip = z.ip ∧ 0 < y.q := by
      unfold tick1 at e1
      split at e1
      · simp only [Option.some.injEq] at e1; subst e1; exact ⟨rfl, hq⟩
      · split at e1
        · rename_i hq2
          simp only [Option.some.injEq] at e1; subst e1; exact ⟨rfl, hq2.1⟩
        · simp at e1
    obtain ⟨x, hx, e2⟩ := h.mid.b y hy hyz.2
    obtain ⟨x', hx', e3⟩ := i5 x hx
    exact ⟨x', hx', by rw [e3, e2, hyz.1]⟩
  · obtain ⟨x, hx, f1, _⟩ := i4 x' hx'
    rw [f1]
    exact h.mid.d x hx
  · obtain ⟨y, hy, e1⟩ := hmem z hz
    unfold tick1 at e1
    split at e1
    · simp only [Option.some.injEq] at e1; subst e1; exact h.mid.e y hy hq
    · split at e1
      · rename_i hq2
        simp only [Option.some.injEq] at e1; subst e1
        exact absurd (by simp [queE]; omega) hq
      · simp at e1
theorem clear_c {S : St} {ms : List Tl} {i : Int} : Mid { S with L := [] } [] ms i :=
  ⟨fun x hx => by simp at hx, fun y hy => by simp at hy, Dis.nil, fun x hx => by simp at hx, fun y hy => by simp at hy, by simp⟩
/-! ### what is left -/
def leftK (L : List Ab) (ls : List W3) (k : Nat) : List W3 := (L.take k).filterMap fun y => if 0 < y.q then ls.find? (fun x => x.ip == y.ip) else none
theorem find_ip {ls : List W3} {k : Nat} {x : W3} {ip : Int} (h : One ls k x fun y => y.ip = ip) : ls.find? (fun x => x.ip == ip) = some x := by
  cases e : ls.find? (fun x => x.ip == ip) with
  | none =>
    have := List.find?_eq_none.1 e x (List.mem_of_getElem? h.1)
    simp at this
    exact absurd h.2.1 this
  | some z =>
    obtain ⟨j, hj⟩ := mem_at (List.mem_of_find?_eq_some e)
    have hz : z.ip = ip := by simpa using List.find?_some e
    have := h.2.2 j z hj hz
    subst this
    rw [h.1] at hj
    exact congrArg some (by simpa using hj.symm)
theorem leftK_zero (L : List Ab) (ls : List W3) : leftK L ls 0 = [] := by simp [leftK]
theorem leftK_asked {L : List Ab} {ls : List W3} {k j : Nat} {y : Ab} {x : W3} (hy : L[k]? = some y) (hq : 0 < y.q) (hx : One ls j x fun z => z.ip = y.ip) : leftK L ls (k + 1) = leftK L ls k ++ [x] := by
  unfold leftK
  rw [List.take_add_one, hy]
  simp only [Option.toList_some, List.filterMap_append]
  simp [hq, find_ip hx]
theorem leftK_known {L : List Ab} {ls : List W3} {k : Nat} {y : Ab} (hy : L[k]? = some y) (hq : ¬ 0 < y.q) : leftK L ls (k + 1) = leftK L ls k := by
  unfold leftK
  rw [List.take_add_one, hy]
  simp only [Option.toList_some, List.filterMap_append]
  simp [hq]
theorem leftK_len (L : List Ab) (ls : List W3) (k : Nat) : (leftK L ls k).length ≤ k := by
  unfold leftK
  have h1 := List.length_filterMap_le (fun y : Ab => if 0 < y.q then ls.find? (fun x => x.ip == y.ip) else none) (L.take k)
  have h2 : (L.take k).length ≤ k := by simp; omega
  omega
theorem left_dis {ls : List W3} (hd : Dis ls) : ∀ {L : List Ab}, Rise L → Dis (L.filterMap fun y => if 0 < y.q then ls.find? (fun x => x.ip == y.ip) else none)
  | [], _ => by simpa using Dis.nil
  | y :: r, hr => by
    have hry : ∀ z ∈ r, y.ip < z.ip := (List.pairwise_cons.1 hr).1
    have ih := left_dis hd (List.pairwise_cons.1 hr).2
    rw [List.filterMap_cons]
    split
    · exact ih
    · rename_i x hx
      have hx1 : x ∈ ls ∧ x.ip = y.ip := by
        split at hx
        · exact ⟨List.mem_of_find?_eq_some hx, by simpa using List.find?_some hx⟩
        · simp at hx
      have hno : ∀ z ∈ r.filterMap (fun y => if 0 < y.q then ls.find? (fun x => x.ip == y.ip) else none), z ∈ ls ∧ z.ip ≠ x.ip := fun z hz => by
        obtain ⟨y', hy', e⟩ := List.mem_filterMap.1 hz
        split at e
        · have h1 : z.ip = y'.ip := by simpa using List.find?_some e
          have := hry y' hy'
          exact ⟨List.mem_of_find?_eq_some e, by omega⟩
        · simp at e
      intro i j a b ha hb e
      rcases i with _ | i <;> rcases j with _ | j
      · rfl
      · simp at ha hb
        subst ha
        exfalso
        obtain ⟨h1, h2⟩ := hno b (List.mem_of_getElem? hb)
        obtain ⟨k1, hk1⟩ := mem_at hx1.1
        obtain ⟨k2, hk2⟩ := mem_at h1
        have := hd k1 k2 _ _ hk1 hk2 e
        subst this
        rw [hk1] at hk2
        simp only [Option.some.injEq] at hk2
        exact h2 (by rw [hk2])
      · simp at ha hb
        subst hb
        exfalso
        obtain ⟨h1, h2⟩ := hno a (List.mem_of_getElem? ha)
        obtain ⟨k1, hk1⟩ := mem_at hx1.1
        obtain ⟨k2, hk2⟩ := mem_at h1
        have := hd k2 k1 _ _ hk2 hk1 e
        subst this
        rw [hk1] at hk2
        simp only [Option.some.injEq] at hk2
        exact h2 (by rw [hk2])
      · simp at ha hb
        rw [ih i j a b ha hb e]
theorem left_inw {S : St} {ls : List W3} {ms : List Tl} {i : Int} (h0 : S.ok) (h : Mid S ls ms i) : Inw S (leftK S.L ls S.L.length) ms i := by
  have e0 : leftK S.L ls S.L.length = S.L.filterMap fun y => if 0 < y.q then ls.find? (fun x => x.ip == y.ip) else none := by unfold leftK; rw [List.take_length]
  have hm : ∀ x ∈ leftK S.L ls S.L.length, x ∈ ls ∧ ∃ y ∈ S.L, y.ip = x.ip := fun x hx => by
    rw [e0] at hx
    obtain ⟨y, hy, e⟩ := List.mem_filterMap.1 hx
    split at e
    · exact ⟨List.mem_of_find?_eq_some e, y, hy, by have := List.find?_some e; simp at this; exact this.symm⟩
    · simp at e
  have hl : (leftK S.L ls S.L.length).length ≤ 64 := by
    have h1 := leftK_len S.L ls S.L.length
    have := h0.len
    have := h0.most
    omega
  refine ⟨⟨fun x hx => h.a x (hm x hx).1, fun y hy hq => ?_, by rw [e0]; exact left_dis h.c h0.rise, fun x hx => h.d x (hm x hx).1, h.e, by omega⟩, fun x hx => (hm x hx).2, hl⟩
  obtain ⟨x, hx, e⟩ := h.b y hy hq
  obtain ⟨k, hk⟩ := mem_at hx
  refine ⟨x, ?_, e⟩
  rw [e0, List.mem_filterMap]
  exact ⟨y, hy, by rw [if_pos hq]; exact find_ip (h.c.ip hk e)⟩
end Go.Proofs.Ytaaoelhmanahpaa
