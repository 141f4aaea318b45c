/-
  A region that draws its order, by what holds in each of its states; a chain of a writer's calls in such a region. No condition.
-/
import Derived.Test.YtbbjecjhkjjbkaaGen
import Derived.Test.YtbbjecjhkjjbkaaWc
import Derived.Deep.RegionHeld3
import Derived.Deep.DeepCutAuto
namespace Go.Proofs.Ytbbjecjhkjjbkaa
open Go.RowKit
set_option linter.unusedVariables false

/-- How many have not come up. -/
def cntF : List Bool → Nat
  | [] => 0
  | b :: r => (if b then 0 else 1) + cntF r
theorem cntF_set : ∀ (l : List Bool) (i : Nat), l[i]? = some false → cntF (l.set i true) + 1 = cntF l
  | [], i, h => by simp at h
  | b :: r, 0, h => by
    simp at h
    subst h
    simp [cntF]
    omega
  | b :: r, i + 1, h => by
    simp only [List.getElem?_cons_succ] at h
    have := cntF_set r i h
    simp only [List.set_cons_succ, cntF]
    omega
theorem cntF_zero : ∀ (l : List Bool), cntF l = 0 → ∀ i : Nat, l[i]? ≠ some false
  | [], _, i => by simp
  | b :: r, h, 0 => by
    cases b
    · simp [cntF] at h
    · simp
  | b :: r, h, i + 1 => by
    simp only [cntF] at h
    have := cntF_zero r (by omega) i
    simpa using this
theorem getD_list {l : Array Bool} {i : Nat} (h : l.getD i true = false) : l.toList[i]? = some false := by
  by_cases hi : i < l.size
  · simp [hi] at h
    simp [hi, h]
  · simp [hi] at h

/-- The ops from k on meet φ. -/
def AllOps (φ : Nat → Oper → Prop) : Nat → List Oper → Prop
  | _, [] => True
  | k, o :: L => φ k o ∧ AllOps φ (k + 1) L
theorem AllOps.at_ {φ : Nat → Oper → Prop} : ∀ (L : List Oper) (k : Nat), AllOps φ k L → ∀ (i : Nat) (o : Oper), L[i]? = some o → φ (k + i) o
  | [], _, _, i, o, h => by simp at h
  | x :: L, k, hL, 0, o, h => by
    simp at h
    subst h
    exact hL.1
  | x :: L, k, hL, i + 1, o, h => by
    have := AllOps.at_ L (k + 1) hL.2 i o (by simpa using h)
    rwa [show k + 1 + i = k + (i + 1) by omega] at this
/-- Nobody waits for who comes later in the text. -/
def acyc : Nat → List Oper → Bool
  | _, [] => true
  | k, o :: L => o.after.toList.all (fun e => decide (e.on < k)) && acyc (k + 1) L
theorem acyc_at : ∀ (L : List Oper) (k : Nat), acyc k L = true → ∀ (i : Nat) (o : Oper), L[i]? = some o → ∀ e ∈ o.after, e.on < k + i
  | [], _, _, i, o, h, _, _ => by simp at h
  | x :: L, k, hL, 0, o, h, e, he => by
    simp at h
    subst h
    simp only [acyc, Bool.and_eq_true, List.all_eq_true] at hL
    have := hL.1 e (by simpa using he)
    simpa using this
  | x :: L, k, hL, i + 1, o, h, e, he => by
    simp only [acyc, Bool.and_eq_true] at hL
    have := acyc_at L (k + 1) hL.2 i o (by simpa using h) e he
    omega

section
variable {P : Program} {ops : Array Oper} {Q : Exit → Act → World → Prop} {md : Region.Mode} {S : World → Prop}
/-- What one operation must do: from a state that I holds of, in which it may come up, to one that I holds of. -/
def StepH (P : Program) (md : Region.Mode) (ops : Array Oper) (Q : Exit → Act → World → Prop) (I : Array Bool → Act → World → Prop) (i : Nat) (o : Oper) : Prop :=
  ∀ (l : Array Bool) (a : Act) (w : World), I l a w → l.getD i true = false → (∀ e ∈ o.after, Region.binds md e = true → l.getD e.on false = true) →
    ∀ K' : Act → World → Prop, Shut (∀ a' w', I (l.setIfInBounds i true) a' w' → K' a' w') → if Region.wanted o (yielded ops a.tmps) = true then Oper.wp P o a w K' Q else K' (a.put o.dst undef) w
theorem wpAnyH_inv (I : Array Bool → Act → World → Prop) (hsz : ∀ l a w, I l a w → l.size = ops.size) (hS : ∀ l a w, I l a w → S w) (hac : acyc 0 ops.toList = true)
    (hend : ∀ l a w, I l a w → (∀ i, i < ops.size → l.getD i true = true) → Q .normal a w) (hops : AllOps (StepH P md ops Q I) 0 ops.toList) :
    ∀ (fuel : Nat) (l : Array Bool) (a : Act) (w : World), cntF l.toList ≤ fuel → I l a w → wpAnyH P md ops Q S fuel l a w := by
  have hready : ∀ l a w, I l a w → Region.ready md ops l = [] → Q .normal a w := by
    intro l a w hI hr
    have hz := hsz l a w hI
    refine hend l a w hI (fun i => ?_)
    induction i using Nat.strongRecOn with
    | ind i ih =>
      intro hi
      cases hg : l.getD i true with
      | true => rfl
      | false =>
        exfalso
        have ho : ops[i]? = some ops[i] := Array.getElem?_eq_getElem hi
        have hm : i ∈ Region.ready md ops l := by
          refine mem_ready.2 ⟨hg, ops[i], ho, fun e he _ => ?_⟩
          have hlt := acyc_at ops.toList 0 hac i ops[i] (by simp) e he
          have h1 := ih e.on (by omega) (by omega)
          have h2 : e.on < l.size := by omega
          simp only [Array.getD, h2, dite_true] at h1 ⊢
          exact h1
        rw [hr] at hm
        cases hm
  intro fuel
  induction fuel with
  | zero =>
    intro l a w hc hI
    have hr : Region.ready md ops l = [] := by
      refine List.eq_nil_iff_forall_not_mem.2 (fun i hi => ?_)
      exact cntF_zero _ (by omega) i (getD_list (mem_ready.1 hi).1)
    exact ⟨hr, hready l a w hI hr⟩
  | succ fuel ih =>
    intro l a w hc hI
    refine ⟨hready l a w hI, fun i hi => ?_⟩
    obtain ⟨hun, o, ho, hdep⟩ := mem_ready.1 hi
    have hst := AllOps.at_ ops.toList 0 hops i o (by simpa using ho)
    rw [Nat.zero_add] at hst
    refine wpOp_step ho (fun K' hK => hst l a w hI hun hdep K' (fun a' w' hI' => hK a' w' ⟨hS _ _ _ hI', ih _ a' w' ?_ hI'⟩))
    have := cntF_set l.toList i (getD_list hun)
    rw [Array.toList_setIfInBounds]
    omega
end

/-- A writer p, laid since w1: its state. -/
def Wat (w1 : World) (p : Nat) (st : Option (List UInt8)) (N : Nat) (w : World) : Prop :=
  ∃ o, Wr 75 5 w p o st N ∧ Chg (fun _ => False) w1 w ∧ w1.heap.size ≤ p ∧ (∀ k, o = some k → w1.heap.size ≤ k)
/-- Blocks of numbers are as they were. -/
def Kp (w w' : World) : Prop := ∀ (q : Nat) (cs : Array Value), Blk w q 3 cs → Blk w' q 3 cs
theorem Kp.blk {w w' : World} {q : Nat} {cs : Array Value} (k : Kp w w') (h : Blk w q 3 cs) : Blk w' q 3 cs := k q cs h
section
variable {w1 w w' : World} {p : Nat} {st : Option (List UInt8)} {N : Nat}
theorem Wat.was (h : Wat w1 p st N w) : Chg (fun _ => False) w1 w := by
  obtain ⟨o, _, hc, _⟩ := h
  exact hc
theorem Wat.chg (h : Wat w1 p st N w) (hc : Chg (fun _ => False) w w') : Wat w1 p st N w' := by
  obtain ⟨o, hw, hC, hp, ho⟩ := h
  exact ⟨o, hw.chg hc id (fun _ _ => id), hC.trans hc (fun _ _ e => e), hp, ho⟩
theorem Wat.drew (h : Wat w1 p st N w) : Wat w1 p st N w.drew := h.chg (Chg.refl _ w).drew
theorem Wat.alloc (h : Wat w1 p st N w) (o : Obj) : Wat w1 p st N (w.alloc o) := h.chg ((Chg.refl _ w).alloc o)
theorem Wat.start (hC : Chg (fun _ => False) w1 w) (hp : w1.heap.size ≤ p) (hb : Blk w p 75 #[.slice none 0 0, .bool false]) : Wat w1 p (some []) 0 w :=
  ⟨none, ⟨[], false, none, 0, ⟨hb, World.ownsRow_nil _ 0 _ 1, rfl, by simp⟩, Nat.le_refl _, rfl, rfl⟩, hC, hp, fun k hk => by cases hk⟩
end

theorem wat_put (p q N : Nat) (n : Int) (l : List Int) (st : Option (List UInt8)) (w1 W : World) (h : Wat w1 p st N W) (hq : Blk W q 3 (ics l).toArray) (hw : ∀ x ∈ l, -9223372036854775808 ≤ x ∧ x ≤ 9223372036854775807) (hN : N + 8 * l.length ≤ 1000000) :
    Calls Try.prog 27 #[.pointer (some ⟨p, 0, none⟩), .int .i64 n, .slice (some ⟨q, 0, none⟩) l.length l.length] W fun e w' => e = .returned (.pointer (some ⟨p, 0, none⟩)) ∧ Wat w1 p (putS n l st) (N + 8 * l.length) w' ∧ Kp W w' := by
  obtain ⟨o, hwr, hC, hp, ho⟩ := h
  have hkeep : ∀ (q : Nat) (cs : Array Value), Blk W q 3 cs → q ≠ p ∧ o ≠ some q := by
    intro q cs hq
    obtain ⟨bs, f, A, c, hob, _⟩ := hwr
    refine ⟨?_, ?_⟩
    · rintro rfl
      have h : Blk W q _ _ := hob.blk
      have h := h.symm.trans hq
      simp at h
    · rintro rfl
      have ha := hob.at_
      rcases hob.own.2 with ⟨e, _⟩ | ⟨g, cap, cur, e, _, hh, _⟩
      · injection e with e
        subst e
        cases ha
      · injection e with e
        subst e
        injection ha with ha
        have ha : g = q := ha
        subst ha
        have h := hh.symm.trans hq
        simp at h
  have hr := hq.rds
  rw [List.size_toArray, List.toList_toArray, ics_len] at hr
  have hput := put_any p o st N n l (some ⟨q, 0, none⟩) l.length l.length W (fun k => k = q) hwr rfl hr (fun k hk => by subst hk; exact hkeep _ _ hq) hw (by omega)
  refine hput.mono fun e w' ⟨he, o', hw', hm'⟩ => ?_
  obtain ⟨h1, h2⟩ := fresh_mvd hC hm' hp ho
  refine ⟨he, ⟨o', hw', h1, hp, h2⟩, fun q' cs hb => hb.chg hm'.1 ?_⟩
  obtain ⟨e1, e2⟩ := hkeep q' cs hb
  rintro (h | h)
  · exact e1 h
  · exact e2 h
theorem wat_one (p q N : Nat) (n x : Int) (st : Option (List UInt8)) (w1 W : World) (hx : -9223372036854775808 ≤ x ∧ x ≤ 9223372036854775807) (hN : N ≤ 1000) (h : Wat w1 p st N W) (hq : Blk W q 3 #[.int .i64 x]) :
    Calls Try.prog 27 #[.pointer (some ⟨p, 0, none⟩), .int .i64 n, .slice (some ⟨q, 0, none⟩) 1 1] W fun e w' => e = .returned (.pointer (some ⟨p, 0, none⟩)) ∧ Wat w1 p (putS n [x] st) (N + 8) w' ∧ Kp W w' :=
  wat_put p q N n [x] st w1 W h hq (fun y hy => by simp only [List.mem_singleton] at hy; subst hy; exact hx) (by simp only [List.length_singleton]; omega)
theorem wat_two (p q N : Nat) (n x y : Int) (st : Option (List UInt8)) (w1 W : World) (hx : -9223372036854775808 ≤ x ∧ x ≤ 9223372036854775807) (hy : -9223372036854775808 ≤ y ∧ y ≤ 9223372036854775807) (hN : N ≤ 1000) (h : Wat w1 p st N W) (hq : Blk W q 3 #[.int .i64 x, .int .i64 y]) :
    Calls Try.prog 27 #[.pointer (some ⟨p, 0, none⟩), .int .i64 n, .slice (some ⟨q, 0, none⟩) 2 2] W fun e w' => e = .returned (.pointer (some ⟨p, 0, none⟩)) ∧ Wat w1 p (putS n [x, y] st) (N + 16) w' ∧ Kp W w' :=
  wat_put p q N n [x, y] st w1 W h hq (fun z hz => by simp only [List.mem_cons, List.not_mem_nil, or_false] at hz; rcases hz with rfl | rfl; exact hx; exact hy) (by simp only [List.length_cons, List.length_nil]; omega)
/-- A step of a chain: is its row laid, is its call done; their slots; the row's block; the width, the numbers. -/
structure CS where
  al : Bool
  cl : Bool
  v : Value
  c : Value
  q : Nat
  n : Int
  xs : List Int
/-- How far a chain of Put is: behind b (whose slot is u) the writer p holds st. -/
def Ch (w1 w : World) (p : Nat) : Bool → Value → Option (List UInt8) → Nat → List CS → Prop
  | b, u, st, N, [] => b = true → (u = .pointer (some ⟨p, 0, none⟩) ∧ Wat w1 p st N w)
  | b, u, st, N, s :: r => (b = true → u = .pointer (some ⟨p, 0, none⟩)) ∧ (s.al = true → s.v = .slice (some ⟨s.q, 0, none⟩) s.xs.length s.xs.length ∧ Blk w s.q 3 (ics s.xs).toArray) ∧ (s.cl = true → b = true) ∧
      (b = true → s.cl = false → Wat w1 p st N w) ∧ Ch w1 w p s.cl s.c (putS s.n s.xs st) (N + 8 * s.xs.length) r
theorem Ch.chg {w1 w w' : World} {p : Nat} (hc : Chg (fun _ => False) w w') : ∀ (L : List CS) (b : Bool) (u : Value) (st : Option (List UInt8)) (N : Nat), Ch w1 w p b u st N L → Ch w1 w' p b u st N L
  | [], _, _, _, _, h => fun hb => ⟨(h hb).1, (h hb).2.chg hc⟩
  | s :: r, _, _, _, _, ⟨h1, h2, h3, h4, h5⟩ => ⟨h1, fun ha => ⟨(h2 ha).1, (h2 ha).2.chg hc id⟩, h3, fun hb hs => (h4 hb hs).chg hc, Ch.chg hc r _ _ _ _ h5⟩
theorem Ch.idle {w1 w w' : World} {p p' : Nat} (hc : Chg (fun _ => False) w w') : ∀ (L : List CS) (u u' : Value) (st st' : Option (List UInt8)) (N N' : Nat), Ch w1 w p false u st N L → Ch w1 w' p' false u' st' N' L
  | [], _, _, _, _, _, _, _ => fun hb => by cases hb
  | s :: r, _, _, _, _, _, _, ⟨h1, h2, h3, h4, h5⟩ => by
    refine ⟨fun hb => (by cases hb), fun ha => ⟨(h2 ha).1, (h2 ha).2.chg hc id⟩, h3, fun hb => (by cases hb), ?_⟩
    have hs : s.cl = false := by
      cases hcl : s.cl
      · rfl
      · exact absurd (h3 hcl) (by decide)
    rw [hs] at h5 ⊢
    exact Ch.idle hc r _ _ _ _ _ _ h5
theorem Ch.begin {w1 w w' : World} {p p' : Nat} {u : Value} {st st' : Option (List UInt8)} {N N' : Nat} {L : List CS} (h : Ch w1 w p false u st N L) (hc : Chg (fun _ => False) w w') (hw : Wat w1 p' st' N' w') :
    Ch w1 w' p' true (.pointer (some ⟨p', 0, none⟩)) st' N' L := by
  cases L with
  | nil => exact fun _ => ⟨rfl, hw⟩
  | cons s r =>
    obtain ⟨h1, h2, h3, h4, h5⟩ := h
    refine ⟨fun _ => rfl, fun ha => ⟨(h2 ha).1, (h2 ha).2.chg hc id⟩, fun _ => rfl, fun _ _ => hw, ?_⟩
    have hs : s.cl = false := by
      cases hcl : s.cl
      · rfl
      · exact absurd (h3 hcl) (by decide)
    rw [hs] at h5 ⊢
    exact Ch.idle hc r _ _ _ _ _ _ h5
theorem Ch.idle' {w1 w w' : World} {p p' : Nat} (hk : Kp w w') : ∀ (L : List CS) (u u' : Value) (st st' : Option (List UInt8)) (N N' : Nat), Ch w1 w p false u st N L → Ch w1 w' p' false u' st' N' L
  | [], _, _, _, _, _, _, _ => fun hb => by cases hb
  | s :: r, _, _, _, _, _, _, ⟨h1, h2, h3, h4, h5⟩ => by
    refine ⟨fun hb => (by cases hb), fun ha => ⟨(h2 ha).1, hk.blk (h2 ha).2⟩, h3, fun hb => (by cases hb), ?_⟩
    have hs : s.cl = false := by
      cases hcl : s.cl
      · rfl
      · exact absurd (h3 hcl) (by decide)
    rw [hs] at h5 ⊢
    exact Ch.idle' hk r _ _ _ _ _ _ h5
theorem Ch.begin' {w1 w w' : World} {p p' : Nat} {u : Value} {st st' : Option (List UInt8)} {N N' : Nat} {L : List CS} (hk : Kp w w') (h : Ch w1 w p false u st N L) (hw : Wat w1 p' st' N' w') :
    Ch w1 w' p' true (.pointer (some ⟨p', 0, none⟩)) st' N' L := by
  cases L with
  | nil => exact fun _ => ⟨rfl, hw⟩
  | cons s r =>
    obtain ⟨h1, h2, h3, h4, h5⟩ := h
    refine ⟨fun _ => rfl, fun ha => ⟨(h2 ha).1, hk.blk (h2 ha).2⟩, fun _ => rfl, fun _ _ => hw, ?_⟩
    have hs : s.cl = false := by
      cases hcl : s.cl
      · rfl
      · exact absurd (h3 hcl) (by decide)
    rw [hs] at h5 ⊢
    exact Ch.idle' hk r _ _ _ _ _ _ h5
theorem Ch.lay {w1 w w' : World} {p : Nat} (hc : Chg (fun _ => False) w w') (q : Nat) (s : CS) (l2 : List CS) (hq : Blk w' q 3 (ics s.xs).toArray) : ∀ (l1 : List CS) (b : Bool) (u : Value) (st : Option (List UInt8)) (N : Nat),
    Ch w1 w p b u st N (l1 ++ s :: l2) → Ch w1 w' p b u st N (l1 ++ { s with al := true, v := .slice (some ⟨q, 0, none⟩) s.xs.length s.xs.length, q := q } :: l2)
  | [], _, _, _, _, ⟨h1, h2, h3, h4, h5⟩ => ⟨h1, fun _ => ⟨rfl, hq⟩, h3, fun hb hs => (h4 hb hs).chg hc, Ch.chg hc l2 _ _ _ _ h5⟩
  | x :: r, _, _, _, _, ⟨h1, h2, h3, h4, h5⟩ => ⟨h1, fun ha => ⟨(h2 ha).1, (h2 ha).2.chg hc id⟩, h3, fun hb hs => (h4 hb hs).chg hc, Ch.lay hc q s l2 hq r _ _ _ _ h5⟩
def prevB : Bool → List CS → Bool
  | b, [] => b
  | _, s :: r => prevB s.cl r
def prevV : Value → List CS → Value
  | u, [] => u
  | _, s :: r => prevV s.c r
def stOf : Option (List UInt8) → List CS → Option (List UInt8)
  | st, [] => st
  | st, s :: r => stOf (putS s.n s.xs st) r
def nOf : Nat → List CS → Nat
  | N, [] => N
  | N, s :: r => nOf (N + 8 * s.xs.length) r
theorem Ch.back {w1 w : World} {p : Nat} : ∀ (l1 l2 : List CS) (b : Bool) (u : Value) (st : Option (List UInt8)) (N : Nat), Ch w1 w p b u st N (l1 ++ l2) → prevB b l1 = true → b = true
  | [], _, _, _, _, _, _, hb => hb
  | x :: r, l2, _, _, _, _, ⟨_, _, h3, _, h5⟩, hb => h3 (Ch.back r l2 _ _ _ _ h5 hb)
/-- What a call of the chain finds. -/
theorem Ch.find {w1 w : World} {p : Nat} (s : CS) (l2 : List CS) (ha : s.al = true) (hs : s.cl = false) : ∀ (l1 : List CS) (b : Bool) (u : Value) (st : Option (List UInt8)) (N : Nat), Ch w1 w p b u st N (l1 ++ s :: l2) → prevB b l1 = true →
    prevV u l1 = .pointer (some ⟨p, 0, none⟩) ∧ s.v = .slice (some ⟨s.q, 0, none⟩) s.xs.length s.xs.length ∧ Blk w s.q 3 (ics s.xs).toArray ∧ Wat w1 p (stOf st l1) (nOf N l1) w
  | [], _, _, _, _, ⟨h1, h2, _, h4, _⟩, hb => ⟨h1 hb, (h2 ha).1, (h2 ha).2, h4 hb hs⟩
  | x :: r, _, _, _, _, ⟨_, _, _, _, h5⟩, hb => Ch.find s l2 ha hs r _ _ _ _ h5 hb
/-- .. and what it leaves. -/
theorem Ch.call {w1 w w' : World} {p : Nat} (hk : Kp w w') (s : CS) (l2 : List CS) (hs : s.cl = false) : ∀ (l1 : List CS) (b : Bool) (u : Value) (st : Option (List UInt8)) (N : Nat), Ch w1 w p b u st N (l1 ++ s :: l2) → prevB b l1 = true →
    Wat w1 p (putS s.n s.xs (stOf st l1)) (nOf N l1 + 8 * s.xs.length) w' → Ch w1 w' p b u st N (l1 ++ { s with cl := true, c := .pointer (some ⟨p, 0, none⟩) } :: l2)
  | [], b, u, st, N, ⟨h1, h2, h3, h4, h5⟩, hb, hw => by
    refine ⟨h1, fun ha => ⟨(h2 ha).1, hk.blk (h2 ha).2⟩, fun _ => hb, fun _ h => (by cases h), ?_⟩
    rw [hs] at h5
    show Ch w1 w' p true (.pointer (some ⟨p, 0, none⟩)) (putS s.n s.xs st) (N + 8 * s.xs.length) l2
    exact Ch.begin' hk h5 hw
  | x :: r, b, u, st, N, ⟨h1, h2, h3, h4, h5⟩, hb, hw => by
    have hx : x.cl = true := Ch.back r _ _ _ _ _ h5 hb
    exact ⟨h1, fun ha => ⟨(h2 ha).1, hk.blk (h2 ha).2⟩, h3, fun _ h => (by rw [hx] at h; cases h), Ch.call hk s l2 hs r _ _ _ _ h5 hb hw⟩
theorem Ch.last {w1 w : World} {p : Nat} : ∀ (L : List CS) (b : Bool) (u : Value) (st : Option (List UInt8)) (N : Nat), Ch w1 w p b u st N L → prevB b L = true → prevV u L = .pointer (some ⟨p, 0, none⟩) ∧ Wat w1 p (stOf st L) (nOf N L) w
  | [], _, _, _, _, h, hb => h hb
  | s :: r, _, _, _, _, ⟨_, _, _, _, h5⟩, hb => Ch.last r _ _ _ _ h5 hb

/-- What Done hands back. -/
def DW (b : Nat) (st : Option (List UInt8)) (A : Option Addr) (k c : Nat) (x : Int) (w : World) : Prop :=
  match st with
  | none => A = none ∧ k = 0 ∧ c = 0 ∧ x = 1
  | some l => x = 0 ∧ k = l.length ∧ w.ownsRow b 5 1 (.slice A k c) k (bcs l)
theorem wat_done (p N : Nat) (st : Option (List UInt8)) (w1 W : World) (hN : N ≤ 1000) (h : Wat w1 p st N W) :
    Calls Try.prog 29 #[.pointer (some ⟨p, 0, none⟩)] W fun e w' => ∃ A k c x, e = .returned (.tuple #[.slice A k c, .int .i64 x]) ∧ DW w1.heap.size st A k c x w' ∧ Chg (fun _ => False) w1 w' := by
  obtain ⟨o, hw, hC, _, _⟩ := h
  rcases st with _ | b
  · refine (wdone_none p o N W hw).mono ?_
    rintro e w' ⟨rfl, rfl⟩
    exact ⟨none, 0, 0, 1, rfl, ⟨rfl, rfl, rfl, rfl⟩, hC⟩
  · refine (wdone_some p o b N W hw (by omega)).mono ?_
    rintro e w' ⟨A', k, c', rfl, hk, hown, hc⟩
    exact ⟨A', k, c', 0, rfl, ⟨rfl, hk, own_base hown hC.size⟩, hC.trans hc (fun _ _ e => e)⟩


end Go.Proofs.Ytbbjecjhkjjbkaa
