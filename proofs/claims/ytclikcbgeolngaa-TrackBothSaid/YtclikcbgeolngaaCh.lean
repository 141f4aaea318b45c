/-
  A region that draws its order, by what holds in each of its states; a chain of a writer's calls in such a region. No condition.
-/
import Derived.Test.YtclikcbgeolngaaGen
import Derived.Test.YtclikcbgeolngaaWc
import Derived.Deep.RegionHeld3
import Derived.Deep.DeepCutAuto
namespace Go.Proofs.Ytclikcbgeolngaa
open Go.RowKit
set_option linter.unusedVariables false

/-- How many have not come up. -/
def cntF : List Bool → Nat
  | [] => 0
  | b :: r => (if b then 0 else 1) + cntF r
theorem cntF_set : ∀ (l : List Bool) (i : Nat), l[i]? = some false → cntF (l.set i true) + 1 = cntF l
  | [], i, h => by simp at h
  | b :: r, 0, h => by
    simp at h
    subst h
    simp [cntF]
    omega
  | b :: r, i + 1, h => by
    simp only [List.getElem?_cons_succ] at h
    have := cntF_set r i h
    simp only [List.set_cons_succ, cntF]
    omega
theorem cntF_zero : ∀ (l : List Bool), cntF l = 0 → ∀ i : Nat, l[i]? ≠ some false
  | [], _, i => by simp
  | b :: r, h, 0 => by
    cases b
    · simp [cntF] at h
    · simp
  | b :: r, h, i + 1 => by
    simp only [cntF] at h
    have := cntF_zero r (by omega) i
    simpa using this
theorem getD_list {l : Array Bool} {i : Nat} (h : l.getD i true = false) : l.toList[i]? = some false := by
  by_cases hi : i < l.size
  · simp [hi] at h
    simp [hi, h]
  · simp [hi] at h

/-- The ops from k on meet φ. -/
def AllOps (φ : Nat → Oper → Prop) : Nat → List Oper → Prop
  | _, [] => True
  | k, o :: L => φ k o ∧ AllOps φ (k + 1) L
theorem AllOps.at_ {φ : Nat → Oper → Prop} : ∀ (L : List Oper) (k : Nat), AllOps φ k L → ∀ (i : Nat) (o : Oper), L[i]? = some o → φ (k + i) o
  | [], _, _, i, o, h => by simp at h
  | x :: L, k, hL, 0, o, h => by
    simp at h
    subst h
    exact hL.1
  | x :: L, k, hL, i + 1, o, h => by
    have := AllOps.at_ L (k + 1) hL.2 i o (by simpa using h)
    rwa [show k + 1 + i = k + (i + 1) by omega] at this
/-- Nobody waits for who comes later in the text. -/
def acyc : Nat → List Oper → Bool
  | _, [] => true
  | k, o :: L => o.after.toList.all (fun e => decide (e.on < k)) && acyc (k + 1) L
theorem acyc_at : ∀ (L : List Oper) (k : Nat), acyc k L = true → ∀ (i : Nat) (o : Oper), L[i]? = some o → ∀ e ∈ o.after, e.on < k + i
  | [], _, _, i, o, h, _, _ => by simp at h
  | x :: L, k, hL, 0, o, h, e, he => by
    simp at h
    subst h
    simp only [acyc, Bool.and_eq_true, List.all_eq_true] at hL
    have := hL.1 e (by simpa using he)
    simpa using this
  | x :: L, k, hL, i + 1, o, h, e, he => by
    simp only [acyc, Bool.and_eq_true] at hL
    have := acyc_at L (k + 1) hL.2 i o (by simpa using h) e he
    omega

section
variable {P : Program} {ops : Array Oper} {Q : Exit → Act → World → Prop} {md : Region.Mode} {S : World → Prop}
/-- What one operation must do: from a state that I holds of, in which it may come up, to one that I holds of. -/
def StepH (P : Program) (md : Region.Mode) (ops : Array Oper) (Q : Exit → Act → World → Prop) (I : Array Bool → Act → World → Prop) (i : Nat) (o : Oper) : Prop :=
  ∀ (l : Array Bool) (a : Act) (w : World), I l a w → l.getD i true = false → (∀ e ∈ o.after, Region.binds md e = true → l.getD e.on false = true) →
    ∀ K' : Act → World → Prop, Shut (∀ a' w', I (l.setIfInBounds i true) a' w' → K' a' w') → if Region.wanted o (yielded ops a.tmps) = true then Oper.wp P o a w K' Q else K' (a.put o.dst undef) w
theorem wpAnyH_inv (I : Array Bool → Act → World → Prop) (hsz : ∀ l a w, I l a w → l.size = ops.size) (hS : ∀ l a w, I l a w → S w) (hac : acyc 0 ops.toList = true)
    (hend : ∀ l a w, I l a w → (∀ i, i < ops.size → l.getD i true = true) → Q .normal a w) (hops : AllOps (StepH P md ops Q I) 0 ops.toList) :
    ∀ (fuel : Nat) (l : Array Bool) (a : Act) (w : World), cntF l.toList ≤ fuel → I l a w → wpAnyH P md ops Q S fuel l a w := by
  have hready : ∀ l a w, I l a w → Region.ready md ops l = [] → Q .normal a w := by
    intro l a w hI hr
    have hz := hsz l a w hI
    refine hend l a w hI (fun i => ?_)
    induction i using Nat.strongRecOn with
    | ind i ih =>
      intro hi
      cases hg : l.getD i true with
      | true => rfl
      | false =>
        exfalso
        have ho : ops[i]? = some ops[i] := Array.getElem?_eq_getElem hi
        have hm : i ∈ Region.ready md ops l := by
          refine mem_ready.2 ⟨hg, ops[i], ho, fun e he _ => ?_⟩
          have hlt := acyc_at ops.toList 0 hac i ops[i] (by simp) e he
          have h1 := ih e.on (by omega) (by omega)
          have h2 : e.on < l.size := by omega
          simp only [Array.getD, h2, dite_true] at h1 ⊢
          exact h1
        rw [hr] at hm
        cases hm
  intro fuel
  induction fuel with
  | zero =>
    intro l a w hc hI
    have hr : Region.ready md ops l = [] := by
      refine List.eq_nil_iff_forall_not_mem.2 (fun i hi => ?_)
      exact cntF_zero _ (by omega) i (getD_list (mem_ready.1 hi).1)
    exact ⟨hr, hready l a w hI hr⟩
  | succ fuel ih =>
    intro l a w hc hI
    refine ⟨hready l a w hI, fun i hi => ?_⟩
    obtain ⟨hun, o, ho, hdep⟩ := mem_ready.1 hi
    have hst := AllOps.at_ ops.toList 0 hops i o (by simpa using ho)
    rw [Nat.zero_add] at hst
    refine wpOp_step ho (fun K' hK => hst l a w hI hun hdep K' (fun a' w' hI' => hK a' w' ⟨hS _ _ _ hI', ih _ a' w' ?_ hI'⟩))
    have := cntF_set l.toList i (getD_list hun)
    rw [Array.toList_setIfInBounds]
    omega
end

/-- Blocks of numbers are as they were. -/
def Kp (w w' : World) : Prop := ∀ (q : Nat) (cs : Array Value), Blk w q 3 cs → Blk w' q 3 cs
theorem Kp.blk {w w' : World} {q : Nat} {cs : Array Value} (k : Kp w w') (h : Blk w q 3 cs) : Blk w' q 3 cs := k q cs h
section
variable {w1 w w' : World} {p : Nat} {st : Option (List UInt8)} {N : Nat}
end

/-- A step of a chain: is its row laid, is its call done; their slots; the row's block; the width, the numbers. -/
structure CS where
  al : Bool
  cl : Bool
  v : Value
  c : Value
  q : Nat
  n : Int
  xs : List Int
def prevB : Bool → List CS → Bool
  | b, [] => b
  | _, s :: r => prevB s.cl r
def prevV : Value → List CS → Value
  | u, [] => u
  | _, s :: r => prevV s.c r
def stOf : Option (List UInt8) → List CS → Option (List UInt8)
  | st, [] => st
  | st, s :: r => stOf (putS s.n s.xs st) r
def nOf : Nat → List CS → Nat
  | N, [] => N
  | N, s :: r => nOf (N + 8 * s.xs.length) r
/-- What Done hands back. -/
def DW (b : Nat) (st : Option (List UInt8)) (A : Option Addr) (k c : Nat) (x : Int) (w : World) : Prop :=
  match st with
  | none => A = none ∧ k = 0 ∧ c = 0 ∧ x = 1
  | some l => x = 0 ∧ k = l.length ∧ w.ownsRow b 5 1 (.slice A k c) k (bcs l)
end Go.Proofs.Ytclikcbgeolngaa
