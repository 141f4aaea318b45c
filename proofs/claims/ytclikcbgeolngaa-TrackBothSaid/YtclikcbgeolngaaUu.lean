/-
  Arguments that are messages, by value, opened to what the walks ask. No condition.
-/
import Derived.Test.YtclikcbgeolngaaUf
import Derived.Test.YtclikcbgeolngaaArgs
import Derived.ProofKit
import Derived.OpenShut
import Derived.ChangeOld
import Derived.Lib.SmallJoins
namespace Go.Proofs.Ytclikcbgeolngaa
open Go.RowKit Go.ChangeShapes Go.WideShapes Go.ChangeAt
set_option linter.unusedVariables false

theorem n6_cI : Try.prog.cellsOf 3 = 1 := by kernel_rfl
theorem n6_cV : Try.prog.cellsOf 33 = 1 := by kernel_rfl
theorem n6_cF : Try.prog.cellsOf 35 = 5 := by kernel_rfl
theorem n6_cR : Try.prog.cellsOf 48 = 6 := by kernel_rfl
theorem n6_cL : Try.prog.cellsOf 30 = 1 := by kernel_rfl
theorem fld6 {α : Type} {ys : List α} {n j : Nat} {e : Option α} (h : e = ys[j]?) (hl : ys.length = n) (hj : j < n) : ∃ y, e = some y := ⟨_, h.trans (List.getElem?_eq_getElem (by omega))⟩
section
variable {H : Type} {enc : TypeId × Value → H} {w : World} {base : Nat} {spare : Nat → Bool} {held : Bool}
theorem rec_open {fuel : Nat} {cs : List Value} {x : DataW H × List MemPlace} (h : DataW.trod enc Try.prog w base spare held fuel 48 cs = some x) : ∃ r : Rc, cs = r.cs.toList ∧ RcN r := by
  obtain ⟨ys, m, _, _, hl, hyl, hf⟩ := DataW.trod_struct Try.underlying48 h
  rw [n6_cR] at hl
  match cs, hl with
  | [c0, c1, c2, c3, c4, c5], _ =>
    obtain ⟨_, k0⟩ := fld6 (hf 0 _ rfl) hyl (by decide)
    obtain ⟨_, k1⟩ := fld6 (hf 1 _ rfl) hyl (by decide)
    simp only [List.getElem_toArray, List.getElem_cons_zero, List.getElem_cons_succ] at k0 k1
    rw [n6_cF] at k0
    rw [n6_cI] at k1
    simp only [List.drop_zero, List.drop_succ_cons, List.take_succ_cons, List.take_zero] at k0 k1
    obtain ⟨zs, m2, _, _, _, hzl, hg⟩ := DataW.trod_struct Try.underlying35 k0
    obtain ⟨_, g0⟩ := fld6 (hg 0 _ rfl) hzl (by decide)
    obtain ⟨_, g1⟩ := fld6 (hg 1 _ rfl) hzl (by decide)
    obtain ⟨_, g2⟩ := fld6 (hg 2 _ rfl) hzl (by decide)
    obtain ⟨_, g3⟩ := fld6 (hg 3 _ rfl) hzl (by decide)
    obtain ⟨_, g4⟩ := fld6 (hg 4 _ rfl) hzl (by decide)
    simp only [List.getElem_toArray, List.getElem_cons_zero, List.getElem_cons_succ] at g0 g1 g2 g3 g4
    rw [n6_cI] at g0 g3 g4
    rw [n6_cV] at g1 g2
    simp only [List.drop_zero, List.drop_succ_cons, List.take_succ_cons, List.take_zero] at g0 g1 g2 g3 g4
    obtain ⟨a0, e0, _, _⟩ := DataW.trod_int Try.underlying3 g0
    obtain ⟨a1, e1, _, w1⟩ := DataW.trod_int Try.underlying33 g1
    obtain ⟨a2, e2, _, w2⟩ := DataW.trod_int Try.underlying33 g2
    obtain ⟨a3, e3, _, _⟩ := DataW.trod_int Try.underlying3 g3
    obtain ⟨a4, e4, _, _⟩ := DataW.trod_int Try.underlying3 g4
    obtain ⟨a5, e5, _, _⟩ := DataW.trod_int Try.underlying3 k1
    simp only [List.cons.injEq, and_true] at e0 e1 e2 e3 e4 e5
    subst e0 e1 e2 e3 e4 e5
    exact ⟨⟨a0, a1, a2, a3, a4, a5⟩, rfl, bounds_u32 w1, bounds_u32 w2⟩
theorem recs_open {fuel : Nat} {cs : List Value} {x : DataW H × List MemPlace} (h : DataW.trod enc Try.prog w base spare held fuel 30 cs = some x) :
    ∃ (A : Option Addr) (n c : Nat) (l : List Rc), cs = [.slice A n c] ∧ RcR w (fun _ => True) A n l ∧ (∀ x ∈ l, RcN x) ∧ n ≤ 9223372036854775807 := by
  rcases Go.Deep.open_slice Try.underlying30 h with ⟨hcs, _⟩ | ⟨a, len, cap, m, n, D, Pl, hcs, _, hl, hm, hmm, _, hi⟩
  · exact ⟨none, 0, 0, [], hcs, RcR.nil _ _ _, (fun x hx => by cases hx), by decide⟩
  · have hml : len ≤ m := by
      rw [hmm]
      split <;> omega
    obtain ⟨l, hll, hp⟩ := list_of (P := fun i (r : Rc) => (∀ j u, r.cs[j]? = some u → w.cell? (a.add (i * 6 + j)) = some u) ∧ RcN r) len (fun i hil => by
      obtain ⟨vs, hc, hread⟩ := hi i (by omega)
      rw [n6_cR] at hc
      obtain ⟨_, hvl, hat⟩ := World.cells?_some hc
      obtain ⟨r, hr, hN⟩ := rec_open hread
      refine ⟨r, fun j u hu => ?_, hN⟩
      have hj : j < 6 := (Array.getElem?_eq_some_iff.1 hu).1
      have h1 := hat j hj
      rw [off_add] at h1
      rw [h1, hr, ← hu]
      simp)
    refine ⟨some a, len, cap, l, hcs, ⟨hll.symm, fun h0 => ⟨a, rfl, trivial, ?_, fun i x hx => (hp i x hx).1⟩⟩, fun x hx => ?_, by unfold maxLen at hm; omega⟩
    · have hx : l[0]? = some (l[0]'(by omega)) := List.getElem?_eq_getElem (by omega)
      have h1 := (hp 0 _ hx).1 0 _ rfl
      have := World.block_lt_of_cell? w _ h1
      rwa [block_add] at this
    · obtain ⟨i, hi2⟩ := List.getElem?_of_mem hx
      exact (hp i x hi2).2
end
end Go.Proofs.Ytclikcbgeolngaa
