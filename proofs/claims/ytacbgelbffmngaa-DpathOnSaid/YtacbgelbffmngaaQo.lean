/-
  Arguments that are packets, and pairs of numbers, by value, opened to what the walks ask. No condition.
-/
import Derived.Test.YtacbgelbffmngaaQa
import Derived.Test.YtacbgelbffmngaaM1
import Derived.ProofKit
import Derived.OpenShut
import Derived.ChangeOld
import Derived.Lib.SmallJoins
namespace Go.Proofs.Ytacbgelbffmngaa
open Go.ChangeShapes Go.WideShapes Go.ChangeAt Go.RowKit

section
variable {H : Type} {enc : TypeId × Value → H} {P : Program} {w : World} {base : Nat} {spare : Nat → Bool} {held : Bool}
/-- A struct of fields of one cell each, by value: each field's cell reads. -/
theorem agg_open5 {r : Reach} {b0 : Nat} {t : TypeId} {fs : Array Field} {v : Value} {d : DataW H} {p : List MemPlace} (hs : P.underlying t = some (.struct fs)) (hone : Go.Deep.oneCellFields P fs = true) (hC : P.cellsOf t = fs.size)
    (hv : Value.okWide P w r b0 t v) (h : DataW.Trod enc P w base spare held t v d p) :
    ∃ (vs : Array Value) (n : Nat), v = .agg vs ∧ vs.size = fs.size ∧ ∀ (j : Nat) (f : Field), fs[j]? = some f → ∃ u y, vs[j]? = some u ∧ DataW.trod enc P w base spare held n f.type [u] = some y := by
  obtain ⟨cs, rfl, hsz⟩ := okWide_struct hs hv
  obtain ⟨fuel, hf⟩ := h
  obtain ⟨ys, n', _, _, hlen, hyl, hfs⟩ := DataW.trod_struct hs hf
  refine ⟨cs, n', rfl, hsz.trans hC, fun j f hj => ?_⟩
  obtain ⟨ho, hk⟩ := Go.Deep.hone_of hone j f hj
  have hjl : j < fs.size := (Array.getElem?_eq_some_iff.1 hj).1
  have hcl : j < cs.size := by omega
  have hy : ys[j]? = some (ys[j]'(by omega)) := List.getElem?_eq_getElem (by omega)
  have h1 := hfs j f hj
  have hc : (Value.agg cs).cells.toList = cs.toList := by simp [Value.cells]
  rw [hc, ho, hk, List.drop_eq_getElem_cons (by simpa using hcl : j < cs.toList.length)] at h1
  exact ⟨_, _, by rw [Array.getElem?_eq_getElem hcl, Array.getElem_toList], h1.trans hy⟩
end

set_option maxRecDepth 20000 in
/-- A packet that came in by value. -/
theorem pk_open {H : Type} {enc : TypeId × Value → H} {W : World} {base : Nat} {r : Reach} {b0 : Nat} {v : Value} {d : DataW H} {p : List MemPlace} {spare : Nat → Bool} {held : Bool}
    (hv : Value.okWide Try.prog W r b0 37 v) (h : DataW.Trod enc Try.prog W base spare held 37 v d p) :
    ∃ (k o f t p g i : Int) (A : Option Addr) (n c : Nat) (zs : List Int), v = .agg (pkC k o f t p g i A n c) ∧ IsRow .u8 W A n c zs := by
  obtain ⟨vs, n, rfl, hsz, hf⟩ := agg_open5 Try.underlying37 (by kernel_rfl) (by kernel_rfl) hv h
  obtain ⟨v0, y0, e0, t0⟩ := hf 0 _ rfl
  obtain ⟨v1, y1, e1, t1⟩ := hf 1 _ rfl
  obtain ⟨v2, y2, e2, t2⟩ := hf 2 _ rfl
  obtain ⟨v3, y3, e3, t3⟩ := hf 3 _ rfl
  obtain ⟨v4, y4, e4, t4⟩ := hf 4 _ rfl
  obtain ⟨v5, y5, e5, t5⟩ := hf 5 _ rfl
  obtain ⟨v6, y6, e6, t6⟩ := hf 6 _ rfl
  obtain ⟨v7, y7, e7, t7⟩ := hf 7 _ rfl
  obtain ⟨k, hk, _, _⟩ := DataW.trod_int Try.underlying35 t0
  obtain ⟨o, ho, _, _⟩ := DataW.trod_int Try.underlying3 t1
  obtain ⟨f, hf, _, _⟩ := DataW.trod_int Try.underlying3 t2
  obtain ⟨t, ht, _, _⟩ := DataW.trod_int Try.underlying3 t3
  obtain ⟨p, hp, _, _⟩ := DataW.trod_int Try.underlying3 t4
  obtain ⟨g, hg, _, _⟩ := DataW.trod_int Try.underlying3 t5
  obtain ⟨i, hi, _, _⟩ := DataW.trod_int Try.underlying3 t6
  obtain ⟨A, m, c, zs, hcs, hrow⟩ := ints_open Try.underlying24 Try.underlying5 (by kernel_rfl) t7
  simp only [List.cons.injEq, and_true] at hk ho hf ht hp hg hi hcs
  subst hk ho hf ht hp hg hi hcs
  have hs8 : vs.size = 8 := hsz
  refine ⟨k, o, f, t, p, g, i, A, m, c, zs, ?_, hrow⟩
  congr 1
  refine Array.ext (by simpa [pkC] using hs8) (fun j h1 h2 => ?_)
  have hj : j = 0 ∨ j = 1 ∨ j = 2 ∨ j = 3 ∨ j = 4 ∨ j = 5 ∨ j = 6 ∨ j = 7 := by omega
  rcases hj with rfl | rfl | rfl | rfl | rfl | rfl | rfl | rfl
  · rw [Array.getElem?_eq_getElem h1] at e0; injection e0
  · rw [Array.getElem?_eq_getElem h1] at e1; injection e1
  · rw [Array.getElem?_eq_getElem h1] at e2; injection e2
  · rw [Array.getElem?_eq_getElem h1] at e3; injection e3
  · rw [Array.getElem?_eq_getElem h1] at e4; injection e4
  · rw [Array.getElem?_eq_getElem h1] at e5; injection e5
  · rw [Array.getElem?_eq_getElem h1] at e6; injection e6
  · rw [Array.getElem?_eq_getElem h1] at e7; injection e7

end Go.Proofs.Ytacbgelbffmngaa
