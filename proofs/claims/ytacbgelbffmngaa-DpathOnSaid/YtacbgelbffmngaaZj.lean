/-
  A row by value, and a slice of rows, that came in, opened. No condition.
-/
import Derived.Test.YtacbgelbffmngaaZa
import Derived.Test.YtacbgelbffmngaaYi
namespace Go.Proofs.Ytacbgelbffmngaa
open Go.RowKit Go.ChangeShapes Go.WideShapes Go.ChangeAt
set_option linter.unusedVariables false
set_option linter.unusedSimpArgs false

theorem n14_cP : Try.prog.cellsOf 63 = 1 := by kernel_rfl
theorem n14_cW : Try.prog.cellsOf 65 = 9 := by kernel_rfl
section
variable {H : Type} {enc : TypeId × Value → H} {w : World} {base : Nat} {spare : Nat → Bool} {held : Bool}
set_option maxRecDepth 20000 in
theorem rv_trod14 {fuel : Nat} {cs : List Value} {x : DataW H × List MemPlace} (h : DataW.trod enc Try.prog w base spare held fuel 65 cs = some x) : ∃ r : RV, cs = r.cs.toList := by
  obtain ⟨ys, m, _, _, hl, hyl, hf⟩ := DataW.trod_struct Try.underlying65 h
  rw [n14_cW] at hl
  match cs, hl with
  | [c0, c1, c2, c3, c4, c5, c6, c7, c8], _ =>
    obtain ⟨_, k0⟩ := fld13 (hf 0 _ rfl) hyl (by decide)
    obtain ⟨_, k1⟩ := fld13 (hf 1 _ rfl) hyl (by decide)
    obtain ⟨_, k2⟩ := fld13 (hf 2 _ rfl) hyl (by decide)
    obtain ⟨_, k3⟩ := fld13 (hf 3 _ rfl) hyl (by decide)
    obtain ⟨_, k4⟩ := fld13 (hf 4 _ rfl) hyl (by decide)
    obtain ⟨_, k5⟩ := fld13 (hf 5 _ rfl) hyl (by decide)
    obtain ⟨_, k6⟩ := fld13 (hf 6 _ rfl) hyl (by decide)
    obtain ⟨_, k7⟩ := fld13 (hf 7 _ rfl) hyl (by decide)
    obtain ⟨_, k8⟩ := fld13 (hf 8 _ rfl) hyl (by decide)
    simp only [List.getElem_toArray, List.getElem_cons_zero, List.getElem_cons_succ] at k0 k1 k2 k3 k4 k5 k6 k7 k8
    rw [n13_cI] at k0 k2 k3 k4 k5 k7 k8
    rw [n13_cU] at k1
    rw [n14_cP] at k6
    simp only [List.drop_zero, List.drop_succ_cons, List.take_succ_cons, List.take_zero] at k0 k1 k2 k3 k4 k5 k6 k7 k8
    obtain ⟨a0, e0, _, _⟩ := DataW.trod_int Try.underlying3 k0
    obtain ⟨a1, e1, _, _⟩ := DataW.trod_int Try.underlying23 k1
    obtain ⟨a2, e2, _, _⟩ := DataW.trod_int Try.underlying3 k2
    obtain ⟨a3, e3, _, _⟩ := DataW.trod_int Try.underlying3 k3
    obtain ⟨a4, e4, _, _⟩ := DataW.trod_int Try.underlying3 k4
    obtain ⟨a5, e5, _, _⟩ := DataW.trod_int Try.underlying3 k5
    obtain ⟨a6, e6, _, _⟩ := DataW.trod_int Try.underlying63 k6
    obtain ⟨a7, e7, _, _⟩ := DataW.trod_int Try.underlying3 k7
    obtain ⟨a8, e8, _, _⟩ := DataW.trod_int Try.underlying3 k8
    simp only [List.cons.injEq, and_true] at e0 e1 e2 e3 e4 e5 e6 e7 e8
    subst e0 e1 e2 e3 e4 e5 e6 e7 e8
    exact ⟨⟨a0, a1, a2, a3, a4, a5, a6, a7, a8⟩, rfl⟩
end
set_option maxRecDepth 20000 in
theorem rvs_open14 {H : Type} {enc : TypeId × Value → H} {W : World} {v : Value} {d : DataW H} {p : List MemPlace} {base : Nat} {spare : Nat → Bool} {held : Bool}
    (h : DataW.Trod enc Try.prog W base spare held 55 v d p) (hv : ∃ A n c, v = .slice A n c) : ∃ (L : Option Addr) (m c : Nat) (l : List RV), v = .slice L m c ∧ m ≤ 9223372036854775807 ∧ RwR W L m l := by
  obtain ⟨A, n, c, rfl⟩ := hv
  obtain ⟨fuel, hf⟩ := h
  have hc0 : (Value.slice A n c).cells.toList = [.slice A n c] := by simp [Value.cells]
  rw [hc0] at hf
  rcases Go.Deep.open_slice Try.underlying55 hf with ⟨hcs, _⟩ | ⟨a, len, cap, m, n2, D, Pl, hcs, _, hl, hm, hmm, _, hi⟩
  · simp only [List.cons.injEq, and_true] at hcs
    exact ⟨none, 0, 0, [], hcs, by decide, RwR.nil _ _⟩
  · simp only [List.cons.injEq, and_true] at hcs
    have hml : len ≤ m := by
      rw [hmm]
      split <;> omega
    obtain ⟨l, hll, hp⟩ := list_of (P := fun i (x : RV) => ∀ (j : Nat) (u : Value), x.cs[j]? = some u → W.cell? (a.add (i * 9 + j)) = some u) len (fun i hil => by
      obtain ⟨vs, hc, hread⟩ := hi i (by omega)
      rw [n14_cW] at hc
      obtain ⟨_, hvl, hat⟩ := World.cells?_some hc
      obtain ⟨r, hr⟩ := rv_trod14 hread
      refine ⟨r, fun j u hu => ?_⟩
      have hj : j < 9 := (Array.getElem?_eq_some_iff.1 hu).1
      have h1 := hat j hj
      rw [off_add] at h1
      rw [h1, hr, ← hu]
      simp)
    refine ⟨some a, len, cap, l, hcs, by unfold maxLen at hm; omega, ⟨hll.symm, fun h0 => ?_⟩⟩
    have hb : a.block < W.heap.size := by
      have hx : l[0]? = some (l[0]'(by omega)) := List.getElem?_eq_getElem (by omega)
      have := World.block_lt_of_cell? W _ (hp 0 _ hx 0 _ rfl)
      rwa [block_add] at this
    exact ⟨a, rfl, hb, fun i x hx => hp i x hx⟩
set_option maxRecDepth 20000 in
/-- A row that came in by value. -/
theorem rv_open14 {H : Type} {enc : TypeId × Value → H} {W : World} {base : Nat} {r : Reach} {b0 : Nat} {v : Value} {d : DataW H} {p : List MemPlace} {spare : Nat → Bool} {held : Bool}
    (hv : Value.okWide Try.prog W r b0 65 v) (h : DataW.Trod enc Try.prog W base spare held 65 v d p) : ∃ x : RV, v = .agg (rvC x.po x.ma x.ow x.ta x.ol x.ge x.ph x.ve x.si) := by
  obtain ⟨cs, rfl, hsz, _⟩ : ∃ cs, v = .agg cs ∧ cs.size = Try.prog.cellsOf 65 ∧ Row.okWide Try.prog W r b0 65 cs := by
    simpa [Value.okWide, Try.underlying65] using hv
  obtain ⟨fuel, hf0⟩ := h
  obtain ⟨l⟩ := cs
  have hc : (Value.agg ⟨l⟩).cells.toList = l := by simp [Value.cells]
  rw [hc] at hf0
  obtain ⟨x, hx⟩ := rv_trod14 hf0
  subst hx
  exact ⟨x, rfl⟩

end Go.Proofs.Ytacbgelbffmngaa
