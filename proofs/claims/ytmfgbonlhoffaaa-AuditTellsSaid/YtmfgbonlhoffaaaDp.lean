/-
  Events that came in, opened. No condition.
-/
import Derived.Test.YtmfgbonlhoffaaaDg
import Derived.Test.YtmfgbonlhoffaaaArgs
import Derived.ProofKit
import Derived.OpenShut
import Derived.ChangeOld
import Derived.Lib.SmallJoins
namespace Go.Proofs.Ytmfgbonlhoffaaa
open Go.RowKit Go.ChangeShapes Go.WideShapes Go.ChangeAt
set_option linter.unusedVariables false
set_option linter.unusedSimpArgs false

theorem n21_cI : Try.prog.cellsOf 3 = 1 := by kernel_rfl
theorem n21_cK : Try.prog.cellsOf 36 = 1 := by kernel_rfl
theorem n21_cE : Try.prog.cellsOf 38 = 13 := by kernel_rfl
theorem fld21 {α : Type} {ys : List α} {n j : Nat} {e : Option α} (h : e = ys[j]?) (hl : ys.length = n) (hj : j < n) : ∃ y, e = some y := ⟨_, h.trans (List.getElem?_eq_getElem (by omega))⟩
set_option maxRecDepth 20000 in
theorem ev_trod21 {H : Type} {enc : TypeId × Value → H} {w : World} {base : Nat} {spare : Nat → Bool} {held : Bool} {fuel : Nat} {cs : List Value} {x : DataW H × List MemPlace} (h : DataW.trod enc Try.prog w base spare held fuel 38 cs = some x) : ∃ r : Ev, cs = r.cs.toList := by
  obtain ⟨ys, m, _, _, hl, hyl, hf⟩ := DataW.trod_struct Try.underlying38 h
  rw [n21_cE] at hl
  match cs, hl with
  | [c0, c1, c2, c3, c4, c5, c6, c7, c8, c9, c10, c11, c12], _ =>
    obtain ⟨_, k0⟩ := fld21 (hf 0 _ rfl) hyl (by decide)
    obtain ⟨_, k1⟩ := fld21 (hf 1 _ rfl) hyl (by decide)
    obtain ⟨_, k2⟩ := fld21 (hf 2 _ rfl) hyl (by decide)
    obtain ⟨_, k3⟩ := fld21 (hf 3 _ rfl) hyl (by decide)
    obtain ⟨_, k4⟩ := fld21 (hf 4 _ rfl) hyl (by decide)
    obtain ⟨_, k5⟩ := fld21 (hf 5 _ rfl) hyl (by decide)
    obtain ⟨_, k6⟩ := fld21 (hf 6 _ rfl) hyl (by decide)
    obtain ⟨_, k7⟩ := fld21 (hf 7 _ rfl) hyl (by decide)
    obtain ⟨_, k8⟩ := fld21 (hf 8 _ rfl) hyl (by decide)
    obtain ⟨_, k9⟩ := fld21 (hf 9 _ rfl) hyl (by decide)
    obtain ⟨_, k10⟩ := fld21 (hf 10 _ rfl) hyl (by decide)
    obtain ⟨_, k11⟩ := fld21 (hf 11 _ rfl) hyl (by decide)
    obtain ⟨_, k12⟩ := fld21 (hf 12 _ rfl) hyl (by decide)
    simp only [List.getElem_toArray, List.getElem_cons_zero, List.getElem_cons_succ] at k0 k1 k2 k3 k4 k5 k6 k7 k8 k9 k10 k11 k12
    rw [n21_cI] at k0 k1 k2 k3 k4 k6 k7 k8 k9 k10 k11 k12
    rw [n21_cK] at k5
    simp only [List.drop_zero, List.drop_succ_cons, List.take_succ_cons, List.take_zero] at k0 k1 k2 k3 k4 k5 k6 k7 k8 k9 k10 k11 k12
    obtain ⟨a0, e0, _, _⟩ := DataW.trod_int Try.underlying3 k0
    obtain ⟨a1, e1, _, _⟩ := DataW.trod_int Try.underlying3 k1
    obtain ⟨a2, e2, _, _⟩ := DataW.trod_int Try.underlying3 k2
    obtain ⟨a3, e3, _, _⟩ := DataW.trod_int Try.underlying3 k3
    obtain ⟨a4, e4, _, _⟩ := DataW.trod_int Try.underlying3 k4
    obtain ⟨a5, e5, _, _⟩ := DataW.trod_int Try.underlying36 k5
    obtain ⟨a6, e6, _, _⟩ := DataW.trod_int Try.underlying3 k6
    obtain ⟨a7, e7, _, _⟩ := DataW.trod_int Try.underlying3 k7
    obtain ⟨a8, e8, _, _⟩ := DataW.trod_int Try.underlying3 k8
    obtain ⟨a9, e9, _, _⟩ := DataW.trod_int Try.underlying3 k9
    obtain ⟨a10, e10, _, _⟩ := DataW.trod_int Try.underlying3 k10
    obtain ⟨a11, e11, _, _⟩ := DataW.trod_int Try.underlying3 k11
    obtain ⟨a12, e12, _, _⟩ := DataW.trod_int Try.underlying3 k12
    simp only [List.cons.injEq, and_true] at e0 e1 e2 e3 e4 e5 e6 e7 e8 e9 e10 e11 e12
    subst e0 e1 e2 e3 e4 e5 e6 e7 e8 e9 e10 e11 e12
    exact ⟨⟨a0, a1, a2, a3, a4, a5, a6, a7, a8, a9, a10, a11, a12⟩, rfl⟩
set_option maxRecDepth 20000 in
theorem evs_open21 {H : Type} {enc : TypeId × Value → H} {W : World} {v : Value} {d : DataW H} {p : List MemPlace} {base : Nat} {spare : Nat → Bool} {held : Bool}
    (h : DataW.Trod enc Try.prog W base spare held 22 v d p) (hv : ∃ A n c, v = .slice A n c) : ∃ (L : Option Addr) (m c : Nat) (l : List Ev), v = .slice L m c ∧ m ≤ 9223372036854775807 ∧ m ≤ c ∧ EvR W L m l := by
  obtain ⟨A, n, c, rfl⟩ := hv
  obtain ⟨fuel, hf⟩ := h
  have hc0 : (Value.slice A n c).cells.toList = [.slice A n c] := by simp [Value.cells]
  rw [hc0] at hf
  rcases Go.Deep.open_slice Try.underlying22 hf with ⟨hcs, _⟩ | ⟨a, len, cap, m, n2, D, Pl, hcs, _, hl, hm, hmm, _, hi⟩
  · simp only [List.cons.injEq, and_true] at hcs
    exact ⟨none, 0, 0, [], hcs, by decide, Nat.le_refl _, EvR.nil _ _⟩
  · simp only [List.cons.injEq, and_true] at hcs
    have hml : len ≤ m := by
      rw [hmm]
      split <;> omega
    obtain ⟨l, hll, hp⟩ := list_of (P := fun i (x : Ev) => ∀ (j : Nat) (u : Value), x.cs[j]? = some u → W.cell? (a.add (i * 13 + j)) = some u) len (fun i hil => by
      obtain ⟨vs, hc, hread⟩ := hi i (by omega)
      rw [n21_cE] at hc
      obtain ⟨_, hvl, hat⟩ := World.cells?_some hc
      obtain ⟨r, hr⟩ := ev_trod21 hread
      refine ⟨r, fun j u hu => ?_⟩
      have hj : j < 13 := (Array.getElem?_eq_some_iff.1 hu).1
      have h1 := hat j hj
      rw [off_add] at h1
      rw [h1, hr, ← hu]
      simp)
    refine ⟨some a, len, cap, l, hcs, by unfold maxLen at hm; omega, by omega, ⟨hll.symm, fun h0 => ?_⟩⟩
    have hb : a.block < W.heap.size := by
      have hx : l[0]? = some (l[0]'(by omega)) := List.getElem?_eq_getElem (by omega)
      have := World.block_lt_of_cell? W _ (hp 0 _ hx 0 _ rfl)
      rwa [block_add] at this
    exact ⟨a, rfl, hb, fun i x hx => hp i x hx⟩

end Go.Proofs.Ytmfgbonlhoffaaa
