/-
  Entries and keys that came in, opened. No condition.
-/
import Derived.Test.YtacbgelbffmngaaYa
import Derived.Test.YtacbgelbffmngaaM1
import Derived.ProofKit
import Derived.OpenShut
import Derived.ChangeOld
import Derived.Lib.SmallJoins
namespace Go.Proofs.Ytacbgelbffmngaa
open Go.RowKit Go.ChangeShapes Go.WideShapes Go.ChangeAt
set_option linter.unusedVariables false
set_option linter.unusedSimpArgs false

theorem n13_cI : Try.prog.cellsOf 3 = 1 := by kernel_rfl
theorem n13_cU : Try.prog.cellsOf 23 = 1 := by kernel_rfl
theorem n13_cA : Try.prog.cellsOf 68 = 4 := by kernel_rfl
theorem n13_cE : Try.prog.cellsOf 70 = 11 := by kernel_rfl
theorem n13_cK : Try.prog.cellsOf 77 = 5 := by kernel_rfl
theorem fld13 {α : Type} {ys : List α} {n j : Nat} {e : Option α} (h : e = ys[j]?) (hl : ys.length = n) (hj : j < n) : ∃ y, e = some y := ⟨_, h.trans (List.getElem?_eq_getElem (by omega))⟩
section
variable {H : Type} {enc : TypeId × Value → H} {w : World} {base : Nat} {spare : Nat → Bool} {held : Bool}
set_option maxRecDepth 20000 in
theorem en_trod13 {fuel : Nat} {cs : List Value} {x : DataW H × List MemPlace} (h : DataW.trod enc Try.prog w base spare held fuel 70 cs = some x) : ∃ r : En, cs = r.cs.toList := by
  obtain ⟨ys, m, _, _, hl, hyl, hf⟩ := DataW.trod_struct Try.underlying70 h
  rw [n13_cE] at hl
  match cs, hl with
  | [c0, c1, c2, c3, c4, c5, c6, c7, c8, c9, c10], _ =>
    obtain ⟨_, k0⟩ := fld13 (hf 0 _ rfl) hyl (by decide)
    obtain ⟨_, k1⟩ := fld13 (hf 1 _ rfl) hyl (by decide)
    obtain ⟨_, k2⟩ := fld13 (hf 2 _ rfl) hyl (by decide)
    obtain ⟨_, k3⟩ := fld13 (hf 3 _ rfl) hyl (by decide)
    obtain ⟨_, k4⟩ := fld13 (hf 4 _ rfl) hyl (by decide)
    obtain ⟨_, k5⟩ := fld13 (hf 5 _ rfl) hyl (by decide)
    obtain ⟨_, k6⟩ := fld13 (hf 6 _ rfl) hyl (by decide)
    obtain ⟨_, k7⟩ := fld13 (hf 7 _ rfl) hyl (by decide)
    simp only [List.getElem_toArray, List.getElem_cons_zero, List.getElem_cons_succ] at k0 k1 k2 k3 k4 k5 k6 k7
    rw [n13_cI] at k0 k1 k3 k4 k5 k6
    rw [n13_cU] at k2
    rw [n13_cA] at k7
    simp only [List.drop_zero, List.drop_succ_cons, List.take_succ_cons, List.take_zero] at k0 k1 k2 k3 k4 k5 k6 k7
    obtain ⟨zs, m2, _, _, _, hzl, hg⟩ := DataW.trod_struct Try.underlying68 k7
    obtain ⟨_, g0⟩ := fld13 (hg 0 _ rfl) hzl (by decide)
    obtain ⟨_, g1⟩ := fld13 (hg 1 _ rfl) hzl (by decide)
    obtain ⟨_, g2⟩ := fld13 (hg 2 _ rfl) hzl (by decide)
    obtain ⟨_, g3⟩ := fld13 (hg 3 _ rfl) hzl (by decide)
    simp only [List.getElem_toArray, List.getElem_cons_zero, List.getElem_cons_succ] at g0 g1 g2 g3
    rw [n13_cI] at g0 g1 g2 g3
    simp only [List.drop_zero, List.drop_succ_cons, List.take_succ_cons, List.take_zero] at g0 g1 g2 g3
    obtain ⟨a0, e0, _, _⟩ := DataW.trod_int Try.underlying3 k0
    obtain ⟨a1, e1, _, _⟩ := DataW.trod_int Try.underlying3 k1
    obtain ⟨a2, e2, _, _⟩ := DataW.trod_int Try.underlying23 k2
    obtain ⟨a3, e3, _, _⟩ := DataW.trod_int Try.underlying3 k3
    obtain ⟨a4, e4, _, _⟩ := DataW.trod_int Try.underlying3 k4
    obtain ⟨a5, e5, _, _⟩ := DataW.trod_int Try.underlying3 k5
    obtain ⟨a6, e6, _, _⟩ := DataW.trod_int Try.underlying3 k6
    obtain ⟨b0, f0, _, _⟩ := DataW.trod_int Try.underlying3 g0
    obtain ⟨b1, f1, _, _⟩ := DataW.trod_int Try.underlying3 g1
    obtain ⟨b2, f2, _, _⟩ := DataW.trod_int Try.underlying3 g2
    obtain ⟨b3, f3, _, _⟩ := DataW.trod_int Try.underlying3 g3
    simp only [List.cons.injEq, and_true] at e0 e1 e2 e3 e4 e5 e6 f0 f1 f2 f3
    subst e0 e1 e2 e3 e4 e5 e6 f0 f1 f2 f3
    exact ⟨⟨a0, a1, a2, a3, a4, a5, a6, b0, b1, b2, b3⟩, rfl⟩
end
set_option maxRecDepth 20000 in
theorem ens_open13 {H : Type} {enc : TypeId × Value → H} {W : World} {v : Value} {d : DataW H} {p : List MemPlace} {base : Nat} {spare : Nat → Bool} {held : Bool}
    (h : DataW.Trod enc Try.prog W base spare held 22 v d p) (hv : ∃ A n c, v = .slice A n c) : ∃ (L : Option Addr) (m c : Nat) (l : List En), v = .slice L m c ∧ m ≤ 9223372036854775807 ∧ (L = none → c = 0) ∧ EnR W L m l := by
  obtain ⟨A, n, c, rfl⟩ := hv
  obtain ⟨fuel, hf⟩ := h
  have hc0 : (Value.slice A n c).cells.toList = [.slice A n c] := by simp [Value.cells]
  rw [hc0] at hf
  rcases Go.Deep.open_slice Try.underlying22 hf with ⟨hcs, _⟩ | ⟨a, len, cap, m, n2, D, Pl, hcs, _, hl, hm, hmm, _, hi⟩
  · simp only [List.cons.injEq, and_true] at hcs
    exact ⟨none, 0, 0, [], hcs, by decide, fun _ => rfl, EnR.nil _ _⟩
  · simp only [List.cons.injEq, and_true] at hcs
    have hml : len ≤ m := by
      rw [hmm]
      split <;> omega
    obtain ⟨l, hll, hp⟩ := list_of (P := fun i (x : En) => ∀ (j : Nat) (u : Value), x.cs[j]? = some u → W.cell? (a.add (i * 11 + j)) = some u) len (fun i hil => by
      obtain ⟨vs, hc, hread⟩ := hi i (by omega)
      rw [n13_cE] at hc
      obtain ⟨_, hvl, hat⟩ := World.cells?_some hc
      obtain ⟨r, hr⟩ := en_trod13 hread
      refine ⟨r, fun j u hu => ?_⟩
      have hj : j < 11 := (Array.getElem?_eq_some_iff.1 hu).1
      have h1 := hat j hj
      rw [off_add] at h1
      rw [h1, hr, ← hu]
      simp)
    refine ⟨some a, len, cap, l, hcs, by unfold maxLen at hm; omega, (fun e => by cases e), ⟨hll.symm, fun h0 => ?_⟩⟩
    have hb : a.block < W.heap.size := by
      have hx : l[0]? = some (l[0]'(by omega)) := List.getElem?_eq_getElem (by omega)
      have := World.block_lt_of_cell? W _ (hp 0 _ hx 0 _ rfl)
      rwa [block_add] at this
    exact ⟨a, rfl, hb, fun i x hx => hp i x hx⟩
set_option maxRecDepth 20000 in
/-- A key that came in by value. -/
theorem ky_open13 {H : Type} {enc : TypeId × Value → H} {W : World} {base : Nat} {r : Reach} {b0 : Nat} {v : Value} {d : DataW H} {p : List MemPlace} {spare : Nat → Bool} {held : Bool}
    (hv : Value.okWide Try.prog W r b0 77 v) (h : DataW.Trod enc Try.prog W base spare held 77 v d p) : ∃ k : Ky, v = .agg (kyC k.ki k.km k.kp k.ks k.ko) := by
  obtain ⟨cs, rfl, hsz, _⟩ : ∃ cs, v = .agg cs ∧ cs.size = Try.prog.cellsOf 77 ∧ Row.okWide Try.prog W r b0 77 cs := by
    simpa [Value.okWide, Try.underlying77] using hv
  obtain ⟨fuel, hf0⟩ := h
  obtain ⟨l⟩ := cs
  have hc : (Value.agg ⟨l⟩).cells.toList = l := by simp [Value.cells]
  rw [hc] at hf0
  rw [n13_cK] at hsz
  match l, hsz with
  | [c0, c1, c2, c3, c4], _ =>
    obtain ⟨ys, m, _, _, _, hyl, hf⟩ := DataW.trod_struct Try.underlying77 hf0
    obtain ⟨_, k0⟩ := fld13 (hf 0 _ rfl) hyl (by decide)
    obtain ⟨_, k1⟩ := fld13 (hf 1 _ rfl) hyl (by decide)
    obtain ⟨_, k2⟩ := fld13 (hf 2 _ rfl) hyl (by decide)
    obtain ⟨_, k3⟩ := fld13 (hf 3 _ rfl) hyl (by decide)
    obtain ⟨_, k4⟩ := fld13 (hf 4 _ rfl) hyl (by decide)
    simp only [List.getElem_toArray, List.getElem_cons_zero, List.getElem_cons_succ] at k0 k1 k2 k3 k4
    rw [n13_cI] at k0 k2 k3 k4
    rw [n13_cU] at k1
    simp only [List.drop_zero, List.drop_succ_cons, List.take_succ_cons, List.take_zero] at k0 k1 k2 k3 k4
    obtain ⟨a0, e0, _, _⟩ := DataW.trod_int Try.underlying3 k0
    obtain ⟨a1, e1, _, _⟩ := DataW.trod_int Try.underlying23 k1
    obtain ⟨a2, e2, _, _⟩ := DataW.trod_int Try.underlying3 k2
    obtain ⟨a3, e3, _, _⟩ := DataW.trod_int Try.underlying3 k3
    obtain ⟨a4, e4, _, _⟩ := DataW.trod_int Try.underlying3 k4
    simp only [List.cons.injEq, and_true] at e0 e1 e2 e3 e4
    subst e0 e1 e2 e3 e4
    exact ⟨⟨a0, a1, a2, a3, a4⟩, rfl⟩

end Go.Proofs.Ytacbgelbffmngaa
