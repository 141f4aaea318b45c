/-
  A frame, a pair of numbers, and rows at three chassis, that came in by value, opened. No condition.
-/
import Derived.Test.YtacbgelbffmngaaZj
import Derived.Test.YtacbgelbffmngaaQo
import Derived.Test.YtacbgelbffmngaaZq
namespace Go.Proofs.Ytacbgelbffmngaa
open Go.RowKit Go.ChangeShapes Go.WideShapes Go.ChangeAt
set_option linter.unusedVariables false
set_option linter.unusedSimpArgs false

set_option maxRecDepth 20000 in
theorem frame_open15 {H : Type} {enc : TypeId × Value → H} {W : World} {base : Nat} {r : Reach} {b0 : Nat} {v : Value} {d : DataW H} {p : List MemPlace} {spare : Nat → Bool} {held : Bool}
    (hv : Value.okWide Try.prog W r b0 26 v) (h : DataW.Trod enc Try.prog W base spare held 26 v d p) :
    ∃ (x s t : Int) (A : Option Addr) (n c : Nat) (b : List UInt8), v = .agg #[.int .u64 x, .int .u64 s, .int .i64 t, .slice A n c] ∧ 0 ≤ x ∧ 0 ≤ s ∧ n ≤ 9223372036854775807 ∧ BsM15 W A n c b := by
  obtain ⟨v0, v1, v2, v3, y0, y1, y2, y3, m, rfl, _, _, t0, t1, t2, t3⟩ := Go.Joins.open_agg4 Try.underlying26 (by kernel_rfl) (by kernel_rfl) hv h
  obtain ⟨x, hx, _, wx⟩ := DataW.trod_int Try.underlying23 t0
  obtain ⟨s, hs, _, ws⟩ := DataW.trod_int Try.underlying23 t1
  obtain ⟨t, ht, _, _⟩ := DataW.trod_int Try.underlying3 t2
  obtain ⟨A, n, c, zs, hcs, hrow⟩ := ints_open Try.underlying24 Try.underlying5 (by kernel_rfl) t3
  simp only [List.cons.injEq, and_true] at hx hs ht hcs
  subst hx
  subst hs
  subst ht
  subst hcs
  obtain ⟨b, hl, hr⟩ := row_bytes hrow
  exact ⟨x, s, t, A, n, c, b, rfl, (bounds_u64 wx).1, (bounds_u64 ws).1, row_len hrow, row_nil hrow, hl, hr⟩
set_option maxRecDepth 20000 in
theorem pk_open15 {H : Type} {enc : TypeId × Value → H} {W : World} {base : Nat} {r : Reach} {b0 : Nat} {v : Value} {d : DataW H} {p : List MemPlace} {spare : Nat → Bool} {held : Bool}
    (hv : Value.okWide Try.prog W r b0 37 v) (h : DataW.Trod enc Try.prog W base spare held 37 v d p) :
    ∃ (k o f t p g i : Int) (A : Option Addr) (n c : Nat) (b : List UInt8), v = .agg (pkC k o f t p g i A n c) ∧ n ≤ 9223372036854775807 ∧ BsM15 W A n c b := by
  obtain ⟨k, o, f, t, p, g, i, A, n, c, zs, rfl, hrow⟩ := pk_open hv h
  obtain ⟨b, hl, hr⟩ := row_bytes hrow
  exact ⟨k, o, f, t, p, g, i, A, n, c, b, rfl, row_len hrow, row_nil hrow, hl, hr⟩
set_option maxRecDepth 20000 in
theorem at_open15 {H : Type} {enc : TypeId × Value → H} {W : World} {base : Nat} {r : Reach} {b0 : Nat} {v : Value} {d : DataW H} {p : List MemPlace} {spare : Nat → Bool} {held : Bool}
    (hv : Value.okWide Try.prog W r b0 28 v) (h : DataW.Trod enc Try.prog W base spare held 28 v d p) : ∃ x y : Int, v = .agg #[.int .i64 x, .int .i64 y] := by
  obtain ⟨vs, n, rfl, hsz, hf⟩ := agg_open5 Try.underlying28 (by kernel_rfl) (by kernel_rfl) hv h
  obtain ⟨v0, y0, e0, t0⟩ := hf 0 _ rfl
  obtain ⟨v1, y1, e1, t1⟩ := hf 1 _ rfl
  obtain ⟨x, hx, _, _⟩ := DataW.trod_int Try.underlying3 t0
  obtain ⟨y, hy, _, _⟩ := DataW.trod_int Try.underlying3 t1
  simp only [List.cons.injEq, and_true] at hx hy
  subst hx hy
  have hs2 : vs.size = 2 := hsz
  refine ⟨x, y, ?_⟩
  congr 1
  refine Array.ext (by simpa using hs2) (fun j h1 h2 => ?_)
  have hj : j = 0 ∨ j = 1 := by omega
  rcases hj with rfl | rfl
  · rw [Array.getElem?_eq_getElem h1] at e0; injection e0
  · rw [Array.getElem?_eq_getElem h1] at e1; injection e1
set_option maxRecDepth 20000 in
theorem rvs_trod15 {H : Type} {enc : TypeId × Value → H} {W : World} {base : Nat} {spare : Nat → Bool} {held : Bool} {fuel : Nat} {cs : List Value} {x : DataW H × List MemPlace}
    (hf : DataW.trod enc Try.prog W base spare held fuel 55 cs = some x) : ∃ (L : Option Addr) (m c : Nat) (l : List RV), cs = [.slice L m c] ∧ m ≤ 9223372036854775807 ∧ RwR W L m l := by
  rcases Go.Deep.open_slice Try.underlying55 hf with ⟨hcs, _⟩ | ⟨a, len, cap, m, n2, D, Pl, hcs, _, hl, hm, hmm, _, hi⟩
  · exact ⟨none, 0, 0, [], hcs, by decide, RwR.nil _ _⟩
  · have hml : len ≤ m := by
      rw [hmm]
      split <;> omega
    obtain ⟨l, hll, hp⟩ := list_of (P := fun i (x : RV) => ∀ (j : Nat) (u : Value), x.cs[j]? = some u → W.cell? (a.add (i * 9 + j)) = some u) len (fun i hil => by
      obtain ⟨vs, hc, hread⟩ := hi i (by omega)
      rw [n14_cW] at hc
      obtain ⟨_, hvl, hat⟩ := World.cells?_some hc
      obtain ⟨r, hr⟩ := rv_trod14 hread
      refine ⟨r, fun j u hu => ?_⟩
      have hj : j < 9 := (Array.getElem?_eq_some_iff.1 hu).1
      have h1 := hat j hj
      rw [off_add] at h1
      rw [h1, hr, ← hu]
      simp)
    refine ⟨some a, len, cap, l, hcs, by unfold maxLen at hm; omega, ⟨hll.symm, fun h0 => ?_⟩⟩
    have hb : a.block < W.heap.size := by
      have hx : l[0]? = some (l[0]'(by omega)) := List.getElem?_eq_getElem (by omega)
      have := World.block_lt_of_cell? W _ (hp 0 _ hx 0 _ rfl)
      rwa [block_add] at this
    exact ⟨a, rfl, hb, fun i x hx => hp i x hx⟩
set_option maxRecDepth 20000 in
theorem lots_open15 {H : Type} {enc : TypeId × Value → H} {W : World} {base : Nat} {r : Reach} {b0 : Nat} {v : Value} {d : DataW H} {p : List MemPlace} {spare : Nat → Bool} {held : Bool}
    (hv : Value.okWide Try.prog W r b0 57 v) (h : DataW.Trod enc Try.prog W base spare held 57 v d p) :
    ∃ (A0 A1 A2 : Option Addr) (n0 n1 n2 c0 c1 c2 : Nat) (l0 l1 l2 : List RV), v = .agg #[.slice A0 n0 c0, .slice A1 n1 c1, .slice A2 n2 c2] ∧ (n0 ≤ 9223372036854775807 ∧ RwR W A0 n0 l0) ∧ (n1 ≤ 9223372036854775807 ∧ RwR W A1 n1 l1) ∧ (n2 ≤ 9223372036854775807 ∧ RwR W A2 n2 l2) := by
  obtain ⟨cs, rfl, hsz, _⟩ : ∃ cs, v = .agg cs ∧ cs.size = Try.prog.cellsOf 57 ∧ Row.okWide Try.prog W r b0 57 cs := by
    simpa [Value.okWide, Try.underlying57] using hv
  have h2 : Try.prog.cellsOf 57 = 3 := by kernel_rfl
  have h1 : Try.prog.cellsOf 55 = 1 := by kernel_rfl
  rw [h2] at hsz
  obtain ⟨l⟩ := cs
  match l, hsz with
  | [c0, c1, c2], _ =>
    obtain ⟨fuel, hf⟩ := h
    obtain ⟨xs, m, rfl, _, _, hxl, hi⟩ := DataW.trod_array Try.underlying57 hf
    have k0 := hi 0 (by decide)
    have k1 := hi 1 (by decide)
    have k2 := hi 2 (by decide)
    rw [h1] at k0 k1 k2
    have hc : (Value.agg ⟨[c0, c1, c2]⟩).cells.toList = [c0, c1, c2] := by simp [Value.cells]
    rw [hc] at k0 k1 k2
    rw [List.getElem?_eq_getElem (by omega)] at k0 k1 k2
    obtain ⟨A0, n0, d0, l0, e0, b0, r0⟩ := rvs_trod15 k0
    obtain ⟨A1, n1, d1, l1, e1, b1, r1⟩ := rvs_trod15 k1
    obtain ⟨A2, n2, d2, l2, e2, b2, r2⟩ := rvs_trod15 k2
    simp at e0 e1 e2
    subst e0 e1 e2
    exact ⟨A0, A1, A2, n0, n1, n2, d0, d1, d2, l0, l1, l2, rfl, ⟨b0, r0⟩, ⟨b1, r1⟩, ⟨b2, r2⟩⟩

end Go.Proofs.Ytacbgelbffmngaa
