/-
  A row, an act by value, and a slice of acts, that came in, opened to what the walks ask. No condition.
-/
import Derived.Test.YtbigcebpfbfddaaOu
import Derived.ProofKit
import Derived.OpenShut
import Derived.ChangeOld
namespace Go.Proofs.Ytbigcebpfbfddaa
open Go.ChangeShapes Go.WideShapes Go.ChangeAt Go.RowKit

section
variable {H : Type} {enc : TypeId × Value → H} {P : Program} {w : World} {base : Nat} {spare : Nat → Bool} {held : Bool}
theorem agg_open9 {r : Reach} {b0 : Nat} {t : TypeId} {fs : Array Field} {v : Value} {d : DataW H} {p : List MemPlace} (hs : P.underlying t = some (.struct fs)) (hone : Go.Deep.oneCellFields P fs = true) (hC : P.cellsOf t = fs.size)
    (hv : Value.okWide P w r b0 t v) (h : DataW.Trod enc P w base spare held t v d p) :
    ∃ (vs : Array Value) (n : Nat), v = .agg vs ∧ vs.size = fs.size ∧ ∀ (j : Nat) (f : Field), fs[j]? = some f → ∃ u y, vs[j]? = some u ∧ DataW.trod enc P w base spare held n f.type [u] = some y := by
  obtain ⟨cs, rfl, hsz⟩ := okWide_struct hs hv
  obtain ⟨fuel, hf⟩ := h
  obtain ⟨ys, n', _, _, hlen, hyl, hfs⟩ := DataW.trod_struct hs hf
  refine ⟨cs, n', rfl, hsz.trans hC, fun j f hj => ?_⟩
  obtain ⟨ho, hk⟩ := Go.Deep.hone_of hone j f hj
  have hjl : j < fs.size := (Array.getElem?_eq_some_iff.1 hj).1
  have hcl : j < cs.size := by omega
  have hy : ys[j]? = some (ys[j]'(by omega)) := List.getElem?_eq_getElem (by omega)
  have h1 := hfs j f hj
  have hc : (Value.agg cs).cells.toList = cs.toList := by simp [Value.cells]
  rw [hc, ho, hk, List.drop_eq_getElem_cons (by simpa using hcl : j < cs.toList.length)] at h1
  exact ⟨_, _, by rw [Array.getElem?_eq_getElem hcl, Array.getElem_toList], h1.trans hy⟩
end
/-- A row that came in by value. -/
theorem rv_open {H : Type} {enc : TypeId × Value → H} {W : World} {base : Nat} {r : Reach} {b0 : Nat} {v : Value} {d : DataW H} {p : List MemPlace} {spare : Nat → Bool} {held : Bool}
    (hv : Value.okWide Try.prog W r b0 25 v) (h : DataW.Trod enc Try.prog W base spare held 25 v d p) :
    ∃ po ma ow ta ol ge ph ve si : Int, v = .agg #[.int .i64 po, .int .u64 ma, .int .i64 ow, .int .i64 ta, .int .i64 ol, .int .i64 ge, .int .i64 ph, .int .i64 ve, .int .i64 si] := by
  obtain ⟨vs, n, rfl, hsz, hf⟩ := agg_open9 Try.underlying25 (by kernel_rfl) (by kernel_rfl) hv h
  obtain ⟨v0, y0, e0, t0⟩ := hf 0 _ rfl
  obtain ⟨v1, y1, e1, t1⟩ := hf 1 _ rfl
  obtain ⟨v2, y2, e2, t2⟩ := hf 2 _ rfl
  obtain ⟨v3, y3, e3, t3⟩ := hf 3 _ rfl
  obtain ⟨v4, y4, e4, t4⟩ := hf 4 _ rfl
  obtain ⟨v5, y5, e5, t5⟩ := hf 5 _ rfl
  obtain ⟨v6, y6, e6, t6⟩ := hf 6 _ rfl
  obtain ⟨v7, y7, e7, t7⟩ := hf 7 _ rfl
  obtain ⟨v8, y8, e8, t8⟩ := hf 8 _ rfl
  obtain ⟨x0, h0, _, w0⟩ := DataW.trod_int Try.underlying3 t0
  obtain ⟨x1, h1, _, w1⟩ := DataW.trod_int Try.underlying22 t1
  obtain ⟨x2, h2, _, w2⟩ := DataW.trod_int Try.underlying3 t2
  obtain ⟨x3, h3, _, w3⟩ := DataW.trod_int Try.underlying3 t3
  obtain ⟨x4, h4, _, w4⟩ := DataW.trod_int Try.underlying3 t4
  obtain ⟨x5, h5, _, w5⟩ := DataW.trod_int Try.underlying3 t5
  obtain ⟨x6, h6, _, w6⟩ := DataW.trod_int Try.underlying23 t6
  obtain ⟨x7, h7, _, w7⟩ := DataW.trod_int Try.underlying3 t7
  obtain ⟨x8, h8, _, w8⟩ := DataW.trod_int Try.underlying3 t8
  simp only [List.cons.injEq, and_true] at h0 h1 h2 h3 h4 h5 h6 h7 h8
  subst h0
  subst h1
  subst h2
  subst h3
  subst h4
  subst h5
  subst h6
  subst h7
  subst h8
  have hs5 : vs.size = 9 := hsz
  refine ⟨x0, x1, x2, x3, x4, x5, x6, x7, x8, ?_⟩
  congr 1
  refine Array.ext (by simpa using hs5) (fun i h1 h2 => ?_)
  have hi : i = 0 ∨ i = 1 ∨ i = 2 ∨ i = 3 ∨ i = 4 ∨ i = 5 ∨ i = 6 ∨ i = 7 ∨ i = 8 := by omega
  rcases hi with rfl | rfl | rfl | rfl | rfl | rfl | rfl | rfl | rfl
  · rw [Array.getElem?_eq_getElem h1] at e0; injection e0
  · rw [Array.getElem?_eq_getElem h1] at e1; injection e1
  · rw [Array.getElem?_eq_getElem h1] at e2; injection e2
  · rw [Array.getElem?_eq_getElem h1] at e3; injection e3
  · rw [Array.getElem?_eq_getElem h1] at e4; injection e4
  · rw [Array.getElem?_eq_getElem h1] at e5; injection e5
  · rw [Array.getElem?_eq_getElem h1] at e6; injection e6
  · rw [Array.getElem?_eq_getElem h1] at e7; injection e7
  · rw [Array.getElem?_eq_getElem h1] at e8; injection e8

/-- An act that came in by value. -/
theorem at_open {H : Type} {enc : TypeId × Value → H} {W : World} {base : Nat} {r : Reach} {b0 : Nat} {v : Value} {d : DataW H} {p : List MemPlace} {spare : Nat → Bool} {held : Bool}
    (hv : Value.okWide Try.prog W r b0 27 v) (h : DataW.Trod enc Try.prog W base spare held 27 v d p) :
    ∃ k who now mac vr : Int, v = .agg #[.int .u8 k, .int .i64 who, .int .i64 now, .int .u64 mac, .int .i64 vr] ∧ (0 ≤ k ∧ k ≤ 255) ∧ (-9223372036854775808 ≤ vr ∧ vr ≤ 9223372036854775807) := by
  obtain ⟨vs, n, rfl, hsz, hf⟩ := agg_open9 Try.underlying27 (by kernel_rfl) (by kernel_rfl) hv h
  obtain ⟨v0, y0, e0, t0⟩ := hf 0 _ rfl
  obtain ⟨v1, y1, e1, t1⟩ := hf 1 _ rfl
  obtain ⟨v2, y2, e2, t2⟩ := hf 2 _ rfl
  obtain ⟨v3, y3, e3, t3⟩ := hf 3 _ rfl
  obtain ⟨v4, y4, e4, t4⟩ := hf 4 _ rfl
  obtain ⟨x0, h0, _, w0⟩ := DataW.trod_int Try.underlying5 t0
  obtain ⟨x1, h1, _, w1⟩ := DataW.trod_int Try.underlying3 t1
  obtain ⟨x2, h2, _, w2⟩ := DataW.trod_int Try.underlying3 t2
  obtain ⟨x3, h3, _, w3⟩ := DataW.trod_int Try.underlying22 t3
  obtain ⟨x4, h4, _, w4⟩ := DataW.trod_int Try.underlying3 t4
  simp only [List.cons.injEq, and_true] at h0 h1 h2 h3 h4
  subst h0
  subst h1
  subst h2
  subst h3
  subst h4
  have hs5 : vs.size = 5 := hsz
  refine ⟨x0, x1, x2, x3, x4, ?_, u8_range w0, bounds_i64 w4⟩
  congr 1
  refine Array.ext (by simpa using hs5) (fun i h1 h2 => ?_)
  have hi : i = 0 ∨ i = 1 ∨ i = 2 ∨ i = 3 ∨ i = 4 := by omega
  rcases hi with rfl | rfl | rfl | rfl | rfl
  · rw [Array.getElem?_eq_getElem h1] at e0; injection e0
  · rw [Array.getElem?_eq_getElem h1] at e1; injection e1
  · rw [Array.getElem?_eq_getElem h1] at e2; injection e2
  · rw [Array.getElem?_eq_getElem h1] at e3; injection e3
  · rw [Array.getElem?_eq_getElem h1] at e4; injection e4

theorem acts9_open {H : Type} {enc : TypeId × Value → H} {W : World} {v : Value} {d : DataW H} {p : List MemPlace} {spare : Nat → Bool} {held : Bool}
    (h : DataW.Trod enc Try.prog W 0 spare held 34 v d p) (hv : ∃ A n c, v = .slice A n c) : ∃ (L : Option Addr) (m c : Nat) (l : List At9), v = .slice L m c ∧ m ≤ 9223372036854775807 ∧ AR9 W (fun k => k < W.heap.size) L m l := by
  obtain ⟨A, n, c, rfl⟩ := hv
  obtain ⟨fuel, hf⟩ := h
  obtain ⟨L, m, cap, hcs, h1, h2, h3, h4⟩ := elems_open Try.underlying34 Try.underlying27 (by kernel_rfl) (by kernel_rfl) hf
  simp only [Value.cells, List.cons.injEq, Value.slice.injEq, and_true] at hcs
  obtain ⟨rfl, rfl, rfl⟩ := hcs
  rcases A with _ | ad
  · obtain ⟨rfl, rfl⟩ := h3 rfl
    exact ⟨none, 0, 0, [], rfl, by omega, ⟨rfl, fun h => absurd h (by omega)⟩⟩
  · obtain ⟨l, hl, hp⟩ := list_of (P := fun i (x : At9) => W.cell? (ad.add (i * 5)) = some (.int .u8 x.k) ∧ W.cell? (ad.add (i * 5 + 1)) = some (.int .i64 x.who) ∧ W.cell? (ad.add (i * 5 + 2)) = some (.int .i64 x.now) ∧ W.cell? (ad.add (i * 5 + 3)) = some (.int .u64 x.mac) ∧ W.cell? (ad.add (i * 5 + 4)) = some (.int .i64 x.vr) ∧ (0 ≤ x.k ∧ x.k ≤ 255) ∧ (-9223372036854775808 ≤ x.vr ∧ x.vr ≤ 9223372036854775807)) n (fun i hi => by
      obtain ⟨vs, n', hc, hr⟩ := h4 ad rfl i hi
      obtain ⟨v0, y0, e0, t0⟩ := hr 0 _ rfl
      obtain ⟨v1, y1, e1, t1⟩ := hr 1 _ rfl
      obtain ⟨v2, y2, e2, t2⟩ := hr 2 _ rfl
      obtain ⟨v3, y3, e3, t3⟩ := hr 3 _ rfl
      obtain ⟨v4, y4, e4, t4⟩ := hr 4 _ rfl
      obtain ⟨x0, q0, _, w0⟩ := DataW.trod_int Try.underlying5 t0
      obtain ⟨x1, q1, _, w1⟩ := DataW.trod_int Try.underlying3 t1
      obtain ⟨x2, q2, _, w2⟩ := DataW.trod_int Try.underlying3 t2
      obtain ⟨x3, q3, _, w3⟩ := DataW.trod_int Try.underlying22 t3
      obtain ⟨x4, q4, _, w4⟩ := DataW.trod_int Try.underlying3 t4
      simp only [List.cons.injEq, and_true] at q0 q1 q2 q3 q4
      subst q0
      subst q1
      subst q2
      subst q3
      subst q4
      have c0 := hc 0 (by decide)
      rw [e0] at c0
      have c1 := hc 1 (by decide)
      rw [e1] at c1
      have c2 := hc 2 (by decide)
      rw [e2] at c2
      have c3 := hc 3 (by decide)
      rw [e3] at c3
      have c4 := hc 4 (by decide)
      rw [e4] at c4
      exact ⟨⟨x0, x1, x2, x3, x4⟩, c0, c1, c2, c3, c4, u8_range w0, bounds_i64 w4⟩)
    refine ⟨some ad, n, c, l, rfl, by unfold maxLen at h2; omega, ⟨hl.symm, fun hn => ⟨ad, rfl, ?_, ?_, fun i x hi => hp i x hi⟩⟩⟩
    · have h0 : l[0]? = some (l[0]'(by omega)) := List.getElem?_eq_getElem (by omega)
      have := World.block_lt_of_cell? W _ (hp 0 _ h0).1
      rwa [block_add] at this
    · have h0 : l[0]? = some (l[0]'(by omega)) := List.getElem?_eq_getElem (by omega)
      have := World.block_lt_of_cell? W _ (hp 0 _ h0).1
      rwa [block_add] at this

end Go.Proofs.Ytbigcebpfbfddaa
