/-
  Slices of items and of acts that came in, opened. No condition.
-/
import Derived.Test.YthajmplheecepaaSp
import Derived.Test.YthajmplheecepaaArgs
namespace Go.Proofs.Ythajmplheecepaa
open Go.RowKit Go.ChangeShapes
set_option linter.unusedVariables false
set_option linter.unusedSimpArgs false

/-- A slice of items, wherever it is read. -/
theorem items18_open {H : Type} {enc : TypeId × Value → H} {W : World} {base : Nat} {spare : Nat → Bool} {held : Bool} {fuel : Nat} {cs : List Value} {x : DataW H × List MemPlace}
    (h : DataW.trod enc Try.prog W base spare held fuel 34 cs = some x) : ∃ (L : Option Addr) (m c : Nat) (l : List AI18), cs = [.slice L m c] ∧ m ≤ 9223372036854775807 ∧ (L = none → c = 0) ∧ IR18 W (fun k => k < W.heap.size) L m l := by
  obtain ⟨L, n, cap, hcs, h1, h2, h3, h4⟩ := elems_open Try.underlying34 Try.underlying40 (by kernel_rfl) (by kernel_rfl) h
  rcases L with _ | ad
  · obtain ⟨rfl, rfl⟩ := h3 rfl
    exact ⟨none, 0, 0, [], hcs, by omega, fun _ => rfl, ⟨rfl, fun h => absurd h (by omega)⟩⟩
  · obtain ⟨l, hl, hp⟩ := list_of (P := fun i (x : AI18) => W.cell? (ad.add (i * 3)) = some (.int .i64 x.ki) ∧ W.cell? (ad.add (i * 3 + 1)) = some (.int .i64 x.ch) ∧ W.cell? (ad.add (i * 3 + 2)) = some (.slice x.A x.n x.c) ∧
        x.n = x.bs.length ∧ x.n ≤ 9223372036854775807 ∧ (x.A = none → x.c = 0) ∧ Rds W (fun k => k < W.heap.size) x.A x.n (bcs x.bs)) n (fun i hi => by
      obtain ⟨vs, n', hc, hr⟩ := h4 ad rfl i hi
      obtain ⟨v0, y0, e0, t0⟩ := hr 0 _ rfl
      obtain ⟨v1, y1, e1, t1⟩ := hr 1 _ rfl
      obtain ⟨v2, y2, e2, t2⟩ := hr 2 _ rfl
      obtain ⟨k, hk, _, _⟩ := DataW.trod_int Try.underlying3 t0
      obtain ⟨q, hq, _, _⟩ := DataW.trod_int Try.underlying3 t1
      obtain ⟨BA, bq, bc, ws, hB, wB⟩ := ints_open Try.underlying38 Try.underlying5 (by kernel_rfl) t2
      simp only [List.cons.injEq, and_true] at hk hq hB
      subst hk
      subst hq
      subst hB
      have hnil := row_nil wB
      have hlen := row_len wB
      obtain ⟨b, hl2, hr2⟩ := row_bytes wB
      have c0 := hc 0 (by decide)
      have c1 := hc 1 (by decide)
      have c2 := hc 2 (by decide)
      rw [e0] at c0
      rw [e1] at c1
      rw [e2] at c2
      exact ⟨⟨k, q, BA, bq, bc, b⟩, c0, c1, c2, hl2, hlen, hnil, hr2.old.mono (fun _ h => h.2)⟩)
    refine ⟨some ad, n, cap, l, hcs, by unfold maxLen at h2; omega, (fun e => by cases e), ⟨hl.symm, fun hn => ⟨ad, rfl, ?_, ?_, fun i x hi => hp i x hi⟩⟩⟩
    · have h0 : l[0]? = some (l[0]'(by omega)) := List.getElem?_eq_getElem (by omega)
      have := World.block_lt_of_cell? W _ (hp 0 _ h0).1
      rwa [block_add] at this
    · have h0 : l[0]? = some (l[0]'(by omega)) := List.getElem?_eq_getElem (by omega)
      have := World.block_lt_of_cell? W _ (hp 0 _ h0).1
      rwa [block_add] at this
theorem acts18_open {H : Type} {enc : TypeId × Value → H} {W : World} {v : Value} {d : DataW H} {p : List MemPlace} {spare : Nat → Bool} {held : Bool}
    (h : DataW.Trod enc Try.prog W 0 spare held 22 v d p) (hv : ∃ A n c, v = .slice A n c) : ∃ (L : Option Addr) (m c : Nat) (l : List At18), v = .slice L m c ∧ m ≤ 9223372036854775807 ∧ AR18 W (fun k => k < W.heap.size) L m l := by
  obtain ⟨A, n, c, rfl⟩ := hv
  obtain ⟨fuel, hf⟩ := h
  obtain ⟨L, m, cap, hcs, h1, h2, h3, h4⟩ := elems_open Try.underlying22 Try.underlying36 (by kernel_rfl) (by kernel_rfl) hf
  simp only [Value.cells, List.cons.injEq, Value.slice.injEq, and_true] at hcs
  obtain ⟨rfl, rfl, rfl⟩ := hcs
  rcases A with _ | ad
  · obtain ⟨rfl, rfl⟩ := h3 rfl
    exact ⟨none, 0, 0, [], rfl, by omega, ⟨rfl, fun h => absurd h (by omega)⟩⟩
  · obtain ⟨l, hl, hp⟩ := list_of (P := fun i (x : At18) => W.cell? (ad.add (i * 3)) = some (.int .u8 x.k) ∧ W.cell? (ad.add (i * 3 + 1)) = some (.slice x.L x.m x.c) ∧ W.cell? (ad.add (i * 3 + 2)) = some (.int .i64 x.n) ∧
        (0 ≤ x.k ∧ x.k ≤ 255) ∧ x.m ≤ 9223372036854775807 ∧ (x.L = none → x.c = 0) ∧ IR18 W (fun k => k < W.heap.size) x.L x.m x.l) n (fun i hi => by
      obtain ⟨vs, n', hc, hr⟩ := h4 ad rfl i hi
      obtain ⟨v0, y0, e0, t0⟩ := hr 0 _ rfl
      obtain ⟨v1, y1, e1, t1⟩ := hr 1 _ rfl
      obtain ⟨v2, y2, e2, t2⟩ := hr 2 _ rfl
      obtain ⟨k, hk, _, wk⟩ := DataW.trod_int Try.underlying5 t0
      obtain ⟨BA, bq, bc, ws, hB, hbq, hbz, hbr⟩ := items18_open t1
      obtain ⟨q, hq, _, _⟩ := DataW.trod_int Try.underlying3 t2
      simp only [List.cons.injEq, and_true] at hk hq hB
      subst hk
      subst hq
      subst hB
      have c0 := hc 0 (by decide)
      have c1 := hc 1 (by decide)
      have c2 := hc 2 (by decide)
      rw [e0] at c0
      rw [e1] at c1
      rw [e2] at c2
      exact ⟨⟨k, BA, bq, bc, ws, q⟩, c0, c1, c2, u8_range wk, hbq, hbz, hbr⟩)
    refine ⟨some ad, n, c, l, rfl, by unfold maxLen at h2; omega, ⟨hl.symm, fun hn => ⟨ad, rfl, ?_, ?_, fun i x hi => hp i x hi⟩⟩⟩
    · have h0 : l[0]? = some (l[0]'(by omega)) := List.getElem?_eq_getElem (by omega)
      have := World.block_lt_of_cell? W _ (hp 0 _ h0).1
      rwa [block_add] at this
    · have h0 : l[0]? = some (l[0]'(by omega)) := List.getElem?_eq_getElem (by omega)
      have := World.block_lt_of_cell? W _ (hp 0 _ h0).1
      rwa [block_add] at this

end Go.Proofs.Ythajmplheecepaa
