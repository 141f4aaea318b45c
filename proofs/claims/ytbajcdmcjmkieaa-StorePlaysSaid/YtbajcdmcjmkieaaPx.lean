/-
  Arguments: two numbers, a slice of acts with their changes, that came in, opened to what the walks ask. No condition.
-/
import Derived.Test.YtbajcdmcjmkieaaPr
import Derived.Test.YtbajcdmcjmkieaaM1
import Derived.ProofKit
import Derived.OpenShut
import Derived.ChangeOld
import Derived.Lib.SmallJoins
namespace Go.Proofs.Ytbajcdmcjmkieaa
open Go.RowKit Go.ChangeShapes Go.WideShapes Go.ChangeAt
set_option linter.unusedVariables false

theorem n10_cI : Try.prog.cellsOf 3 = 1 := by kernel_rfl
theorem n10_cU : Try.prog.cellsOf 24 = 1 := by kernel_rfl
theorem n10_cB : Try.prog.cellsOf 5 = 1 := by kernel_rfl
theorem n10_cP : Try.prog.cellsOf 31 = 1 := by kernel_rfl
theorem n10_cW : Try.prog.cellsOf 33 = 9 := by kernel_rfl
theorem n10_cC : Try.prog.cellsOf 59 = 10 := by kernel_rfl
theorem n10_cA : Try.prog.cellsOf 40 = 3 := by kernel_rfl
theorem n10_cL : Try.prog.cellsOf 38 = 1 := by kernel_rfl
theorem n10_cG : Try.prog.cellsOf 23 = 2 := by kernel_rfl
theorem fld10 {α : Type} {ys : List α} {n j : Nat} {e : Option α} (h : e = ys[j]?) (hl : ys.length = n) (hj : j < n) : ∃ y, e = some y := ⟨_, h.trans (List.getElem?_eq_getElem (by omega))⟩
section
variable {H : Type} {enc : TypeId × Value → H} {w : World} {base : Nat} {spare : Nat → Bool} {held : Bool}
set_option maxRecDepth 20000 in
theorem chg_open {fuel : Nat} {cs : List Value} {x : DataW H × List MemPlace} (h : DataW.trod enc Try.prog w base spare held fuel 59 cs = some x) : ∃ r : CV, cs = r.cs.toList := by
  obtain ⟨ys, m, _, _, hl, hyl, hf⟩ := DataW.trod_struct Try.underlying59 h
  rw [n10_cC] at hl
  match cs, hl with
  | [c0, c1, c2, c3, c4, c5, c6, c7, c8, c9], _ =>
    obtain ⟨_, k0⟩ := fld10 (hf 0 _ rfl) hyl (by decide)
    obtain ⟨_, k1⟩ := fld10 (hf 1 _ rfl) hyl (by decide)
    simp only [List.getElem_toArray, List.getElem_cons_zero, List.getElem_cons_succ] at k0 k1
    rw [n10_cW] at k0
    rw [n10_cI] at k1
    simp only [List.drop_zero, List.drop_succ_cons, List.take_succ_cons, List.take_zero] at k0 k1
    obtain ⟨zs, m2, _, _, _, hzl, hg⟩ := DataW.trod_struct Try.underlying33 k0
    obtain ⟨_, g0⟩ := fld10 (hg 0 _ rfl) hzl (by decide)
    obtain ⟨_, g1⟩ := fld10 (hg 1 _ rfl) hzl (by decide)
    obtain ⟨_, g2⟩ := fld10 (hg 2 _ rfl) hzl (by decide)
    obtain ⟨_, g3⟩ := fld10 (hg 3 _ rfl) hzl (by decide)
    obtain ⟨_, g4⟩ := fld10 (hg 4 _ rfl) hzl (by decide)
    obtain ⟨_, g5⟩ := fld10 (hg 5 _ rfl) hzl (by decide)
    obtain ⟨_, g6⟩ := fld10 (hg 6 _ rfl) hzl (by decide)
    obtain ⟨_, g7⟩ := fld10 (hg 7 _ rfl) hzl (by decide)
    obtain ⟨_, g8⟩ := fld10 (hg 8 _ rfl) hzl (by decide)
    simp only [List.getElem_toArray, List.getElem_cons_zero, List.getElem_cons_succ] at g0 g1 g2 g3 g4 g5 g6 g7 g8
    rw [n10_cI] at g0 g2 g3 g4 g5 g7 g8
    rw [n10_cU] at g1
    rw [n10_cP] at g6
    simp only [List.drop_zero, List.drop_succ_cons, List.take_succ_cons, List.take_zero] at g0 g1 g2 g3 g4 g5 g6 g7 g8
    obtain ⟨a0, e0, _, _⟩ := DataW.trod_int Try.underlying3 g0
    obtain ⟨a1, e1, _, _⟩ := DataW.trod_int Try.underlying24 g1
    obtain ⟨a2, e2, _, _⟩ := DataW.trod_int Try.underlying3 g2
    obtain ⟨a3, e3, _, _⟩ := DataW.trod_int Try.underlying3 g3
    obtain ⟨a4, e4, _, _⟩ := DataW.trod_int Try.underlying3 g4
    obtain ⟨a5, e5, _, _⟩ := DataW.trod_int Try.underlying3 g5
    obtain ⟨a6, e6, _, _⟩ := DataW.trod_int Try.underlying31 g6
    obtain ⟨a7, e7, _, _⟩ := DataW.trod_int Try.underlying3 g7
    obtain ⟨a8, e8, _, _⟩ := DataW.trod_int Try.underlying3 g8
    obtain ⟨a9, e9, _, _⟩ := DataW.trod_int Try.underlying3 k1
    simp only [List.cons.injEq, and_true] at e0 e1 e2 e3 e4 e5 e6 e7 e8 e9
    subst e0 e1 e2 e3 e4 e5 e6 e7 e8 e9
    exact ⟨⟨⟨a0, a1, a2, a3, a4, a5, a6, a7, a8⟩, a9⟩, rfl⟩
set_option maxRecDepth 20000 in
theorem chgs_open {fuel : Nat} {cs : List Value} {x : DataW H × List MemPlace} (h : DataW.trod enc Try.prog w base spare held fuel 38 cs = some x) :
    ∃ (A : Option Addr) (n c : Nat) (l : List CV), cs = [.slice A n c] ∧ SR 10 CV.cs w (fun k => k < w.heap.size) A n l ∧ n ≤ 9223372036854775807 := by
  rcases Go.Deep.open_slice Try.underlying38 h with ⟨hcs, _⟩ | ⟨a, len, cap, m, n, D, Pl, hcs, _, hl, hm, hmm, _, hi⟩
  · exact ⟨none, 0, 0, [], hcs, SR.nil _ _ _, by decide⟩
  · have hml : len ≤ m := by
      rw [hmm]
      split <;> omega
    obtain ⟨l, hll, hp⟩ := list_of (P := fun i (r : CV) => ∀ j u, r.cs[j]? = some u → w.cell? (a.add (i * 10 + j)) = some u) len (fun i hil => by
      obtain ⟨vs, hc, hread⟩ := hi i (by omega)
      rw [n10_cC] at hc
      obtain ⟨_, hvl, hat⟩ := World.cells?_some hc
      obtain ⟨r, hr⟩ := chg_open hread
      refine ⟨r, fun j u hu => ?_⟩
      have hj : j < 10 := (Array.getElem?_eq_some_iff.1 hu).1
      have h1 := hat j hj
      rw [off_add] at h1
      rw [h1, hr, ← hu]
      simp)
    refine ⟨some a, len, cap, l, hcs, ⟨hll.symm, fun h0 => ?_⟩, by unfold maxLen at hm; omega⟩
    have hb : a.block < w.heap.size := by
      have hx : l[0]? = some (l[0]'(by omega)) := List.getElem?_eq_getElem (by omega)
      have h1 := hp 0 _ hx 0 _ rfl
      have := World.block_lt_of_cell? w _ h1
      rwa [block_add] at this
    exact ⟨a, rfl, hb, hb, fun i x hx => hp i x hx⟩
set_option maxRecDepth 20000 in
theorem act_open {fuel : Nat} {cs : List Value} {x : DataW H × List MemPlace} (h : DataW.trod enc Try.prog w base spare held fuel 40 cs = some x) : ∃ r : At10, cs = [.int .u8 r.k, .int .i64 r.who, .slice r.A r.n r.c] ∧ (0 ≤ r.k ∧ r.k ≤ 255) ∧ r.n ≤ 9223372036854775807 ∧ SR 10 CV.cs w (fun k => k < w.heap.size) r.A r.n r.l := by
  obtain ⟨ys, m, _, _, hl, hyl, hf⟩ := DataW.trod_struct Try.underlying40 h
  rw [n10_cA] at hl
  match cs, hl with
  | [c0, c1, c2], _ =>
    obtain ⟨_, k0⟩ := fld10 (hf 0 _ rfl) hyl (by decide)
    obtain ⟨_, k1⟩ := fld10 (hf 1 _ rfl) hyl (by decide)
    obtain ⟨_, k2⟩ := fld10 (hf 2 _ rfl) hyl (by decide)
    simp only [List.getElem_toArray, List.getElem_cons_zero, List.getElem_cons_succ] at k0 k1 k2
    rw [n10_cB] at k0
    rw [n10_cI] at k1
    rw [n10_cL] at k2
    simp only [List.drop_zero, List.drop_succ_cons, List.take_succ_cons, List.take_zero] at k0 k1 k2
    obtain ⟨a0, e0, _, w0⟩ := DataW.trod_int Try.underlying5 k0
    obtain ⟨a1, e1, _, _⟩ := DataW.trod_int Try.underlying3 k1
    obtain ⟨A, n, c, l, e2, hs, hn⟩ := chgs_open k2
    simp only [List.cons.injEq, and_true] at e0 e1 e2
    subst e0 e1 e2
    exact ⟨⟨a0, a1, A, n, c, l⟩, rfl, u8_range w0, hn, hs⟩
end
set_option maxRecDepth 20000 in
theorem acts10_open {H : Type} {enc : TypeId × Value → H} {W : World} {v : Value} {d : DataW H} {p : List MemPlace} {base : Nat} {spare : Nat → Bool} {held : Bool}
    (h : DataW.Trod enc Try.prog W base spare held 22 v d p) (hv : ∃ A n c, v = .slice A n c) : ∃ (L : Option Addr) (m c : Nat) (l : List At10), v = .slice L m c ∧ m ≤ 9223372036854775807 ∧ AR10 W (fun k => k < W.heap.size) L m l := by
  obtain ⟨A, n, c, rfl⟩ := hv
  obtain ⟨fuel, hf⟩ := h
  have hc0 : (Value.slice A n c).cells.toList = [.slice A n c] := by simp [Value.cells]
  rw [hc0] at hf
  rcases Go.Deep.open_slice Try.underlying22 hf with ⟨hcs, _⟩ | ⟨a, len, cap, m, n2, D, Pl, hcs, _, hl, hm, hmm, _, hi⟩
  · simp only [List.cons.injEq, and_true] at hcs
    exact ⟨none, 0, 0, [], hcs, by decide, ⟨rfl, fun h => absurd h (by omega)⟩⟩
  · simp only [List.cons.injEq, and_true] at hcs
    have hml : len ≤ m := by
      rw [hmm]
      split <;> omega
    obtain ⟨l, hll, hp⟩ := list_of (P := fun i (x : At10) => W.cell? (a.add (i * 3)) = some (.int .u8 x.k) ∧ W.cell? (a.add (i * 3 + 1)) = some (.int .i64 x.who) ∧ W.cell? (a.add (i * 3 + 2)) = some (.slice x.A x.n x.c) ∧
        (0 ≤ x.k ∧ x.k ≤ 255) ∧ x.n ≤ 9223372036854775807 ∧ SR 10 CV.cs W (fun k => k < W.heap.size) x.A x.n x.l) len (fun i hil => by
      obtain ⟨vs, hc, hread⟩ := hi i (by omega)
      rw [n10_cA] at hc
      obtain ⟨_, hvl, hat⟩ := World.cells?_some hc
      obtain ⟨r, hr, hk, hn, hs⟩ := act_open hread
      have h0 := hat 0 (by decide)
      have h1 := hat 1 (by decide)
      have h2 := hat 2 (by decide)
      rw [off_add, hr] at h0 h1 h2
      exact ⟨r, h0, h1, h2, hk, hn, hs⟩)
    refine ⟨some a, len, cap, l, hcs, by unfold maxLen at hm; omega, ⟨hll.symm, fun h0 => ?_⟩⟩
    have hb : a.block < W.heap.size := by
      have hx : l[0]? = some (l[0]'(by omega)) := List.getElem?_eq_getElem (by omega)
      have := World.block_lt_of_cell? W _ (hp 0 _ hx).1
      rwa [block_add] at this
    exact ⟨a, rfl, hb, hb, fun i x hx => hp i x hx⟩
set_option maxRecDepth 20000 in
theorem arr10_open {H : Type} {enc : TypeId × Value → H} {W : World} {base : Nat} {r : Reach} {b0 : Nat} {v : Value} {d : DataW H} {p : List MemPlace} {spare : Nat → Bool} {held : Bool}
    (hv : Value.okWide Try.prog W r b0 23 v) (h : DataW.Trod enc Try.prog W base spare held 23 v d p) :
    ∃ x y : Int, v = .agg #[.int .i64 x, .int .i64 y] ∧ (-9223372036854775808 ≤ x ∧ x ≤ 9223372036854775807) := by
  obtain ⟨cs, rfl, hsz, _⟩ : ∃ cs, v = .agg cs ∧ cs.size = Try.prog.cellsOf 23 ∧ Row.okWide Try.prog W r b0 23 cs := by
    simpa [Value.okWide, Try.underlying23] using hv
  rw [n10_cG] at hsz
  obtain ⟨l⟩ := cs
  match l, hsz with
  | [c0, c1], _ =>
    obtain ⟨fuel, hf⟩ := h
    obtain ⟨xs, m, rfl, _, _, hxl, hi⟩ := DataW.trod_array Try.underlying23 hf
    have k0 := hi 0 (by decide)
    have k1 := hi 1 (by decide)
    rw [n10_cI] at k0 k1
    have hc : (Value.agg ⟨[c0, c1]⟩).cells.toList = [c0, c1] := by simp [Value.cells]
    rw [hc] at k0 k1
    rw [List.getElem?_eq_getElem (by omega)] at k0 k1
    obtain ⟨x, hx, _, wx⟩ := DataW.trod_int Try.underlying3 k0
    obtain ⟨y, hy, _, _⟩ := DataW.trod_int Try.underlying3 k1
    simp at hx hy
    subst hx hy
    exact ⟨x, y, rfl, bounds_i64 wx⟩

end Go.Proofs.Ytbajcdmcjmkieaa
