/-
  Calls that came in, opened. No condition.
  Acts on a model in memory; acts that came in, opened. No condition.
-/
import Derived.Test.YtimgnogacanifaaGreatM1
import Derived.ProofKit
import Derived.OpenShut
import Derived.ChangeOld
import Derived.Lib.SmallJoins
section
namespace Go.Proofs.YtimgnogacanifaaGreat
open Go.RowKit Go.ChangeShapes
set_option linter.unusedVariables false
set_option linter.unusedSimpArgs false

theorem fld17 {α : Type} {ys : List α} {n j : Nat} {e : Option α} (h : e = ys[j]?) (hl : ys.length = n) (hj : j < n) : ∃ y, e = some y := ⟨_, h.trans (List.getElem?_eq_getElem (by omega))⟩
theorem n17_cB : Tryz.prog.cellsOf 5 = 1 := by kernel_rfl
theorem n17_cC : Tryz.prog.cellsOf 33 = 4 := by kernel_rfl
theorem n17_cO : Tryz.prog.cellsOf 30 = 1 := by kernel_rfl
theorem n17_cI : Tryz.prog.cellsOf 3 = 1 := by kernel_rfl
theorem n17_cU : Tryz.prog.cellsOf 31 = 1 := by kernel_rfl
section
variable {H : Type} {enc : TypeId × Value → H} {w : World} {base : Nat} {spare : Nat → Bool} {held : Bool}
set_option maxRecDepth 20000 in
theorem call_trod17 {fuel : Nat} {cs : List Value} {x : DataW H × List MemPlace} (h : DataW.trod enc Tryz.prog w base spare held fuel 33 cs = some x) : ∃ (op po ch ma : Int), cs = [.int .i64 op, .int .i64 po, .int .i64 ch, .int .u64 ma] ∧ 0 ≤ ma := by
  obtain ⟨ys, k, _, _, hl, hyl, hf⟩ := DataW.trod_struct Tryz.underlying33 h
  rw [n17_cC] at hl
  match cs, hl with
  | [c0, c1, c2, c3], _ =>
    obtain ⟨_, k0⟩ := fld17 (hf 0 _ rfl) hyl (by decide)
    obtain ⟨_, k1⟩ := fld17 (hf 1 _ rfl) hyl (by decide)
    obtain ⟨_, k2⟩ := fld17 (hf 2 _ rfl) hyl (by decide)
    obtain ⟨_, k3⟩ := fld17 (hf 3 _ rfl) hyl (by decide)
    simp only [List.getElem_toArray, List.getElem_cons_zero, List.getElem_cons_succ] at k0 k1 k2 k3
    rw [n17_cO] at k0
    rw [n17_cI] at k1 k2
    rw [n17_cU] at k3
    simp only [List.drop_zero, List.drop_succ_cons, List.take_succ_cons, List.take_zero] at k0 k1 k2 k3
    obtain ⟨op, e0, _, _⟩ := DataW.trod_int Tryz.underlying30 k0
    obtain ⟨po, e1, _, _⟩ := DataW.trod_int Tryz.underlying3 k1
    obtain ⟨ch, e2, _, _⟩ := DataW.trod_int Tryz.underlying3 k2
    obtain ⟨ma, e3, _, wm⟩ := DataW.trod_int Tryz.underlying31 k3
    simp only [List.cons.injEq, and_true] at e0 e1 e2 e3
    subst e0 e1 e2 e3
    exact ⟨op, po, ch, ma, rfl, (bounds_u64 wm).1⟩
end

end Go.Proofs.YtimgnogacanifaaGreat
end

section
namespace Go.Proofs.YtimgnogacanifaaGreat
open Go.RowKit
set_option linter.unusedVariables false
set_option linter.unusedSimpArgs false
open Go.ChangeShapes
set_option linter.unusedSimpArgs false

structure At20 where
  k : Int
  op : Int
  po : Int
  ch : Int
  ma : Int
  who : Int
  ver : Int
  now : Int
def At20.cs (x : At20) : Array Value := #[.int .u8 x.k, .int .i64 x.op, .int .i64 x.po, .int .i64 x.ch, .int .u64 x.ma, .int .i64 x.who, .int .i64 x.ver, .int .i64 x.now]
def At20.is (x : At20) : Prop := 0 ≤ x.k ∧ x.k ≤ 255
def AR20 (w : World) (L : Option Addr) (m : Nat) (l : List At20) : Prop :=
  m = l.length ∧ (0 < m → ∃ ad, L = some ad ∧ ad.block < w.heap.size ∧ ∀ (i : Nat) (x : At20), l[i]? = some x → (∀ (j : Nat) (u : Value), x.cs[j]? = some u → w.cell? (ad.add (i * 8 + j)) = some u) ∧ x.is)
theorem AR20.chg {S : Nat → Prop} {w w' : World} {L : Option Addr} {m : Nat} {l : List At20} (h : AR20 w L m l) (hc : Chg S w w') (hS : ∀ k, k < w.heap.size → ¬ S k) : AR20 w' L m l := by
  refine ⟨h.1, fun hm => ?_⟩
  obtain ⟨ad, e, hb, hcell⟩ := h.2 hm
  refine ⟨ad, e, Nat.lt_of_lt_of_le hb hc.size, fun i x hi => ⟨fun j u hu => ?_, (hcell i x hi).2⟩⟩
  rw [← (hcell i x hi).1 j u hu]
  exact World.cell?_of_block (by rw [block_add]; exact hc.block _ hb (hS _ hb))
theorem AR20.at {w : World} {m : Nat} {l : List At20} {ad : Addr} {i : Nat} {x : At20} (h : AR20 w (some ad) m l) (hi : l[i]? = some x) : (w.cell? (ad.add (i * 8)) = some (.int .u8 x.k) ∧ w.cell? ⟨(ad.add (i * 8)).block, (ad.add (i * 8)).off + 1, none⟩ = some (.int .i64 x.op) ∧ w.cell? ⟨(ad.add (i * 8)).block, (ad.add (i * 8)).off + 2, none⟩ = some (.int .i64 x.po) ∧ w.cell? ⟨(ad.add (i * 8)).block, (ad.add (i * 8)).off + 3, none⟩ = some (.int .i64 x.ch) ∧ w.cell? ⟨(ad.add (i * 8)).block, (ad.add (i * 8)).off + 4, none⟩ = some (.int .u64 x.ma) ∧ w.cell? ⟨(ad.add (i * 8)).block, (ad.add (i * 8)).off + 5, none⟩ = some (.int .i64 x.who) ∧ w.cell? ⟨(ad.add (i * 8)).block, (ad.add (i * 8)).off + 6, none⟩ = some (.int .i64 x.ver) ∧ w.cell? ⟨(ad.add (i * 8)).block, (ad.add (i * 8)).off + 7, none⟩ = some (.int .i64 x.now)) ∧ x.is := by
  have hl : i < l.length := (List.getElem?_eq_some_iff.1 hi).1
  obtain ⟨ad', e, _, hc⟩ := h.2 (by have := h.1; omega)
  injection e with e
  subst e
  obtain ⟨h1, h2⟩ := hc i x hi
  have k : ∀ j u, x.cs[j]? = some u → w.cell? ((ad.add (i * 8)).add j) = some u := fun j u hu => by rw [off_add]; exact h1 j u hu
  exact ⟨⟨k 0 _ rfl, k 1 _ rfl, k 2 _ rfl, k 3 _ rfl, k 4 _ rfl, k 5 _ rfl, k 6 _ rfl, k 7 _ rfl⟩, h2⟩
theorem n20_cA : Tryz.prog.cellsOf 35 = 8 := by kernel_rfl
section
variable {H : Type} {enc : TypeId × Value → H} {w : World} {base : Nat} {spare : Nat → Bool} {held : Bool}
set_option maxRecDepth 20000 in
theorem act_trod20 {fuel : Nat} {cs : List Value} {x : DataW H × List MemPlace} (h : DataW.trod enc Tryz.prog w base spare held fuel 35 cs = some x) : ∃ r : At20, cs = r.cs.toList ∧ r.is := by
  obtain ⟨ys, k, _, _, hl, hyl, hf⟩ := DataW.trod_struct Tryz.underlying35 h
  rw [n20_cA] at hl
  match cs, hl with
  | [c0, c1, c2, c3, c4, c5, c6, c7], _ =>
    obtain ⟨_, k0⟩ := fld17 (hf 0 _ rfl) hyl (by decide)
    obtain ⟨_, k1⟩ := fld17 (hf 1 _ rfl) hyl (by decide)
    obtain ⟨_, k2⟩ := fld17 (hf 2 _ rfl) hyl (by decide)
    obtain ⟨_, k3⟩ := fld17 (hf 3 _ rfl) hyl (by decide)
    obtain ⟨_, k4⟩ := fld17 (hf 4 _ rfl) hyl (by decide)
    simp only [List.getElem_toArray, List.getElem_cons_zero, List.getElem_cons_succ] at k0 k1 k2 k3 k4
    rw [n17_cB] at k0
    rw [n17_cC] at k1
    rw [n17_cI] at k2 k3 k4
    simp only [List.drop_zero, List.drop_succ_cons, List.take_succ_cons, List.take_zero] at k0 k1 k2 k3 k4
    obtain ⟨z, e0, _, Wz⟩ := DataW.trod_int Tryz.underlying5 k0
    obtain ⟨op, po, ch, ma, e1, hma⟩ := call_trod17 k1
    obtain ⟨who, e2, _, _⟩ := DataW.trod_int Tryz.underlying3 k2
    obtain ⟨ver, e3, _, _⟩ := DataW.trod_int Tryz.underlying3 k3
    obtain ⟨now, e4, _, _⟩ := DataW.trod_int Tryz.underlying3 k4
    simp only [List.cons.injEq, and_true] at e0 e1 e2 e3 e4
    obtain ⟨g0, g1, g2, g3⟩ := e1
    subst e0 g0 g1 g2 g3 e2 e3 e4
    exact ⟨⟨z, op, po, ch, ma, who, ver, now⟩, rfl, u8_range Wz⟩
end
set_option maxRecDepth 20000 in
theorem acts20_open {H : Type} {enc : TypeId × Value → H} {W : World} {v : Value} {d : DataW H} {p : List MemPlace} {base : Nat} {spare : Nat → Bool} {held : Bool}
    (h : DataW.Trod enc Tryz.prog W base spare held 22 v d p) (hv : ∃ A n c, v = .slice A n c) : ∃ (L : Option Addr) (m c : Nat) (l : List At20), v = .slice L m c ∧ m ≤ c ∧ c ≤ 9223372036854775807 ∧ AR20 W L m l := by
  obtain ⟨A, n, c, rfl⟩ := hv
  obtain ⟨fuel, hf⟩ := h
  have hc0 : (Value.slice A n c).cells.toList = [.slice A n c] := by simp [Value.cells]
  rw [hc0] at hf
  rcases Go.Deep.open_slice Tryz.underlying22 hf with ⟨hcs, _⟩ | ⟨a, len, cap, m, n2, D, Pl, hcs, _, hl, hm, hmm, _, hi⟩
  · simp only [List.cons.injEq, and_true] at hcs
    exact ⟨none, 0, 0, [], hcs, by decide, by decide, ⟨rfl, fun h => absurd h (by omega)⟩⟩
  · simp only [List.cons.injEq, and_true] at hcs
    have hml : len ≤ m := by
      rw [hmm]
      split <;> omega
    obtain ⟨l, hll, hp⟩ := list_of (P := fun i (x : At20) => (∀ (j : Nat) (u : Value), x.cs[j]? = some u → W.cell? (a.add (i * 8 + j)) = some u) ∧ x.is) len (fun i hil => by
      obtain ⟨vs, hc, hread⟩ := hi i (by omega)
      rw [n20_cA] at hc
      obtain ⟨_, hvl, hat⟩ := World.cells?_some hc
      obtain ⟨r, hr, his⟩ := act_trod20 hread
      refine ⟨r, fun j u hu => ?_, his⟩
      have hj : j < 8 := (Array.getElem?_eq_some_iff.1 hu).1
      have h1 := hat j hj
      rw [off_add] at h1
      rw [h1, hr, ← hu]
      simp)
    refine ⟨some a, len, cap, l, hcs, hl, by unfold maxLen at hm; omega, ⟨hll.symm, fun h0 => ?_⟩⟩
    have hb : a.block < W.heap.size := by
      have hx : l[0]? = some (l[0]'(by omega)) := List.getElem?_eq_getElem (by omega)
      have := World.block_lt_of_cell? W _ ((hp 0 _ hx).1 0 _ rfl)
      rwa [block_add] at this
    exact ⟨a, rfl, hb, fun i x hx => hp i x hx⟩

end Go.Proofs.YtimgnogacanifaaGreat
end
