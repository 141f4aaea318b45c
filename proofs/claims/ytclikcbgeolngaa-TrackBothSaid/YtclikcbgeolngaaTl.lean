/-
  Acts on tables that came in, opened. Walk: rutterlaw12.Fits. No condition but that they lie in memory.
-/
import Derived.Test.YtclikcbgeolngaaTk
import Derived.Test.YtclikcbgeolngaaUu
import Derived.Test.YtclikcbgeolngaaArgs
import Derived.ProofKit
import Derived.OpenShut
import Derived.ChangeOld
import Derived.Lib.SmallJoins
namespace Go.Proofs.Ytclikcbgeolngaa
open Go.RowKit Go.ChangeShapes Go.WideShapes Go.ChangeAt
set_option linter.unusedVariables false
set_option linter.unusedSimpArgs false

theorem n12_cB : Try.prog.cellsOf 5 = 1 := by kernel_rfl
theorem n12_cI : Try.prog.cellsOf 3 = 1 := by kernel_rfl
theorem n12_cV : Try.prog.cellsOf 33 = 1 := by kernel_rfl
theorem n12_cF : Try.prog.cellsOf 35 = 5 := by kernel_rfl
theorem n12_cL : Try.prog.cellsOf 30 = 1 := by kernel_rfl
theorem n12_cA : Try.prog.cellsOf 37 = 8 := by kernel_rfl
/-- An act: its kind, a flow, a time, records that lie somewhere. -/
structure At12 where
  k : Int
  pr : Int
  sr : Int
  ds : Int
  sp : Int
  dp : Int
  now : Int
  A : Option Addr
  n : Nat
  c : Nat
  l : List Rc
def At12.cs (x : At12) : Array Value := #[.int .u8 x.k, .int .i64 x.pr, .int .u32 x.sr, .int .u32 x.ds, .int .i64 x.sp, .int .i64 x.dp, .int .i64 x.now, .slice x.A x.n x.c]
def At12.is (w : World) (S : Nat → Prop) (x : At12) : Prop := (0 ≤ x.k ∧ x.k ≤ 255) ∧ x.n ≤ 9223372036854775807 ∧ (-9223372036854775808 ≤ x.now ∧ x.now ≤ 9223372036854775807) ∧ RcR w S x.A x.n x.l
theorem At12.is_chg {w w' : World} {S S' : Nat → Prop} {x : At12} (h : x.is w S) (hc : Chg S' w w') (hd : ∀ k, S k → ¬ S' k) : x.is w' S := ⟨h.1, h.2.1, h.2.2.1, h.2.2.2.chg hc hd⟩
/-- A slice of m acts, of eight cells each, each one's records too. -/
def AR12 (w : World) (S : Nat → Prop) (L : Option Addr) (m : Nat) (l : List At12) : Prop :=
  m = l.length ∧ (0 < m → ∃ ad, L = some ad ∧ S ad.block ∧ ad.block < w.heap.size ∧ ∀ (i : Nat) (x : At12), l[i]? = some x → (∀ (j : Nat) (u : Value), x.cs[j]? = some u → w.cell? (ad.add (i * 8 + j)) = some u) ∧ x.is w S)
section
variable {w w' : World} {S S' : Nat → Prop} {L : Option Addr} {m : Nat} {l : List At12}
theorem AR12.chg (h : AR12 w S L m l) (hc : Chg S' w w') (hd : ∀ k, S k → ¬ S' k) : AR12 w' S L m l := by
  refine ⟨h.1, fun hm => ?_⟩
  obtain ⟨ad, e, hs, hb, hcell⟩ := h.2 hm
  refine ⟨ad, e, hs, Nat.lt_of_lt_of_le hb hc.size, fun i x hi => ⟨fun j u hu => ?_, At12.is_chg (hcell i x hi).2 hc hd⟩⟩
  rw [← (hcell i x hi).1 j u hu]
  exact World.cell?_of_block (by rw [block_add]; exact hc.block _ hb (hd _ hs))
/-- The cells of an act, as the walk spells them. -/
theorem AR12.at {ad : Addr} {i : Nat} {x : At12} (h : AR12 w S (some ad) m l) (hi : l[i]? = some x) : (w.cell? (ad.add (i * 8)) = some (.int .u8 x.k) ∧ w.cell? ⟨(ad.add (i * 8)).block, (ad.add (i * 8)).off + 1, none⟩ = some (.int .i64 x.pr) ∧ w.cell? ⟨(ad.add (i * 8)).block, (ad.add (i * 8)).off + 2, none⟩ = some (.int .u32 x.sr) ∧ w.cell? ⟨(ad.add (i * 8)).block, (ad.add (i * 8)).off + 3, none⟩ = some (.int .u32 x.ds) ∧ w.cell? ⟨(ad.add (i * 8)).block, (ad.add (i * 8)).off + 4, none⟩ = some (.int .i64 x.sp) ∧ w.cell? ⟨(ad.add (i * 8)).block, (ad.add (i * 8)).off + 5, none⟩ = some (.int .i64 x.dp) ∧ w.cell? ⟨(ad.add (i * 8)).block, (ad.add (i * 8)).off + 6, none⟩ = some (.int .i64 x.now) ∧ w.cell? ⟨(ad.add (i * 8)).block, (ad.add (i * 8)).off + 7, none⟩ = some (.slice x.A x.n x.c)) ∧ x.is w S := by
  have hl : i < l.length := (List.getElem?_eq_some_iff.1 hi).1
  obtain ⟨ad', e, _, _, hc⟩ := h.2 (by have := h.1; omega)
  injection e with e
  subst e
  obtain ⟨h1, h2⟩ := hc i x hi
  have k : ∀ j u, x.cs[j]? = some u → w.cell? ((ad.add (i * 8)).add j) = some u := fun j u hu => by rw [off_add]; exact h1 j u hu
  exact ⟨⟨k 0 _ rfl, k 1 _ rfl, k 2 _ rfl, k 3 _ rfl, k 4 _ rfl, k 5 _ rfl, k 6 _ rfl, k 7 _ rfl⟩, h2⟩
end
def FitsP12 (m : Nat) (l : List At12) (w : World) (e : Ending) (w' : World) : Prop := ∃ b, e = .returned (.bool b) ∧ (b = true → m ≤ 60 ∧ ∀ (i : Nat) (x : At12), l[i]? = some x → x.n ≤ 60) ∧ w = w'
set_option maxRecDepth 100000 in
set_option maxHeartbeats 4000000 in
theorem fits12_any (L : Option Addr) (m lc : Nat) (l : List At12) (w : World) (S : Nat → Prop) (h : AR12 w S L m l) (hmc : m ≤ 9223372036854775807) : Calls Try.prog 5 #[.slice L m lc] w (FitsP12 m l w) := by
  go_enter Try.func5, Try.ntmps5
  go_wp2_with fail
  go_loopg [3] m (fun g i wr => ∃ (j : Nat), g = m - j ∧ j ≤ m ∧ i = .int .i64 (j : Int) ∧ Hid (∀ (i : Nat) (x : At12), i < j → l[i]? = some x → x.n ≤ 60) ∧ w = wr)
  case atStart => exact ⟨0, rfl, Nat.zero_le _, rfl, Lib.hid (fun i x hi => absurd hi (by omega)), rfl⟩
  case round =>
    obtain ⟨j, rfl, hj, rfl, HF, rfl⟩ := hrel
    by_cases hlt : j < m
    · by_cases hlt2 : j ≤ 60
      · obtain ⟨ad, rfl, -⟩ := h.2 (by omega)
        have hjl : j < l.length := by have := h.1; omega
        have hx : l[j]? = some l[j] := List.getElem?_eq_getElem hjl
        generalize l[j] = x at *
        obtain ⟨⟨-, -, -, -, -, -, -, z7⟩, -⟩ := h.at hx
        have HX := Lib.hid hx
        clear hx hjl
        by_cases h1 : x.n ≤ 60
        · have HG : Hid (∀ (i : Nat) (y : At12), i < j + 1 → l[i]? = some y → y.n ≤ 60) := Lib.hid (fun i y hi hy => by
            by_cases e : i < j
            · exact HF.out i y e hy
            · have : i = j := by omega
              subst this
              have := HX.out
              rw [hy] at this
              injection this with this
              rw [this]
              exact h1)
          go_wp2_with fail
          go_roundg (m - (j + 1))
          case measure => omega
          case rel => exact ⟨j + 1, rfl, by omega, by go_num, HG, rfl⟩
        · go_wp2_with fail
          go_ret
          exact ⟨false, rfl, (fun h => by cases h), rfl⟩
      · have hm60 : ¬ m ≤ 60 := by omega
        go_wp2_with fail
        go_ret
        exact ⟨_, rfl, (fun h => by simp at h; omega), rfl⟩
    · by_cases hm : m ≤ 60
      · have hjm : Hid (j = m) := by show j = m; omega
        go_wp2_with fail
        go_ret
        refine ⟨_, rfl, fun _ => ⟨hm, fun i x hi => ?_⟩, rfl⟩
        have := (List.getElem?_eq_some_iff.1 hi).1
        have h2 := h.1
        have h3 := hjm.out
        exact HF.out i x (by omega) hi
      · go_wp2_with fail
        go_ret
        exact ⟨_, rfl, (fun h => by simp at h; omega), rfl⟩
section
variable {H : Type} {enc : TypeId × Value → H} {w : World} {base : Nat} {spare : Nat → Bool} {held : Bool}
set_option maxRecDepth 20000 in
theorem act_trod12 {fuel : Nat} {cs : List Value} {x : DataW H × List MemPlace} (h : DataW.trod enc Try.prog w base spare held fuel 37 cs = some x) : ∃ r : At12, cs = r.cs.toList ∧ r.is w (fun k => k < w.heap.size) := by
  obtain ⟨ys, k, _, _, hl, hyl, hf⟩ := DataW.trod_struct Try.underlying37 h
  rw [n12_cA] at hl
  match cs, hl with
  | [c0, c1, c2, c3, c4, c5, c6, c7], _ =>
    obtain ⟨_, k0⟩ := fld6 (hf 0 _ rfl) hyl (by decide)
    obtain ⟨_, k1⟩ := fld6 (hf 1 _ rfl) hyl (by decide)
    obtain ⟨_, k2⟩ := fld6 (hf 2 _ rfl) hyl (by decide)
    obtain ⟨_, k3⟩ := fld6 (hf 3 _ rfl) hyl (by decide)
    simp only [List.getElem_toArray, List.getElem_cons_zero, List.getElem_cons_succ] at k0 k1 k2 k3
    rw [n12_cB] at k0
    rw [n12_cF] at k1
    rw [n12_cI] at k2
    rw [n12_cL] at k3
    simp only [List.drop_zero, List.drop_succ_cons, List.take_succ_cons, List.take_zero] at k0 k1 k2 k3
    obtain ⟨zs, m2, _, _, _, hzl, hg⟩ := DataW.trod_struct Try.underlying35 k1
    obtain ⟨_, g0⟩ := fld6 (hg 0 _ rfl) hzl (by decide)
    obtain ⟨_, g1⟩ := fld6 (hg 1 _ rfl) hzl (by decide)
    obtain ⟨_, g2⟩ := fld6 (hg 2 _ rfl) hzl (by decide)
    obtain ⟨_, g3⟩ := fld6 (hg 3 _ rfl) hzl (by decide)
    obtain ⟨_, g4⟩ := fld6 (hg 4 _ rfl) hzl (by decide)
    simp only [List.getElem_toArray, List.getElem_cons_zero, List.getElem_cons_succ] at g0 g1 g2 g3 g4
    rw [n12_cI] at g0 g3 g4
    rw [n12_cV] at g1 g2
    simp only [List.drop_zero, List.drop_succ_cons, List.take_succ_cons, List.take_zero] at g0 g1 g2 g3 g4
    obtain ⟨z, e0, _, wz⟩ := DataW.trod_int Try.underlying5 k0
    obtain ⟨a0, f0, _, _⟩ := DataW.trod_int Try.underlying3 g0
    obtain ⟨a1, f1, _, _⟩ := DataW.trod_int Try.underlying33 g1
    obtain ⟨a2, f2, _, _⟩ := DataW.trod_int Try.underlying33 g2
    obtain ⟨a3, f3, _, _⟩ := DataW.trod_int Try.underlying3 g3
    obtain ⟨a4, f4, _, _⟩ := DataW.trod_int Try.underlying3 g4
    obtain ⟨now, e2, _, wn⟩ := DataW.trod_int Try.underlying3 k2
    obtain ⟨A, n, c, l, e3, hr, _, hn⟩ := recs_open k3
    simp only [List.cons.injEq, and_true] at e0 f0 f1 f2 f3 f4 e2 e3
    subst e0 f0 f1 f2 f3 f4 e2 e3
    exact ⟨⟨z, a0, a1, a2, a3, a4, now, A, n, c, l⟩, rfl, u8_range wz, hn, bounds_i64 wn, hr.old.mono (fun k hk => hk.2)⟩
end
set_option maxRecDepth 20000 in
theorem acts12_open {H : Type} {enc : TypeId × Value → H} {W : World} {v : Value} {d : DataW H} {p : List MemPlace} {base : Nat} {spare : Nat → Bool} {held : Bool}
    (h : DataW.Trod enc Try.prog W base spare held 22 v d p) (hv : ∃ A n c, v = .slice A n c) : ∃ (L : Option Addr) (m c : Nat) (l : List At12), v = .slice L m c ∧ m ≤ 9223372036854775807 ∧ AR12 W (fun k => k < W.heap.size) L m l := by
  obtain ⟨A, n, c, rfl⟩ := hv
  obtain ⟨fuel, hf⟩ := h
  have hc0 : (Value.slice A n c).cells.toList = [.slice A n c] := by simp [Value.cells]
  rw [hc0] at hf
  rcases Go.Deep.open_slice Try.underlying22 hf with ⟨hcs, _⟩ | ⟨a, len, cap, m, n2, D, Pl, hcs, _, hl, hm, hmm, _, hi⟩
  · simp only [List.cons.injEq, and_true] at hcs
    exact ⟨none, 0, 0, [], hcs, by decide, ⟨rfl, fun h => absurd h (by omega)⟩⟩
  · simp only [List.cons.injEq, and_true] at hcs
    have hml : len ≤ m := by
      rw [hmm]
      split <;> omega
    obtain ⟨l, hll, hp⟩ := list_of (P := fun i (x : At12) => (∀ (j : Nat) (u : Value), x.cs[j]? = some u → W.cell? (a.add (i * 8 + j)) = some u) ∧ x.is W (fun k => k < W.heap.size)) len (fun i hil => by
      obtain ⟨vs, hc, hread⟩ := hi i (by omega)
      rw [n12_cA] at hc
      obtain ⟨_, hvl, hat⟩ := World.cells?_some hc
      obtain ⟨r, hr, his⟩ := act_trod12 hread
      refine ⟨r, fun j u hu => ?_, his⟩
      have hj : j < 8 := (Array.getElem?_eq_some_iff.1 hu).1
      have h1 := hat j hj
      rw [off_add] at h1
      rw [h1, hr, ← hu]
      simp)
    refine ⟨some a, len, cap, l, hcs, by unfold maxLen at hm; omega, ⟨hll.symm, fun h0 => ?_⟩⟩
    have hb : a.block < W.heap.size := by
      have hx : l[0]? = some (l[0]'(by omega)) := List.getElem?_eq_getElem (by omega)
      have := World.block_lt_of_cell? W _ ((hp 0 _ hx).1 0 _ rfl)
      rwa [block_add] at this
    exact ⟨a, rfl, hb, hb, fun i x hx => hp i x hx⟩
set_option maxRecDepth 20000 in
/-- An act that came in by value. -/
theorem act_open12 {H : Type} {enc : TypeId × Value → H} {W : World} {base : Nat} {r : Reach} {b0 : Nat} {v : Value} {d : DataW H} {p : List MemPlace} {spare : Nat → Bool} {held : Bool}
    (hv : Value.okWide Try.prog W r b0 37 v) (h : DataW.Trod enc Try.prog W base spare held 37 v d p) : ∃ x : At12, v = .agg x.cs ∧ x.is W (fun k => k < W.heap.size) := by
  obtain ⟨cs, rfl, hsz, _⟩ : ∃ cs, v = .agg cs ∧ cs.size = Try.prog.cellsOf 37 ∧ Row.okWide Try.prog W r b0 37 cs := by
    simpa [Value.okWide, Try.underlying37] using hv
  obtain ⟨fuel, hf⟩ := h
  have hc : (Value.agg cs).cells.toList = cs.toList := by simp [Value.cells]
  rw [hc] at hf
  obtain ⟨x, hx, his⟩ := act_trod12 hf
  exact ⟨x, by rw [← Array.toList_inj.1 hx], his⟩

end Go.Proofs.Ytclikcbgeolngaa
