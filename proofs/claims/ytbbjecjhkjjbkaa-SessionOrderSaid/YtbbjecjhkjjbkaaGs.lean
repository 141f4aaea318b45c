/-
  Acts and letters that came in, opened. Walk: rutterlaw11.Fits. No condition but that they lie in memory.
-/
import Derived.Test.YtbbjecjhkjjbkaaGo
import Derived.Test.YtbbjecjhkjjbkaaArgs
import Derived.ProofKit
import Derived.OpenShut
import Derived.ChangeOld
import Derived.Lib.SmallJoins
namespace Go.Proofs.Ytbbjecjhkjjbkaa
open Go.RowKit Go.ChangeShapes Go.WideShapes Go.ChangeAt
set_option linter.unusedVariables false
set_option linter.unusedSimpArgs false

theorem n11_cI : Try.prog.cellsOf 3 = 1 := by kernel_rfl
theorem n11_cB : Try.prog.cellsOf 5 = 1 := by kernel_rfl
theorem n11_cS : Try.prog.cellsOf 22 = 1 := by kernel_rfl
theorem n11_cL : Try.prog.cellsOf 24 = 5 := by kernel_rfl
theorem n11_cA : Try.prog.cellsOf 49 = 7 := by kernel_rfl
theorem fld11 {α : Type} {ys : List α} {n j : Nat} {e : Option α} (h : e = ys[j]?) (hl : ys.length = n) (hj : j < n) : ∃ y, e = some y := ⟨_, h.trans (List.getElem?_eq_getElem (by omega))⟩
/-- A slice of bytes that came in. -/
def Bs11 (w : World) (A : Option Addr) (n c : Nat) (b : List UInt8) : Prop := n = b.length ∧ n ≤ 9223372036854775807 ∧ (A = none → c = 0) ∧ Rds w (fun k => k < w.heap.size) A n (bcs b)
section
variable {H : Type} {enc : TypeId × Value → H} {w : World} {base : Nat} {spare : Nat → Bool} {held : Bool}
theorem bs_open11 {fuel : Nat} {cs : List Value} {x : DataW H × List MemPlace} (h : DataW.trod enc Try.prog w base spare held fuel 22 cs = some x) : ∃ A n c b, cs = [.slice A n c] ∧ Bs11 w A n c b := by
  obtain ⟨A, n, c, zs, hcs, hw⟩ := ints_open Try.underlying22 Try.underlying5 (by kernel_rfl) h
  obtain ⟨b, hl, hr⟩ := row_bytes hw
  refine ⟨A, n, c, b, hcs, hl, ?_, ?_, hr.old.mono (fun _ h => h.2)⟩
  · rcases hw with ⟨_, h0, _⟩ | ⟨_, _, g1, g2, _⟩
    · omega
    · unfold maxLen at g2
      omega
  · rcases hw with ⟨_, _, h0, _⟩ | ⟨_, g0, _⟩
    · exact fun _ => h0
    · intro e
      rw [e] at g0
      cases g0
set_option maxRecDepth 20000 in
theorem letter_trod {fuel : Nat} {cs : List Value} {x : DataW H × List MemPlace} (h : DataW.trod enc Try.prog w base spare held fuel 24 cs = some x) :
    ∃ (m p a s : Int) (A : Option Addr) (n c : Nat) (b : List UInt8), cs = (ltC m p a s A n c).toList ∧ Bs11 w A n c b := by
  obtain ⟨ys, k, _, _, hl, hyl, hf⟩ := DataW.trod_struct Try.underlying24 h
  rw [n11_cL] at hl
  match cs, hl with
  | [c0, c1, c2, c3, c4], _ =>
    obtain ⟨_, k0⟩ := fld11 (hf 0 _ rfl) hyl (by decide)
    obtain ⟨_, k1⟩ := fld11 (hf 1 _ rfl) hyl (by decide)
    obtain ⟨_, k2⟩ := fld11 (hf 2 _ rfl) hyl (by decide)
    obtain ⟨_, k3⟩ := fld11 (hf 3 _ rfl) hyl (by decide)
    obtain ⟨_, k4⟩ := fld11 (hf 4 _ rfl) hyl (by decide)
    simp only [List.getElem_toArray, List.getElem_cons_zero, List.getElem_cons_succ] at k0 k1 k2 k3 k4
    rw [n11_cI] at k0 k1 k2 k3
    rw [n11_cS] at k4
    simp only [List.drop_zero, List.drop_succ_cons, List.take_succ_cons, List.take_zero] at k0 k1 k2 k3 k4
    obtain ⟨a0, e0, _, _⟩ := DataW.trod_int Try.underlying3 k0
    obtain ⟨a1, e1, _, _⟩ := DataW.trod_int Try.underlying3 k1
    obtain ⟨a2, e2, _, _⟩ := DataW.trod_int Try.underlying3 k2
    obtain ⟨a3, e3, _, _⟩ := DataW.trod_int Try.underlying3 k3
    obtain ⟨A, n, c, b, e4, hb⟩ := bs_open11 k4
    simp only [List.cons.injEq, and_true] at e0 e1 e2 e3 e4
    subst e0 e1 e2 e3 e4
    exact ⟨a0, a1, a2, a3, A, n, c, b, rfl, hb⟩
theorem is11_of {k : Int} {A A2 : Option Addr} {n c n2 c2 : Nat} {b b2 : List UInt8} {m p a s : Int} (hk : 0 ≤ k ∧ k ≤ 255) (h1 : Bs11 w A n c b) (h2 : Bs11 w A2 n2 c2 b2) : At11.is w (fun k => k < w.heap.size) ⟨k, A, n, c, b, A2, n2, c2, ⟨m, p, a, s, b2⟩⟩ :=
  ⟨hk, h1.1, h1.2.1, h1.2.2.1, h1.2.2.2, h2.1, h2.2.1, h2.2.2.1, h2.2.2.2⟩
set_option maxRecDepth 20000 in
theorem act_trod11 {fuel : Nat} {cs : List Value} {x : DataW H × List MemPlace} (h : DataW.trod enc Try.prog w base spare held fuel 49 cs = some x) : ∃ r : At11, cs = r.cs.toList ∧ r.is w (fun k => k < w.heap.size) := by
  obtain ⟨ys, k, _, _, hl, hyl, hf⟩ := DataW.trod_struct Try.underlying49 h
  rw [n11_cA] at hl
  match cs, hl with
  | [c0, c1, c2, c3, c4, c5, c6], _ =>
    obtain ⟨_, k0⟩ := fld11 (hf 0 _ rfl) hyl (by decide)
    obtain ⟨_, k1⟩ := fld11 (hf 1 _ rfl) hyl (by decide)
    obtain ⟨_, k2⟩ := fld11 (hf 2 _ rfl) hyl (by decide)
    simp only [List.getElem_toArray, List.getElem_cons_zero, List.getElem_cons_succ] at k0 k1 k2
    rw [n11_cB] at k0
    rw [n11_cS] at k1
    rw [n11_cL] at k2
    simp only [List.drop_zero, List.drop_succ_cons, List.take_succ_cons, List.take_zero] at k0 k1 k2
    obtain ⟨z, e0, _, wz⟩ := DataW.trod_int Try.underlying5 k0
    obtain ⟨A, n, c, b, e1, hb⟩ := bs_open11 k1
    obtain ⟨m, p, a, s, A2, n2, d, b2, e2, hb2⟩ := letter_trod k2
    simp only [ltC, List.cons.injEq, and_true] at e0 e1 e2
    obtain ⟨e2, e3, e4, e5, e6⟩ := e2
    subst e0 e1 e2 e3 e4 e5 e6
    exact ⟨⟨z, A, n, c, b, A2, n2, d, ⟨m, p, a, s, b2⟩⟩, rfl, is11_of (u8_range wz) hb hb2⟩
end
/-- A slice of m acts, of seven cells each, each one's bytes too. -/
def AR11 (w : World) (S : Nat → Prop) (L : Option Addr) (m : Nat) (l : List At11) : Prop :=
  m = l.length ∧ (0 < m → ∃ ad, L = some ad ∧ S ad.block ∧ ad.block < w.heap.size ∧ ∀ (i : Nat) (x : At11), l[i]? = some x → (∀ j u, x.cs[j]? = some u → w.cell? (ad.add (i * 7 + j)) = some u) ∧ x.is w S)
section
variable {w w' : World} {S S' : Nat → Prop} {L : Option Addr} {m : Nat} {l : List At11}
theorem AR11.chg (h : AR11 w S L m l) (hc : Chg S' w w') (hd : ∀ k, S k → ¬ S' k) : AR11 w' S L m l := by
  refine ⟨h.1, fun hm => ?_⟩
  obtain ⟨ad, e, hs, hb, hcell⟩ := h.2 hm
  refine ⟨ad, e, hs, Nat.lt_of_lt_of_le hb hc.size, fun i x hi => ?_⟩
  obtain ⟨h1, h2⟩ := hcell i x hi
  have e1 : ∀ j, w'.cell? (ad.add j) = w.cell? (ad.add j) := fun j => World.cell?_of_block (w := w) (w' := w') (by rw [block_add]; exact hc.block _ hb (hd _ hs))
  exact ⟨fun j u hu => by rw [e1]; exact h1 j u hu, At11.is_chg h2 hc hd⟩
theorem at_off (ad : Addr) (i j : Nat) (hj : j ≠ 0) : ad.add (i + j) = ⟨(ad.add i).block, (ad.add i).off + j, none⟩ := by
  rw [← off_add]
  generalize ad.add i = b
  unfold Addr.add
  simp [hj]
/-- The cells of an act, as the walk spells them. -/
theorem AR11.at {ad : Addr} {i : Nat} {x : At11} (h : AR11 w S (some ad) m l) (hi : l[i]? = some x) :
    (w.cell? (ad.add (i * 7)) = some (.int .u8 x.k) ∧ w.cell? ⟨(ad.add (i * 7)).block, (ad.add (i * 7)).off + 1, none⟩ = some (.slice x.A x.n x.c) ∧ w.cell? ⟨(ad.add (i * 7)).block, (ad.add (i * 7)).off + 2, none⟩ = some (.int .i64 x.l.mi) ∧ w.cell? ⟨(ad.add (i * 7)).block, (ad.add (i * 7)).off + 3, none⟩ = some (.int .i64 x.l.pe) ∧
      w.cell? ⟨(ad.add (i * 7)).block, (ad.add (i * 7)).off + 4, none⟩ = some (.int .i64 x.l.ac) ∧ w.cell? ⟨(ad.add (i * 7)).block, (ad.add (i * 7)).off + 5, none⟩ = some (.int .i64 x.l.se) ∧ w.cell? ⟨(ad.add (i * 7)).block, (ad.add (i * 7)).off + 6, none⟩ = some (.slice x.A2 x.n2 x.c2)) ∧ x.is w S := by
  have hl : i < l.length := (List.getElem?_eq_some_iff.1 hi).1
  obtain ⟨ad', e, _, _, hc⟩ := h.2 (by have := h.1; omega)
  injection e with e
  subst e
  obtain ⟨h1, h2⟩ := hc i x hi
  have h0 := h1 0 _ rfl
  rw [Nat.add_zero] at h0
  refine ⟨⟨h0, ?_, ?_, ?_, ?_, ?_, ?_⟩, h2⟩
  · rw [← at_off _ _ _ (by decide)]; exact h1 1 _ rfl
  · rw [← at_off _ _ _ (by decide)]; exact h1 2 _ rfl
  · rw [← at_off _ _ _ (by decide)]; exact h1 3 _ rfl
  · rw [← at_off _ _ _ (by decide)]; exact h1 4 _ rfl
  · rw [← at_off _ _ _ (by decide)]; exact h1 5 _ rfl
  · rw [← at_off _ _ _ (by decide)]; exact h1 6 _ rfl
end
theorem acts11_open {H : Type} {enc : TypeId × Value → H} {W : World} {v : Value} {d : DataW H} {p : List MemPlace} {base : Nat} {spare : Nat → Bool} {held : Bool}
    (h : DataW.Trod enc Try.prog W base spare held 40 v d p) (hv : ∃ A n c, v = .slice A n c) : ∃ (L : Option Addr) (m c : Nat) (l : List At11), v = .slice L m c ∧ m ≤ 9223372036854775807 ∧ AR11 W (fun k => k < W.heap.size) L m l := by
  obtain ⟨A, n, c, rfl⟩ := hv
  obtain ⟨fuel, hf⟩ := h
  have hc0 : (Value.slice A n c).cells.toList = [.slice A n c] := by simp [Value.cells]
  rw [hc0] at hf
  rcases Go.Deep.open_slice Try.underlying40 hf with ⟨hcs, _⟩ | ⟨a, len, cap, m, n2, D, Pl, hcs, _, hl, hm, hmm, _, hi⟩
  · simp only [List.cons.injEq, and_true] at hcs
    exact ⟨none, 0, 0, [], hcs, by decide, ⟨rfl, fun h => absurd h (by omega)⟩⟩
  · simp only [List.cons.injEq, and_true] at hcs
    have hml : len ≤ m := by
      rw [hmm]
      split <;> omega
    obtain ⟨l, hll, hp⟩ := list_of (P := fun i (x : At11) => (∀ j u, x.cs[j]? = some u → W.cell? (a.add (i * 7 + j)) = some u) ∧ x.is W (fun k => k < W.heap.size)) len (fun i hil => by
      obtain ⟨vs, hc, hread⟩ := hi i (by omega)
      rw [n11_cA] at hc
      obtain ⟨_, hvl, hat⟩ := World.cells?_some hc
      obtain ⟨r, hr, hs⟩ := act_trod11 hread
      refine ⟨r, fun j u hu => ?_, hs⟩
      have hj : j < 7 := (Array.getElem?_eq_some_iff.1 hu).1
      have h1 := hat j hj
      rw [off_add] at h1
      rw [h1, hr, ← hu]
      simp)
    refine ⟨some a, len, cap, l, hcs, by unfold maxLen at hm; omega, ⟨hll.symm, fun h0 => ?_⟩⟩
    have hb : a.block < W.heap.size := by
      have hx : l[0]? = some (l[0]'(by omega)) := List.getElem?_eq_getElem (by omega)
      have := World.block_lt_of_cell? W _ ((hp 0 _ hx).1 0 _ rfl)
      rwa [block_add] at this
    exact ⟨a, rfl, hb, hb, fun i x hx => hp i x hx⟩
set_option maxRecDepth 100000 in
/-- A letter that came in by value. -/
theorem letter_open11 {H : Type} {enc : TypeId × Value → H} {W : World} {base : Nat} {r : Reach} {b0 : Nat} {v : Value} {d : DataW H} {p : List MemPlace} {spare : Nat → Bool} {held : Bool}
    (hv : Value.okWide Try.prog W r b0 24 v) (h : DataW.Trod enc Try.prog W base spare held 24 v d p) :
    ∃ (m q a s : Int) (A : Option Addr) (n c : Nat) (b : List UInt8), v = .agg (ltC m q a s A n c) ∧ Bs11 W A n c b := by
  obtain ⟨cs, rfl, hsz⟩ := okWide_struct Try.underlying24 hv
  obtain ⟨fuel, hf0⟩ := h
  obtain ⟨l⟩ := cs
  have hc0 : (Value.agg ⟨l⟩).cells.toList = l := by simp [Value.cells]
  rw [hc0] at hf0
  obtain ⟨m, q, a, s, A, n, c, b, e, hb⟩ := letter_trod hf0
  exact ⟨m, q, a, s, A, n, c, b, by rw [e], hb⟩

/-- What Fits tells. -/
def FitsP11 (m : Nat) (l : List At11) (w : World) (e : Ending) (w' : World) : Prop := ∃ r : Bool, e = .returned (.bool r) ∧ (r = true → m ≤ 120 ∧ ∀ (i : Nat) (x : At11), l[i]? = some x → x.n ≤ 2000 ∧ x.n2 ≤ 2000) ∧ w = w'

set_option maxRecDepth 100000 in
set_option maxHeartbeats 2000000 in
theorem fits11_any (L : Option Addr) (m lc : Nat) (l : List At11) (w : World) (S : Nat → Prop) (h : AR11 w S L m l) (hmc : m ≤ 9223372036854775807) : Calls Try.prog 14 #[.slice L m lc] w (FitsP11 m l w) := by
  go_enter Try.func14, Try.ntmps14
  go_wp2_with fail
  go_loopg [3] m (fun g i wr => ∃ j : Nat, g = m - j ∧ j ≤ m ∧ j ≤ 121 ∧ i = .int .i64 (j : Int) ∧ Hid (∀ (i : Nat) (x : At11), i < j → l[i]? = some x → x.n ≤ 2000 ∧ x.n2 ≤ 2000) ∧ w = wr)
  case atStart => exact ⟨0, rfl, Nat.zero_le _, Nat.zero_le _, rfl, Lib.hid (fun i x hi => absurd hi (by omega)), rfl⟩
  case round =>
    obtain ⟨j, rfl, hj, hj2, rfl, HF, rfl⟩ := hrel
    by_cases hlt : j < m
    · by_cases hlt2 : j ≤ 120
      · obtain ⟨ad, rfl, _, _, _⟩ := h.2 (by omega)
        have hjl : j < l.length := by have := h.1; omega
        have hx : l[j]? = some l[j] := List.getElem?_eq_getElem hjl
        generalize l[j] = x at *
        obtain ⟨⟨z0, z1, z2, z3, z4, z5, z6⟩, hi⟩ := h.at hx
        have hb1 := hi.nm
        have hb2 := hi.nm2
        have HX := Lib.hid hx
        clear hx hi z0 z2 z3 z4 z5
        have z7 : w.cell? ⟨(ad.add (j * 7)).block, (ad.add (j * 7)).off + 2 + 4, none⟩ = some (.slice x.A2 x.n2 x.c2) := z6
        by_cases h1 : 2000 < x.n
        · go_wp2_with fail
          go_ret
          exact ⟨false, rfl, (fun h => by cases h), rfl⟩
        · by_cases h2 : 2000 < x.n2
          · go_wp2_with fail
            go_ret
            exact ⟨false, rfl, (fun h => by cases h), rfl⟩
          · go_wp2_with fail
            go_roundg (m - (j + 1))
            case measure => omega
            case rel =>
              refine ⟨j + 1, rfl, by omega, by omega, by go_num, Lib.hid (fun i y hi hy => ?_), rfl⟩
              rcases Nat.lt_or_ge i j with hij | hij
              · exact HF.out i y hij hy
              · have : i = j := by omega
                subst this
                have := HX.out
                rw [hy] at this
                injection this with this
                subst this
                omega
      · go_wp2_with fail
        go_ret
        exact ⟨decide ((m : Int) ≤ 120), rfl, (fun h => by have := of_decide_eq_true h; omega), rfl⟩
    · by_cases hm : m ≤ 120
      · have hjm : Hid (j = m) := by show j = m; omega
        go_wp2_with fail
        go_ret
        have h2 := h.1
        have h3 := hjm.out
        refine ⟨decide ((m : Int) ≤ 120), rfl, fun _ => ⟨by omega, fun i x hi => HF.out i x ?_ hi⟩, rfl⟩
        have := (List.getElem?_eq_some_iff.1 hi).1
        omega
      · go_wp2_with fail
        go_ret
        exact ⟨decide ((m : Int) ≤ 120), rfl, (fun h => by have := of_decide_eq_true h; omega), rfl⟩

end Go.Proofs.Ytbbjecjhkjjbkaa
