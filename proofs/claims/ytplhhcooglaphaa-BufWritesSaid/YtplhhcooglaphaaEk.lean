/-
  Proved: rutterlaw01.BufWrites returns true for every input, and its arguments read behind the call as before it. No condition.
-/
import Derived.Test.YtplhhcooglaphaaEc
import Derived.Test.YtplhhcooglaphaaArgs
import Derived.ProofKit
import Derived.OpenShut
import Derived.ChangeOld
namespace Go.Proofs.Ytplhhcooglaphaa.bufWrites
open Go.ChangeShapes Go.WideShapes Go.ChangeAt Go.RowKit

theorem own : ownKnob Try.prog.godebug = none := by kernel_rfl
theorem laidOut : laidOutB Try.prog = true := by kernel_rfl

theorem acts_open {H : Type} {enc : TypeId × Value → H} {W : World} {v : Value} {d : DataW H} {p : List MemPlace} {spare : Nat → Bool} {held : Bool}
    (h : DataW.Trod enc Try.prog W 0 spare held 22 v d p) (hv : ∃ A n c, v = .slice A n c) : ∃ (L : Option Addr) (m c : Nat) (l : List ActT), v = .slice L m c ∧ m ≤ 9223372036854775807 ∧ ActR W (fun k => k < W.heap.size) L m l := by
  obtain ⟨A, n, c, rfl⟩ := hv
  obtain ⟨fuel, hf⟩ := h
  obtain ⟨L, m, cap, hcs, h1, h2, h3, h4⟩ := elems_open Try.underlying22 Try.underlying34 (by kernel_rfl) (by kernel_rfl) hf
  simp only [Value.cells, List.cons.injEq, Value.slice.injEq, and_true] at hcs
  obtain ⟨rfl, rfl, rfl⟩ := hcs
  rcases A with _ | ad
  · obtain ⟨rfl, rfl⟩ := h3 rfl
    exact ⟨none, 0, 0, [], rfl, by omega, ⟨rfl, fun h => absurd h (by omega)⟩⟩
  · obtain ⟨l, hl, hp⟩ := list_of (P := fun i (x : ActT) => W.cell? (ad.add (i * 4)) = some (.int .u8 (x.k : Int)) ∧ W.cell? (ad.add (i * 4 + 1)) = some (.int .i64 x.n) ∧ W.cell? (ad.add (i * 4 + 2)) = some (.slice x.LA x.lm x.lc) ∧
        W.cell? (ad.add (i * 4 + 3)) = some (.slice x.BA x.bq x.bc) ∧ ActOk W (fun k => k < W.heap.size) x) n (fun i hi => by
      obtain ⟨vs, n', hc, hr⟩ := h4 ad rfl i hi
      obtain ⟨v0, y0, e0, t0⟩ := hr 0 _ rfl
      obtain ⟨v1, y1, e1, t1⟩ := hr 1 _ rfl
      obtain ⟨v2, y2, e2, t2⟩ := hr 2 _ rfl
      obtain ⟨v3, y3, e3, t3⟩ := hr 3 _ rfl
      obtain ⟨k, hk, _, wk⟩ := DataW.trod_int Try.underlying5 t0
      obtain ⟨q, hq, _, wq⟩ := DataW.trod_int Try.underlying3 t1
      obtain ⟨LA, lm, lc, zs, hL, wL⟩ := ints_open Try.underlying32 Try.underlying3 (by kernel_rfl) t2
      obtain ⟨BA, bq, bc, ws, hB, wB⟩ := ints_open Try.underlying26 Try.underlying5 (by kernel_rfl) t3
      simp only [List.cons.injEq, and_true] at hk hq hL hB
      subst hk
      subst hq
      subst hL
      subst hB
      obtain ⟨kn, rfl, hkn⟩ := u8_nat wk
      obtain ⟨hl1, hr1, hw1⟩ := row_nums wL
      obtain ⟨b, hl2, hr2⟩ := row_bytes wB
      have c0 := hc 0 (by decide)
      have c1 := hc 1 (by decide)
      have c2 := hc 2 (by decide)
      have c3 := hc 3 (by decide)
      rw [e0] at c0
      rw [e1] at c1
      rw [e2] at c2
      rw [e3] at c3
      exact ⟨⟨kn, q, LA, lm, lc, zs.take lm, BA, bq, bc, b⟩, c0, c1, c2, c3, ⟨hkn, hl1, hl2, hr1.old.mono (fun _ h => h.2), hr2.old.mono (fun _ h => h.2), hw1, row_len wL, row_len wB⟩⟩)
    refine ⟨some ad, n, c, l, rfl, by unfold maxLen at h2; omega, ⟨hl.symm, fun hn => ⟨ad, rfl, ?_, ?_, fun i x hi => hp i x hi⟩⟩⟩
    · have h0 : l[0]? = some (l[0]'(by omega)) := List.getElem?_eq_getElem (by omega)
      have := World.block_lt_of_cell? W _ (hp 0 _ h0).1
      rwa [block_add] at this
    · have h0 : l[0]? = some (l[0]'(by omega)) := List.getElem?_eq_getElem (by omega)
      have := World.block_lt_of_cell? W _ (hp 0 _ h0).1
      rwa [block_add] at this

set_option maxRecDepth 100000 in
theorem lifted (os : Os) (started : os.Started) (H : Type) (enc : TypeId × Value → H) :
    ReturnsInHanded {} Try.checked os 3 .any (Rows.bufWritesSpec.pre6 enc Try.prog Try.f3 Rows.bufWritesRow.domain false) (Rows.bufWritesSpec.post enc Try.prog Try.f3 false true false false) := by
  refine returnsInHanded_of_change (C := Try.checked) own started (by kernel_rfl) Try.func3
    (ChangeSpec.witness6 (enc := enc) (C := Try.checked) false ⟨#[], #[.slice none 0 0], []⟩ 8 (by kernel_rfl) (by kernel_rfl) (by kernel_rfl) (by kernel_rfl)) ?_
  intro W base args ds gs before hval0 hW hcnd _
  have hval : ∀ (j : Nat) t v, Try.f3.params[j]? = some t → args[j]? = some v → Value.okWide Try.prog W .any base t v := hval0
  have hW' := hW
  obtain ⟨p, q, hA0, hV, rfl, hfz, hnd⟩ := hW
  have hA : DataW.TrodAll enc Try.prog W 0 (fun _ => true) true Try.f3.params.toList args.toList ds p := hA0
  rw [Try.params3] at hA hval
  obtain ⟨v0, vs0, d0, ds0, p0, q0, hargs, rfl, rfl, h0, r0⟩ := trodAll_cons hA
  obtain ⟨rfl, rfl, rfl⟩ := trodAll_nil r0
  obtain rfl : args = #[v0] := by cases args; simp_all
  obtain ⟨rfl, rfl⟩ := trodVars_none hV
  obtain ⟨a0, len0, cap0, rfl⟩ := okWide_slice Try.underlying22 (hval 0 22 v0 rfl rfl)
  have k0 := h0
  have lt0 : ∀ x ∈ p0, x.block < W.heap.size := by obtain ⟨m, hm⟩ := k0; exact DataW.trod_lt m _ _ _ hm
  obtain ⟨L, m, c, l, hv, hmm, hact⟩ := acts_open h0 ⟨_, _, _, rfl⟩
  injection hv with e1 e2 e3
  subst e1
  subst e2
  subst e3
  clear hA0 hval0
  refine (writes_any a0 len0 cap0 l W hact hmm).mono fun e W' ⟨he, hc⟩ => ?_
  subst he
  have bel : Below W.heap.size W W' := hc.below (Nat.le_refl _) (fun _ h => h.elim)
  exact ⟨_, rfl, _, _, _, [], _, [], hW', trodAll_mk1 (shut_bool Try.underlying4 _), (trodAll_cons_mk (Below.trod laidOut (by kernel_rfl) (of_decide_eq_true (by kernel_rfl)) k0 bel lt0) trodAll_mk0), rfl, bel.frame _, fun h => by cases h⟩

theorem proved : Rows.BufWritesSaid :=
  OpenClaim.holds_of_wide 3 Try.f3 rfl rfl rfl rfl rfl rfl rfl ⟨rfl, rfl, rfl, rfl, rfl⟩ rfl rfl rfl rfl rfl (by kernel_rfl) Try.func3 (by kernel_rfl)
    (of_decide_eq_true (by kernel_rfl)) (by unfold Func.isWrapper; first | (rw [if_pos (by decide +kernel)]; kernel_rfl) | (rw [if_neg (by decide +kernel)]; exact ⟨rfl, rfl⟩))
    (fun os started H enc _ => lifted os started H enc)
end Go.Proofs.Ytplhhcooglaphaa.bufWrites
