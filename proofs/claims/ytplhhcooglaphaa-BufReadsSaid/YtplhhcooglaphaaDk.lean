/-
  Proved: rutterlaw01.BufReads returns true for every input, and its arguments read behind the call as before it. No condition.
-/
import Derived.Test.YtplhhcooglaphaaDb
import Derived.Test.YtplhhcooglaphaaArgs
import Derived.ProofKit
import Derived.OpenShut
import Derived.ChangeOld
namespace Go.Proofs.Ytplhhcooglaphaa.bufReads
open Go.ChangeShapes Go.WideShapes Go.ChangeAt Go.RowKit

theorem own : ownKnob Try.prog.godebug = none := by kernel_rfl
theorem laidOut : laidOutB Try.prog = true := by kernel_rfl

theorem asks_open {H : Type} {enc : TypeId × Value → H} {W : World} {v : Value} {d : DataW H} {p : List MemPlace} {spare : Nat → Bool} {held : Bool}
    (h : DataW.Trod enc Try.prog W 0 spare held 42 v d p) (hv : ∃ A n c, v = .slice A n c) : ∃ (L : Option Addr) (m c : Nat) (l : List (Nat × Int)), v = .slice L m c ∧ m ≤ 9223372036854775807 ∧
      AskR W (fun k => k < W.heap.size) L m l ∧ ∀ x ∈ l, x.1 ≤ 255 ∧ -9223372036854775808 ≤ x.2 ∧ x.2 ≤ 9223372036854775807 := by
  obtain ⟨A, n, c, rfl⟩ := hv
  obtain ⟨fuel, hf⟩ := h
  obtain ⟨L, m, cap, hcs, h1, h2, h3, h4⟩ := elems_open Try.underlying42 Try.underlying49 (by kernel_rfl) (by kernel_rfl) hf
  simp only [Value.cells, List.cons.injEq, Value.slice.injEq, and_true] at hcs
  obtain ⟨rfl, rfl, rfl⟩ := hcs
  rcases A with _ | ad
  · obtain ⟨rfl, rfl⟩ := h3 rfl
    exact ⟨none, 0, 0, [], rfl, by omega, ⟨rfl, fun h => absurd h (by omega)⟩, by simp⟩
  · obtain ⟨l, hl, hp⟩ := list_of (P := fun i (x : Nat × Int) => (W.cell? (ad.add (i * 2)) = some (.int .u8 (x.1 : Int)) ∧ W.cell? (ad.add (i * 2 + 1)) = some (.int .i64 x.2)) ∧ x.1 ≤ 255 ∧ -9223372036854775808 ≤ x.2 ∧ x.2 ≤ 9223372036854775807) n (fun i hi => by
      obtain ⟨vs, n', hc, hr⟩ := h4 ad rfl i hi
      obtain ⟨v0, y0, e0, t0⟩ := hr 0 _ rfl
      obtain ⟨v1, y1, e1, t1⟩ := hr 1 _ rfl
      obtain ⟨k, hk, _, wk⟩ := DataW.trod_int Try.underlying5 t0
      obtain ⟨q, hq, _, wq⟩ := DataW.trod_int Try.underlying3 t1
      simp only [List.cons.injEq, and_true] at hk hq
      subst hk
      subst hq
      obtain ⟨kn, rfl, hkn⟩ := u8_nat wk
      have c0 := hc 0 (by decide)
      have c1 := hc 1 (by decide)
      rw [e0] at c0
      rw [e1] at c1
      exact ⟨(kn, q), ⟨c0, c1⟩, hkn, i64_range wq⟩)
    refine ⟨some ad, n, c, l, rfl, by unfold maxLen at h2; omega, ⟨hl.symm, fun hn => ⟨ad, rfl, ?_, ?_, fun i k q hi => (hp i (k, q) hi).1⟩⟩, fun x hx => ?_⟩
    · have h0 : l[0]? = some (l[0]'(by omega)) := List.getElem?_eq_getElem (by omega)
      have := World.block_lt_of_cell? W _ (hp 0 _ h0).1.1
      rwa [block_add] at this
    · have h0 : l[0]? = some (l[0]'(by omega)) := List.getElem?_eq_getElem (by omega)
      have := World.block_lt_of_cell? W _ (hp 0 _ h0).1.1
      rwa [block_add] at this
    · obtain ⟨i, hi, rfl⟩ := List.getElem_of_mem hx
      exact (hp i _ (List.getElem?_eq_getElem hi)).2

set_option maxRecDepth 100000 in
theorem lifted (os : Os) (started : os.Started) (H : Type) (enc : TypeId × Value → H) :
    ReturnsInHanded {} Try.checked os 4 .any (Rows.bufReadsSpec.pre6 enc Try.prog Try.f4 Rows.bufReadsRow.domain false) (Rows.bufReadsSpec.post enc Try.prog Try.f4 false true false false) := by
  refine returnsInHanded_of_change (C := Try.checked) own started (by kernel_rfl) Try.func4
    (ChangeSpec.witness6 (enc := enc) (C := Try.checked) false ⟨#[], #[.slice none 0 0, .slice none 0 0], []⟩ 8 (by kernel_rfl) (by kernel_rfl) (by kernel_rfl) (by kernel_rfl)) ?_
  intro W base args ds gs before hval0 hW hcnd _
  have hval : ∀ (j : Nat) t v, Try.f4.params[j]? = some t → args[j]? = some v → Value.okWide Try.prog W .any base t v := hval0
  have hW' := hW
  obtain ⟨p, q, hA0, hV, rfl, hfz, hnd⟩ := hW
  have hA : DataW.TrodAll enc Try.prog W 0 (fun _ => true) true Try.f4.params.toList args.toList ds p := hA0
  rw [Try.params4] at hA hval
  obtain ⟨v0, vs0, d0, ds0, p0, q0, hargs, rfl, rfl, h0, r0⟩ := trodAll_cons hA
  obtain ⟨v1, vs1, d1, ds1, p1, q1, rfl, rfl, rfl, h1, r1⟩ := trodAll_cons r0
  obtain ⟨rfl, rfl, rfl⟩ := trodAll_nil r1
  obtain rfl : args = #[v0, v1] := by cases args; simp_all
  obtain ⟨rfl, rfl⟩ := trodVars_none hV
  obtain ⟨a0, len0, cap0, rfl⟩ := okWide_slice Try.underlying26 (hval 0 26 v0 rfl rfl)
  have k0 := h0
  have lt0 : ∀ x ∈ p0, x.block < W.heap.size := by obtain ⟨m, hm⟩ := k0; exact DataW.trod_lt m _ _ _ hm
  obtain ⟨z0, w0⟩ : ∃ zs, IsRow .u8 W a0 len0 cap0 zs := by
    obtain ⟨fuel, hf⟩ := h0
    obtain ⟨A, n, c, zs, hcs, hrow⟩ := ints_open Try.underlying26 Try.underlying5 (by kernel_rfl) hf
    simp only [Value.cells, List.cons.injEq, Value.slice.injEq, and_true] at hcs
    obtain ⟨rfl, rfl, rfl⟩ := hcs
    exact ⟨zs, hrow⟩
  obtain ⟨a1, len1, cap1, rfl⟩ := okWide_slice Try.underlying42 (hval 1 42 v1 rfl rfl)
  have k1 := h1
  have lt1 : ∀ x ∈ p1, x.block < W.heap.size := by obtain ⟨m, hm⟩ := k1; exact DataW.trod_lt m _ _ _ hm
  obtain ⟨L, m, c, l, hv, hmm, hask, hrange⟩ := asks_open h1 ⟨_, _, _, rfl⟩
  injection hv with e1 e2 e3
  subst e1
  subst e2
  subst e3
  obtain ⟨b, hl0, hr0⟩ := row_bytes w0
  clear hA0 hval0
  refine (reads_any a0 a1 cap0 cap1 b l W len0 len1 hl0 (row_len w0) hmm (row_nil w0) hr0 hask hrange).mono fun e W' ⟨he, hc⟩ => ?_
  subst he
  have bel : Below W.heap.size W W' := hc.below (Nat.le_refl _) (fun _ h => h.elim)
  exact ⟨_, rfl, _, _, _, [], _, [], hW', trodAll_mk1 (shut_bool Try.underlying4 _), (trodAll_cons_mk (Below.trod laidOut (by kernel_rfl) (of_decide_eq_true (by kernel_rfl)) k0 bel lt0) (trodAll_cons_mk (Below.trod laidOut (by kernel_rfl) (of_decide_eq_true (by kernel_rfl)) k1 bel lt1) trodAll_mk0)), rfl, bel.frame _, fun h => by cases h⟩

theorem proved : Rows.BufReadsSaid :=
  OpenClaim.holds_of_wide 4 Try.f4 rfl rfl rfl rfl rfl rfl rfl ⟨rfl, rfl, rfl, rfl, rfl⟩ rfl rfl rfl rfl rfl (by kernel_rfl) Try.func4 (by kernel_rfl)
    (of_decide_eq_true (by kernel_rfl)) (by unfold Func.isWrapper; first | (rw [if_pos (by decide +kernel)]; kernel_rfl) | (rw [if_neg (by decide +kernel)]; exact ⟨rfl, rfl⟩))
    (fun os started H enc _ => lifted os started H enc)
end Go.Proofs.Ytplhhcooglaphaa.bufReads
