/-
  Proved: rutterlaw03.ArpTells returns true for every input, and its arguments read behind the call as before it. No condition.
-/
import Derived.Test.YtlaekkoegomfjaaJl
import Derived.Test.YtlaekkoegomfjaaArgs
import Derived.ProofKit
import Derived.OpenShut
import Derived.ChangeOld
import Derived.Lib.SmallJoins
namespace Go.Proofs.Ytlaekkoegomfjaa.arpTells
open Go.ChangeShapes Go.WideShapes Go.ChangeAt Go.RowKit

theorem own : ownKnob Try.prog.godebug = none := by kernel_rfl
theorem laidOut : laidOutB Try.prog = true := by kernel_rfl

theorem row_caps {k : IntKind} {w : World} {a : Option Addr} {len cap : Nat} {zs : List Int} (h : IsRow k w a len cap zs) : len ≤ cap ∧ cap ≤ maxLen := by
  rcases h with ⟨_, rfl, rfl, _⟩ | ⟨x, _, h1, h2, _⟩
  · exact ⟨Nat.le_refl _, Nat.zero_le _⟩
  · exact ⟨h1, h2⟩

section
variable {H : Type} {enc : TypeId × Value → H} {P : Program} {w : World} {base : Nat} {spare : Nat → Bool} {held : Bool}
/-- A struct of fields of one cell each, by value: each field's cell reads. -/
theorem agg_open {r : Reach} {b0 : Nat} {t : TypeId} {fs : Array Field} {v : Value} {d : DataW H} {p : List MemPlace} (hs : P.underlying t = some (.struct fs)) (hone : Go.Deep.oneCellFields P fs = true) (hC : P.cellsOf t = fs.size)
    (hv : Value.okWide P w r b0 t v) (h : DataW.Trod enc P w base spare held t v d p) :
    ∃ (vs : Array Value) (n : Nat), v = .agg vs ∧ vs.size = fs.size ∧ ∀ (j : Nat) (f : Field), fs[j]? = some f → ∃ u y, vs[j]? = some u ∧ DataW.trod enc P w base spare held n f.type [u] = some y := by
  obtain ⟨cs, rfl, hsz⟩ := okWide_struct hs hv
  obtain ⟨fuel, hf⟩ := h
  obtain ⟨ys, n', _, _, hlen, hyl, hfs⟩ := DataW.trod_struct hs hf
  refine ⟨cs, n', rfl, hsz.trans hC, fun j f hj => ?_⟩
  obtain ⟨ho, hk⟩ := Go.Deep.hone_of hone j f hj
  have hjl : j < fs.size := (Array.getElem?_eq_some_iff.1 hj).1
  have hcl : j < cs.size := by omega
  have hy : ys[j]? = some (ys[j]'(by omega)) := List.getElem?_eq_getElem (by omega)
  have h1 := hfs j f hj
  have hc : (Value.agg cs).cells.toList = cs.toList := by simp [Value.cells]
  rw [hc, ho, hk, List.drop_eq_getElem_cons (by simpa using hcl : j < cs.toList.length)] at h1
  exact ⟨_, _, by rw [Array.getElem?_eq_getElem hcl, Array.getElem_toList], h1.trans hy⟩
end

/-- An arp that came in by value. -/
theorem arp_open {H : Type} {enc : TypeId × Value → H} {W : World} {base : Nat} {r : Reach} {b0 : Nat} {v : Value} {d : DataW H} {p : List MemPlace} {spare : Nat → Bool} {held : Bool}
    (hv : Value.okWide Try.prog W r b0 25 v) (h : DataW.Trod enc Try.prog W base spare held 25 v d p) :
    ∃ o s t x y : Int, v = .agg #[.int .i64 o, .int .u64 s, .int .u64 t, .int .u32 x, .int .u32 y] ∧ (-9223372036854775808 ≤ o ∧ o ≤ 9223372036854775807) ∧ (0 ≤ s ∧ s ≤ 18446744073709551615) ∧ (0 ≤ t ∧ t ≤ 18446744073709551615) ∧ (0 ≤ x ∧ x ≤ 4294967295) ∧ (0 ≤ y ∧ y ≤ 4294967295) := by
  obtain ⟨vs, n, rfl, hsz, hf⟩ := agg_open Try.underlying25 (by kernel_rfl) (by kernel_rfl) hv h
  obtain ⟨v0, y0, e0, t0⟩ := hf 0 _ rfl
  obtain ⟨v1, y1, e1, t1⟩ := hf 1 _ rfl
  obtain ⟨v2, y2, e2, t2⟩ := hf 2 _ rfl
  obtain ⟨v3, y3, e3, t3⟩ := hf 3 _ rfl
  obtain ⟨v4, y4, e4, t4⟩ := hf 4 _ rfl
  obtain ⟨o, ho, _, wo⟩ := DataW.trod_int Try.underlying3 t0
  obtain ⟨s, hs, _, ws⟩ := DataW.trod_int Try.underlying22 t1
  obtain ⟨t, ht, _, wt⟩ := DataW.trod_int Try.underlying22 t2
  obtain ⟨x, hx, _, wx⟩ := DataW.trod_int Try.underlying23 t3
  obtain ⟨y, hy, _, wy⟩ := DataW.trod_int Try.underlying23 t4
  simp only [List.cons.injEq, and_true] at ho hs ht hx hy
  subst ho
  subst hs
  subst ht
  subst hx
  subst hy
  have hs5 : vs.size = 5 := hsz
  refine ⟨o, s, t, x, y, ?_, i64_range wo, bounds_u64 ws, bounds_u64 wt, bounds_u32 wx, bounds_u32 wy⟩
  congr 1
  refine Array.ext (by simpa using hs5) (fun i h1 h2 => ?_)
  have hi : i = 0 ∨ i = 1 ∨ i = 2 ∨ i = 3 ∨ i = 4 := by omega
  rcases hi with rfl | rfl | rfl | rfl | rfl
  · rw [Array.getElem?_eq_getElem h1] at e0; injection e0
  · rw [Array.getElem?_eq_getElem h1] at e1; injection e1
  · rw [Array.getElem?_eq_getElem h1] at e2; injection e2
  · rw [Array.getElem?_eq_getElem h1] at e3; injection e3
  · rw [Array.getElem?_eq_getElem h1] at e4; injection e4

/-- A frame that came in by value. -/
theorem frame_open {H : Type} {enc : TypeId × Value → H} {W : World} {base : Nat} {r : Reach} {b0 : Nat} {v : Value} {d : DataW H} {p : List MemPlace} {spare : Nat → Bool} {held : Bool}
    (hv : Value.okWide Try.prog W r b0 28 v) (h : DataW.Trod enc Try.prog W base spare held 28 v d p) :
    ∃ (x s t : Int) (A : Option Addr) (n c : Nat) (zs : List Int), v = .agg #[.int .u64 x, .int .u64 s, .int .i64 t, .slice A n c] ∧ 0 ≤ x ∧ x ≤ 18446744073709551615 ∧ 0 ≤ s ∧ IsRow .u8 W A n c zs := by
  obtain ⟨v0, v1, v2, v3, y0, y1, y2, y3, m, rfl, _, _, t0, t1, t2, t3⟩ := Go.Joins.open_agg4 Try.underlying28 (by kernel_rfl) (by kernel_rfl) hv h
  obtain ⟨x, hx, _, wx⟩ := DataW.trod_int Try.underlying22 t0
  obtain ⟨s, hs, _, ws⟩ := DataW.trod_int Try.underlying22 t1
  obtain ⟨t, ht, _, _⟩ := DataW.trod_int Try.underlying3 t2
  obtain ⟨A, n, c, zs, hcs, hrow⟩ := ints_open Try.underlying26 Try.underlying5 (by kernel_rfl) t3
  simp only [List.cons.injEq, and_true] at hx hs ht hcs
  subst hx
  subst hs
  subst ht
  subst hcs
  exact ⟨x, s, t, A, n, c, zs, rfl, (bounds_u64 wx).1, (bounds_u64 wx).2, (bounds_u64 ws).1, hrow⟩

set_option maxRecDepth 100000 in
theorem lifted (os : Os) (started : os.Started) (H : Type) (enc : TypeId × Value → H) :
    ReturnsInHanded {} Try.checked os 3 .any (Rows.arpTellsSpec.pre6 enc Try.prog Try.f3 Rows.arpTellsRow.domain false) (Rows.arpTellsSpec.post enc Try.prog Try.f3 false true false false) := by
  refine returnsInHanded_of_change (C := Try.checked) own started (by kernel_rfl) Try.func3
    (ChangeSpec.witness6 (enc := enc) (C := Try.checked) false ⟨#[], #[.agg #[.int .i64 0, .int .u64 0, .int .u64 0, .int .u32 0, .int .u32 0], .agg #[.int .u64 0, .int .u64 0, .int .i64 0, .slice none 0 0], .int .u64 0], []⟩ 8 (by kernel_rfl) (by kernel_rfl) (by kernel_rfl) (by kernel_rfl)) ?_
  intro W base args ds gs before hval0 hW hcnd _
  have hval : ∀ (j : Nat) t v, Try.f3.params[j]? = some t → args[j]? = some v → Value.okWide Try.prog W .any base t v := hval0
  have hW' := hW
  obtain ⟨p, q, hA0, hV, rfl, hfz, hnd⟩ := hW
  have hA : DataW.TrodAll enc Try.prog W 0 (fun _ => true) true Try.f3.params.toList args.toList ds p := hA0
  rw [Try.params3] at hA hval
  obtain ⟨v0, vs0, d0, ds0, p0, q0, hargs, rfl, rfl, h0, r0⟩ := trodAll_cons hA
  obtain ⟨v1, vs1, d1, ds1, p1, q1, rfl, rfl, rfl, h1, r1⟩ := trodAll_cons r0
  obtain ⟨v2, vs2, d2, ds2, p2, q2, rfl, rfl, rfl, h2, r2⟩ := trodAll_cons r1
  obtain ⟨rfl, rfl, rfl⟩ := trodAll_nil r2
  obtain rfl : args = #[v0, v1, v2] := by cases args; simp_all
  obtain ⟨rfl, rfl⟩ := trodVars_none hV
  have k0 := h0
  have k1 := h1
  have lt0 : ∀ x ∈ p0, x.block < W.heap.size := by obtain ⟨m, hm⟩ := k0; exact DataW.trod_lt m _ _ _ hm
  have lt1 : ∀ x ∈ p1, x.block < W.heap.size := by obtain ⟨m, hm⟩ := k1; exact DataW.trod_lt m _ _ _ hm
  obtain ⟨op, sha, tha, spa, tpa, rfl, ho, hsh, hth, hsp, htp⟩ := arp_open (hval 0 25 v0 rfl rfl) h0
  obtain ⟨x, s, t, A, n, c, z1, rfl, hx, hxm, hs, w1⟩ := frame_open (hval 1 28 v1 rfl rfl) h1
  obtain ⟨a2, rfl, rfl, rfl, w2⟩ := open_int Try.underlying22 (hval 2 22 v2 rfl rfl) h2
  obtain ⟨b, hl1, hr1⟩ := row_bytes w1
  have hm := bounds_u64 w2
  clear hA0 hval0
  have hmain : Calls Try.prog 3 #[.agg #[.int .i64 op, .int .u64 sha, .int .u64 tha, .int .u32 spa, .int .u32 tpa], .agg #[.int .u64 x, .int .u64 s, .int .i64 t, .slice A n c], .int .u64 a2] W fun e w' => e = .returned (.bool true) ∧ Chg (fun _ => False) W w' := by
    by_cases hbig : 3000 < n
    · exact atells_big op sha tha spa tpa x s t a2 A n c W (row_len w1) hbig
    · exact atells_any op sha tha spa tpa x s t a2 A n c b W hl1 hr1 (row_caps w1).1 (row_caps w1).2 (by omega) hx hs hm ho hsh hth hsp htp
  refine hmain.mono fun e W' ⟨he, hc⟩ => ?_
  subst he
  have bel : Below W.heap.size W W' := hc.below (Nat.le_refl _) (fun _ h => h.elim)
  exact ⟨_, rfl, _, _, _, [], _, [], hW', trodAll_mk1 (shut_bool Try.underlying4 _), (trodAll_cons_mk (Below.trod laidOut (by kernel_rfl) (of_decide_eq_true (by kernel_rfl)) k0 bel lt0) (trodAll_cons_mk (Below.trod laidOut (by kernel_rfl) (of_decide_eq_true (by kernel_rfl)) k1 bel lt1) (trodAll_cons_mk (shut_int Try.underlying22 w2) trodAll_mk0))), rfl, bel.frame _, fun h => by cases h⟩

theorem proved : Rows.ArpTellsSaid :=
  OpenClaim.holds_of_wide 3 Try.f3 rfl rfl rfl rfl rfl rfl rfl ⟨rfl, rfl, rfl, rfl, rfl⟩ rfl rfl rfl rfl rfl (by kernel_rfl) Try.func3 (by kernel_rfl)
    (of_decide_eq_true (by kernel_rfl)) (by unfold Func.isWrapper; first | (rw [if_pos (by decide +kernel)]; kernel_rfl) | (rw [if_neg (by decide +kernel)]; exact ⟨rfl, rfl⟩))
    (fun os started H enc _ => lifted os started H enc)
end Go.Proofs.Ytlaekkoegomfjaa.arpTells
