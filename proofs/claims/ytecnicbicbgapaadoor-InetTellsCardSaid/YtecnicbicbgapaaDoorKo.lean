/-
  Proved: rutterlaw04.InetTells returns true for every input, and its arguments read behind the call as before it; the table of widths, which the row lists, is tied to the program's text. No other condition.
-/
import Derived.Test.YtecnicbicbgapaaDoorKn
import Derived.Test.YtecnicbicbgapaaDoorKl
import Derived.Test.YtecnicbicbgapaaDoorTie
import Derived.Test.YtecnicbicbgapaaDoorCards
import Derived.SevenTiedAt
import Derived.ChangeOld
namespace Go.Proofs.YtecnicbicbgapaaDoor.inetTells
open Go.ChangeShapes Go.WideShapes Go.ChangeAt Go.RowKit

section
variable {H : Type} {enc : TypeId × Value → H} {P : Program} {w : World} {base : Nat} {spare : Nat → Bool} {held : Bool}
/-- A struct of fields of one cell each, by value: each field's cell reads. -/
theorem aggK_open {r : Reach} {b0 : Nat} {t : TypeId} {fs : Array Field} {v : Value} {d : DataW H} {p : List MemPlace} (hs : P.underlying t = some (.struct fs)) (hone : Go.Deep.oneCellFields P fs = true) (hC : P.cellsOf t = fs.size)
    (hv : Value.okWide P w r b0 t v) (h : DataW.Trod enc P w base spare held t v d p) :
    ∃ (vs : Array Value) (n : Nat), v = .agg vs ∧ vs.size = fs.size ∧ ∀ (j : Nat) (f : Field), fs[j]? = some f → ∃ u y, vs[j]? = some u ∧ DataW.trod enc P w base spare held n f.type [u] = some y := by
  obtain ⟨cs, rfl, hsz⟩ := okWide_struct hs hv
  obtain ⟨fuel, hf⟩ := h
  obtain ⟨ys, n', _, _, hlen, hyl, hfs⟩ := DataW.trod_struct hs hf
  refine ⟨cs, n', rfl, hsz.trans hC, fun j f hj => ?_⟩
  obtain ⟨ho, hk⟩ := Go.Deep.hone_of hone j f hj
  have hjl : j < fs.size := (Array.getElem?_eq_some_iff.1 hj).1
  have hcl : j < cs.size := by omega
  have hy : ys[j]? = some (ys[j]'(by omega)) := List.getElem?_eq_getElem (by omega)
  have h1 := hfs j f hj
  have hc : (Value.agg cs).cells.toList = cs.toList := by simp [Value.cells]
  rw [hc, ho, hk, List.drop_eq_getElem_cons (by simpa using hcl : j < cs.toList.length)] at h1
  exact ⟨_, _, by rw [Array.getElem?_eq_getElem hcl, Array.getElem_toList], h1.trans hy⟩
end

/-- A flow that came in by value. -/
theorem flow_open {H : Type} {enc : TypeId × Value → H} {W : World} {base : Nat} {r : Reach} {b0 : Nat} {v : Value} {d : DataW H} {p : List MemPlace} {spare : Nat → Bool} {held : Bool}
    (hv : Value.okWide Tryd.prog W r b0 24 v) (h : DataW.Trod enc Tryd.prog W base spare held 24 v d p) :
    ∃ o s t x y : Int, v = .agg #[.int .i64 o, .int .u32 s, .int .u32 t, .int .i64 x, .int .i64 y] ∧ (0 ≤ s ∧ s ≤ 4294967295) ∧ (0 ≤ t ∧ t ≤ 4294967295) := by
  obtain ⟨vs, n, rfl, hsz, hf⟩ := aggK_open Tryd.underlying24 (by kernel_rfl) (by kernel_rfl) hv h
  obtain ⟨v0, y0, e0, t0⟩ := hf 0 _ rfl
  obtain ⟨v1, y1, e1, t1⟩ := hf 1 _ rfl
  obtain ⟨v2, y2, e2, t2⟩ := hf 2 _ rfl
  obtain ⟨v3, y3, e3, t3⟩ := hf 3 _ rfl
  obtain ⟨v4, y4, e4, t4⟩ := hf 4 _ rfl
  obtain ⟨o, ho, _, wo⟩ := DataW.trod_int Tryd.underlying3 t0
  obtain ⟨s, hs, _, ws⟩ := DataW.trod_int Tryd.underlying22 t1
  obtain ⟨t, ht, _, wt⟩ := DataW.trod_int Tryd.underlying22 t2
  obtain ⟨x, hx, _, wx⟩ := DataW.trod_int Tryd.underlying3 t3
  obtain ⟨y, hy, _, wy⟩ := DataW.trod_int Tryd.underlying3 t4
  simp only [List.cons.injEq, and_true] at ho hs ht hx hy
  subst ho
  subst hs
  subst ht
  subst hx
  subst hy
  have hs5 : vs.size = 5 := hsz
  refine ⟨o, s, t, x, y, ?_, bounds_u32 ws, bounds_u32 wt⟩
  congr 1
  refine Array.ext (by simpa using hs5) (fun i h1 h2 => ?_)
  have hi : i = 0 ∨ i = 1 ∨ i = 2 ∨ i = 3 ∨ i = 4 := by omega
  rcases hi with rfl | rfl | rfl | rfl | rfl
  · rw [Array.getElem?_eq_getElem h1] at e0; injection e0
  · rw [Array.getElem?_eq_getElem h1] at e1; injection e1
  · rw [Array.getElem?_eq_getElem h1] at e2; injection e2
  · rw [Array.getElem?_eq_getElem h1] at e3; injection e3
  · rw [Array.getElem?_eq_getElem h1] at e4; injection e4

set_option maxRecDepth 100000 in
theorem lifted (os : Os) (started : os.Started) (H : Type) (enc : TypeId × Value → H) :
    ReturnsInHanded {} Tryd.checked os 3 .any (fun w args => (Rows.inetTellsSpec.pre enc Tryd.prog Tryd.f3 [] false w args ∧ laidMetH Tryd.prog laidW w) ∧ sizedMet enc Tryd.prog Tryd.f3 (OpenSpec.ofChange Rows.inetTellsSpec) false w args)
      (Rows.inetTellsSpec.post enc Tryd.prog Tryd.f3 false true false false) := by
  refine returnsInHanded_of_change_and (C := Tryd.checked) (X := fun w _ => laidMetH Tryd.prog laidW w) (fun _ _ _ hh h => h.of_heap hh) ownK started (by kernel_rfl) Tryd.func3
    (ChangeSpec.witness_shaped (enc := enc) (C := Tryd.checked) (os := os) (X := fun w _ => laidMetH Tryd.prog laidW w) false (World.doorLaid Tryd.prog 14 os) #[.agg #[.int .i64 0, .int .u32 0, .int .u32 0, .int .i64 0, .int .i64 0], .slice none 0 0] 8 rfl (World.shaped_of_RefB (by kernel_rfl) (by kernel_rfl)) (by kernel_rfl) (by kernel_rfl) (by kernel_rfl) (door_met os _)) ?_
  intro W base args ds gs before hval0 hW _ _ hL _
  have hval : ∀ (j : Nat) t v, Tryd.f3.params[j]? = some t → args[j]? = some v → Value.okWide Tryd.prog W .any base t v := hval0
  have hW' := hW
  obtain ⟨p, q, hA0, hV, rfl, hfz, hnd⟩ := hW
  have hA : DataW.TrodAll enc Tryd.prog W 0 (fun _ => true) true Tryd.f3.params.toList args.toList ds p := hA0
  rw [Tryd.params3] at hA hval
  obtain ⟨v0, vs0, d0, ds0, p0, q0, hargs, rfl, rfl, h0, r0⟩ := trodAll_cons hA
  obtain ⟨v1, vs1, d1, ds1, p1, q1, rfl, rfl, rfl, h1, r1⟩ := trodAll_cons r0
  obtain ⟨rfl, rfl, rfl⟩ := trodAll_nil r1
  obtain rfl : args = #[v0, v1] := by cases args; simp_all
  obtain ⟨rfl, rfl⟩ := trodVars_none hV
  have k0 := h0
  have k1 := h1
  have lt0 : ∀ x ∈ p0, x.block < W.heap.size := by obtain ⟨m, hm⟩ := k0; exact DataW.trod_lt m _ _ _ hm
  have lt1 : ∀ x ∈ p1, x.block < W.heap.size := by obtain ⟨m, hm⟩ := k1; exact DataW.trod_lt m _ _ _ hm
  obtain ⟨pr, src, dst, sp, dp, rfl, hs, hd⟩ := flow_open (hval 0 24 v0 rfl rfl) h0
  obtain ⟨a0, len0, cap0, rfl⟩ := okWide_slice Tryd.underlying25 (hval 1 25 v1 rfl rfl)
  obtain ⟨z0, w0⟩ : ∃ zs, IsRow .u8 W a0 len0 cap0 zs := by
    obtain ⟨fuel, hf⟩ := h1
    obtain ⟨A, n, c, zs, hcs, hrow⟩ := ints_open Tryd.underlying25 Tryd.underlying5 (by kernel_rfl) hf
    simp only [Value.cells, List.cons.injEq, Value.slice.injEq, and_true] at hcs
    obtain ⟨rfl, rfl, rfl⟩ := hcs
    exact ⟨zs, hrow⟩
  obtain ⟨b, hl0, hr0⟩ := row_bytes w0
  have hg := gw_of_laid hL
  clear hA0 hval0
  have hmain : Calls Tryd.prog 3 #[.agg #[.int .i64 pr, .int .u32 src, .int .u32 dst, .int .i64 sp, .int .i64 dp], .slice a0 len0 cap0] W fun e w' => e = .returned (.bool true) ∧ Chg (fun _ => False) W w' := by
    by_cases hbig : 3000 < len0
    · exact itells_big pr src dst sp dp a0 len0 cap0 W hg hbig (row_len w0)
    · exact itells_any pr src dst sp dp a0 len0 cap0 b _ W hg hl0 hr0 (rowK_caps w0).1 (rowK_caps w0).2 (by omega) hs hd
  refine hmain.mono fun e W' ⟨he, hc⟩ => ?_
  subst he
  have bel : Below W.heap.size W W' := hc.below (Nat.le_refl _) (fun _ h => h.elim)
  exact ⟨_, rfl, _, _, _, [], _, [], hW', trodAll_mk1 (shut_bool Tryd.underlying4 _), (trodAll_cons_mk (Below.trod laidOutK (by kernel_rfl) (of_decide_eq_true (by kernel_rfl)) k0 bel lt0) (trodAll_cons_mk (Below.trod laidOutK (by kernel_rfl) (of_decide_eq_true (by kernel_rfl)) k1 bel lt1) trodAll_mk0)), rfl, bel.frame _, fun h => by cases h⟩

theorem row_holds : Rows.InetTellsSaid :=
  OpenClaim.holds_of_wide 3 Tryd.f3 rfl rfl rfl rfl rfl rfl rfl ⟨rfl, rfl, rfl, rfl, rfl⟩ rfl rfl rfl rfl rfl (by kernel_rfl) Tryd.func3 (by kernel_rfl)
    (of_decide_eq_true (by kernel_rfl)) (by unfold Func.isWrapper; first | (rw [if_pos (by decide +kernel)]; kernel_rfl) | (rw [if_neg (by decide +kernel)]; exact ⟨rfl, rfl⟩))
    (fun os started H enc _ => lifted os started H enc)

theorem proved : Rows.InetTellsCardSaid :=
  Claim7.holds_tied_plain_at .later [] [.data] true (true, "360832b205f5bdd383e7a73f4a0f880d12d2a498f5b0ddf089d1561ee179f358") false
    row_holds (fun _ h => by cases h) (by kernel_rfl) (fun _ h => by cases h) inetTells_row_tie rfl ⟨rfl, rfl⟩ (by kernel_rfl) rfl
    (fun f fn hf hfn => by
      obtain rfl : f = 3 := Option.some.inj ((show Tryd.prog.funcNamed "rutter/rutterlaw04.InetTells" = some 3 by kernel_rfl).symm.trans hf) |>.symm
      obtain rfl : fn = Tryd.f3 := (Option.some.inj (Tryd.func3.symm.trans hfn)).symm
      exact ⟨by kernel_rfl, fun j t ht => by
        rw [Tryd.params3] at ht
        have hm : t ∈ [24, 25] := by simpa using Array.mem_of_getElem? ht
        have hall : ([24, 25].all fun u => !Tryd.prog.wantsStandIn u) = true := by kernel_rfl
        exact (show Tryd.prog.wantsStandIn t = false by simpa using List.all_eq_true.1 hall t hm)⟩)
    (by kernel_rfl)
end Go.Proofs.YtecnicbicbgapaaDoor.inetTells
