/-
  Walks: the closures of track.Known and expire, slices.IndexFunc over both, ContainsFunc, Known, on nil too. Conditions: the table lies in memory.
-/
import Derived.Test.YtclikcbgeolngaaTc
import Derived.Deep.LoopGhost
import Derived.Lib.SmallJoins
import Derived.Deep.Cut
import Derived.Deep.DeepCutAuto
namespace Go.Proofs.Ytclikcbgeolngaa
open Go.RowKit
set_option linter.unusedVariables false
set_option linter.unusedSimpArgs false

set_option maxRecDepth 100000 in
set_option maxHeartbeats 2000000 in
theorem tkn1_any (p s d sp dp un p2 s2 d2 sp2 dp2 t : Int) (q1 q2 : Nat) (w : World) (h1 : Blk w q1 35 (flC p2 s2 d2 sp2 dp2)) (h2 : Blk w q2 3 #[.int .i64 t]) : Calls Try.prog 27 #[.agg (rcC p s d sp dp un), .pointer (some ⟨q1, 0, none⟩), .pointer (some ⟨q2, 0, none⟩)] w fun e w' => e = .returned (.bool (alB p s d sp dp p2 s2 d2 sp2 dp2 && decide (t < un))) ∧ Chg (fun _ => False) w w' := by
  have HAL := Lib.hid (fun W => talike_any p s d sp dp p2 s2 d2 sp2 dp2 W)
  have HLV := Lib.hid (fun W => tlives_any p s d sp dp un t W)
  have HX := Lib.hid (Chg.refl (fun _ => False) (w.alloc (.cells #[.int .i64 p, .int .u32 s, .int .u32 d, .int .i64 sp, .int .i64 dp, .int .i64 un] 48)))
  have HB0 : Hid (Blk (w.alloc (.cells #[.int .i64 p, .int .u32 s, .int .u32 d, .int .i64 sp, .int .i64 dp, .int .i64 un] 48)) w.heap.size 48 (rcC p s d sp dp un)) := Lib.hid (blk_new rfl)
  have HB1 := Lib.hid (h1.alloc (.cells #[.int .i64 p, .int .u32 s, .int .u32 d, .int .i64 sp, .int .i64 dp, .int .i64 un] 48))
  have HB2 := Lib.hid (h2.alloc (.cells #[.int .i64 p, .int .u32 s, .int .u32 d, .int .i64 sp, .int .i64 dp, .int .i64 un] 48))
  have HC0 := Lib.hid ((Chg.refl (fun _ => False) w).alloc (.cells #[.int .i64 p, .int .u32 s, .int .u32 d, .int .i64 sp, .int .i64 dp, .int .i64 un] 48))
  obtain ⟨y0, y1, y2, y3, y4, y5⟩ := rc_cells HB0.out
  obtain ⟨u0, u1, u2, u3, u4⟩ := fl_cells HB1.out
  have v0 := HB2.out.cell 0
  simp only [List.getElem?_toArray, List.getElem?_cons_zero] at v0
  clear h1 h2
  unfold rcC
  unfold rcC at HLV
  unfold flC at HAL
  generalize alB p s d sp dp p2 s2 d2 sp2 dp2 = b at *
  cases b with
  | false =>
    go_enter Try.func27, Try.ntmps27
    go_wp2_with fail
    refine (HAL.out _).mono ?_
    rintro e w2 ⟨rfl, hc⟩
    have HX1 := Lib.hid (HX.out.trans hc (fun _ _ e => e))
    clear hc y0 y1 y2 y3 y4 y5 u0 u1 u2 u3 u4 v0
    obtain ⟨y0, y1, y2, y3, y4, y5⟩ := rc_kept HB0.out HX1.out
    have v0 := (HB2.out.chg HX1.out id).cell 0
    simp only [List.getElem?_toArray, List.getElem?_cons_zero] at v0
    go_wp2_with fail
    go_ret
    exact ⟨rfl, HC0.out.trans HX1.out (fun _ _ e => e)⟩
  | true =>
    go_enter Try.func27, Try.ntmps27
    go_wp2_with fail
    refine (HAL.out _).mono ?_
    rintro e w2 ⟨rfl, hc⟩
    have HX1 := Lib.hid (HX.out.trans hc (fun _ _ e => e))
    clear hc y0 y1 y2 y3 y4 y5 u0 u1 u2 u3 u4 v0
    obtain ⟨y0, y1, y2, y3, y4, y5⟩ := rc_kept HB0.out HX1.out
    have v0 := (HB2.out.chg HX1.out id).cell 0
    simp only [List.getElem?_toArray, List.getElem?_cons_zero] at v0
    go_wp2_with fail
    refine (HLV.out _).mono ?_
    rintro e w3 ⟨rfl, hc⟩
    have HX2 := Lib.hid (HX1.out.trans hc (fun _ _ e => e))
    clear hc
    go_wp2_with fail
    go_ret
    exact ⟨ret_b (by simp), HC0.out.trans HX2.out (fun _ _ e => e)⟩
set_option maxRecDepth 100000 in
set_option maxHeartbeats 2000000 in
theorem tex1_any (p s d sp dp un t : Int) (q : Nat) (w : World) (h2 : Blk w q 3 #[.int .i64 t]) : Calls Try.prog 32 #[.agg (rcC p s d sp dp un), .pointer (some ⟨q, 0, none⟩)] w fun e w' => e = .returned (.bool (!decide (t < un))) ∧ Chg (fun _ => False) w w' := by
  have HLV := Lib.hid (fun W => tlives_any p s d sp dp un t W)
  have HX := Lib.hid (Chg.refl (fun _ => False) (w.alloc (.cells #[.int .i64 p, .int .u32 s, .int .u32 d, .int .i64 sp, .int .i64 dp, .int .i64 un] 48)))
  have HB0 : Hid (Blk (w.alloc (.cells #[.int .i64 p, .int .u32 s, .int .u32 d, .int .i64 sp, .int .i64 dp, .int .i64 un] 48)) w.heap.size 48 (rcC p s d sp dp un)) := Lib.hid (blk_new rfl)
  have HB2 := Lib.hid (h2.alloc (.cells #[.int .i64 p, .int .u32 s, .int .u32 d, .int .i64 sp, .int .i64 dp, .int .i64 un] 48))
  have HC0 := Lib.hid ((Chg.refl (fun _ => False) w).alloc (.cells #[.int .i64 p, .int .u32 s, .int .u32 d, .int .i64 sp, .int .i64 dp, .int .i64 un] 48))
  obtain ⟨y0, y1, y2, y3, y4, y5⟩ := rc_cells HB0.out
  have v0 := HB2.out.cell 0
  simp only [List.getElem?_toArray, List.getElem?_cons_zero] at v0
  clear h2
  unfold rcC
  unfold rcC at HLV
  generalize decide (t < un) = b at *
  go_enter Try.func32, Try.ntmps32
  go_wp2_with fail
  refine (HLV.out _).mono ?_
  rintro e w2 ⟨rfl, hc⟩
  have HX1 := Lib.hid (HC0.out.trans hc (fun _ _ e => e))
  clear hc
  go_wp2_with fail
  go_ret
  exact ⟨rfl, HX1.out⟩
/-- What IndexFunc hands back: no one, or the first one. -/
def FirstP (g : Rc → Bool) (l : List Rc) (z : Int) : Prop := (z = -1 ∧ l.any g = false) ∨ ∃ (j : Nat) (x : Rc), z = (j : Int) ∧ l[j]? = some x ∧ g x = true ∧ ∀ (i : Nat) (y : Rc), i < j → l[i]? = some y → g y = false
theorem FirstP.any {g : Rc → Bool} {l : List Rc} {z : Int} (h : FirstP g l z) : decide (0 ≤ z) = l.any g := by
  rcases h with ⟨rfl, h⟩ | ⟨j, x, rfl, hj, hx, _⟩
  · rw [h]; rfl
  · rw [show l.any g = true from List.any_eq_true.2 ⟨x, List.mem_of_getElem? hj, hx⟩]
    simp
theorem FirstP.none {g : Rc → Bool} {l : List Rc} (h : ∀ (i : Nat) (x : Rc), i < l.length → l[i]? = some x → g x = false) : FirstP g l (-1) := by
  refine .inl ⟨rfl, ?_⟩
  rw [List.any_eq_false]
  intro y hy
  obtain ⟨i, hi⟩ := List.getElem?_of_mem hy
  rw [h i y (List.getElem?_eq_some_iff.1 hi).1 hi]
  decide
set_option maxRecDepth 100000 in
set_option maxHeartbeats 4000000 in
theorem tindexk_any (L : Option Addr) (m lc : Nat) (l : List Rc) (p2 s2 d2 sp2 dp2 t : Int) (q1 q2 : Nat) (w : World) (S : Nat → Prop) (h : RcR w S L m l) (hmc : m ≤ 9223372036854775807) (h1 : Blk w q1 35 (flC p2 s2 d2 sp2 dp2)) (h2 : Blk w q2 3 #[.int .i64 t]) : Calls Try.prog 34 #[.slice L m lc, .func (.func 27) #[] #[.pointer (some ⟨q1, 0, none⟩), .pointer (some ⟨q2, 0, none⟩)]] w fun e w' => ∃ z : Int, e = .returned (.int .i64 z) ∧ FirstP (fun x : Rc => alB x.pr x.sr x.ds x.sp x.dp p2 s2 d2 sp2 dp2 && lv12 t x) l z ∧ Chg (fun _ => False) w w' := by
  have HH := Lib.hid h
  have hl := h.1
  have HL := Lib.hid hl
  have H1 := Lib.hid h1
  have H2 := Lib.hid h2
  clear h1 h2
  clear h hl
  go_enter Try.func34, Try.ntmps34
  go_wp2_with fail
  go_loopg [5, 8] m (fun g s5 i wr => ∃ j : Nat, g = m - j ∧ j ≤ m ∧ i = .int .i64 (j : Int) ∧ Hid (∀ (i : Nat) (x : Rc), i < j → l[i]? = some x → (fun x : Rc => alB x.pr x.sr x.ds x.sp x.dp p2 s2 d2 sp2 dp2 && lv12 t x) x = false) ∧ Hid (Chg (fun _ => False) w wr))
  case atStart => exact ⟨0, rfl, Nat.zero_le _, rfl, Lib.hid (fun i x hi => absurd hi (by omega)), Lib.hid (Chg.refl _ _)⟩
  case round =>
    obtain ⟨j, rfl, hj, rfl, HA, HX⟩ := hrel
    by_cases hlt : j < m
    · have hh := HH.out.chg HX.out (fun _ _ => id)
      obtain ⟨ad, rfl, -⟩ := hh.2 (by omega)
      have hjl : j < l.length := by have := HL.out; omega
      have hx : l[j]? = some l[j] := List.getElem?_eq_getElem hjl
      generalize l[j] = x at *
      obtain ⟨z0, z1, z2, z3, z4, z5⟩ := hh.at hx
      have hk := fun W (hw : Chg (fun _ => False) w W) => tkn1_any x.pr x.sr x.ds x.sp x.dp x.un p2 s2 d2 sp2 dp2 t q1 q2 W (H1.out.chg hw id) (H2.out.chg hw id)
      replace hk : ∀ W, Chg (fun _ => False) w W → Calls _ _ _ W (fun e w' => e = .returned (.bool ((fun x : Rc => alB x.pr x.sr x.ds x.sp x.dp p2 s2 d2 sp2 dp2 && lv12 t x) x)) ∧ Chg (fun _ => False) W w') := hk
      unfold rcC at hk
      have HJ := Lib.hid hx
      clear hx hh hjl
      cases hb : (fun x : Rc => alB x.pr x.sr x.ds x.sp x.dp p2 s2 d2 sp2 dp2 && lv12 t x) x with
      | false =>
        rw [hb] at hk
        have HK := Lib.hid hk
        have HB := Lib.hid hb
        clear hk hb
        go_wp2_with fail
        refine (HK.out _ HX.out).mono ?_
        rintro e w1 ⟨rfl, hc1⟩
        have HX := Lib.hid (HX.out.trans hc1 (fun _ _ e => e))
        clear hc1
        go_wp2_with fail
        go_roundg (m - (j + 1))
        case measure => omega
        case rel =>
          refine ⟨j + 1, rfl, by omega, by go_num, Lib.hid (fun i y hi hy => ?_), HX⟩
          by_cases e : i < j
          · exact HA.out i y e hy
          · have : i = j := by omega
            subst this
            have := HJ.out
            rw [hy] at this
            injection this with this
            subst this
            exact HB.out
      | true =>
        rw [hb] at hk
        have HK := Lib.hid hk
        have HB := Lib.hid hb
        clear hk hb
        go_wp2_with fail
        refine (HK.out _ HX.out).mono ?_
        rintro e w1 ⟨rfl, hc1⟩
        have HX := Lib.hid (HX.out.trans hc1 (fun _ _ e => e))
        clear hc1
        go_wp2_with fail
        go_ret
        exact ⟨(j : Int), rfl, .inr ⟨j, x, rfl, HJ.out, HB.out, HA.out⟩, HX.out⟩
    · have : j = m := by omega
      subst this
      go_wp2_with fail
      go_ret
      exact ⟨-1, rfl, FirstP.none (fun i y hi hy => HA.out i y (by have := HL.out; omega) hy), HX.out⟩
set_option maxRecDepth 100000 in
set_option maxHeartbeats 4000000 in
theorem tindexe_any (L : Option Addr) (m lc : Nat) (l : List Rc) (t : Int) (q : Nat) (w : World) (S : Nat → Prop) (h : RcR w S L m l) (hmc : m ≤ 9223372036854775807) (h2 : Blk w q 3 #[.int .i64 t]) : Calls Try.prog 34 #[.slice L m lc, .func (.func 32) #[] #[.pointer (some ⟨q, 0, none⟩)]] w fun e w' => ∃ z : Int, e = .returned (.int .i64 z) ∧ FirstP (fun x : Rc => !lv12 t x) l z ∧ Chg (fun _ => False) w w' := by
  have HH := Lib.hid h
  have hl := h.1
  have HL := Lib.hid hl
  have H2 := Lib.hid h2
  clear h2
  clear h hl
  go_enter Try.func34, Try.ntmps34
  go_wp2_with fail
  go_loopg [5, 8] m (fun g s5 i wr => ∃ j : Nat, g = m - j ∧ j ≤ m ∧ i = .int .i64 (j : Int) ∧ Hid (∀ (i : Nat) (x : Rc), i < j → l[i]? = some x → (fun x : Rc => !lv12 t x) x = false) ∧ Hid (Chg (fun _ => False) w wr))
  case atStart => exact ⟨0, rfl, Nat.zero_le _, rfl, Lib.hid (fun i x hi => absurd hi (by omega)), Lib.hid (Chg.refl _ _)⟩
  case round =>
    obtain ⟨j, rfl, hj, rfl, HA, HX⟩ := hrel
    by_cases hlt : j < m
    · have hh := HH.out.chg HX.out (fun _ _ => id)
      obtain ⟨ad, rfl, -⟩ := hh.2 (by omega)
      have hjl : j < l.length := by have := HL.out; omega
      have hx : l[j]? = some l[j] := List.getElem?_eq_getElem hjl
      generalize l[j] = x at *
      obtain ⟨z0, z1, z2, z3, z4, z5⟩ := hh.at hx
      have hk := fun W (hw : Chg (fun _ => False) w W) => tex1_any x.pr x.sr x.ds x.sp x.dp x.un t q W (H2.out.chg hw id)
      replace hk : ∀ W, Chg (fun _ => False) w W → Calls _ _ _ W (fun e w' => e = .returned (.bool ((fun x : Rc => !lv12 t x) x)) ∧ Chg (fun _ => False) W w') := hk
      unfold rcC at hk
      have HJ := Lib.hid hx
      clear hx hh hjl
      cases hb : (fun x : Rc => !lv12 t x) x with
      | false =>
        rw [hb] at hk
        have HK := Lib.hid hk
        have HB := Lib.hid hb
        clear hk hb
        go_wp2_with fail
        refine (HK.out _ HX.out).mono ?_
        rintro e w1 ⟨rfl, hc1⟩
        have HX := Lib.hid (HX.out.trans hc1 (fun _ _ e => e))
        clear hc1
        go_wp2_with fail
        go_roundg (m - (j + 1))
        case measure => omega
        case rel =>
          refine ⟨j + 1, rfl, by omega, by go_num, Lib.hid (fun i y hi hy => ?_), HX⟩
          by_cases e : i < j
          · exact HA.out i y e hy
          · have : i = j := by omega
            subst this
            have := HJ.out
            rw [hy] at this
            injection this with this
            subst this
            exact HB.out
      | true =>
        rw [hb] at hk
        have HK := Lib.hid hk
        have HB := Lib.hid hb
        clear hk hb
        go_wp2_with fail
        refine (HK.out _ HX.out).mono ?_
        rintro e w1 ⟨rfl, hc1⟩
        have HX := Lib.hid (HX.out.trans hc1 (fun _ _ e => e))
        clear hc1
        go_wp2_with fail
        go_ret
        exact ⟨(j : Int), rfl, .inr ⟨j, x, rfl, HJ.out, HB.out, HA.out⟩, HX.out⟩
    · have : j = m := by omega
      subst this
      go_wp2_with fail
      go_ret
      exact ⟨-1, rfl, FirstP.none (fun i y hi hy => HA.out i y (by have := HL.out; omega) hy), HX.out⟩
set_option maxRecDepth 100000 in
set_option maxHeartbeats 800000 in
theorem tcontains_any (L : Option Addr) (m lc : Nat) (l : List Rc) (p2 s2 d2 sp2 dp2 t : Int) (q1 q2 : Nat) (w : World) (S : Nat → Prop) (h : RcR w S L m l) (hmc : m ≤ 9223372036854775807) (h1 : Blk w q1 35 (flC p2 s2 d2 sp2 dp2)) (h2 : Blk w q2 3 #[.int .i64 t]) : Calls Try.prog 26 #[.slice L m lc, .func (.func 27) #[] #[.pointer (some ⟨q1, 0, none⟩), .pointer (some ⟨q2, 0, none⟩)]] w fun e w' => e = .returned (.bool (kn12 t l p2 s2 d2 sp2 dp2)) ∧ Chg (fun _ => False) w w' := by
  have HK := Lib.hid (tindexk_any L m lc l p2 s2 d2 sp2 dp2 t q1 q2 w S h hmc h1 h2)
  clear h h1 h2 hmc
  go_enter Try.func26, Try.ntmps26
  go_wp2_with fail
  refine HK.out.mono ?_
  rintro e w1 ⟨z, rfl, hz, hc⟩
  have HZ := Lib.hid hz.any
  have HC := Lib.hid hc
  clear hz hc
  go_wp2_with fail
  go_ret
  exact ⟨ret_b HZ.out, HC.out⟩
set_option maxRecDepth 100000 in
set_option maxHeartbeats 2000000 in
theorem tknown_any {w : World} {q : Nat} {o : Option Nat} {life : Int} {l : List Rc} (h : TN 51 w q o life l) (p2 s2 d2 sp2 dp2 t : Int) : Calls Try.prog 15 #[.pointer (some ⟨q, 0, none⟩), .agg (flC p2 s2 d2 sp2 dp2), .int .i64 t] w fun e w' => e = .returned (.bool (kn12 t l p2 s2 d2 sp2 dp2)) ∧ Chg (fun _ => False) w w' := by
  obtain ⟨LA, lc, hb, hown, -, -⟩ := h
  have hcap := own_cap hown
  have HX0 := Lib.hid (((Chg.refl (fun _ => False) w).alloc (.cells #[.int .i64 p2, .int .u32 s2, .int .u32 d2, .int .i64 sp2, .int .i64 dp2] 35)).alloc (.cells #[.int .i64 t] 3))
  have HQ : Blk ((w.alloc (.cells #[.int .i64 p2, .int .u32 s2, .int .u32 d2, .int .i64 sp2, .int .i64 dp2] 35)).alloc (.cells #[.int .i64 t] 3)) w.heap.size 35 (flC p2 s2 d2 sp2 dp2) := Blk.alloc (blk_new rfl) _
  replace HQ := Lib.hid HQ
  have HT : Blk ((w.alloc (.cells #[.int .i64 p2, .int .u32 s2, .int .u32 d2, .int .i64 sp2, .int .i64 dp2] 35)).alloc (.cells #[.int .i64 t] 3)) (w.heap.size + 1) 3 #[.int .i64 t] := blk_new (by simp)
  replace HT := Lib.hid HT
  have HP := Lib.hid (hb.chg HX0.out id)
  have HR := Lib.hid ((own_rcr hown rfl).chg HX0.out (fun _ _ => id))
  have HCAP := Lib.hid hcap
  generalize hm : l.length = m at *
  clear hb hown hcap hm
  unfold flC
  go_enter Try.func15, Try.ntmps15
  go_upto_region 1 with fail
  generalize ((w.alloc (.cells #[.int .i64 p2, .int .u32 s2, .int .u32 d2, .int .i64 sp2, .int .i64 dp2] 35)).alloc (.cells #[.int .i64 t] 3)) = w1 at *
  have HC := Lib.hid (tcontains_any LA m lc l p2 s2 d2 sp2 dp2 t w.heap.size (w.heap.size + 1) w1 _ HR.out (by have := HCAP.out; unfold maxLen at this; omega) HQ.out HT.out)
  obtain ⟨c0, c1, f1⟩ := tb_cells HP.out
  go_wp2_with fail
  refine HC.out.mono ?_
  rintro e w2 ⟨rfl, hc⟩
  have HX1 := Lib.hid (HX0.out.trans hc (fun _ _ e => e))
  clear hc
  go_wp2_with fail
  go_ret
  exact ⟨rfl, HX1.out⟩
set_option maxRecDepth 100000 in
set_option maxHeartbeats 400000 in
theorem tknown_nil (p2 s2 d2 sp2 dp2 t : Int) (w : World) : Calls Try.prog 15 #[.pointer none, .agg (flC p2 s2 d2 sp2 dp2), .int .i64 t] w fun e w' => e = .returned (.bool false) ∧ Chg (fun _ => False) w w' := by
  have HX0 := Lib.hid (((Chg.refl (fun _ => False) w).alloc (.cells #[.int .i64 p2, .int .u32 s2, .int .u32 d2, .int .i64 sp2, .int .i64 dp2] 35)).alloc (.cells #[.int .i64 t] 3))
  unfold flC
  go_enter Try.func15, Try.ntmps15
  go_wp2_with fail
  go_ret
  exact ⟨rfl, HX0.out⟩

end Go.Proofs.Ytclikcbgeolngaa
