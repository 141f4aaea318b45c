/-
  Walk: the document's Late. Condition: the span is an int.
-/
import Derived.Test.YtimgnogacanifaaGreatOo
import Derived.Test.YtimgnogacanifaaGreatOm
namespace Go.Proofs.YtimgnogacanifaaGreat
open Go.RowKit
set_option linter.unusedVariables false

set_option maxRecDepth 100000 in
set_option maxHeartbeats 4000000 in
theorem rlate_p (po ma ow ta ol ge ph ve si now span : Int) (w : World) (hsp : -9223372036854775808 ≤ span ∧ span ≤ 9223372036854775807) (hs : 0 ≤ span) : Calls Tryz.prog 65 #[.agg #[.int .i64 po, .int .u64 ma, .int .i64 ow, .int .i64 ta, .int .i64 ol, .int .i64 ge, .int .i64 ph, .int .i64 ve, .int .i64 si], .int .i64 now, .int .i64 span] w (HB (lt9 ⟨po, ma, ow, ta, ol, ge, ph, ve, si⟩ now span) w) := by
  have hmx : mx9 span = span := by unfold mx9; rw [if_pos hs]
  have hm := fun W => rmay_any po ma ow ta ol ge ph ve si now W
  cases hok : rwR po ma ow ta ol ge ph ve si && tm9 now with
  | false =>
    rw [lt_no (x := ⟨po, ma, ow, ta, ol, ge, ph, ve, si⟩) (fun h => by have h2 := en_ok h.1; have h3 : (rwR po ma ow ta ol ge ph ve si && tm9 now) = true := (by rw [show rwR po ma ow ta ol ge ph ve si = true from h2.1, h2.2]; rfl); rw [hok] at h3; cases h3)]
    rw [hok] at hm
    have HMY := Lib.hid hm
    clear hm
    clear hok hmx
    have HQ0 : Blk ((w.alloc (.cells #[.int .i64 po, .int .u64 ma, .int .i64 ow, .int .i64 ta, .int .i64 ol, .int .i64 ge, .int .i64 ph, .int .i64 ve, .int .i64 si] 40)).alloc (.cells #[.int .i64 0, .int .u64 0, .int .i64 0, .int .i64 0, .int .i64 0, .int .i64 0, .int .i64 0, .int .i64 0, .int .i64 0] 40)) w.heap.size 40 (rvC po ma ow ta ol ge ph ve si) := (Blk.alloc (blk_new rfl) _)
    replace HQ0 := Lib.hid HQ0
    have HR0 : Blk ((w.alloc (.cells #[.int .i64 po, .int .u64 ma, .int .i64 ow, .int .i64 ta, .int .i64 ol, .int .i64 ge, .int .i64 ph, .int .i64 ve, .int .i64 si] 40)).alloc (.cells #[.int .i64 0, .int .u64 0, .int .i64 0, .int .i64 0, .int .i64 0, .int .i64 0, .int .i64 0, .int .i64 0, .int .i64 0] 40)) (w.heap.size + 1) 40 (rvC 0 0 0 0 0 0 0 0 0) := (blk_new (by simp))
    replace HR0 := Lib.hid HR0
    have HX0 := Lib.hid (((Chg.refl (fun _ => False) w).alloc (.cells #[.int .i64 po, .int .u64 ma, .int .i64 ow, .int .i64 ta, .int .i64 ol, .int .i64 ge, .int .i64 ph, .int .i64 ve, .int .i64 si] 40)).alloc (.cells #[.int .i64 0, .int .u64 0, .int .i64 0, .int .i64 0, .int .i64 0, .int .i64 0, .int .i64 0, .int .i64 0, .int .i64 0] 40))
    go_enter Tryz.func65, Tryz.ntmps65
    go_upto_region 1 with fail
    generalize ((w.alloc (.cells #[.int .i64 po, .int .u64 ma, .int .i64 ow, .int .i64 ta, .int .i64 ol, .int .i64 ge, .int .i64 ph, .int .i64 ve, .int .i64 si] 40)).alloc (.cells #[.int .i64 0, .int .u64 0, .int .i64 0, .int .i64 0, .int .i64 0, .int .i64 0, .int .i64 0, .int .i64 0, .int .i64 0] 40)) = w1 at *
    obtain ⟨y0, y1, y2, y3, y4, y5, y6, y7, y8⟩ := rv_cells HQ0.out
    go_wp2_with fail
    refine (HMY.out _).mono ?_
    rintro e w2 ⟨rfl, hc⟩
    replace HX0 := Lib.hid (HX0.out.trans hc (fun _ _ e => e))
    replace HQ0 := Lib.hid (HQ0.out.chg hc id)
    replace HR0 := Lib.hid (HR0.out.chg hc id)
    clear hc
    clear y0 y1 y2 y3 y4 y5 y6 y7 y8
    obtain ⟨y0, y1, y2, y3, y4, y5, y6, y7, y8⟩ := rv_cells HQ0.out
    obtain ⟨x0, x1, x2, x3, x4, x5, x6, x7, x8⟩ := rv_cells HR0.out
    obtain ⟨u0, u1, u2, u3, u4, u5, u6, u7, u8⟩ := rv_free9 HR0.out
    obtain ⟨r0, r1, r2, r3, r4, r5, r6, r7, r8, -, hcs⟩ := rv_put9 HR0.out po ma ow ta ol ge ph ve si
    have HF := Lib.hid (fresh_set HX0.out hcs (by omega))
    have RR := Lib.hid (And.intro r0 (And.intro r1 (And.intro r2 (And.intro r3 (And.intro r4 (And.intro r5 (And.intro r6 (And.intro r7 r8))))))))
    clear r0 r1 r2 r3 r4 r5 r6 r7 r8 hcs HR0 HX0
    go_wp2_with fail
    obtain ⟨r0, r1, r2, r3, r4, r5, r6, r7, r8⟩ := RR.out
    exact bodyPost_ret (v := .tuple #[.agg (rvC po ma ow ta ol ge ph ve si), .bool false]) (by simp [results, Tryz.results65, go_sem, rvC, r0, r1, r2, r3, r4, r5, r6, r7, r8]) rfl ⟨rfl, HF.out⟩
  | true =>
    have hkk := (Bool.and_eq_true _ _ ▸ hok : rwR po ma ow ta ol ge ph ve si = true ∧ tm9 now = true)
    have hb := (ok_bounds hkk.1).2.2.2.2
    have hbt := tm_bounds hkk.2
    clear hkk
    rw [hok] at hm
    by_cases hlt : now < si
    case pos =>
      rw [lt_no (x := ⟨po, ma, ow, ta, ol, ge, ph, ve, si⟩) (fun h => by have h2 : mx9 span ≤ now - si := h.2; rw [hmx] at h2; omega)]
      have HMY := Lib.hid hm
      clear hm
      clear hok hmx
      have HQ0 : Blk ((w.alloc (.cells #[.int .i64 po, .int .u64 ma, .int .i64 ow, .int .i64 ta, .int .i64 ol, .int .i64 ge, .int .i64 ph, .int .i64 ve, .int .i64 si] 40)).alloc (.cells #[.int .i64 0, .int .u64 0, .int .i64 0, .int .i64 0, .int .i64 0, .int .i64 0, .int .i64 0, .int .i64 0, .int .i64 0] 40)) w.heap.size 40 (rvC po ma ow ta ol ge ph ve si) := (Blk.alloc (blk_new rfl) _)
      replace HQ0 := Lib.hid HQ0
      have HR0 : Blk ((w.alloc (.cells #[.int .i64 po, .int .u64 ma, .int .i64 ow, .int .i64 ta, .int .i64 ol, .int .i64 ge, .int .i64 ph, .int .i64 ve, .int .i64 si] 40)).alloc (.cells #[.int .i64 0, .int .u64 0, .int .i64 0, .int .i64 0, .int .i64 0, .int .i64 0, .int .i64 0, .int .i64 0, .int .i64 0] 40)) (w.heap.size + 1) 40 (rvC 0 0 0 0 0 0 0 0 0) := (blk_new (by simp))
      replace HR0 := Lib.hid HR0
      have HX0 := Lib.hid (((Chg.refl (fun _ => False) w).alloc (.cells #[.int .i64 po, .int .u64 ma, .int .i64 ow, .int .i64 ta, .int .i64 ol, .int .i64 ge, .int .i64 ph, .int .i64 ve, .int .i64 si] 40)).alloc (.cells #[.int .i64 0, .int .u64 0, .int .i64 0, .int .i64 0, .int .i64 0, .int .i64 0, .int .i64 0, .int .i64 0, .int .i64 0] 40))
      go_enter Tryz.func65, Tryz.ntmps65
      go_upto_region 1 with fail
      generalize ((w.alloc (.cells #[.int .i64 po, .int .u64 ma, .int .i64 ow, .int .i64 ta, .int .i64 ol, .int .i64 ge, .int .i64 ph, .int .i64 ve, .int .i64 si] 40)).alloc (.cells #[.int .i64 0, .int .u64 0, .int .i64 0, .int .i64 0, .int .i64 0, .int .i64 0, .int .i64 0, .int .i64 0, .int .i64 0] 40)) = w1 at *
      obtain ⟨y0, y1, y2, y3, y4, y5, y6, y7, y8⟩ := rv_cells HQ0.out
      go_wp2_with fail
      refine (HMY.out _).mono ?_
      rintro e w2 ⟨rfl, hc⟩
      replace HX0 := Lib.hid (HX0.out.trans hc (fun _ _ e => e))
      replace HQ0 := Lib.hid (HQ0.out.chg hc id)
      replace HR0 := Lib.hid (HR0.out.chg hc id)
      clear hc
      clear y0 y1 y2 y3 y4 y5 y6 y7 y8
      obtain ⟨y0, y1, y2, y3, y4, y5, y6, y7, y8⟩ := rv_cells HQ0.out
      obtain ⟨x0, x1, x2, x3, x4, x5, x6, x7, x8⟩ := rv_cells HR0.out
      obtain ⟨u0, u1, u2, u3, u4, u5, u6, u7, u8⟩ := rv_free9 HR0.out
      obtain ⟨r0, r1, r2, r3, r4, r5, r6, r7, r8, -, hcs⟩ := rv_put9 HR0.out po ma ow ta ol ge ph ve si
      have HF := Lib.hid (fresh_set HX0.out hcs (by omega))
      have RR := Lib.hid (And.intro r0 (And.intro r1 (And.intro r2 (And.intro r3 (And.intro r4 (And.intro r5 (And.intro r6 (And.intro r7 r8))))))))
      clear r0 r1 r2 r3 r4 r5 r6 r7 r8 hcs HR0 HX0
      go_wp2_with fail
      obtain ⟨r0, r1, r2, r3, r4, r5, r6, r7, r8⟩ := RR.out
      exact bodyPost_ret (v := .tuple #[.agg (rvC po ma ow ta ol ge ph ve si), .bool false]) (by simp [results, Tryz.results65, go_sem, rvC, r0, r1, r2, r3, r4, r5, r6, r7, r8]) rfl ⟨rfl, HF.out⟩
    by_cases hl : span ≤ now - si
    case neg =>
      rw [lt_no (x := ⟨po, ma, ow, ta, ol, ge, ph, ve, si⟩) (fun h => by have h2 : mx9 span ≤ now - si := h.2; rw [hmx] at h2; exact hl h2)]
      have HMY := Lib.hid hm
      clear hm
      clear hok hmx
      have HQ0 : Blk ((w.alloc (.cells #[.int .i64 po, .int .u64 ma, .int .i64 ow, .int .i64 ta, .int .i64 ol, .int .i64 ge, .int .i64 ph, .int .i64 ve, .int .i64 si] 40)).alloc (.cells #[.int .i64 0, .int .u64 0, .int .i64 0, .int .i64 0, .int .i64 0, .int .i64 0, .int .i64 0, .int .i64 0, .int .i64 0] 40)) w.heap.size 40 (rvC po ma ow ta ol ge ph ve si) := (Blk.alloc (blk_new rfl) _)
      replace HQ0 := Lib.hid HQ0
      have HR0 : Blk ((w.alloc (.cells #[.int .i64 po, .int .u64 ma, .int .i64 ow, .int .i64 ta, .int .i64 ol, .int .i64 ge, .int .i64 ph, .int .i64 ve, .int .i64 si] 40)).alloc (.cells #[.int .i64 0, .int .u64 0, .int .i64 0, .int .i64 0, .int .i64 0, .int .i64 0, .int .i64 0, .int .i64 0, .int .i64 0] 40)) (w.heap.size + 1) 40 (rvC 0 0 0 0 0 0 0 0 0) := (blk_new (by simp))
      replace HR0 := Lib.hid HR0
      have HX0 := Lib.hid (((Chg.refl (fun _ => False) w).alloc (.cells #[.int .i64 po, .int .u64 ma, .int .i64 ow, .int .i64 ta, .int .i64 ol, .int .i64 ge, .int .i64 ph, .int .i64 ve, .int .i64 si] 40)).alloc (.cells #[.int .i64 0, .int .u64 0, .int .i64 0, .int .i64 0, .int .i64 0, .int .i64 0, .int .i64 0, .int .i64 0, .int .i64 0] 40))
      go_enter Tryz.func65, Tryz.ntmps65
      go_upto_region 1 with fail
      generalize ((w.alloc (.cells #[.int .i64 po, .int .u64 ma, .int .i64 ow, .int .i64 ta, .int .i64 ol, .int .i64 ge, .int .i64 ph, .int .i64 ve, .int .i64 si] 40)).alloc (.cells #[.int .i64 0, .int .u64 0, .int .i64 0, .int .i64 0, .int .i64 0, .int .i64 0, .int .i64 0, .int .i64 0, .int .i64 0] 40)) = w1 at *
      obtain ⟨y0, y1, y2, y3, y4, y5, y6, y7, y8⟩ := rv_cells HQ0.out
      go_wp2_with fail
      refine (HMY.out _).mono ?_
      rintro e w2 ⟨rfl, hc⟩
      replace HX0 := Lib.hid (HX0.out.trans hc (fun _ _ e => e))
      replace HQ0 := Lib.hid (HQ0.out.chg hc id)
      replace HR0 := Lib.hid (HR0.out.chg hc id)
      clear hc
      clear y0 y1 y2 y3 y4 y5 y6 y7 y8
      obtain ⟨y0, y1, y2, y3, y4, y5, y6, y7, y8⟩ := rv_cells HQ0.out
      obtain ⟨x0, x1, x2, x3, x4, x5, x6, x7, x8⟩ := rv_cells HR0.out
      obtain ⟨u0, u1, u2, u3, u4, u5, u6, u7, u8⟩ := rv_free9 HR0.out
      obtain ⟨r0, r1, r2, r3, r4, r5, r6, r7, r8, -, hcs⟩ := rv_put9 HR0.out po ma ow ta ol ge ph ve si
      have HF := Lib.hid (fresh_set HX0.out hcs (by omega))
      have RR := Lib.hid (And.intro r0 (And.intro r1 (And.intro r2 (And.intro r3 (And.intro r4 (And.intro r5 (And.intro r6 (And.intro r7 r8))))))))
      clear r0 r1 r2 r3 r4 r5 r6 r7 r8 hcs HR0 HX0
      go_wp2_with fail
      obtain ⟨r0, r1, r2, r3, r4, r5, r6, r7, r8⟩ := RR.out
      exact bodyPost_ret (v := .tuple #[.agg (rvC po ma ow ta ol ge ph ve si), .bool false]) (by simp [results, Tryz.results65, go_sem, rvC, r0, r1, r2, r3, r4, r5, r6, r7, r8]) rfl ⟨rfl, HF.out⟩
    by_cases h1 : ph = 1
    case pos =>
      subst h1
      have hd := fun W => rabo_any po ma ow ta ol ge 1 ve si now W
      obtain ⟨z0, z1, z2, z3, z4, z5, z6, z7, z8, ze, hz⟩ := num9 (r := ab9 ⟨po, ma, ow, ta, ol, ge, 1, ve, si⟩ now)
      rw [hz] at hd
      have HD : Hid (∀ W, Calls _ _ _ W (HR9 z0 z1 z2 z3 z4 z5 z6 z7 z8 ze W)) := Lib.hid hd
      clear hd
      have hen : en9 ⟨po, ma, ow, ta, ol, ge, 1, ve, si⟩ now = (⟨z0, z1, z2, z3, z4, z5, z6, z7, z8⟩, ze) := hz
      clear hz
      by_cases he : ze = 0
      case neg =>
        rw [lt_no (x := ⟨po, ma, ow, ta, ol, ge, 1, ve, si⟩) (fun h => he (by have := h.1; rw [hen] at this; exact this))]
        have te : (ze != 0) = true := by rw [bne_iff_ne]; exact he
        clear he hen
        have HMY := Lib.hid hm
        clear hm
        clear hok hmx
        have HQ0 : Blk ((w.alloc (.cells #[.int .i64 po, .int .u64 ma, .int .i64 ow, .int .i64 ta, .int .i64 ol, .int .i64 ge, .int .i64 1, .int .i64 ve, .int .i64 si] 40)).alloc (.cells #[.int .i64 0, .int .u64 0, .int .i64 0, .int .i64 0, .int .i64 0, .int .i64 0, .int .i64 0, .int .i64 0, .int .i64 0] 40)) w.heap.size 40 (rvC po ma ow ta ol ge 1 ve si) := (Blk.alloc (blk_new rfl) _)
        replace HQ0 := Lib.hid HQ0
        have HR0 : Blk ((w.alloc (.cells #[.int .i64 po, .int .u64 ma, .int .i64 ow, .int .i64 ta, .int .i64 ol, .int .i64 ge, .int .i64 1, .int .i64 ve, .int .i64 si] 40)).alloc (.cells #[.int .i64 0, .int .u64 0, .int .i64 0, .int .i64 0, .int .i64 0, .int .i64 0, .int .i64 0, .int .i64 0, .int .i64 0] 40)) (w.heap.size + 1) 40 (rvC 0 0 0 0 0 0 0 0 0) := (blk_new (by simp))
        replace HR0 := Lib.hid HR0
        have HX0 := Lib.hid (((Chg.refl (fun _ => False) w).alloc (.cells #[.int .i64 po, .int .u64 ma, .int .i64 ow, .int .i64 ta, .int .i64 ol, .int .i64 ge, .int .i64 1, .int .i64 ve, .int .i64 si] 40)).alloc (.cells #[.int .i64 0, .int .u64 0, .int .i64 0, .int .i64 0, .int .i64 0, .int .i64 0, .int .i64 0, .int .i64 0, .int .i64 0] 40))
        go_enter Tryz.func65, Tryz.ntmps65
        go_upto_region 1 with fail
        generalize ((w.alloc (.cells #[.int .i64 po, .int .u64 ma, .int .i64 ow, .int .i64 ta, .int .i64 ol, .int .i64 ge, .int .i64 1, .int .i64 ve, .int .i64 si] 40)).alloc (.cells #[.int .i64 0, .int .u64 0, .int .i64 0, .int .i64 0, .int .i64 0, .int .i64 0, .int .i64 0, .int .i64 0, .int .i64 0] 40)) = w1 at *
        obtain ⟨y0, y1, y2, y3, y4, y5, y6, y7, y8⟩ := rv_cells HQ0.out
        go_wp2_with fail
        refine (HMY.out _).mono ?_
        rintro e w2 ⟨rfl, hc⟩
        replace HX0 := Lib.hid (HX0.out.trans hc (fun _ _ e => e))
        replace HQ0 := Lib.hid (HQ0.out.chg hc id)
        replace HR0 := Lib.hid (HR0.out.chg hc id)
        clear hc
        clear y0 y1 y2 y3 y4 y5 y6 y7 y8
        obtain ⟨y0, y1, y2, y3, y4, y5, y6, y7, y8⟩ := rv_cells HQ0.out
        go_upto_region 7 with fail
        have hN := Lib.hid (Blk.new w2 40 #[.int .i64 0, .int .u64 0, .int .i64 0, .int .i64 0, .int .i64 0, .int .i64 0, .int .i64 0, .int .i64 0, .int .i64 0])
        have hg3 : w.heap.size + 2 ≤ w2.heap.size := by have := (Blk.lt HR0.out); omega
        generalize hgn : w2.heap.size = g at *
        replace HX0 := Lib.hid (HX0.out.alloc (.cells #[.int .i64 0, .int .u64 0, .int .i64 0, .int .i64 0, .int .i64 0, .int .i64 0, .int .i64 0, .int .i64 0, .int .i64 0] 40))
        replace HR0 := Lib.hid (HR0.out.alloc (.cells #[.int .i64 0, .int .u64 0, .int .i64 0, .int .i64 0, .int .i64 0, .int .i64 0, .int .i64 0, .int .i64 0, .int .i64 0] 40))
        replace HQ0 := Lib.hid (HQ0.out.alloc (.cells #[.int .i64 0, .int .u64 0, .int .i64 0, .int .i64 0, .int .i64 0, .int .i64 0, .int .i64 0, .int .i64 0, .int .i64 0] 40))
        replace hN : Hid (Blk _ g 40 (rvC 0 0 0 0 0 0 0 0 0)) := hN
        clear hgn
        generalize w2.alloc (.cells #[.int .i64 0, .int .u64 0, .int .i64 0, .int .i64 0, .int .i64 0, .int .i64 0, .int .i64 0, .int .i64 0, .int .i64 0] 40) = w3 at *
        clear y0 y1 y2 y3 y4 y5 y6 y7 y8
        obtain ⟨y0, y1, y2, y3, y4, y5, y6, y7, y8⟩ := rv_cells HQ0.out
        go_wp2_with fail
        refine (HD.out _).mono ?_
        rintro e w4 ⟨rfl, hc⟩
        replace HX0 := Lib.hid (HX0.out.trans hc (fun _ _ e => e))
        replace HQ0 := Lib.hid (HQ0.out.chg hc id)
        replace HR0 := Lib.hid (HR0.out.chg hc id)
        replace hN := Lib.hid (hN.out.chg hc id)
        clear hc
        clear y0 y1 y2 y3 y4 y5 y6 y7 y8
        obtain ⟨y0, y1, y2, y3, y4, y5, y6, y7, y8⟩ := rv_cells hN.out
        obtain ⟨u0, u1, u2, u3, u4, u5, u6, u7, u8⟩ := rv_free9 hN.out
        obtain ⟨-, -, -, -, -, -, -, -, -, hN2, hcs⟩ := rv_put9 hN.out z0 z1 z2 z3 z4 z5 z6 z7 z8
        replace HX0 := Lib.hid (fresh_set HX0.out hcs (by omega))
        replace HQ0 := Lib.hid (HQ0.out.chg hcs (by omega))
        replace HR0 := Lib.hid (HR0.out.chg hcs (by omega))
        replace hN := Lib.hid hN2
        clear hcs hN2
        go_upto_region 9 with fail
        generalize (((((((((w4.setCell ⟨g, 0, none⟩ (.int .i64 z0)).setCell ⟨g, 1, none⟩ (.int .u64 z1)).setCell ⟨g, 2, none⟩ (.int .i64 z2)).setCell ⟨g, 3, none⟩ (.int .i64 z3)).setCell ⟨g, 4, none⟩ (.int .i64 z4)).setCell ⟨g, 5, none⟩ (.int .i64 z5)).setCell ⟨g, 6, none⟩ (.int .i64 z6)).setCell ⟨g, 7, none⟩ (.int .i64 z7)).setCell ⟨g, 8, none⟩ (.int .i64 z8)) = w5 at *
        clear y0 y1 y2 y3 y4 y5 y6 y7 y8 u0 u1 u2 u3 u4 u5 u6 u7 u8
        obtain ⟨y0, y1, y2, y3, y4, y5, y6, y7, y8⟩ := rv_cells HQ0.out
        obtain ⟨x0, x1, x2, x3, x4, x5, x6, x7, x8⟩ := rv_cells HR0.out
        obtain ⟨u0, u1, u2, u3, u4, u5, u6, u7, u8⟩ := rv_free9 HR0.out
        obtain ⟨r0, r1, r2, r3, r4, r5, r6, r7, r8, -, hcs⟩ := rv_put9 HR0.out po ma ow ta ol ge 1 ve si
        have HF := Lib.hid (fresh_set HX0.out hcs (by omega))
        have RR := Lib.hid (And.intro r0 (And.intro r1 (And.intro r2 (And.intro r3 (And.intro r4 (And.intro r5 (And.intro r6 (And.intro r7 r8))))))))
        clear r0 r1 r2 r3 r4 r5 r6 r7 r8 hcs HR0 HX0
        go_wp2_with fail
        obtain ⟨r0, r1, r2, r3, r4, r5, r6, r7, r8⟩ := RR.out
        exact bodyPost_ret (v := .tuple #[.agg (rvC po ma ow ta ol ge 1 ve si), .bool false]) (by simp [results, Tryz.results65, go_sem, rvC, r0, r1, r2, r3, r4, r5, r6, r7, r8]) rfl ⟨rfl, HF.out⟩
      subst he
      rw [lt_yes (x := ⟨po, ma, ow, ta, ol, ge, 1, ve, si⟩) hen (by rw [hmx]; exact hl)]
      clear hen
      have HMY := Lib.hid hm
      clear hm
      clear hok hmx
      have HQ0 : Blk ((w.alloc (.cells #[.int .i64 po, .int .u64 ma, .int .i64 ow, .int .i64 ta, .int .i64 ol, .int .i64 ge, .int .i64 1, .int .i64 ve, .int .i64 si] 40)).alloc (.cells #[.int .i64 0, .int .u64 0, .int .i64 0, .int .i64 0, .int .i64 0, .int .i64 0, .int .i64 0, .int .i64 0, .int .i64 0] 40)) w.heap.size 40 (rvC po ma ow ta ol ge 1 ve si) := (Blk.alloc (blk_new rfl) _)
      replace HQ0 := Lib.hid HQ0
      have HR0 : Blk ((w.alloc (.cells #[.int .i64 po, .int .u64 ma, .int .i64 ow, .int .i64 ta, .int .i64 ol, .int .i64 ge, .int .i64 1, .int .i64 ve, .int .i64 si] 40)).alloc (.cells #[.int .i64 0, .int .u64 0, .int .i64 0, .int .i64 0, .int .i64 0, .int .i64 0, .int .i64 0, .int .i64 0, .int .i64 0] 40)) (w.heap.size + 1) 40 (rvC 0 0 0 0 0 0 0 0 0) := (blk_new (by simp))
      replace HR0 := Lib.hid HR0
      have HX0 := Lib.hid (((Chg.refl (fun _ => False) w).alloc (.cells #[.int .i64 po, .int .u64 ma, .int .i64 ow, .int .i64 ta, .int .i64 ol, .int .i64 ge, .int .i64 1, .int .i64 ve, .int .i64 si] 40)).alloc (.cells #[.int .i64 0, .int .u64 0, .int .i64 0, .int .i64 0, .int .i64 0, .int .i64 0, .int .i64 0, .int .i64 0, .int .i64 0] 40))
      go_enter Tryz.func65, Tryz.ntmps65
      go_upto_region 1 with fail
      generalize ((w.alloc (.cells #[.int .i64 po, .int .u64 ma, .int .i64 ow, .int .i64 ta, .int .i64 ol, .int .i64 ge, .int .i64 1, .int .i64 ve, .int .i64 si] 40)).alloc (.cells #[.int .i64 0, .int .u64 0, .int .i64 0, .int .i64 0, .int .i64 0, .int .i64 0, .int .i64 0, .int .i64 0, .int .i64 0] 40)) = w1 at *
      obtain ⟨y0, y1, y2, y3, y4, y5, y6, y7, y8⟩ := rv_cells HQ0.out
      go_wp2_with fail
      refine (HMY.out _).mono ?_
      rintro e w2 ⟨rfl, hc⟩
      replace HX0 := Lib.hid (HX0.out.trans hc (fun _ _ e => e))
      replace HQ0 := Lib.hid (HQ0.out.chg hc id)
      replace HR0 := Lib.hid (HR0.out.chg hc id)
      clear hc
      clear y0 y1 y2 y3 y4 y5 y6 y7 y8
      obtain ⟨y0, y1, y2, y3, y4, y5, y6, y7, y8⟩ := rv_cells HQ0.out
      go_upto_region 7 with fail
      have hN := Lib.hid (Blk.new w2 40 #[.int .i64 0, .int .u64 0, .int .i64 0, .int .i64 0, .int .i64 0, .int .i64 0, .int .i64 0, .int .i64 0, .int .i64 0])
      have hg3 : w.heap.size + 2 ≤ w2.heap.size := by have := (Blk.lt HR0.out); omega
      generalize hgn : w2.heap.size = g at *
      replace HX0 := Lib.hid (HX0.out.alloc (.cells #[.int .i64 0, .int .u64 0, .int .i64 0, .int .i64 0, .int .i64 0, .int .i64 0, .int .i64 0, .int .i64 0, .int .i64 0] 40))
      replace HR0 := Lib.hid (HR0.out.alloc (.cells #[.int .i64 0, .int .u64 0, .int .i64 0, .int .i64 0, .int .i64 0, .int .i64 0, .int .i64 0, .int .i64 0, .int .i64 0] 40))
      replace HQ0 := Lib.hid (HQ0.out.alloc (.cells #[.int .i64 0, .int .u64 0, .int .i64 0, .int .i64 0, .int .i64 0, .int .i64 0, .int .i64 0, .int .i64 0, .int .i64 0] 40))
      replace hN : Hid (Blk _ g 40 (rvC 0 0 0 0 0 0 0 0 0)) := hN
      clear hgn
      generalize w2.alloc (.cells #[.int .i64 0, .int .u64 0, .int .i64 0, .int .i64 0, .int .i64 0, .int .i64 0, .int .i64 0, .int .i64 0, .int .i64 0] 40) = w3 at *
      clear y0 y1 y2 y3 y4 y5 y6 y7 y8
      obtain ⟨y0, y1, y2, y3, y4, y5, y6, y7, y8⟩ := rv_cells HQ0.out
      go_wp2_with fail
      refine (HD.out _).mono ?_
      rintro e w4 ⟨rfl, hc⟩
      replace HX0 := Lib.hid (HX0.out.trans hc (fun _ _ e => e))
      replace HQ0 := Lib.hid (HQ0.out.chg hc id)
      replace HR0 := Lib.hid (HR0.out.chg hc id)
      replace hN := Lib.hid (hN.out.chg hc id)
      clear hc
      clear y0 y1 y2 y3 y4 y5 y6 y7 y8
      obtain ⟨y0, y1, y2, y3, y4, y5, y6, y7, y8⟩ := rv_cells hN.out
      obtain ⟨u0, u1, u2, u3, u4, u5, u6, u7, u8⟩ := rv_free9 hN.out
      obtain ⟨-, -, -, -, -, -, -, -, -, hN2, hcs⟩ := rv_put9 hN.out z0 z1 z2 z3 z4 z5 z6 z7 z8
      replace HX0 := Lib.hid (fresh_set HX0.out hcs (by omega))
      replace HQ0 := Lib.hid (HQ0.out.chg hcs (by omega))
      replace HR0 := Lib.hid (HR0.out.chg hcs (by omega))
      replace hN := Lib.hid hN2
      clear hcs hN2
      go_upto_region 9 with fail
      generalize (((((((((w4.setCell ⟨g, 0, none⟩ (.int .i64 z0)).setCell ⟨g, 1, none⟩ (.int .u64 z1)).setCell ⟨g, 2, none⟩ (.int .i64 z2)).setCell ⟨g, 3, none⟩ (.int .i64 z3)).setCell ⟨g, 4, none⟩ (.int .i64 z4)).setCell ⟨g, 5, none⟩ (.int .i64 z5)).setCell ⟨g, 6, none⟩ (.int .i64 z6)).setCell ⟨g, 7, none⟩ (.int .i64 z7)).setCell ⟨g, 8, none⟩ (.int .i64 z8)) = w5 at *
      clear y0 y1 y2 y3 y4 y5 y6 y7 y8 u0 u1 u2 u3 u4 u5 u6 u7 u8
      obtain ⟨q0, q1, q2, q3, q4, q5, q6, q7, q8⟩ := rv_cells HQ0.out
      obtain ⟨y0, y1, y2, y3, y4, y5, y6, y7, y8⟩ := rv_cells hN.out
      obtain ⟨x0, x1, x2, x3, x4, x5, x6, x7, x8⟩ := rv_cells HR0.out
      obtain ⟨u0, u1, u2, u3, u4, u5, u6, u7, u8⟩ := rv_free9 HR0.out
      obtain ⟨r0, r1, r2, r3, r4, r5, r6, r7, r8, -, hcs⟩ := rv_put9 HR0.out z0 z1 z2 z3 z4 z5 z6 z7 z8
      have HF := Lib.hid (fresh_set HX0.out hcs (by omega))
      have RR := Lib.hid (And.intro r0 (And.intro r1 (And.intro r2 (And.intro r3 (And.intro r4 (And.intro r5 (And.intro r6 (And.intro r7 r8))))))))
      clear r0 r1 r2 r3 r4 r5 r6 r7 r8 hcs HR0 HX0
      go_wp2_with fail
      obtain ⟨r0, r1, r2, r3, r4, r5, r6, r7, r8⟩ := RR.out
      exact bodyPost_ret (v := .tuple #[.agg (rvC z0 z1 z2 z3 z4 z5 z6 z7 z8), .bool true]) (by simp [results, Tryz.results65, go_sem, rvC, r0, r1, r2, r3, r4, r5, r6, r7, r8]) rfl ⟨rfl, HF.out⟩
    have t1 : (ph == 1) = false := by rw [beq_eq_false_iff_ne]; exact h1
    by_cases h2 : ph = 2
    case pos =>
      subst h2
      have hd := fun W => rcom_any po ma ow ta ol ge 2 ve si now W
      obtain ⟨z0, z1, z2, z3, z4, z5, z6, z7, z8, ze, hz⟩ := num9 (r := co9 ⟨po, ma, ow, ta, ol, ge, 2, ve, si⟩ now)
      rw [hz] at hd
      have HD : Hid (∀ W, Calls _ _ _ W (HR9 z0 z1 z2 z3 z4 z5 z6 z7 z8 ze W)) := Lib.hid hd
      clear hd
      have hen : en9 ⟨po, ma, ow, ta, ol, ge, 2, ve, si⟩ now = (⟨z0, z1, z2, z3, z4, z5, z6, z7, z8⟩, ze) := hz
      clear hz
      by_cases he : ze = 0
      case neg =>
        rw [lt_no (x := ⟨po, ma, ow, ta, ol, ge, 2, ve, si⟩) (fun h => he (by have := h.1; rw [hen] at this; exact this))]
        have te : (ze != 0) = true := by rw [bne_iff_ne]; exact he
        clear he hen
        have HMY := Lib.hid hm
        clear hm
        clear hok hmx h1
        have HQ0 : Blk ((w.alloc (.cells #[.int .i64 po, .int .u64 ma, .int .i64 ow, .int .i64 ta, .int .i64 ol, .int .i64 ge, .int .i64 2, .int .i64 ve, .int .i64 si] 40)).alloc (.cells #[.int .i64 0, .int .u64 0, .int .i64 0, .int .i64 0, .int .i64 0, .int .i64 0, .int .i64 0, .int .i64 0, .int .i64 0] 40)) w.heap.size 40 (rvC po ma ow ta ol ge 2 ve si) := (Blk.alloc (blk_new rfl) _)
        replace HQ0 := Lib.hid HQ0
        have HR0 : Blk ((w.alloc (.cells #[.int .i64 po, .int .u64 ma, .int .i64 ow, .int .i64 ta, .int .i64 ol, .int .i64 ge, .int .i64 2, .int .i64 ve, .int .i64 si] 40)).alloc (.cells #[.int .i64 0, .int .u64 0, .int .i64 0, .int .i64 0, .int .i64 0, .int .i64 0, .int .i64 0, .int .i64 0, .int .i64 0] 40)) (w.heap.size + 1) 40 (rvC 0 0 0 0 0 0 0 0 0) := (blk_new (by simp))
        replace HR0 := Lib.hid HR0
        have HX0 := Lib.hid (((Chg.refl (fun _ => False) w).alloc (.cells #[.int .i64 po, .int .u64 ma, .int .i64 ow, .int .i64 ta, .int .i64 ol, .int .i64 ge, .int .i64 2, .int .i64 ve, .int .i64 si] 40)).alloc (.cells #[.int .i64 0, .int .u64 0, .int .i64 0, .int .i64 0, .int .i64 0, .int .i64 0, .int .i64 0, .int .i64 0, .int .i64 0] 40))
        go_enter Tryz.func65, Tryz.ntmps65
        go_upto_region 1 with fail
        generalize ((w.alloc (.cells #[.int .i64 po, .int .u64 ma, .int .i64 ow, .int .i64 ta, .int .i64 ol, .int .i64 ge, .int .i64 2, .int .i64 ve, .int .i64 si] 40)).alloc (.cells #[.int .i64 0, .int .u64 0, .int .i64 0, .int .i64 0, .int .i64 0, .int .i64 0, .int .i64 0, .int .i64 0, .int .i64 0] 40)) = w1 at *
        obtain ⟨y0, y1, y2, y3, y4, y5, y6, y7, y8⟩ := rv_cells HQ0.out
        go_wp2_with fail
        refine (HMY.out _).mono ?_
        rintro e w2 ⟨rfl, hc⟩
        replace HX0 := Lib.hid (HX0.out.trans hc (fun _ _ e => e))
        replace HQ0 := Lib.hid (HQ0.out.chg hc id)
        replace HR0 := Lib.hid (HR0.out.chg hc id)
        clear hc
        clear y0 y1 y2 y3 y4 y5 y6 y7 y8
        obtain ⟨y0, y1, y2, y3, y4, y5, y6, y7, y8⟩ := rv_cells HQ0.out
        go_upto_region 7 with fail
        have hN := Lib.hid (Blk.new w2 40 #[.int .i64 0, .int .u64 0, .int .i64 0, .int .i64 0, .int .i64 0, .int .i64 0, .int .i64 0, .int .i64 0, .int .i64 0])
        have hg3 : w.heap.size + 2 ≤ w2.heap.size := by have := (Blk.lt HR0.out); omega
        generalize hgn : w2.heap.size = g at *
        replace HX0 := Lib.hid (HX0.out.alloc (.cells #[.int .i64 0, .int .u64 0, .int .i64 0, .int .i64 0, .int .i64 0, .int .i64 0, .int .i64 0, .int .i64 0, .int .i64 0] 40))
        replace HR0 := Lib.hid (HR0.out.alloc (.cells #[.int .i64 0, .int .u64 0, .int .i64 0, .int .i64 0, .int .i64 0, .int .i64 0, .int .i64 0, .int .i64 0, .int .i64 0] 40))
        replace HQ0 := Lib.hid (HQ0.out.alloc (.cells #[.int .i64 0, .int .u64 0, .int .i64 0, .int .i64 0, .int .i64 0, .int .i64 0, .int .i64 0, .int .i64 0, .int .i64 0] 40))
        replace hN : Hid (Blk _ g 40 (rvC 0 0 0 0 0 0 0 0 0)) := hN
        clear hgn
        generalize w2.alloc (.cells #[.int .i64 0, .int .u64 0, .int .i64 0, .int .i64 0, .int .i64 0, .int .i64 0, .int .i64 0, .int .i64 0, .int .i64 0] 40) = w3 at *
        clear y0 y1 y2 y3 y4 y5 y6 y7 y8
        obtain ⟨y0, y1, y2, y3, y4, y5, y6, y7, y8⟩ := rv_cells HQ0.out
        go_wp2_with fail
        refine (HD.out _).mono ?_
        rintro e w4 ⟨rfl, hc⟩
        replace HX0 := Lib.hid (HX0.out.trans hc (fun _ _ e => e))
        replace HQ0 := Lib.hid (HQ0.out.chg hc id)
        replace HR0 := Lib.hid (HR0.out.chg hc id)
        replace hN := Lib.hid (hN.out.chg hc id)
        clear hc
        clear y0 y1 y2 y3 y4 y5 y6 y7 y8
        obtain ⟨y0, y1, y2, y3, y4, y5, y6, y7, y8⟩ := rv_cells hN.out
        obtain ⟨u0, u1, u2, u3, u4, u5, u6, u7, u8⟩ := rv_free9 hN.out
        obtain ⟨-, -, -, -, -, -, -, -, -, hN2, hcs⟩ := rv_put9 hN.out z0 z1 z2 z3 z4 z5 z6 z7 z8
        replace HX0 := Lib.hid (fresh_set HX0.out hcs (by omega))
        replace HQ0 := Lib.hid (HQ0.out.chg hcs (by omega))
        replace HR0 := Lib.hid (HR0.out.chg hcs (by omega))
        replace hN := Lib.hid hN2
        clear hcs hN2
        go_upto_region 11 with fail
        generalize (((((((((w4.setCell ⟨g, 0, none⟩ (.int .i64 z0)).setCell ⟨g, 1, none⟩ (.int .u64 z1)).setCell ⟨g, 2, none⟩ (.int .i64 z2)).setCell ⟨g, 3, none⟩ (.int .i64 z3)).setCell ⟨g, 4, none⟩ (.int .i64 z4)).setCell ⟨g, 5, none⟩ (.int .i64 z5)).setCell ⟨g, 6, none⟩ (.int .i64 z6)).setCell ⟨g, 7, none⟩ (.int .i64 z7)).setCell ⟨g, 8, none⟩ (.int .i64 z8)) = w5 at *
        clear y0 y1 y2 y3 y4 y5 y6 y7 y8 u0 u1 u2 u3 u4 u5 u6 u7 u8
        obtain ⟨y0, y1, y2, y3, y4, y5, y6, y7, y8⟩ := rv_cells HQ0.out
        obtain ⟨x0, x1, x2, x3, x4, x5, x6, x7, x8⟩ := rv_cells HR0.out
        obtain ⟨u0, u1, u2, u3, u4, u5, u6, u7, u8⟩ := rv_free9 HR0.out
        obtain ⟨r0, r1, r2, r3, r4, r5, r6, r7, r8, -, hcs⟩ := rv_put9 HR0.out po ma ow ta ol ge 2 ve si
        have HF := Lib.hid (fresh_set HX0.out hcs (by omega))
        have RR := Lib.hid (And.intro r0 (And.intro r1 (And.intro r2 (And.intro r3 (And.intro r4 (And.intro r5 (And.intro r6 (And.intro r7 r8))))))))
        clear r0 r1 r2 r3 r4 r5 r6 r7 r8 hcs HR0 HX0
        go_wp2_with fail
        obtain ⟨r0, r1, r2, r3, r4, r5, r6, r7, r8⟩ := RR.out
        exact bodyPost_ret (v := .tuple #[.agg (rvC po ma ow ta ol ge 2 ve si), .bool false]) (by simp [results, Tryz.results65, go_sem, rvC, r0, r1, r2, r3, r4, r5, r6, r7, r8]) rfl ⟨rfl, HF.out⟩
      subst he
      rw [lt_yes (x := ⟨po, ma, ow, ta, ol, ge, 2, ve, si⟩) hen (by rw [hmx]; exact hl)]
      clear hen
      have HMY := Lib.hid hm
      clear hm
      clear hok hmx h1
      have HQ0 : Blk ((w.alloc (.cells #[.int .i64 po, .int .u64 ma, .int .i64 ow, .int .i64 ta, .int .i64 ol, .int .i64 ge, .int .i64 2, .int .i64 ve, .int .i64 si] 40)).alloc (.cells #[.int .i64 0, .int .u64 0, .int .i64 0, .int .i64 0, .int .i64 0, .int .i64 0, .int .i64 0, .int .i64 0, .int .i64 0] 40)) w.heap.size 40 (rvC po ma ow ta ol ge 2 ve si) := (Blk.alloc (blk_new rfl) _)
      replace HQ0 := Lib.hid HQ0
      have HR0 : Blk ((w.alloc (.cells #[.int .i64 po, .int .u64 ma, .int .i64 ow, .int .i64 ta, .int .i64 ol, .int .i64 ge, .int .i64 2, .int .i64 ve, .int .i64 si] 40)).alloc (.cells #[.int .i64 0, .int .u64 0, .int .i64 0, .int .i64 0, .int .i64 0, .int .i64 0, .int .i64 0, .int .i64 0, .int .i64 0] 40)) (w.heap.size + 1) 40 (rvC 0 0 0 0 0 0 0 0 0) := (blk_new (by simp))
      replace HR0 := Lib.hid HR0
      have HX0 := Lib.hid (((Chg.refl (fun _ => False) w).alloc (.cells #[.int .i64 po, .int .u64 ma, .int .i64 ow, .int .i64 ta, .int .i64 ol, .int .i64 ge, .int .i64 2, .int .i64 ve, .int .i64 si] 40)).alloc (.cells #[.int .i64 0, .int .u64 0, .int .i64 0, .int .i64 0, .int .i64 0, .int .i64 0, .int .i64 0, .int .i64 0, .int .i64 0] 40))
      go_enter Tryz.func65, Tryz.ntmps65
      go_upto_region 1 with fail
      generalize ((w.alloc (.cells #[.int .i64 po, .int .u64 ma, .int .i64 ow, .int .i64 ta, .int .i64 ol, .int .i64 ge, .int .i64 2, .int .i64 ve, .int .i64 si] 40)).alloc (.cells #[.int .i64 0, .int .u64 0, .int .i64 0, .int .i64 0, .int .i64 0, .int .i64 0, .int .i64 0, .int .i64 0, .int .i64 0] 40)) = w1 at *
      obtain ⟨y0, y1, y2, y3, y4, y5, y6, y7, y8⟩ := rv_cells HQ0.out
      go_wp2_with fail
      refine (HMY.out _).mono ?_
      rintro e w2 ⟨rfl, hc⟩
      replace HX0 := Lib.hid (HX0.out.trans hc (fun _ _ e => e))
      replace HQ0 := Lib.hid (HQ0.out.chg hc id)
      replace HR0 := Lib.hid (HR0.out.chg hc id)
      clear hc
      clear y0 y1 y2 y3 y4 y5 y6 y7 y8
      obtain ⟨y0, y1, y2, y3, y4, y5, y6, y7, y8⟩ := rv_cells HQ0.out
      go_upto_region 7 with fail
      have hN := Lib.hid (Blk.new w2 40 #[.int .i64 0, .int .u64 0, .int .i64 0, .int .i64 0, .int .i64 0, .int .i64 0, .int .i64 0, .int .i64 0, .int .i64 0])
      have hg3 : w.heap.size + 2 ≤ w2.heap.size := by have := (Blk.lt HR0.out); omega
      generalize hgn : w2.heap.size = g at *
      replace HX0 := Lib.hid (HX0.out.alloc (.cells #[.int .i64 0, .int .u64 0, .int .i64 0, .int .i64 0, .int .i64 0, .int .i64 0, .int .i64 0, .int .i64 0, .int .i64 0] 40))
      replace HR0 := Lib.hid (HR0.out.alloc (.cells #[.int .i64 0, .int .u64 0, .int .i64 0, .int .i64 0, .int .i64 0, .int .i64 0, .int .i64 0, .int .i64 0, .int .i64 0] 40))
      replace HQ0 := Lib.hid (HQ0.out.alloc (.cells #[.int .i64 0, .int .u64 0, .int .i64 0, .int .i64 0, .int .i64 0, .int .i64 0, .int .i64 0, .int .i64 0, .int .i64 0] 40))
      replace hN : Hid (Blk _ g 40 (rvC 0 0 0 0 0 0 0 0 0)) := hN
      clear hgn
      generalize w2.alloc (.cells #[.int .i64 0, .int .u64 0, .int .i64 0, .int .i64 0, .int .i64 0, .int .i64 0, .int .i64 0, .int .i64 0, .int .i64 0] 40) = w3 at *
      clear y0 y1 y2 y3 y4 y5 y6 y7 y8
      obtain ⟨y0, y1, y2, y3, y4, y5, y6, y7, y8⟩ := rv_cells HQ0.out
      go_wp2_with fail
      refine (HD.out _).mono ?_
      rintro e w4 ⟨rfl, hc⟩
      replace HX0 := Lib.hid (HX0.out.trans hc (fun _ _ e => e))
      replace HQ0 := Lib.hid (HQ0.out.chg hc id)
      replace HR0 := Lib.hid (HR0.out.chg hc id)
      replace hN := Lib.hid (hN.out.chg hc id)
      clear hc
      clear y0 y1 y2 y3 y4 y5 y6 y7 y8
      obtain ⟨y0, y1, y2, y3, y4, y5, y6, y7, y8⟩ := rv_cells hN.out
      obtain ⟨u0, u1, u2, u3, u4, u5, u6, u7, u8⟩ := rv_free9 hN.out
      obtain ⟨-, -, -, -, -, -, -, -, -, hN2, hcs⟩ := rv_put9 hN.out z0 z1 z2 z3 z4 z5 z6 z7 z8
      replace HX0 := Lib.hid (fresh_set HX0.out hcs (by omega))
      replace HQ0 := Lib.hid (HQ0.out.chg hcs (by omega))
      replace HR0 := Lib.hid (HR0.out.chg hcs (by omega))
      replace hN := Lib.hid hN2
      clear hcs hN2
      go_upto_region 11 with fail
      generalize (((((((((w4.setCell ⟨g, 0, none⟩ (.int .i64 z0)).setCell ⟨g, 1, none⟩ (.int .u64 z1)).setCell ⟨g, 2, none⟩ (.int .i64 z2)).setCell ⟨g, 3, none⟩ (.int .i64 z3)).setCell ⟨g, 4, none⟩ (.int .i64 z4)).setCell ⟨g, 5, none⟩ (.int .i64 z5)).setCell ⟨g, 6, none⟩ (.int .i64 z6)).setCell ⟨g, 7, none⟩ (.int .i64 z7)).setCell ⟨g, 8, none⟩ (.int .i64 z8)) = w5 at *
      clear y0 y1 y2 y3 y4 y5 y6 y7 y8 u0 u1 u2 u3 u4 u5 u6 u7 u8
      obtain ⟨q0, q1, q2, q3, q4, q5, q6, q7, q8⟩ := rv_cells HQ0.out
      obtain ⟨y0, y1, y2, y3, y4, y5, y6, y7, y8⟩ := rv_cells hN.out
      obtain ⟨x0, x1, x2, x3, x4, x5, x6, x7, x8⟩ := rv_cells HR0.out
      obtain ⟨u0, u1, u2, u3, u4, u5, u6, u7, u8⟩ := rv_free9 HR0.out
      obtain ⟨r0, r1, r2, r3, r4, r5, r6, r7, r8, -, hcs⟩ := rv_put9 HR0.out z0 z1 z2 z3 z4 z5 z6 z7 z8
      have HF := Lib.hid (fresh_set HX0.out hcs (by omega))
      have RR := Lib.hid (And.intro r0 (And.intro r1 (And.intro r2 (And.intro r3 (And.intro r4 (And.intro r5 (And.intro r6 (And.intro r7 r8))))))))
      clear r0 r1 r2 r3 r4 r5 r6 r7 r8 hcs HR0 HX0
      go_wp2_with fail
      obtain ⟨r0, r1, r2, r3, r4, r5, r6, r7, r8⟩ := RR.out
      exact bodyPost_ret (v := .tuple #[.agg (rvC z0 z1 z2 z3 z4 z5 z6 z7 z8), .bool true]) (by simp [results, Tryz.results65, go_sem, rvC, r0, r1, r2, r3, r4, r5, r6, r7, r8]) rfl ⟨rfl, HF.out⟩
    have t2 : (ph == 2) = false := by rw [beq_eq_false_iff_ne]; exact h2
    rw [lt_no (x := ⟨po, ma, ow, ta, ol, ge, ph, ve, si⟩) (fun h => by have h3 : (en9 ⟨po, ma, ow, ta, ol, ge, ph, ve, si⟩ now).2 = 0 := h.1; rw [show en9 ⟨po, ma, ow, ta, ol, ge, ph, ve, si⟩ now = ab9 ⟨po, ma, ow, ta, ol, ge, ph, ve, si⟩ now from if_neg h2, show ab9 ⟨po, ma, ow, ta, ol, ge, ph, ve, si⟩ now = fin9 ⟨po, ma, ow, ta, ol, ge, ph, ve, si⟩ now true (abA ⟨po, ma, ow, ta, ol, ge, ph, ve, si⟩) from rfl, show abA ⟨po, ma, ow, ta, ol, ge, ph, ve, si⟩ = (⟨po, ma, ow, ta, ol, ge, ph, ve, si⟩, 8) from by simp [abA, h1], fin_er (x := ⟨po, ma, ow, ta, ol, ge, ph, ve, si⟩) hok (by decide)] at h3; exact absurd h3 (by decide))]
    have HMY := Lib.hid hm
    clear hm
    clear hok hmx h1 h2
    have HQ0 : Blk ((w.alloc (.cells #[.int .i64 po, .int .u64 ma, .int .i64 ow, .int .i64 ta, .int .i64 ol, .int .i64 ge, .int .i64 ph, .int .i64 ve, .int .i64 si] 40)).alloc (.cells #[.int .i64 0, .int .u64 0, .int .i64 0, .int .i64 0, .int .i64 0, .int .i64 0, .int .i64 0, .int .i64 0, .int .i64 0] 40)) w.heap.size 40 (rvC po ma ow ta ol ge ph ve si) := (Blk.alloc (blk_new rfl) _)
    replace HQ0 := Lib.hid HQ0
    have HR0 : Blk ((w.alloc (.cells #[.int .i64 po, .int .u64 ma, .int .i64 ow, .int .i64 ta, .int .i64 ol, .int .i64 ge, .int .i64 ph, .int .i64 ve, .int .i64 si] 40)).alloc (.cells #[.int .i64 0, .int .u64 0, .int .i64 0, .int .i64 0, .int .i64 0, .int .i64 0, .int .i64 0, .int .i64 0, .int .i64 0] 40)) (w.heap.size + 1) 40 (rvC 0 0 0 0 0 0 0 0 0) := (blk_new (by simp))
    replace HR0 := Lib.hid HR0
    have HX0 := Lib.hid (((Chg.refl (fun _ => False) w).alloc (.cells #[.int .i64 po, .int .u64 ma, .int .i64 ow, .int .i64 ta, .int .i64 ol, .int .i64 ge, .int .i64 ph, .int .i64 ve, .int .i64 si] 40)).alloc (.cells #[.int .i64 0, .int .u64 0, .int .i64 0, .int .i64 0, .int .i64 0, .int .i64 0, .int .i64 0, .int .i64 0, .int .i64 0] 40))
    go_enter Tryz.func65, Tryz.ntmps65
    go_upto_region 1 with fail
    generalize ((w.alloc (.cells #[.int .i64 po, .int .u64 ma, .int .i64 ow, .int .i64 ta, .int .i64 ol, .int .i64 ge, .int .i64 ph, .int .i64 ve, .int .i64 si] 40)).alloc (.cells #[.int .i64 0, .int .u64 0, .int .i64 0, .int .i64 0, .int .i64 0, .int .i64 0, .int .i64 0, .int .i64 0, .int .i64 0] 40)) = w1 at *
    obtain ⟨y0, y1, y2, y3, y4, y5, y6, y7, y8⟩ := rv_cells HQ0.out
    go_wp2_with fail
    refine (HMY.out _).mono ?_
    rintro e w2 ⟨rfl, hc⟩
    replace HX0 := Lib.hid (HX0.out.trans hc (fun _ _ e => e))
    replace HQ0 := Lib.hid (HQ0.out.chg hc id)
    replace HR0 := Lib.hid (HR0.out.chg hc id)
    clear hc
    clear y0 y1 y2 y3 y4 y5 y6 y7 y8
    obtain ⟨y0, y1, y2, y3, y4, y5, y6, y7, y8⟩ := rv_cells HQ0.out
    go_upto_region 7 with fail
    have hN := Lib.hid (Blk.new w2 40 #[.int .i64 0, .int .u64 0, .int .i64 0, .int .i64 0, .int .i64 0, .int .i64 0, .int .i64 0, .int .i64 0, .int .i64 0])
    have hg3 : w.heap.size + 2 ≤ w2.heap.size := by have := (Blk.lt HR0.out); omega
    generalize hgn : w2.heap.size = g at *
    replace HX0 := Lib.hid (HX0.out.alloc (.cells #[.int .i64 0, .int .u64 0, .int .i64 0, .int .i64 0, .int .i64 0, .int .i64 0, .int .i64 0, .int .i64 0, .int .i64 0] 40))
    replace HR0 := Lib.hid (HR0.out.alloc (.cells #[.int .i64 0, .int .u64 0, .int .i64 0, .int .i64 0, .int .i64 0, .int .i64 0, .int .i64 0, .int .i64 0, .int .i64 0] 40))
    replace HQ0 := Lib.hid (HQ0.out.alloc (.cells #[.int .i64 0, .int .u64 0, .int .i64 0, .int .i64 0, .int .i64 0, .int .i64 0, .int .i64 0, .int .i64 0, .int .i64 0] 40))
    replace hN : Hid (Blk _ g 40 (rvC 0 0 0 0 0 0 0 0 0)) := hN
    clear hgn
    generalize w2.alloc (.cells #[.int .i64 0, .int .u64 0, .int .i64 0, .int .i64 0, .int .i64 0, .int .i64 0, .int .i64 0, .int .i64 0, .int .i64 0] 40) = w3 at *
    clear y0 y1 y2 y3 y4 y5 y6 y7 y8
    obtain ⟨y0, y1, y2, y3, y4, y5, y6, y7, y8⟩ := rv_cells HQ0.out
    obtain ⟨x0, x1, x2, x3, x4, x5, x6, x7, x8⟩ := rv_cells HR0.out
    obtain ⟨u0, u1, u2, u3, u4, u5, u6, u7, u8⟩ := rv_free9 HR0.out
    obtain ⟨r0, r1, r2, r3, r4, r5, r6, r7, r8, -, hcs⟩ := rv_put9 HR0.out po ma ow ta ol ge ph ve si
    have HF := Lib.hid (fresh_set HX0.out hcs (by omega))
    have RR := Lib.hid (And.intro r0 (And.intro r1 (And.intro r2 (And.intro r3 (And.intro r4 (And.intro r5 (And.intro r6 (And.intro r7 r8))))))))
    clear r0 r1 r2 r3 r4 r5 r6 r7 r8 hcs HR0 HX0
    go_wp2_with fail
    obtain ⟨r0, r1, r2, r3, r4, r5, r6, r7, r8⟩ := RR.out
    exact bodyPost_ret (v := .tuple #[.agg (rvC po ma ow ta ol ge ph ve si), .bool false]) (by simp [results, Tryz.results65, go_sem, rvC, r0, r1, r2, r3, r4, r5, r6, r7, r8]) rfl ⟨rfl, HF.out⟩

set_option maxRecDepth 100000 in
set_option maxHeartbeats 4000000 in
theorem rlate_n (po ma ow ta ol ge ph ve si now span : Int) (w : World) (hsp : -9223372036854775808 ≤ span ∧ span ≤ 9223372036854775807) (hs : ¬ 0 ≤ span) : Calls Tryz.prog 65 #[.agg #[.int .i64 po, .int .u64 ma, .int .i64 ow, .int .i64 ta, .int .i64 ol, .int .i64 ge, .int .i64 ph, .int .i64 ve, .int .i64 si], .int .i64 now, .int .i64 span] w (HB (lt9 ⟨po, ma, ow, ta, ol, ge, ph, ve, si⟩ now span) w) := by
  have hmx : mx9 span = 0 := by unfold mx9; rw [if_neg hs]
  have hm := fun W => rmay_any po ma ow ta ol ge ph ve si now W
  cases hok : rwR po ma ow ta ol ge ph ve si && tm9 now with
  | false =>
    rw [lt_no (x := ⟨po, ma, ow, ta, ol, ge, ph, ve, si⟩) (fun h => by have h2 := en_ok h.1; have h3 : (rwR po ma ow ta ol ge ph ve si && tm9 now) = true := (by rw [show rwR po ma ow ta ol ge ph ve si = true from h2.1, h2.2]; rfl); rw [hok] at h3; cases h3)]
    rw [hok] at hm
    have HMY := Lib.hid hm
    clear hm
    clear hok hmx
    have HQ0 : Blk ((w.alloc (.cells #[.int .i64 po, .int .u64 ma, .int .i64 ow, .int .i64 ta, .int .i64 ol, .int .i64 ge, .int .i64 ph, .int .i64 ve, .int .i64 si] 40)).alloc (.cells #[.int .i64 0, .int .u64 0, .int .i64 0, .int .i64 0, .int .i64 0, .int .i64 0, .int .i64 0, .int .i64 0, .int .i64 0] 40)) w.heap.size 40 (rvC po ma ow ta ol ge ph ve si) := (Blk.alloc (blk_new rfl) _)
    replace HQ0 := Lib.hid HQ0
    have HR0 : Blk ((w.alloc (.cells #[.int .i64 po, .int .u64 ma, .int .i64 ow, .int .i64 ta, .int .i64 ol, .int .i64 ge, .int .i64 ph, .int .i64 ve, .int .i64 si] 40)).alloc (.cells #[.int .i64 0, .int .u64 0, .int .i64 0, .int .i64 0, .int .i64 0, .int .i64 0, .int .i64 0, .int .i64 0, .int .i64 0] 40)) (w.heap.size + 1) 40 (rvC 0 0 0 0 0 0 0 0 0) := (blk_new (by simp))
    replace HR0 := Lib.hid HR0
    have HX0 := Lib.hid (((Chg.refl (fun _ => False) w).alloc (.cells #[.int .i64 po, .int .u64 ma, .int .i64 ow, .int .i64 ta, .int .i64 ol, .int .i64 ge, .int .i64 ph, .int .i64 ve, .int .i64 si] 40)).alloc (.cells #[.int .i64 0, .int .u64 0, .int .i64 0, .int .i64 0, .int .i64 0, .int .i64 0, .int .i64 0, .int .i64 0, .int .i64 0] 40))
    go_enter Tryz.func65, Tryz.ntmps65
    go_upto_region 1 with fail
    generalize ((w.alloc (.cells #[.int .i64 po, .int .u64 ma, .int .i64 ow, .int .i64 ta, .int .i64 ol, .int .i64 ge, .int .i64 ph, .int .i64 ve, .int .i64 si] 40)).alloc (.cells #[.int .i64 0, .int .u64 0, .int .i64 0, .int .i64 0, .int .i64 0, .int .i64 0, .int .i64 0, .int .i64 0, .int .i64 0] 40)) = w1 at *
    obtain ⟨y0, y1, y2, y3, y4, y5, y6, y7, y8⟩ := rv_cells HQ0.out
    go_wp2_with fail
    refine (HMY.out _).mono ?_
    rintro e w2 ⟨rfl, hc⟩
    replace HX0 := Lib.hid (HX0.out.trans hc (fun _ _ e => e))
    replace HQ0 := Lib.hid (HQ0.out.chg hc id)
    replace HR0 := Lib.hid (HR0.out.chg hc id)
    clear hc
    clear y0 y1 y2 y3 y4 y5 y6 y7 y8
    obtain ⟨y0, y1, y2, y3, y4, y5, y6, y7, y8⟩ := rv_cells HQ0.out
    obtain ⟨x0, x1, x2, x3, x4, x5, x6, x7, x8⟩ := rv_cells HR0.out
    obtain ⟨u0, u1, u2, u3, u4, u5, u6, u7, u8⟩ := rv_free9 HR0.out
    obtain ⟨r0, r1, r2, r3, r4, r5, r6, r7, r8, -, hcs⟩ := rv_put9 HR0.out po ma ow ta ol ge ph ve si
    have HF := Lib.hid (fresh_set HX0.out hcs (by omega))
    have RR := Lib.hid (And.intro r0 (And.intro r1 (And.intro r2 (And.intro r3 (And.intro r4 (And.intro r5 (And.intro r6 (And.intro r7 r8))))))))
    clear r0 r1 r2 r3 r4 r5 r6 r7 r8 hcs HR0 HX0
    go_wp2_with fail
    obtain ⟨r0, r1, r2, r3, r4, r5, r6, r7, r8⟩ := RR.out
    exact bodyPost_ret (v := .tuple #[.agg (rvC po ma ow ta ol ge ph ve si), .bool false]) (by simp [results, Tryz.results65, go_sem, rvC, r0, r1, r2, r3, r4, r5, r6, r7, r8]) rfl ⟨rfl, HF.out⟩
  | true =>
    have hkk := (Bool.and_eq_true _ _ ▸ hok : rwR po ma ow ta ol ge ph ve si = true ∧ tm9 now = true)
    have hb := (ok_bounds hkk.1).2.2.2.2
    have hbt := tm_bounds hkk.2
    clear hkk
    rw [hok] at hm
    by_cases hlt : now < si
    case pos =>
      rw [lt_no (x := ⟨po, ma, ow, ta, ol, ge, ph, ve, si⟩) (fun h => by have h2 : mx9 span ≤ now - si := h.2; rw [hmx] at h2; omega)]
      have HMY := Lib.hid hm
      clear hm
      clear hok hmx
      have HQ0 : Blk ((w.alloc (.cells #[.int .i64 po, .int .u64 ma, .int .i64 ow, .int .i64 ta, .int .i64 ol, .int .i64 ge, .int .i64 ph, .int .i64 ve, .int .i64 si] 40)).alloc (.cells #[.int .i64 0, .int .u64 0, .int .i64 0, .int .i64 0, .int .i64 0, .int .i64 0, .int .i64 0, .int .i64 0, .int .i64 0] 40)) w.heap.size 40 (rvC po ma ow ta ol ge ph ve si) := (Blk.alloc (blk_new rfl) _)
      replace HQ0 := Lib.hid HQ0
      have HR0 : Blk ((w.alloc (.cells #[.int .i64 po, .int .u64 ma, .int .i64 ow, .int .i64 ta, .int .i64 ol, .int .i64 ge, .int .i64 ph, .int .i64 ve, .int .i64 si] 40)).alloc (.cells #[.int .i64 0, .int .u64 0, .int .i64 0, .int .i64 0, .int .i64 0, .int .i64 0, .int .i64 0, .int .i64 0, .int .i64 0] 40)) (w.heap.size + 1) 40 (rvC 0 0 0 0 0 0 0 0 0) := (blk_new (by simp))
      replace HR0 := Lib.hid HR0
      have HX0 := Lib.hid (((Chg.refl (fun _ => False) w).alloc (.cells #[.int .i64 po, .int .u64 ma, .int .i64 ow, .int .i64 ta, .int .i64 ol, .int .i64 ge, .int .i64 ph, .int .i64 ve, .int .i64 si] 40)).alloc (.cells #[.int .i64 0, .int .u64 0, .int .i64 0, .int .i64 0, .int .i64 0, .int .i64 0, .int .i64 0, .int .i64 0, .int .i64 0] 40))
      go_enter Tryz.func65, Tryz.ntmps65
      go_upto_region 1 with fail
      generalize ((w.alloc (.cells #[.int .i64 po, .int .u64 ma, .int .i64 ow, .int .i64 ta, .int .i64 ol, .int .i64 ge, .int .i64 ph, .int .i64 ve, .int .i64 si] 40)).alloc (.cells #[.int .i64 0, .int .u64 0, .int .i64 0, .int .i64 0, .int .i64 0, .int .i64 0, .int .i64 0, .int .i64 0, .int .i64 0] 40)) = w1 at *
      obtain ⟨y0, y1, y2, y3, y4, y5, y6, y7, y8⟩ := rv_cells HQ0.out
      go_wp2_with fail
      refine (HMY.out _).mono ?_
      rintro e w2 ⟨rfl, hc⟩
      replace HX0 := Lib.hid (HX0.out.trans hc (fun _ _ e => e))
      replace HQ0 := Lib.hid (HQ0.out.chg hc id)
      replace HR0 := Lib.hid (HR0.out.chg hc id)
      clear hc
      clear y0 y1 y2 y3 y4 y5 y6 y7 y8
      obtain ⟨y0, y1, y2, y3, y4, y5, y6, y7, y8⟩ := rv_cells HQ0.out
      obtain ⟨x0, x1, x2, x3, x4, x5, x6, x7, x8⟩ := rv_cells HR0.out
      obtain ⟨u0, u1, u2, u3, u4, u5, u6, u7, u8⟩ := rv_free9 HR0.out
      obtain ⟨r0, r1, r2, r3, r4, r5, r6, r7, r8, -, hcs⟩ := rv_put9 HR0.out po ma ow ta ol ge ph ve si
      have HF := Lib.hid (fresh_set HX0.out hcs (by omega))
      have RR := Lib.hid (And.intro r0 (And.intro r1 (And.intro r2 (And.intro r3 (And.intro r4 (And.intro r5 (And.intro r6 (And.intro r7 r8))))))))
      clear r0 r1 r2 r3 r4 r5 r6 r7 r8 hcs HR0 HX0
      go_wp2_with fail
      obtain ⟨r0, r1, r2, r3, r4, r5, r6, r7, r8⟩ := RR.out
      exact bodyPost_ret (v := .tuple #[.agg (rvC po ma ow ta ol ge ph ve si), .bool false]) (by simp [results, Tryz.results65, go_sem, rvC, r0, r1, r2, r3, r4, r5, r6, r7, r8]) rfl ⟨rfl, HF.out⟩
    by_cases hl : 0 ≤ now - si
    case neg =>
      exfalso
      omega
    by_cases h1 : ph = 1
    case pos =>
      subst h1
      have hd := fun W => rabo_any po ma ow ta ol ge 1 ve si now W
      obtain ⟨z0, z1, z2, z3, z4, z5, z6, z7, z8, ze, hz⟩ := num9 (r := ab9 ⟨po, ma, ow, ta, ol, ge, 1, ve, si⟩ now)
      rw [hz] at hd
      have HD : Hid (∀ W, Calls _ _ _ W (HR9 z0 z1 z2 z3 z4 z5 z6 z7 z8 ze W)) := Lib.hid hd
      clear hd
      have hen : en9 ⟨po, ma, ow, ta, ol, ge, 1, ve, si⟩ now = (⟨z0, z1, z2, z3, z4, z5, z6, z7, z8⟩, ze) := hz
      clear hz
      by_cases he : ze = 0
      case neg =>
        rw [lt_no (x := ⟨po, ma, ow, ta, ol, ge, 1, ve, si⟩) (fun h => he (by have := h.1; rw [hen] at this; exact this))]
        have te : (ze != 0) = true := by rw [bne_iff_ne]; exact he
        clear he hen
        have HMY := Lib.hid hm
        clear hm
        clear hok hmx
        have HQ0 : Blk ((w.alloc (.cells #[.int .i64 po, .int .u64 ma, .int .i64 ow, .int .i64 ta, .int .i64 ol, .int .i64 ge, .int .i64 1, .int .i64 ve, .int .i64 si] 40)).alloc (.cells #[.int .i64 0, .int .u64 0, .int .i64 0, .int .i64 0, .int .i64 0, .int .i64 0, .int .i64 0, .int .i64 0, .int .i64 0] 40)) w.heap.size 40 (rvC po ma ow ta ol ge 1 ve si) := (Blk.alloc (blk_new rfl) _)
        replace HQ0 := Lib.hid HQ0
        have HR0 : Blk ((w.alloc (.cells #[.int .i64 po, .int .u64 ma, .int .i64 ow, .int .i64 ta, .int .i64 ol, .int .i64 ge, .int .i64 1, .int .i64 ve, .int .i64 si] 40)).alloc (.cells #[.int .i64 0, .int .u64 0, .int .i64 0, .int .i64 0, .int .i64 0, .int .i64 0, .int .i64 0, .int .i64 0, .int .i64 0] 40)) (w.heap.size + 1) 40 (rvC 0 0 0 0 0 0 0 0 0) := (blk_new (by simp))
        replace HR0 := Lib.hid HR0
        have HX0 := Lib.hid (((Chg.refl (fun _ => False) w).alloc (.cells #[.int .i64 po, .int .u64 ma, .int .i64 ow, .int .i64 ta, .int .i64 ol, .int .i64 ge, .int .i64 1, .int .i64 ve, .int .i64 si] 40)).alloc (.cells #[.int .i64 0, .int .u64 0, .int .i64 0, .int .i64 0, .int .i64 0, .int .i64 0, .int .i64 0, .int .i64 0, .int .i64 0] 40))
        go_enter Tryz.func65, Tryz.ntmps65
        go_upto_region 1 with fail
        generalize ((w.alloc (.cells #[.int .i64 po, .int .u64 ma, .int .i64 ow, .int .i64 ta, .int .i64 ol, .int .i64 ge, .int .i64 1, .int .i64 ve, .int .i64 si] 40)).alloc (.cells #[.int .i64 0, .int .u64 0, .int .i64 0, .int .i64 0, .int .i64 0, .int .i64 0, .int .i64 0, .int .i64 0, .int .i64 0] 40)) = w1 at *
        obtain ⟨y0, y1, y2, y3, y4, y5, y6, y7, y8⟩ := rv_cells HQ0.out
        go_wp2_with fail
        refine (HMY.out _).mono ?_
        rintro e w2 ⟨rfl, hc⟩
        replace HX0 := Lib.hid (HX0.out.trans hc (fun _ _ e => e))
        replace HQ0 := Lib.hid (HQ0.out.chg hc id)
        replace HR0 := Lib.hid (HR0.out.chg hc id)
        clear hc
        clear y0 y1 y2 y3 y4 y5 y6 y7 y8
        obtain ⟨y0, y1, y2, y3, y4, y5, y6, y7, y8⟩ := rv_cells HQ0.out
        go_upto_region 7 with fail
        have hN := Lib.hid (Blk.new w2 40 #[.int .i64 0, .int .u64 0, .int .i64 0, .int .i64 0, .int .i64 0, .int .i64 0, .int .i64 0, .int .i64 0, .int .i64 0])
        have hg3 : w.heap.size + 2 ≤ w2.heap.size := by have := (Blk.lt HR0.out); omega
        generalize hgn : w2.heap.size = g at *
        replace HX0 := Lib.hid (HX0.out.alloc (.cells #[.int .i64 0, .int .u64 0, .int .i64 0, .int .i64 0, .int .i64 0, .int .i64 0, .int .i64 0, .int .i64 0, .int .i64 0] 40))
        replace HR0 := Lib.hid (HR0.out.alloc (.cells #[.int .i64 0, .int .u64 0, .int .i64 0, .int .i64 0, .int .i64 0, .int .i64 0, .int .i64 0, .int .i64 0, .int .i64 0] 40))
        replace HQ0 := Lib.hid (HQ0.out.alloc (.cells #[.int .i64 0, .int .u64 0, .int .i64 0, .int .i64 0, .int .i64 0, .int .i64 0, .int .i64 0, .int .i64 0, .int .i64 0] 40))
        replace hN : Hid (Blk _ g 40 (rvC 0 0 0 0 0 0 0 0 0)) := hN
        clear hgn
        generalize w2.alloc (.cells #[.int .i64 0, .int .u64 0, .int .i64 0, .int .i64 0, .int .i64 0, .int .i64 0, .int .i64 0, .int .i64 0, .int .i64 0] 40) = w3 at *
        clear y0 y1 y2 y3 y4 y5 y6 y7 y8
        obtain ⟨y0, y1, y2, y3, y4, y5, y6, y7, y8⟩ := rv_cells HQ0.out
        go_wp2_with fail
        refine (HD.out _).mono ?_
        rintro e w4 ⟨rfl, hc⟩
        replace HX0 := Lib.hid (HX0.out.trans hc (fun _ _ e => e))
        replace HQ0 := Lib.hid (HQ0.out.chg hc id)
        replace HR0 := Lib.hid (HR0.out.chg hc id)
        replace hN := Lib.hid (hN.out.chg hc id)
        clear hc
        clear y0 y1 y2 y3 y4 y5 y6 y7 y8
        obtain ⟨y0, y1, y2, y3, y4, y5, y6, y7, y8⟩ := rv_cells hN.out
        obtain ⟨u0, u1, u2, u3, u4, u5, u6, u7, u8⟩ := rv_free9 hN.out
        obtain ⟨-, -, -, -, -, -, -, -, -, hN2, hcs⟩ := rv_put9 hN.out z0 z1 z2 z3 z4 z5 z6 z7 z8
        replace HX0 := Lib.hid (fresh_set HX0.out hcs (by omega))
        replace HQ0 := Lib.hid (HQ0.out.chg hcs (by omega))
        replace HR0 := Lib.hid (HR0.out.chg hcs (by omega))
        replace hN := Lib.hid hN2
        clear hcs hN2
        go_upto_region 9 with fail
        generalize (((((((((w4.setCell ⟨g, 0, none⟩ (.int .i64 z0)).setCell ⟨g, 1, none⟩ (.int .u64 z1)).setCell ⟨g, 2, none⟩ (.int .i64 z2)).setCell ⟨g, 3, none⟩ (.int .i64 z3)).setCell ⟨g, 4, none⟩ (.int .i64 z4)).setCell ⟨g, 5, none⟩ (.int .i64 z5)).setCell ⟨g, 6, none⟩ (.int .i64 z6)).setCell ⟨g, 7, none⟩ (.int .i64 z7)).setCell ⟨g, 8, none⟩ (.int .i64 z8)) = w5 at *
        clear y0 y1 y2 y3 y4 y5 y6 y7 y8 u0 u1 u2 u3 u4 u5 u6 u7 u8
        obtain ⟨y0, y1, y2, y3, y4, y5, y6, y7, y8⟩ := rv_cells HQ0.out
        obtain ⟨x0, x1, x2, x3, x4, x5, x6, x7, x8⟩ := rv_cells HR0.out
        obtain ⟨u0, u1, u2, u3, u4, u5, u6, u7, u8⟩ := rv_free9 HR0.out
        obtain ⟨r0, r1, r2, r3, r4, r5, r6, r7, r8, -, hcs⟩ := rv_put9 HR0.out po ma ow ta ol ge 1 ve si
        have HF := Lib.hid (fresh_set HX0.out hcs (by omega))
        have RR := Lib.hid (And.intro r0 (And.intro r1 (And.intro r2 (And.intro r3 (And.intro r4 (And.intro r5 (And.intro r6 (And.intro r7 r8))))))))
        clear r0 r1 r2 r3 r4 r5 r6 r7 r8 hcs HR0 HX0
        go_wp2_with fail
        obtain ⟨r0, r1, r2, r3, r4, r5, r6, r7, r8⟩ := RR.out
        exact bodyPost_ret (v := .tuple #[.agg (rvC po ma ow ta ol ge 1 ve si), .bool false]) (by simp [results, Tryz.results65, go_sem, rvC, r0, r1, r2, r3, r4, r5, r6, r7, r8]) rfl ⟨rfl, HF.out⟩
      subst he
      rw [lt_yes (x := ⟨po, ma, ow, ta, ol, ge, 1, ve, si⟩) hen (by rw [hmx]; exact hl)]
      clear hen
      have HMY := Lib.hid hm
      clear hm
      clear hok hmx
      have HQ0 : Blk ((w.alloc (.cells #[.int .i64 po, .int .u64 ma, .int .i64 ow, .int .i64 ta, .int .i64 ol, .int .i64 ge, .int .i64 1, .int .i64 ve, .int .i64 si] 40)).alloc (.cells #[.int .i64 0, .int .u64 0, .int .i64 0, .int .i64 0, .int .i64 0, .int .i64 0, .int .i64 0, .int .i64 0, .int .i64 0] 40)) w.heap.size 40 (rvC po ma ow ta ol ge 1 ve si) := (Blk.alloc (blk_new rfl) _)
      replace HQ0 := Lib.hid HQ0
      have HR0 : Blk ((w.alloc (.cells #[.int .i64 po, .int .u64 ma, .int .i64 ow, .int .i64 ta, .int .i64 ol, .int .i64 ge, .int .i64 1, .int .i64 ve, .int .i64 si] 40)).alloc (.cells #[.int .i64 0, .int .u64 0, .int .i64 0, .int .i64 0, .int .i64 0, .int .i64 0, .int .i64 0, .int .i64 0, .int .i64 0] 40)) (w.heap.size + 1) 40 (rvC 0 0 0 0 0 0 0 0 0) := (blk_new (by simp))
      replace HR0 := Lib.hid HR0
      have HX0 := Lib.hid (((Chg.refl (fun _ => False) w).alloc (.cells #[.int .i64 po, .int .u64 ma, .int .i64 ow, .int .i64 ta, .int .i64 ol, .int .i64 ge, .int .i64 1, .int .i64 ve, .int .i64 si] 40)).alloc (.cells #[.int .i64 0, .int .u64 0, .int .i64 0, .int .i64 0, .int .i64 0, .int .i64 0, .int .i64 0, .int .i64 0, .int .i64 0] 40))
      go_enter Tryz.func65, Tryz.ntmps65
      go_upto_region 1 with fail
      generalize ((w.alloc (.cells #[.int .i64 po, .int .u64 ma, .int .i64 ow, .int .i64 ta, .int .i64 ol, .int .i64 ge, .int .i64 1, .int .i64 ve, .int .i64 si] 40)).alloc (.cells #[.int .i64 0, .int .u64 0, .int .i64 0, .int .i64 0, .int .i64 0, .int .i64 0, .int .i64 0, .int .i64 0, .int .i64 0] 40)) = w1 at *
      obtain ⟨y0, y1, y2, y3, y4, y5, y6, y7, y8⟩ := rv_cells HQ0.out
      go_wp2_with fail
      refine (HMY.out _).mono ?_
      rintro e w2 ⟨rfl, hc⟩
      replace HX0 := Lib.hid (HX0.out.trans hc (fun _ _ e => e))
      replace HQ0 := Lib.hid (HQ0.out.chg hc id)
      replace HR0 := Lib.hid (HR0.out.chg hc id)
      clear hc
      clear y0 y1 y2 y3 y4 y5 y6 y7 y8
      obtain ⟨y0, y1, y2, y3, y4, y5, y6, y7, y8⟩ := rv_cells HQ0.out
      go_upto_region 7 with fail
      have hN := Lib.hid (Blk.new w2 40 #[.int .i64 0, .int .u64 0, .int .i64 0, .int .i64 0, .int .i64 0, .int .i64 0, .int .i64 0, .int .i64 0, .int .i64 0])
      have hg3 : w.heap.size + 2 ≤ w2.heap.size := by have := (Blk.lt HR0.out); omega
      generalize hgn : w2.heap.size = g at *
      replace HX0 := Lib.hid (HX0.out.alloc (.cells #[.int .i64 0, .int .u64 0, .int .i64 0, .int .i64 0, .int .i64 0, .int .i64 0, .int .i64 0, .int .i64 0, .int .i64 0] 40))
      replace HR0 := Lib.hid (HR0.out.alloc (.cells #[.int .i64 0, .int .u64 0, .int .i64 0, .int .i64 0, .int .i64 0, .int .i64 0, .int .i64 0, .int .i64 0, .int .i64 0] 40))
      replace HQ0 := Lib.hid (HQ0.out.alloc (.cells #[.int .i64 0, .int .u64 0, .int .i64 0, .int .i64 0, .int .i64 0, .int .i64 0, .int .i64 0, .int .i64 0, .int .i64 0] 40))
      replace hN : Hid (Blk _ g 40 (rvC 0 0 0 0 0 0 0 0 0)) := hN
      clear hgn
      generalize w2.alloc (.cells #[.int .i64 0, .int .u64 0, .int .i64 0, .int .i64 0, .int .i64 0, .int .i64 0, .int .i64 0, .int .i64 0, .int .i64 0] 40) = w3 at *
      clear y0 y1 y2 y3 y4 y5 y6 y7 y8
      obtain ⟨y0, y1, y2, y3, y4, y5, y6, y7, y8⟩ := rv_cells HQ0.out
      go_wp2_with fail
      refine (HD.out _).mono ?_
      rintro e w4 ⟨rfl, hc⟩
      replace HX0 := Lib.hid (HX0.out.trans hc (fun _ _ e => e))
      replace HQ0 := Lib.hid (HQ0.out.chg hc id)
      replace HR0 := Lib.hid (HR0.out.chg hc id)
      replace hN := Lib.hid (hN.out.chg hc id)
      clear hc
      clear y0 y1 y2 y3 y4 y5 y6 y7 y8
      obtain ⟨y0, y1, y2, y3, y4, y5, y6, y7, y8⟩ := rv_cells hN.out
      obtain ⟨u0, u1, u2, u3, u4, u5, u6, u7, u8⟩ := rv_free9 hN.out
      obtain ⟨-, -, -, -, -, -, -, -, -, hN2, hcs⟩ := rv_put9 hN.out z0 z1 z2 z3 z4 z5 z6 z7 z8
      replace HX0 := Lib.hid (fresh_set HX0.out hcs (by omega))
      replace HQ0 := Lib.hid (HQ0.out.chg hcs (by omega))
      replace HR0 := Lib.hid (HR0.out.chg hcs (by omega))
      replace hN := Lib.hid hN2
      clear hcs hN2
      go_upto_region 9 with fail
      generalize (((((((((w4.setCell ⟨g, 0, none⟩ (.int .i64 z0)).setCell ⟨g, 1, none⟩ (.int .u64 z1)).setCell ⟨g, 2, none⟩ (.int .i64 z2)).setCell ⟨g, 3, none⟩ (.int .i64 z3)).setCell ⟨g, 4, none⟩ (.int .i64 z4)).setCell ⟨g, 5, none⟩ (.int .i64 z5)).setCell ⟨g, 6, none⟩ (.int .i64 z6)).setCell ⟨g, 7, none⟩ (.int .i64 z7)).setCell ⟨g, 8, none⟩ (.int .i64 z8)) = w5 at *
      clear y0 y1 y2 y3 y4 y5 y6 y7 y8 u0 u1 u2 u3 u4 u5 u6 u7 u8
      obtain ⟨q0, q1, q2, q3, q4, q5, q6, q7, q8⟩ := rv_cells HQ0.out
      obtain ⟨y0, y1, y2, y3, y4, y5, y6, y7, y8⟩ := rv_cells hN.out
      obtain ⟨x0, x1, x2, x3, x4, x5, x6, x7, x8⟩ := rv_cells HR0.out
      obtain ⟨u0, u1, u2, u3, u4, u5, u6, u7, u8⟩ := rv_free9 HR0.out
      obtain ⟨r0, r1, r2, r3, r4, r5, r6, r7, r8, -, hcs⟩ := rv_put9 HR0.out z0 z1 z2 z3 z4 z5 z6 z7 z8
      have HF := Lib.hid (fresh_set HX0.out hcs (by omega))
      have RR := Lib.hid (And.intro r0 (And.intro r1 (And.intro r2 (And.intro r3 (And.intro r4 (And.intro r5 (And.intro r6 (And.intro r7 r8))))))))
      clear r0 r1 r2 r3 r4 r5 r6 r7 r8 hcs HR0 HX0
      go_wp2_with fail
      obtain ⟨r0, r1, r2, r3, r4, r5, r6, r7, r8⟩ := RR.out
      exact bodyPost_ret (v := .tuple #[.agg (rvC z0 z1 z2 z3 z4 z5 z6 z7 z8), .bool true]) (by simp [results, Tryz.results65, go_sem, rvC, r0, r1, r2, r3, r4, r5, r6, r7, r8]) rfl ⟨rfl, HF.out⟩
    have t1 : (ph == 1) = false := by rw [beq_eq_false_iff_ne]; exact h1
    by_cases h2 : ph = 2
    case pos =>
      subst h2
      have hd := fun W => rcom_any po ma ow ta ol ge 2 ve si now W
      obtain ⟨z0, z1, z2, z3, z4, z5, z6, z7, z8, ze, hz⟩ := num9 (r := co9 ⟨po, ma, ow, ta, ol, ge, 2, ve, si⟩ now)
      rw [hz] at hd
      have HD : Hid (∀ W, Calls _ _ _ W (HR9 z0 z1 z2 z3 z4 z5 z6 z7 z8 ze W)) := Lib.hid hd
      clear hd
      have hen : en9 ⟨po, ma, ow, ta, ol, ge, 2, ve, si⟩ now = (⟨z0, z1, z2, z3, z4, z5, z6, z7, z8⟩, ze) := hz
      clear hz
      by_cases he : ze = 0
      case neg =>
        rw [lt_no (x := ⟨po, ma, ow, ta, ol, ge, 2, ve, si⟩) (fun h => he (by have := h.1; rw [hen] at this; exact this))]
        have te : (ze != 0) = true := by rw [bne_iff_ne]; exact he
        clear he hen
        have HMY := Lib.hid hm
        clear hm
        clear hok hmx h1
        have HQ0 : Blk ((w.alloc (.cells #[.int .i64 po, .int .u64 ma, .int .i64 ow, .int .i64 ta, .int .i64 ol, .int .i64 ge, .int .i64 2, .int .i64 ve, .int .i64 si] 40)).alloc (.cells #[.int .i64 0, .int .u64 0, .int .i64 0, .int .i64 0, .int .i64 0, .int .i64 0, .int .i64 0, .int .i64 0, .int .i64 0] 40)) w.heap.size 40 (rvC po ma ow ta ol ge 2 ve si) := (Blk.alloc (blk_new rfl) _)
        replace HQ0 := Lib.hid HQ0
        have HR0 : Blk ((w.alloc (.cells #[.int .i64 po, .int .u64 ma, .int .i64 ow, .int .i64 ta, .int .i64 ol, .int .i64 ge, .int .i64 2, .int .i64 ve, .int .i64 si] 40)).alloc (.cells #[.int .i64 0, .int .u64 0, .int .i64 0, .int .i64 0, .int .i64 0, .int .i64 0, .int .i64 0, .int .i64 0, .int .i64 0] 40)) (w.heap.size + 1) 40 (rvC 0 0 0 0 0 0 0 0 0) := (blk_new (by simp))
        replace HR0 := Lib.hid HR0
        have HX0 := Lib.hid (((Chg.refl (fun _ => False) w).alloc (.cells #[.int .i64 po, .int .u64 ma, .int .i64 ow, .int .i64 ta, .int .i64 ol, .int .i64 ge, .int .i64 2, .int .i64 ve, .int .i64 si] 40)).alloc (.cells #[.int .i64 0, .int .u64 0, .int .i64 0, .int .i64 0, .int .i64 0, .int .i64 0, .int .i64 0, .int .i64 0, .int .i64 0] 40))
        go_enter Tryz.func65, Tryz.ntmps65
        go_upto_region 1 with fail
        generalize ((w.alloc (.cells #[.int .i64 po, .int .u64 ma, .int .i64 ow, .int .i64 ta, .int .i64 ol, .int .i64 ge, .int .i64 2, .int .i64 ve, .int .i64 si] 40)).alloc (.cells #[.int .i64 0, .int .u64 0, .int .i64 0, .int .i64 0, .int .i64 0, .int .i64 0, .int .i64 0, .int .i64 0, .int .i64 0] 40)) = w1 at *
        obtain ⟨y0, y1, y2, y3, y4, y5, y6, y7, y8⟩ := rv_cells HQ0.out
        go_wp2_with fail
        refine (HMY.out _).mono ?_
        rintro e w2 ⟨rfl, hc⟩
        replace HX0 := Lib.hid (HX0.out.trans hc (fun _ _ e => e))
        replace HQ0 := Lib.hid (HQ0.out.chg hc id)
        replace HR0 := Lib.hid (HR0.out.chg hc id)
        clear hc
        clear y0 y1 y2 y3 y4 y5 y6 y7 y8
        obtain ⟨y0, y1, y2, y3, y4, y5, y6, y7, y8⟩ := rv_cells HQ0.out
        go_upto_region 7 with fail
        have hN := Lib.hid (Blk.new w2 40 #[.int .i64 0, .int .u64 0, .int .i64 0, .int .i64 0, .int .i64 0, .int .i64 0, .int .i64 0, .int .i64 0, .int .i64 0])
        have hg3 : w.heap.size + 2 ≤ w2.heap.size := by have := (Blk.lt HR0.out); omega
        generalize hgn : w2.heap.size = g at *
        replace HX0 := Lib.hid (HX0.out.alloc (.cells #[.int .i64 0, .int .u64 0, .int .i64 0, .int .i64 0, .int .i64 0, .int .i64 0, .int .i64 0, .int .i64 0, .int .i64 0] 40))
        replace HR0 := Lib.hid (HR0.out.alloc (.cells #[.int .i64 0, .int .u64 0, .int .i64 0, .int .i64 0, .int .i64 0, .int .i64 0, .int .i64 0, .int .i64 0, .int .i64 0] 40))
        replace HQ0 := Lib.hid (HQ0.out.alloc (.cells #[.int .i64 0, .int .u64 0, .int .i64 0, .int .i64 0, .int .i64 0, .int .i64 0, .int .i64 0, .int .i64 0, .int .i64 0] 40))
        replace hN : Hid (Blk _ g 40 (rvC 0 0 0 0 0 0 0 0 0)) := hN
        clear hgn
        generalize w2.alloc (.cells #[.int .i64 0, .int .u64 0, .int .i64 0, .int .i64 0, .int .i64 0, .int .i64 0, .int .i64 0, .int .i64 0, .int .i64 0] 40) = w3 at *
        clear y0 y1 y2 y3 y4 y5 y6 y7 y8
        obtain ⟨y0, y1, y2, y3, y4, y5, y6, y7, y8⟩ := rv_cells HQ0.out
        go_wp2_with fail
        refine (HD.out _).mono ?_
        rintro e w4 ⟨rfl, hc⟩
        replace HX0 := Lib.hid (HX0.out.trans hc (fun _ _ e => e))
        replace HQ0 := Lib.hid (HQ0.out.chg hc id)
        replace HR0 := Lib.hid (HR0.out.chg hc id)
        replace hN := Lib.hid (hN.out.chg hc id)
        clear hc
        clear y0 y1 y2 y3 y4 y5 y6 y7 y8
        obtain ⟨y0, y1, y2, y3, y4, y5, y6, y7, y8⟩ := rv_cells hN.out
        obtain ⟨u0, u1, u2, u3, u4, u5, u6, u7, u8⟩ := rv_free9 hN.out
        obtain ⟨-, -, -, -, -, -, -, -, -, hN2, hcs⟩ := rv_put9 hN.out z0 z1 z2 z3 z4 z5 z6 z7 z8
        replace HX0 := Lib.hid (fresh_set HX0.out hcs (by omega))
        replace HQ0 := Lib.hid (HQ0.out.chg hcs (by omega))
        replace HR0 := Lib.hid (HR0.out.chg hcs (by omega))
        replace hN := Lib.hid hN2
        clear hcs hN2
        go_upto_region 11 with fail
        generalize (((((((((w4.setCell ⟨g, 0, none⟩ (.int .i64 z0)).setCell ⟨g, 1, none⟩ (.int .u64 z1)).setCell ⟨g, 2, none⟩ (.int .i64 z2)).setCell ⟨g, 3, none⟩ (.int .i64 z3)).setCell ⟨g, 4, none⟩ (.int .i64 z4)).setCell ⟨g, 5, none⟩ (.int .i64 z5)).setCell ⟨g, 6, none⟩ (.int .i64 z6)).setCell ⟨g, 7, none⟩ (.int .i64 z7)).setCell ⟨g, 8, none⟩ (.int .i64 z8)) = w5 at *
        clear y0 y1 y2 y3 y4 y5 y6 y7 y8 u0 u1 u2 u3 u4 u5 u6 u7 u8
        obtain ⟨y0, y1, y2, y3, y4, y5, y6, y7, y8⟩ := rv_cells HQ0.out
        obtain ⟨x0, x1, x2, x3, x4, x5, x6, x7, x8⟩ := rv_cells HR0.out
        obtain ⟨u0, u1, u2, u3, u4, u5, u6, u7, u8⟩ := rv_free9 HR0.out
        obtain ⟨r0, r1, r2, r3, r4, r5, r6, r7, r8, -, hcs⟩ := rv_put9 HR0.out po ma ow ta ol ge 2 ve si
        have HF := Lib.hid (fresh_set HX0.out hcs (by omega))
        have RR := Lib.hid (And.intro r0 (And.intro r1 (And.intro r2 (And.intro r3 (And.intro r4 (And.intro r5 (And.intro r6 (And.intro r7 r8))))))))
        clear r0 r1 r2 r3 r4 r5 r6 r7 r8 hcs HR0 HX0
        go_wp2_with fail
        obtain ⟨r0, r1, r2, r3, r4, r5, r6, r7, r8⟩ := RR.out
        exact bodyPost_ret (v := .tuple #[.agg (rvC po ma ow ta ol ge 2 ve si), .bool false]) (by simp [results, Tryz.results65, go_sem, rvC, r0, r1, r2, r3, r4, r5, r6, r7, r8]) rfl ⟨rfl, HF.out⟩
      subst he
      rw [lt_yes (x := ⟨po, ma, ow, ta, ol, ge, 2, ve, si⟩) hen (by rw [hmx]; exact hl)]
      clear hen
      have HMY := Lib.hid hm
      clear hm
      clear hok hmx h1
      have HQ0 : Blk ((w.alloc (.cells #[.int .i64 po, .int .u64 ma, .int .i64 ow, .int .i64 ta, .int .i64 ol, .int .i64 ge, .int .i64 2, .int .i64 ve, .int .i64 si] 40)).alloc (.cells #[.int .i64 0, .int .u64 0, .int .i64 0, .int .i64 0, .int .i64 0, .int .i64 0, .int .i64 0, .int .i64 0, .int .i64 0] 40)) w.heap.size 40 (rvC po ma ow ta ol ge 2 ve si) := (Blk.alloc (blk_new rfl) _)
      replace HQ0 := Lib.hid HQ0
      have HR0 : Blk ((w.alloc (.cells #[.int .i64 po, .int .u64 ma, .int .i64 ow, .int .i64 ta, .int .i64 ol, .int .i64 ge, .int .i64 2, .int .i64 ve, .int .i64 si] 40)).alloc (.cells #[.int .i64 0, .int .u64 0, .int .i64 0, .int .i64 0, .int .i64 0, .int .i64 0, .int .i64 0, .int .i64 0, .int .i64 0] 40)) (w.heap.size + 1) 40 (rvC 0 0 0 0 0 0 0 0 0) := (blk_new (by simp))
      replace HR0 := Lib.hid HR0
      have HX0 := Lib.hid (((Chg.refl (fun _ => False) w).alloc (.cells #[.int .i64 po, .int .u64 ma, .int .i64 ow, .int .i64 ta, .int .i64 ol, .int .i64 ge, .int .i64 2, .int .i64 ve, .int .i64 si] 40)).alloc (.cells #[.int .i64 0, .int .u64 0, .int .i64 0, .int .i64 0, .int .i64 0, .int .i64 0, .int .i64 0, .int .i64 0, .int .i64 0] 40))
      go_enter Tryz.func65, Tryz.ntmps65
      go_upto_region 1 with fail
      generalize ((w.alloc (.cells #[.int .i64 po, .int .u64 ma, .int .i64 ow, .int .i64 ta, .int .i64 ol, .int .i64 ge, .int .i64 2, .int .i64 ve, .int .i64 si] 40)).alloc (.cells #[.int .i64 0, .int .u64 0, .int .i64 0, .int .i64 0, .int .i64 0, .int .i64 0, .int .i64 0, .int .i64 0, .int .i64 0] 40)) = w1 at *
      obtain ⟨y0, y1, y2, y3, y4, y5, y6, y7, y8⟩ := rv_cells HQ0.out
      go_wp2_with fail
      refine (HMY.out _).mono ?_
      rintro e w2 ⟨rfl, hc⟩
      replace HX0 := Lib.hid (HX0.out.trans hc (fun _ _ e => e))
      replace HQ0 := Lib.hid (HQ0.out.chg hc id)
      replace HR0 := Lib.hid (HR0.out.chg hc id)
      clear hc
      clear y0 y1 y2 y3 y4 y5 y6 y7 y8
      obtain ⟨y0, y1, y2, y3, y4, y5, y6, y7, y8⟩ := rv_cells HQ0.out
      go_upto_region 7 with fail
      have hN := Lib.hid (Blk.new w2 40 #[.int .i64 0, .int .u64 0, .int .i64 0, .int .i64 0, .int .i64 0, .int .i64 0, .int .i64 0, .int .i64 0, .int .i64 0])
      have hg3 : w.heap.size + 2 ≤ w2.heap.size := by have := (Blk.lt HR0.out); omega
      generalize hgn : w2.heap.size = g at *
      replace HX0 := Lib.hid (HX0.out.alloc (.cells #[.int .i64 0, .int .u64 0, .int .i64 0, .int .i64 0, .int .i64 0, .int .i64 0, .int .i64 0, .int .i64 0, .int .i64 0] 40))
      replace HR0 := Lib.hid (HR0.out.alloc (.cells #[.int .i64 0, .int .u64 0, .int .i64 0, .int .i64 0, .int .i64 0, .int .i64 0, .int .i64 0, .int .i64 0, .int .i64 0] 40))
      replace HQ0 := Lib.hid (HQ0.out.alloc (.cells #[.int .i64 0, .int .u64 0, .int .i64 0, .int .i64 0, .int .i64 0, .int .i64 0, .int .i64 0, .int .i64 0, .int .i64 0] 40))
      replace hN : Hid (Blk _ g 40 (rvC 0 0 0 0 0 0 0 0 0)) := hN
      clear hgn
      generalize w2.alloc (.cells #[.int .i64 0, .int .u64 0, .int .i64 0, .int .i64 0, .int .i64 0, .int .i64 0, .int .i64 0, .int .i64 0, .int .i64 0] 40) = w3 at *
      clear y0 y1 y2 y3 y4 y5 y6 y7 y8
      obtain ⟨y0, y1, y2, y3, y4, y5, y6, y7, y8⟩ := rv_cells HQ0.out
      go_wp2_with fail
      refine (HD.out _).mono ?_
      rintro e w4 ⟨rfl, hc⟩
      replace HX0 := Lib.hid (HX0.out.trans hc (fun _ _ e => e))
      replace HQ0 := Lib.hid (HQ0.out.chg hc id)
      replace HR0 := Lib.hid (HR0.out.chg hc id)
      replace hN := Lib.hid (hN.out.chg hc id)
      clear hc
      clear y0 y1 y2 y3 y4 y5 y6 y7 y8
      obtain ⟨y0, y1, y2, y3, y4, y5, y6, y7, y8⟩ := rv_cells hN.out
      obtain ⟨u0, u1, u2, u3, u4, u5, u6, u7, u8⟩ := rv_free9 hN.out
      obtain ⟨-, -, -, -, -, -, -, -, -, hN2, hcs⟩ := rv_put9 hN.out z0 z1 z2 z3 z4 z5 z6 z7 z8
      replace HX0 := Lib.hid (fresh_set HX0.out hcs (by omega))
      replace HQ0 := Lib.hid (HQ0.out.chg hcs (by omega))
      replace HR0 := Lib.hid (HR0.out.chg hcs (by omega))
      replace hN := Lib.hid hN2
      clear hcs hN2
      go_upto_region 11 with fail
      generalize (((((((((w4.setCell ⟨g, 0, none⟩ (.int .i64 z0)).setCell ⟨g, 1, none⟩ (.int .u64 z1)).setCell ⟨g, 2, none⟩ (.int .i64 z2)).setCell ⟨g, 3, none⟩ (.int .i64 z3)).setCell ⟨g, 4, none⟩ (.int .i64 z4)).setCell ⟨g, 5, none⟩ (.int .i64 z5)).setCell ⟨g, 6, none⟩ (.int .i64 z6)).setCell ⟨g, 7, none⟩ (.int .i64 z7)).setCell ⟨g, 8, none⟩ (.int .i64 z8)) = w5 at *
      clear y0 y1 y2 y3 y4 y5 y6 y7 y8 u0 u1 u2 u3 u4 u5 u6 u7 u8
      obtain ⟨q0, q1, q2, q3, q4, q5, q6, q7, q8⟩ := rv_cells HQ0.out
      obtain ⟨y0, y1, y2, y3, y4, y5, y6, y7, y8⟩ := rv_cells hN.out
      obtain ⟨x0, x1, x2, x3, x4, x5, x6, x7, x8⟩ := rv_cells HR0.out
      obtain ⟨u0, u1, u2, u3, u4, u5, u6, u7, u8⟩ := rv_free9 HR0.out
      obtain ⟨r0, r1, r2, r3, r4, r5, r6, r7, r8, -, hcs⟩ := rv_put9 HR0.out z0 z1 z2 z3 z4 z5 z6 z7 z8
      have HF := Lib.hid (fresh_set HX0.out hcs (by omega))
      have RR := Lib.hid (And.intro r0 (And.intro r1 (And.intro r2 (And.intro r3 (And.intro r4 (And.intro r5 (And.intro r6 (And.intro r7 r8))))))))
      clear r0 r1 r2 r3 r4 r5 r6 r7 r8 hcs HR0 HX0
      go_wp2_with fail
      obtain ⟨r0, r1, r2, r3, r4, r5, r6, r7, r8⟩ := RR.out
      exact bodyPost_ret (v := .tuple #[.agg (rvC z0 z1 z2 z3 z4 z5 z6 z7 z8), .bool true]) (by simp [results, Tryz.results65, go_sem, rvC, r0, r1, r2, r3, r4, r5, r6, r7, r8]) rfl ⟨rfl, HF.out⟩
    have t2 : (ph == 2) = false := by rw [beq_eq_false_iff_ne]; exact h2
    rw [lt_no (x := ⟨po, ma, ow, ta, ol, ge, ph, ve, si⟩) (fun h => by have h3 : (en9 ⟨po, ma, ow, ta, ol, ge, ph, ve, si⟩ now).2 = 0 := h.1; rw [show en9 ⟨po, ma, ow, ta, ol, ge, ph, ve, si⟩ now = ab9 ⟨po, ma, ow, ta, ol, ge, ph, ve, si⟩ now from if_neg h2, show ab9 ⟨po, ma, ow, ta, ol, ge, ph, ve, si⟩ now = fin9 ⟨po, ma, ow, ta, ol, ge, ph, ve, si⟩ now true (abA ⟨po, ma, ow, ta, ol, ge, ph, ve, si⟩) from rfl, show abA ⟨po, ma, ow, ta, ol, ge, ph, ve, si⟩ = (⟨po, ma, ow, ta, ol, ge, ph, ve, si⟩, 8) from by simp [abA, h1], fin_er (x := ⟨po, ma, ow, ta, ol, ge, ph, ve, si⟩) hok (by decide)] at h3; exact absurd h3 (by decide))]
    have HMY := Lib.hid hm
    clear hm
    clear hok hmx h1 h2
    have HQ0 : Blk ((w.alloc (.cells #[.int .i64 po, .int .u64 ma, .int .i64 ow, .int .i64 ta, .int .i64 ol, .int .i64 ge, .int .i64 ph, .int .i64 ve, .int .i64 si] 40)).alloc (.cells #[.int .i64 0, .int .u64 0, .int .i64 0, .int .i64 0, .int .i64 0, .int .i64 0, .int .i64 0, .int .i64 0, .int .i64 0] 40)) w.heap.size 40 (rvC po ma ow ta ol ge ph ve si) := (Blk.alloc (blk_new rfl) _)
    replace HQ0 := Lib.hid HQ0
    have HR0 : Blk ((w.alloc (.cells #[.int .i64 po, .int .u64 ma, .int .i64 ow, .int .i64 ta, .int .i64 ol, .int .i64 ge, .int .i64 ph, .int .i64 ve, .int .i64 si] 40)).alloc (.cells #[.int .i64 0, .int .u64 0, .int .i64 0, .int .i64 0, .int .i64 0, .int .i64 0, .int .i64 0, .int .i64 0, .int .i64 0] 40)) (w.heap.size + 1) 40 (rvC 0 0 0 0 0 0 0 0 0) := (blk_new (by simp))
    replace HR0 := Lib.hid HR0
    have HX0 := Lib.hid (((Chg.refl (fun _ => False) w).alloc (.cells #[.int .i64 po, .int .u64 ma, .int .i64 ow, .int .i64 ta, .int .i64 ol, .int .i64 ge, .int .i64 ph, .int .i64 ve, .int .i64 si] 40)).alloc (.cells #[.int .i64 0, .int .u64 0, .int .i64 0, .int .i64 0, .int .i64 0, .int .i64 0, .int .i64 0, .int .i64 0, .int .i64 0] 40))
    go_enter Tryz.func65, Tryz.ntmps65
    go_upto_region 1 with fail
    generalize ((w.alloc (.cells #[.int .i64 po, .int .u64 ma, .int .i64 ow, .int .i64 ta, .int .i64 ol, .int .i64 ge, .int .i64 ph, .int .i64 ve, .int .i64 si] 40)).alloc (.cells #[.int .i64 0, .int .u64 0, .int .i64 0, .int .i64 0, .int .i64 0, .int .i64 0, .int .i64 0, .int .i64 0, .int .i64 0] 40)) = w1 at *
    obtain ⟨y0, y1, y2, y3, y4, y5, y6, y7, y8⟩ := rv_cells HQ0.out
    go_wp2_with fail
    refine (HMY.out _).mono ?_
    rintro e w2 ⟨rfl, hc⟩
    replace HX0 := Lib.hid (HX0.out.trans hc (fun _ _ e => e))
    replace HQ0 := Lib.hid (HQ0.out.chg hc id)
    replace HR0 := Lib.hid (HR0.out.chg hc id)
    clear hc
    clear y0 y1 y2 y3 y4 y5 y6 y7 y8
    obtain ⟨y0, y1, y2, y3, y4, y5, y6, y7, y8⟩ := rv_cells HQ0.out
    go_upto_region 7 with fail
    have hN := Lib.hid (Blk.new w2 40 #[.int .i64 0, .int .u64 0, .int .i64 0, .int .i64 0, .int .i64 0, .int .i64 0, .int .i64 0, .int .i64 0, .int .i64 0])
    have hg3 : w.heap.size + 2 ≤ w2.heap.size := by have := (Blk.lt HR0.out); omega
    generalize hgn : w2.heap.size = g at *
    replace HX0 := Lib.hid (HX0.out.alloc (.cells #[.int .i64 0, .int .u64 0, .int .i64 0, .int .i64 0, .int .i64 0, .int .i64 0, .int .i64 0, .int .i64 0, .int .i64 0] 40))
    replace HR0 := Lib.hid (HR0.out.alloc (.cells #[.int .i64 0, .int .u64 0, .int .i64 0, .int .i64 0, .int .i64 0, .int .i64 0, .int .i64 0, .int .i64 0, .int .i64 0] 40))
    replace HQ0 := Lib.hid (HQ0.out.alloc (.cells #[.int .i64 0, .int .u64 0, .int .i64 0, .int .i64 0, .int .i64 0, .int .i64 0, .int .i64 0, .int .i64 0, .int .i64 0] 40))
    replace hN : Hid (Blk _ g 40 (rvC 0 0 0 0 0 0 0 0 0)) := hN
    clear hgn
    generalize w2.alloc (.cells #[.int .i64 0, .int .u64 0, .int .i64 0, .int .i64 0, .int .i64 0, .int .i64 0, .int .i64 0, .int .i64 0, .int .i64 0] 40) = w3 at *
    clear y0 y1 y2 y3 y4 y5 y6 y7 y8
    obtain ⟨y0, y1, y2, y3, y4, y5, y6, y7, y8⟩ := rv_cells HQ0.out
    obtain ⟨x0, x1, x2, x3, x4, x5, x6, x7, x8⟩ := rv_cells HR0.out
    obtain ⟨u0, u1, u2, u3, u4, u5, u6, u7, u8⟩ := rv_free9 HR0.out
    obtain ⟨r0, r1, r2, r3, r4, r5, r6, r7, r8, -, hcs⟩ := rv_put9 HR0.out po ma ow ta ol ge ph ve si
    have HF := Lib.hid (fresh_set HX0.out hcs (by omega))
    have RR := Lib.hid (And.intro r0 (And.intro r1 (And.intro r2 (And.intro r3 (And.intro r4 (And.intro r5 (And.intro r6 (And.intro r7 r8))))))))
    clear r0 r1 r2 r3 r4 r5 r6 r7 r8 hcs HR0 HX0
    go_wp2_with fail
    obtain ⟨r0, r1, r2, r3, r4, r5, r6, r7, r8⟩ := RR.out
    exact bodyPost_ret (v := .tuple #[.agg (rvC po ma ow ta ol ge ph ve si), .bool false]) (by simp [results, Tryz.results65, go_sem, rvC, r0, r1, r2, r3, r4, r5, r6, r7, r8]) rfl ⟨rfl, HF.out⟩

theorem rlate_any (po ma ow ta ol ge ph ve si now span : Int) (w : World) (hsp : -9223372036854775808 ≤ span ∧ span ≤ 9223372036854775807) : Calls Tryz.prog 65 #[.agg #[.int .i64 po, .int .u64 ma, .int .i64 ow, .int .i64 ta, .int .i64 ol, .int .i64 ge, .int .i64 ph, .int .i64 ve, .int .i64 si], .int .i64 now, .int .i64 span] w (HB (lt9 ⟨po, ma, ow, ta, ol, ge, ph, ve, si⟩ now span) w) := by
  by_cases hs : 0 ≤ span
  · exact rlate_p po ma ow ta ol ge ph ve si now span w hsp hs
  · exact rlate_n po ma ow ta ol ge ph ve si now span w hsp hs

end Go.Proofs.YtimgnogacanifaaGreat
