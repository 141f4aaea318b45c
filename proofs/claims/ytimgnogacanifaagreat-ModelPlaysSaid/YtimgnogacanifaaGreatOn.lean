/-
  Walks: the document's Commit; phase.ended, Late; the document's Late. Conditions of the Lates: the span is an int.
-/
import Derived.Test.YtimgnogacanifaaGreatOl
import Derived.Test.YtimgnogacanifaaGreatM7
namespace Go.Proofs.YtimgnogacanifaaGreat
open Go.RowKit
set_option linter.unusedVariables false

set_option maxRecDepth 100000 in
set_option maxHeartbeats 4000000 in
theorem rcom_any (po ma ow ta ol ge ph ve si now : Int) (w : World) : Calls Tryz.prog 92 #[.agg #[.int .i64 po, .int .u64 ma, .int .i64 ow, .int .i64 ta, .int .i64 ol, .int .i64 ge, .int .i64 ph, .int .i64 ve, .int .i64 si], .int .i64 now] w (HR (co9 ⟨po, ma, ow, ta, ol, ge, ph, ve, si⟩ now) w) := by
  have hm := fun W => rmay_any po ma ow ta ol ge ph ve si now W
  cases hok : rwR po ma ow ta ol ge ph ve si && tm9 now with
  | false =>
    rw [hok] at hm
    rw [show co9 ⟨po, ma, ow, ta, ol, ge, ph, ve, si⟩ now = (z9, 1) from fin_no hok]
    have HMY := Lib.hid hm
    clear hm
    clear hok
    have HQ0 : Blk ((w.alloc (.cells #[.int .i64 po, .int .u64 ma, .int .i64 ow, .int .i64 ta, .int .i64 ol, .int .i64 ge, .int .i64 ph, .int .i64 ve, .int .i64 si] 40)).alloc (.cells #[.int .i64 0, .int .u64 0, .int .i64 0, .int .i64 0, .int .i64 0, .int .i64 0, .int .i64 0, .int .i64 0, .int .i64 0] 40)) w.heap.size 40 (rvC po ma ow ta ol ge ph ve si) := (Blk.alloc (blk_new rfl) _)
    replace HQ0 := Lib.hid HQ0
    have HR0 : Blk ((w.alloc (.cells #[.int .i64 po, .int .u64 ma, .int .i64 ow, .int .i64 ta, .int .i64 ol, .int .i64 ge, .int .i64 ph, .int .i64 ve, .int .i64 si] 40)).alloc (.cells #[.int .i64 0, .int .u64 0, .int .i64 0, .int .i64 0, .int .i64 0, .int .i64 0, .int .i64 0, .int .i64 0, .int .i64 0] 40)) (w.heap.size + 1) 40 (rvC 0 0 0 0 0 0 0 0 0) := (blk_new (by simp))
    replace HR0 := Lib.hid HR0
    have HX0 := Lib.hid (((Chg.refl (fun _ => False) w).alloc (.cells #[.int .i64 po, .int .u64 ma, .int .i64 ow, .int .i64 ta, .int .i64 ol, .int .i64 ge, .int .i64 ph, .int .i64 ve, .int .i64 si] 40)).alloc (.cells #[.int .i64 0, .int .u64 0, .int .i64 0, .int .i64 0, .int .i64 0, .int .i64 0, .int .i64 0, .int .i64 0, .int .i64 0] 40))
    go_enter Tryz.func92, Tryz.ntmps92
    go_upto_region 1 with fail
    generalize ((w.alloc (.cells #[.int .i64 po, .int .u64 ma, .int .i64 ow, .int .i64 ta, .int .i64 ol, .int .i64 ge, .int .i64 ph, .int .i64 ve, .int .i64 si] 40)).alloc (.cells #[.int .i64 0, .int .u64 0, .int .i64 0, .int .i64 0, .int .i64 0, .int .i64 0, .int .i64 0, .int .i64 0, .int .i64 0] 40)) = w1 at *
    obtain ⟨y0, y1, y2, y3, y4, y5, y6, y7, y8⟩ := rv_cells HQ0.out
    go_wp2_with fail
    refine (HMY.out _).mono ?_
    rintro e w2 ⟨rfl, hc⟩
    replace HX0 := Lib.hid (HX0.out.trans hc (fun _ _ e => e))
    replace HQ0 := Lib.hid (HQ0.out.chg hc id)
    replace HR0 := Lib.hid (HR0.out.chg hc id)
    clear hc
    clear y0 y1 y2 y3 y4 y5 y6 y7 y8
    obtain ⟨y0, y1, y2, y3, y4, y5, y6, y7, y8⟩ := rv_cells HQ0.out
    obtain ⟨x0, x1, x2, x3, x4, x5, x6, x7, x8⟩ := rv_cells HR0.out
    obtain ⟨u0, u1, u2, u3, u4, u5, u6, u7, u8⟩ := rv_free9 HR0.out
    obtain ⟨r0, r1, r2, r3, r4, r5, r6, r7, r8, -, hcs⟩ := rv_put9 HR0.out 0 0 0 0 0 0 0 0 0
    have HF := Lib.hid (fresh_set HX0.out hcs (by omega))
    have RR := Lib.hid (And.intro r0 (And.intro r1 (And.intro r2 (And.intro r3 (And.intro r4 (And.intro r5 (And.intro r6 (And.intro r7 r8))))))))
    clear r0 r1 r2 r3 r4 r5 r6 r7 r8 hcs HR0 HX0
    go_wp2_with fail
    obtain ⟨r0, r1, r2, r3, r4, r5, r6, r7, r8⟩ := RR.out
    exact bodyPost_ret (v := .tuple #[.agg (rvC 0 0 0 0 0 0 0 0 0), .int .i64 1]) (by simp [results, Tryz.results92, go_sem, rvC, r0, r1, r2, r3, r4, r5, r6, r7, r8]) rfl ⟨rfl, HF.out⟩
  | true =>
    have hb := ok_bounds ((Bool.and_eq_true _ _ ▸ hok : rwR po ma ow ta ol ge ph ve si = true ∧ tm9 now = true).1)
    rw [hok] at hm
    have hN : co9 ⟨po, ma, ow, ta, ol, ge, ph, ve, si⟩ now = fin9 ⟨po, ma, ow, ta, ol, ge, ph, ve, si⟩ now true (coA ⟨po, ma, ow, ta, ol, ge, ph, ve, si⟩) := rfl
    by_cases h1 : ph = 1
    case pos =>
      subst h1
      rw [hN, show coA ⟨po, ma, ow, ta, ol, ge, 1, ve, si⟩ = (arr9 ⟨po, ma, ow, ta, ol, ge, 1, ve, si⟩, 0) from rfl, fin_yes (x := ⟨po, ma, ow, ta, ol, ge, 1, ve, si⟩) hok]
      have hd := fun W => rmoved_any po ma ow ta ol ge 1 ve si now W (by omega) hb.2.2.2.1
      change Calls _ _ _ _ (HR (chk9 ⟨po, ma, ta, -1, ow, ge + 1, 2, ve + 1, now⟩) w)
      obtain ⟨z0, z1, z2, z3, z4, z5, z6, z7, z8, ze, hz⟩ := num9 (r := chk9 ⟨po, ma, ta, -1, ow, ge + 1, 2, ve + 1, now⟩)
      rw [hz] at hd ⊢
      have HD : Hid (∀ W, Calls _ _ _ W (HR9 z0 z1 z2 z3 z4 z5 z6 z7 z8 ze W)) := Lib.hid hd
      clear hd hz
      have HMY := Lib.hid hm
      clear hm
      clear hok hN
      have HQ0 : Blk ((w.alloc (.cells #[.int .i64 po, .int .u64 ma, .int .i64 ow, .int .i64 ta, .int .i64 ol, .int .i64 ge, .int .i64 1, .int .i64 ve, .int .i64 si] 40)).alloc (.cells #[.int .i64 0, .int .u64 0, .int .i64 0, .int .i64 0, .int .i64 0, .int .i64 0, .int .i64 0, .int .i64 0, .int .i64 0] 40)) w.heap.size 40 (rvC po ma ow ta ol ge 1 ve si) := (Blk.alloc (blk_new rfl) _)
      replace HQ0 := Lib.hid HQ0
      have HR0 : Blk ((w.alloc (.cells #[.int .i64 po, .int .u64 ma, .int .i64 ow, .int .i64 ta, .int .i64 ol, .int .i64 ge, .int .i64 1, .int .i64 ve, .int .i64 si] 40)).alloc (.cells #[.int .i64 0, .int .u64 0, .int .i64 0, .int .i64 0, .int .i64 0, .int .i64 0, .int .i64 0, .int .i64 0, .int .i64 0] 40)) (w.heap.size + 1) 40 (rvC 0 0 0 0 0 0 0 0 0) := (blk_new (by simp))
      replace HR0 := Lib.hid HR0
      have HX0 := Lib.hid (((Chg.refl (fun _ => False) w).alloc (.cells #[.int .i64 po, .int .u64 ma, .int .i64 ow, .int .i64 ta, .int .i64 ol, .int .i64 ge, .int .i64 1, .int .i64 ve, .int .i64 si] 40)).alloc (.cells #[.int .i64 0, .int .u64 0, .int .i64 0, .int .i64 0, .int .i64 0, .int .i64 0, .int .i64 0, .int .i64 0, .int .i64 0] 40))
      go_enter Tryz.func92, Tryz.ntmps92
      go_upto_region 1 with fail
      generalize ((w.alloc (.cells #[.int .i64 po, .int .u64 ma, .int .i64 ow, .int .i64 ta, .int .i64 ol, .int .i64 ge, .int .i64 1, .int .i64 ve, .int .i64 si] 40)).alloc (.cells #[.int .i64 0, .int .u64 0, .int .i64 0, .int .i64 0, .int .i64 0, .int .i64 0, .int .i64 0, .int .i64 0, .int .i64 0] 40)) = w1 at *
      obtain ⟨y0, y1, y2, y3, y4, y5, y6, y7, y8⟩ := rv_cells HQ0.out
      go_wp2_with fail
      refine (HMY.out _).mono ?_
      rintro e w2 ⟨rfl, hc⟩
      replace HX0 := Lib.hid (HX0.out.trans hc (fun _ _ e => e))
      replace HQ0 := Lib.hid (HQ0.out.chg hc id)
      replace HR0 := Lib.hid (HR0.out.chg hc id)
      clear hc
      clear y0 y1 y2 y3 y4 y5 y6 y7 y8
      obtain ⟨y0, y1, y2, y3, y4, y5, y6, y7, y8⟩ := rv_cells HQ0.out
      go_wp2_with fail
      refine (HD.out _).mono ?_
      rintro e w4 ⟨rfl, hc⟩
      replace HX0 := Lib.hid (HX0.out.trans hc (fun _ _ e => e))
      replace HQ0 := Lib.hid (HQ0.out.chg hc id)
      replace HR0 := Lib.hid (HR0.out.chg hc id)
      clear hc
      clear y0 y1 y2 y3 y4 y5 y6 y7 y8
      obtain ⟨x0, x1, x2, x3, x4, x5, x6, x7, x8⟩ := rv_cells HR0.out
      obtain ⟨u0, u1, u2, u3, u4, u5, u6, u7, u8⟩ := rv_free9 HR0.out
      obtain ⟨r0, r1, r2, r3, r4, r5, r6, r7, r8, -, hcs⟩ := rv_put9 HR0.out z0 z1 z2 z3 z4 z5 z6 z7 z8
      have HF := Lib.hid (fresh_set HX0.out hcs (by omega))
      have RR := Lib.hid (And.intro r0 (And.intro r1 (And.intro r2 (And.intro r3 (And.intro r4 (And.intro r5 (And.intro r6 (And.intro r7 r8))))))))
      clear r0 r1 r2 r3 r4 r5 r6 r7 r8 hcs HR0 HX0
      go_wp2_with fail
      obtain ⟨r0, r1, r2, r3, r4, r5, r6, r7, r8⟩ := RR.out
      exact bodyPost_ret (v := .tuple #[.agg (rvC z0 z1 z2 z3 z4 z5 z6 z7 z8), .int .i64 ze]) (by simp [results, Tryz.results92, go_sem, rvC, r0, r1, r2, r3, r4, r5, r6, r7, r8]) rfl ⟨rfl, HF.out⟩
    by_cases h2 : ph = 2
    case pos =>
      subst h2
      rw [hN, show coA ⟨po, ma, ow, ta, ol, ge, 2, ve, si⟩ = (⟨po, ma, ow, ta, -1, ge, 0, ve, si⟩, 0) from rfl, fin_yes (x := ⟨po, ma, ow, ta, ol, ge, 2, ve, si⟩) hok]
      have hd := fun W => rnext_any po ma ow ta (-1) ge 0 ve si now W (by omega)
      change Calls _ _ _ _ (HR (chk9 ⟨po, ma, ow, ta, -1, ge, 0, ve + 1, now⟩) w)
      obtain ⟨z0, z1, z2, z3, z4, z5, z6, z7, z8, ze, hz⟩ := num9 (r := chk9 ⟨po, ma, ow, ta, -1, ge, 0, ve + 1, now⟩)
      rw [hz] at hd ⊢
      have HD : Hid (∀ W, Calls _ _ _ W (HR9 z0 z1 z2 z3 z4 z5 z6 z7 z8 ze W)) := Lib.hid hd
      clear hd hz
      have HMY := Lib.hid hm
      clear hm
      clear hok hN h1
      have HQ0 : Blk ((w.alloc (.cells #[.int .i64 po, .int .u64 ma, .int .i64 ow, .int .i64 ta, .int .i64 ol, .int .i64 ge, .int .i64 2, .int .i64 ve, .int .i64 si] 40)).alloc (.cells #[.int .i64 0, .int .u64 0, .int .i64 0, .int .i64 0, .int .i64 0, .int .i64 0, .int .i64 0, .int .i64 0, .int .i64 0] 40)) w.heap.size 40 (rvC po ma ow ta ol ge 2 ve si) := (Blk.alloc (blk_new rfl) _)
      replace HQ0 := Lib.hid HQ0
      have HR0 : Blk ((w.alloc (.cells #[.int .i64 po, .int .u64 ma, .int .i64 ow, .int .i64 ta, .int .i64 ol, .int .i64 ge, .int .i64 2, .int .i64 ve, .int .i64 si] 40)).alloc (.cells #[.int .i64 0, .int .u64 0, .int .i64 0, .int .i64 0, .int .i64 0, .int .i64 0, .int .i64 0, .int .i64 0, .int .i64 0] 40)) (w.heap.size + 1) 40 (rvC 0 0 0 0 0 0 0 0 0) := (blk_new (by simp))
      replace HR0 := Lib.hid HR0
      have HX0 := Lib.hid (((Chg.refl (fun _ => False) w).alloc (.cells #[.int .i64 po, .int .u64 ma, .int .i64 ow, .int .i64 ta, .int .i64 ol, .int .i64 ge, .int .i64 2, .int .i64 ve, .int .i64 si] 40)).alloc (.cells #[.int .i64 0, .int .u64 0, .int .i64 0, .int .i64 0, .int .i64 0, .int .i64 0, .int .i64 0, .int .i64 0, .int .i64 0] 40))
      go_enter Tryz.func92, Tryz.ntmps92
      go_upto_region 1 with fail
      generalize ((w.alloc (.cells #[.int .i64 po, .int .u64 ma, .int .i64 ow, .int .i64 ta, .int .i64 ol, .int .i64 ge, .int .i64 2, .int .i64 ve, .int .i64 si] 40)).alloc (.cells #[.int .i64 0, .int .u64 0, .int .i64 0, .int .i64 0, .int .i64 0, .int .i64 0, .int .i64 0, .int .i64 0, .int .i64 0] 40)) = w1 at *
      obtain ⟨y0, y1, y2, y3, y4, y5, y6, y7, y8⟩ := rv_cells HQ0.out
      go_wp2_with fail
      refine (HMY.out _).mono ?_
      rintro e w2 ⟨rfl, hc⟩
      replace HX0 := Lib.hid (HX0.out.trans hc (fun _ _ e => e))
      replace HQ0 := Lib.hid (HQ0.out.chg hc id)
      replace HR0 := Lib.hid (HR0.out.chg hc id)
      clear hc
      clear y0 y1 y2 y3 y4 y5 y6 y7 y8
      obtain ⟨yy0, yy1, yy2, yy3, yy4, yy5, yy6, yy7, yy8⟩ := rv_cells HQ0.out
      have fHQ00 := HQ0.out.frozen 4
      obtain ⟨-, -, -, -, yHQ00_4, -, -, -, -⟩ := rv_cells HQ0.out
      replace HQ0 := Lib.hid (rv_set4 HQ0.out (-1))
      have fHQ01 := HQ0.out.frozen 6
      obtain ⟨-, -, -, -, -, -, yHQ01_6, -, -⟩ := rv_cells HQ0.out
      replace HQ0 := Lib.hid (rv_set6 HQ0.out (0))
      have hcs := (((Chg.refl (fun k => k = w.heap.size) w2).put w.heap.size 4 (fun _ => rfl) (.int .i64 (-1))).put w.heap.size 6 (fun _ => rfl) (.int .i64 (0)))
      replace HR0 := Lib.hid (HR0.out.chg hcs (by omega))
      replace HX0 := Lib.hid (fresh_set HX0.out hcs (by first | exact Nat.le_refl _ | omega))
      clear hcs
      obtain ⟨y0, y1, y2, y3, y4, y5, y6, y7, y8⟩ := rv_cells HQ0.out
      go_wp2_with fail
      refine (HD.out _).mono ?_
      rintro e w4 ⟨rfl, hc⟩
      replace HX0 := Lib.hid (HX0.out.trans hc (fun _ _ e => e))
      replace HQ0 := Lib.hid (HQ0.out.chg hc id)
      replace HR0 := Lib.hid (HR0.out.chg hc id)
      clear hc
      clear y0 y1 y2 y3 y4 y5 y6 y7 y8 yy0 yy1 yy2 yy3 yy4 yy5 yy6 yy7 yy8
      obtain ⟨x0, x1, x2, x3, x4, x5, x6, x7, x8⟩ := rv_cells HR0.out
      obtain ⟨u0, u1, u2, u3, u4, u5, u6, u7, u8⟩ := rv_free9 HR0.out
      obtain ⟨r0, r1, r2, r3, r4, r5, r6, r7, r8, -, hcs⟩ := rv_put9 HR0.out z0 z1 z2 z3 z4 z5 z6 z7 z8
      have HF := Lib.hid (fresh_set HX0.out hcs (by omega))
      have RR := Lib.hid (And.intro r0 (And.intro r1 (And.intro r2 (And.intro r3 (And.intro r4 (And.intro r5 (And.intro r6 (And.intro r7 r8))))))))
      clear r0 r1 r2 r3 r4 r5 r6 r7 r8 hcs HR0 HX0
      go_wp2_with fail
      obtain ⟨r0, r1, r2, r3, r4, r5, r6, r7, r8⟩ := RR.out
      exact bodyPost_ret (v := .tuple #[.agg (rvC z0 z1 z2 z3 z4 z5 z6 z7 z8), .int .i64 ze]) (by simp [results, Tryz.results92, go_sem, rvC, r0, r1, r2, r3, r4, r5, r6, r7, r8]) rfl ⟨rfl, HF.out⟩
    rw [hN, show coA ⟨po, ma, ow, ta, ol, ge, ph, ve, si⟩ = (⟨po, ma, ow, ta, ol, ge, ph, ve, si⟩, 8) from by simp [coA, h1, h2], fin_er (x := ⟨po, ma, ow, ta, ol, ge, ph, ve, si⟩) hok (by decide)]
    have t1 : (ph == 1) = false := by rw [beq_eq_false_iff_ne]; exact h1
    have s1 : (ph != 1) = true := by rw [bne_iff_ne]; exact h1
    have t2 : (ph == 2) = false := by rw [beq_eq_false_iff_ne]; exact h2
    have s2 : (ph != 2) = true := by rw [bne_iff_ne]; exact h2
    have HMY := Lib.hid hm
    clear hm
    clear hok hN h1 h2
    have HQ0 : Blk ((w.alloc (.cells #[.int .i64 po, .int .u64 ma, .int .i64 ow, .int .i64 ta, .int .i64 ol, .int .i64 ge, .int .i64 ph, .int .i64 ve, .int .i64 si] 40)).alloc (.cells #[.int .i64 0, .int .u64 0, .int .i64 0, .int .i64 0, .int .i64 0, .int .i64 0, .int .i64 0, .int .i64 0, .int .i64 0] 40)) w.heap.size 40 (rvC po ma ow ta ol ge ph ve si) := (Blk.alloc (blk_new rfl) _)
    replace HQ0 := Lib.hid HQ0
    have HR0 : Blk ((w.alloc (.cells #[.int .i64 po, .int .u64 ma, .int .i64 ow, .int .i64 ta, .int .i64 ol, .int .i64 ge, .int .i64 ph, .int .i64 ve, .int .i64 si] 40)).alloc (.cells #[.int .i64 0, .int .u64 0, .int .i64 0, .int .i64 0, .int .i64 0, .int .i64 0, .int .i64 0, .int .i64 0, .int .i64 0] 40)) (w.heap.size + 1) 40 (rvC 0 0 0 0 0 0 0 0 0) := (blk_new (by simp))
    replace HR0 := Lib.hid HR0
    have HX0 := Lib.hid (((Chg.refl (fun _ => False) w).alloc (.cells #[.int .i64 po, .int .u64 ma, .int .i64 ow, .int .i64 ta, .int .i64 ol, .int .i64 ge, .int .i64 ph, .int .i64 ve, .int .i64 si] 40)).alloc (.cells #[.int .i64 0, .int .u64 0, .int .i64 0, .int .i64 0, .int .i64 0, .int .i64 0, .int .i64 0, .int .i64 0, .int .i64 0] 40))
    go_enter Tryz.func92, Tryz.ntmps92
    go_upto_region 1 with fail
    generalize ((w.alloc (.cells #[.int .i64 po, .int .u64 ma, .int .i64 ow, .int .i64 ta, .int .i64 ol, .int .i64 ge, .int .i64 ph, .int .i64 ve, .int .i64 si] 40)).alloc (.cells #[.int .i64 0, .int .u64 0, .int .i64 0, .int .i64 0, .int .i64 0, .int .i64 0, .int .i64 0, .int .i64 0, .int .i64 0] 40)) = w1 at *
    obtain ⟨y0, y1, y2, y3, y4, y5, y6, y7, y8⟩ := rv_cells HQ0.out
    go_wp2_with fail
    refine (HMY.out _).mono ?_
    rintro e w2 ⟨rfl, hc⟩
    replace HX0 := Lib.hid (HX0.out.trans hc (fun _ _ e => e))
    replace HQ0 := Lib.hid (HQ0.out.chg hc id)
    replace HR0 := Lib.hid (HR0.out.chg hc id)
    clear hc
    clear y0 y1 y2 y3 y4 y5 y6 y7 y8
    obtain ⟨y0, y1, y2, y3, y4, y5, y6, y7, y8⟩ := rv_cells HQ0.out
    obtain ⟨x0, x1, x2, x3, x4, x5, x6, x7, x8⟩ := rv_cells HR0.out
    obtain ⟨u0, u1, u2, u3, u4, u5, u6, u7, u8⟩ := rv_free9 HR0.out
    obtain ⟨r0, r1, r2, r3, r4, r5, r6, r7, r8, -, hcs⟩ := rv_put9 HR0.out 0 0 0 0 0 0 0 0 0
    have HF := Lib.hid (fresh_set HX0.out hcs (by omega))
    have RR := Lib.hid (And.intro r0 (And.intro r1 (And.intro r2 (And.intro r3 (And.intro r4 (And.intro r5 (And.intro r6 (And.intro r7 r8))))))))
    clear r0 r1 r2 r3 r4 r5 r6 r7 r8 hcs HR0 HX0
    go_wp2_with fail
    obtain ⟨r0, r1, r2, r3, r4, r5, r6, r7, r8⟩ := RR.out
    exact bodyPost_ret (v := .tuple #[.agg (rvC 0 0 0 0 0 0 0 0 0), .int .i64 8]) (by simp [results, Tryz.results92, go_sem, rvC, r0, r1, r2, r3, r4, r5, r6, r7, r8]) rfl ⟨rfl, HF.out⟩

set_option maxRecDepth 100000 in
set_option maxHeartbeats 2000000 in
theorem pend_any (po ma ow ta ol ge ph ve si now : Int) (w : World) : Calls Tryz.prog 99 #[.agg #[.int .i64 po, .int .u64 ma, .int .i64 ow, .int .i64 ta, .int .i64 ol, .int .i64 ge, .int .i64 ph, .int .i64 ve, .int .i64 si], .int .i64 now] w (HR (en9 ⟨po, ma, ow, ta, ol, ge, ph, ve, si⟩ now) w) := by
  by_cases h2 : ph = 2
  case pos =>
    subst h2
    rw [show en9 ⟨po, ma, ow, ta, ol, ge, 2, ve, si⟩ now = co9 ⟨po, ma, ow, ta, ol, ge, 2, ve, si⟩ now from rfl]
    have hd := fun W => pcom_any po ma ow ta ol ge 2 ve si now W
    obtain ⟨z0, z1, z2, z3, z4, z5, z6, z7, z8, ze, hz⟩ := num9 (r := co9 ⟨po, ma, ow, ta, ol, ge, 2, ve, si⟩ now)
    rw [hz] at hd ⊢
    have HD : Hid (∀ W, Calls _ _ _ W (HR9 z0 z1 z2 z3 z4 z5 z6 z7 z8 ze W)) := Lib.hid hd
    clear hd hz
    have HQ0 : Blk ((w.alloc (.cells #[.int .i64 po, .int .u64 ma, .int .i64 ow, .int .i64 ta, .int .i64 ol, .int .i64 ge, .int .i64 2, .int .i64 ve, .int .i64 si] 40)).alloc (.cells #[.int .i64 0, .int .u64 0, .int .i64 0, .int .i64 0, .int .i64 0, .int .i64 0, .int .i64 0, .int .i64 0, .int .i64 0] 40)) w.heap.size 40 (rvC po ma ow ta ol ge 2 ve si) := (Blk.alloc (blk_new rfl) _)
    replace HQ0 := Lib.hid HQ0
    have HR0 : Blk ((w.alloc (.cells #[.int .i64 po, .int .u64 ma, .int .i64 ow, .int .i64 ta, .int .i64 ol, .int .i64 ge, .int .i64 2, .int .i64 ve, .int .i64 si] 40)).alloc (.cells #[.int .i64 0, .int .u64 0, .int .i64 0, .int .i64 0, .int .i64 0, .int .i64 0, .int .i64 0, .int .i64 0, .int .i64 0] 40)) (w.heap.size + 1) 40 (rvC 0 0 0 0 0 0 0 0 0) := (blk_new (by simp))
    replace HR0 := Lib.hid HR0
    have HX0 := Lib.hid (((Chg.refl (fun _ => False) w).alloc (.cells #[.int .i64 po, .int .u64 ma, .int .i64 ow, .int .i64 ta, .int .i64 ol, .int .i64 ge, .int .i64 2, .int .i64 ve, .int .i64 si] 40)).alloc (.cells #[.int .i64 0, .int .u64 0, .int .i64 0, .int .i64 0, .int .i64 0, .int .i64 0, .int .i64 0, .int .i64 0, .int .i64 0] 40))
    go_enter Tryz.func99, Tryz.ntmps99
    go_upto_region 1 with fail
    generalize ((w.alloc (.cells #[.int .i64 po, .int .u64 ma, .int .i64 ow, .int .i64 ta, .int .i64 ol, .int .i64 ge, .int .i64 2, .int .i64 ve, .int .i64 si] 40)).alloc (.cells #[.int .i64 0, .int .u64 0, .int .i64 0, .int .i64 0, .int .i64 0, .int .i64 0, .int .i64 0, .int .i64 0, .int .i64 0] 40)) = w1 at *
    obtain ⟨y0, y1, y2, y3, y4, y5, y6, y7, y8⟩ := rv_cells HQ0.out
    go_wp2_with fail
    refine (HD.out _).mono ?_
    rintro e w2 ⟨rfl, hc⟩
    replace HX0 := Lib.hid (HX0.out.trans hc (fun _ _ e => e))
    replace HQ0 := Lib.hid (HQ0.out.chg hc id)
    replace HR0 := Lib.hid (HR0.out.chg hc id)
    clear hc
    clear y0 y1 y2 y3 y4 y5 y6 y7 y8
    obtain ⟨x0, x1, x2, x3, x4, x5, x6, x7, x8⟩ := rv_cells HR0.out
    obtain ⟨u0, u1, u2, u3, u4, u5, u6, u7, u8⟩ := rv_free9 HR0.out
    obtain ⟨r0, r1, r2, r3, r4, r5, r6, r7, r8, -, hcs⟩ := rv_put9 HR0.out z0 z1 z2 z3 z4 z5 z6 z7 z8
    have HF := Lib.hid (fresh_set HX0.out hcs (by omega))
    have RR := Lib.hid (And.intro r0 (And.intro r1 (And.intro r2 (And.intro r3 (And.intro r4 (And.intro r5 (And.intro r6 (And.intro r7 r8))))))))
    clear r0 r1 r2 r3 r4 r5 r6 r7 r8 hcs HR0 HX0
    go_wp2_with fail
    obtain ⟨r0, r1, r2, r3, r4, r5, r6, r7, r8⟩ := RR.out
    exact bodyPost_ret (v := .tuple #[.agg (rvC z0 z1 z2 z3 z4 z5 z6 z7 z8), .int .i64 ze]) (by simp [results, Tryz.results99, go_sem, rvC, r0, r1, r2, r3, r4, r5, r6, r7, r8]) rfl ⟨rfl, HF.out⟩
  rw [show en9 ⟨po, ma, ow, ta, ol, ge, ph, ve, si⟩ now = ab9 ⟨po, ma, ow, ta, ol, ge, ph, ve, si⟩ now from if_neg h2]
  have hd := fun W => pabo_any po ma ow ta ol ge ph ve si now W
  obtain ⟨z0, z1, z2, z3, z4, z5, z6, z7, z8, ze, hz⟩ := num9 (r := ab9 ⟨po, ma, ow, ta, ol, ge, ph, ve, si⟩ now)
  rw [hz] at hd ⊢
  have HD : Hid (∀ W, Calls _ _ _ W (HR9 z0 z1 z2 z3 z4 z5 z6 z7 z8 ze W)) := Lib.hid hd
  clear hd hz
  have t2 : (ph == 2) = false := by rw [beq_eq_false_iff_ne]; exact h2
  clear h2
  have HQ0 : Blk ((w.alloc (.cells #[.int .i64 po, .int .u64 ma, .int .i64 ow, .int .i64 ta, .int .i64 ol, .int .i64 ge, .int .i64 ph, .int .i64 ve, .int .i64 si] 40)).alloc (.cells #[.int .i64 0, .int .u64 0, .int .i64 0, .int .i64 0, .int .i64 0, .int .i64 0, .int .i64 0, .int .i64 0, .int .i64 0] 40)) w.heap.size 40 (rvC po ma ow ta ol ge ph ve si) := (Blk.alloc (blk_new rfl) _)
  replace HQ0 := Lib.hid HQ0
  have HR0 : Blk ((w.alloc (.cells #[.int .i64 po, .int .u64 ma, .int .i64 ow, .int .i64 ta, .int .i64 ol, .int .i64 ge, .int .i64 ph, .int .i64 ve, .int .i64 si] 40)).alloc (.cells #[.int .i64 0, .int .u64 0, .int .i64 0, .int .i64 0, .int .i64 0, .int .i64 0, .int .i64 0, .int .i64 0, .int .i64 0] 40)) (w.heap.size + 1) 40 (rvC 0 0 0 0 0 0 0 0 0) := (blk_new (by simp))
  replace HR0 := Lib.hid HR0
  have HX0 := Lib.hid (((Chg.refl (fun _ => False) w).alloc (.cells #[.int .i64 po, .int .u64 ma, .int .i64 ow, .int .i64 ta, .int .i64 ol, .int .i64 ge, .int .i64 ph, .int .i64 ve, .int .i64 si] 40)).alloc (.cells #[.int .i64 0, .int .u64 0, .int .i64 0, .int .i64 0, .int .i64 0, .int .i64 0, .int .i64 0, .int .i64 0, .int .i64 0] 40))
  go_enter Tryz.func99, Tryz.ntmps99
  go_upto_region 1 with fail
  generalize ((w.alloc (.cells #[.int .i64 po, .int .u64 ma, .int .i64 ow, .int .i64 ta, .int .i64 ol, .int .i64 ge, .int .i64 ph, .int .i64 ve, .int .i64 si] 40)).alloc (.cells #[.int .i64 0, .int .u64 0, .int .i64 0, .int .i64 0, .int .i64 0, .int .i64 0, .int .i64 0, .int .i64 0, .int .i64 0] 40)) = w1 at *
  obtain ⟨y0, y1, y2, y3, y4, y5, y6, y7, y8⟩ := rv_cells HQ0.out
  go_wp2_with fail
  refine (HD.out _).mono ?_
  rintro e w2 ⟨rfl, hc⟩
  replace HX0 := Lib.hid (HX0.out.trans hc (fun _ _ e => e))
  replace HQ0 := Lib.hid (HQ0.out.chg hc id)
  replace HR0 := Lib.hid (HR0.out.chg hc id)
  clear hc
  clear y0 y1 y2 y3 y4 y5 y6 y7 y8
  obtain ⟨x0, x1, x2, x3, x4, x5, x6, x7, x8⟩ := rv_cells HR0.out
  obtain ⟨u0, u1, u2, u3, u4, u5, u6, u7, u8⟩ := rv_free9 HR0.out
  obtain ⟨r0, r1, r2, r3, r4, r5, r6, r7, r8, -, hcs⟩ := rv_put9 HR0.out z0 z1 z2 z3 z4 z5 z6 z7 z8
  have HF := Lib.hid (fresh_set HX0.out hcs (by omega))
  have RR := Lib.hid (And.intro r0 (And.intro r1 (And.intro r2 (And.intro r3 (And.intro r4 (And.intro r5 (And.intro r6 (And.intro r7 r8))))))))
  clear r0 r1 r2 r3 r4 r5 r6 r7 r8 hcs HR0 HX0
  go_wp2_with fail
  obtain ⟨r0, r1, r2, r3, r4, r5, r6, r7, r8⟩ := RR.out
  exact bodyPost_ret (v := .tuple #[.agg (rvC z0 z1 z2 z3 z4 z5 z6 z7 z8), .int .i64 ze]) (by simp [results, Tryz.results99, go_sem, rvC, r0, r1, r2, r3, r4, r5, r6, r7, r8]) rfl ⟨rfl, HF.out⟩


end Go.Proofs.YtimgnogacanifaaGreat
