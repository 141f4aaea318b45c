/-
  Walk: the document's Means. No condition.
-/
import Derived.Test.YteipeookmpnemaaZb
namespace Go.Proofs.Yteipeookmpnemaa
open Go.RowKit
set_option linter.unusedVariables false
set_option linter.unusedSimpArgs false

set_option maxRecDepth 100000 in
set_option maxHeartbeats 8000000 in
theorem rmeans14_any (po ma ow ta ol ge ph ve si c ki km kp ks ko : Int) (w : World) : Calls Try.prog 9 #[.agg (rvC po ma ow ta ol ge ph ve si), .int .i64 c, .agg (kyC ki km kp ks ko)] w fun e w' => e = .returned (.agg (mA14 (mk14 po ma ow ol ge ph c ki km kp ks ko) po ow ge)) ∧ Chg (fun _ => False) w w' := by
  have HB0 : Hid (Blk (((w.alloc (.cells #[.int .i64 po, .int .u64 ma, .int .i64 ow, .int .i64 ta, .int .i64 ol, .int .i64 ge, .int .i64 ph, .int .i64 ve, .int .i64 si] 25)).alloc (.cells #[.int .i64 ki, .int .u64 km, .int .i64 kp, .int .i64 ks, .int .i64 ko] 35)).alloc (.cells #[.int .i64 0, .int .i64 0, .int .i64 0, .int .i64 0] 29)) w.heap.size 25 (rvC po ma ow ta ol ge ph ve si)) := Lib.hid (Blk.alloc (Blk.alloc (blk_new rfl) _) _)
  have HB1 : Hid (Blk (((w.alloc (.cells #[.int .i64 po, .int .u64 ma, .int .i64 ow, .int .i64 ta, .int .i64 ol, .int .i64 ge, .int .i64 ph, .int .i64 ve, .int .i64 si] 25)).alloc (.cells #[.int .i64 ki, .int .u64 km, .int .i64 kp, .int .i64 ks, .int .i64 ko] 35)).alloc (.cells #[.int .i64 0, .int .i64 0, .int .i64 0, .int .i64 0] 29)) (w.heap.size + 1) 35 (kyC ki km kp ks ko)) := Lib.hid (Blk.alloc (blk_new (by simp)) _)
  have HZ : Hid (Blk (((w.alloc (.cells #[.int .i64 po, .int .u64 ma, .int .i64 ow, .int .i64 ta, .int .i64 ol, .int .i64 ge, .int .i64 ph, .int .i64 ve, .int .i64 si] 25)).alloc (.cells #[.int .i64 ki, .int .u64 km, .int .i64 kp, .int .i64 ks, .int .i64 ko] 35)).alloc (.cells #[.int .i64 0, .int .i64 0, .int .i64 0, .int .i64 0] 29)) (w.heap.size + 1 + 1) 29 (acC 0 0 0 0)) := Lib.hid (blk_new (by simp))
  have HX := Lib.hid ((((Chg.refl (fun _ => False) w).alloc (.cells #[.int .i64 po, .int .u64 ma, .int .i64 ow, .int .i64 ta, .int .i64 ol, .int .i64 ge, .int .i64 ph, .int .i64 ve, .int .i64 si] 25)).alloc (.cells #[.int .i64 ki, .int .u64 km, .int .i64 kp, .int .i64 ks, .int .i64 ko] 35)).alloc (.cells #[.int .i64 0, .int .i64 0, .int .i64 0, .int .i64 0] 29))
  have HQ : Hid (w.heap.size ≤ w.heap.size + 1 + 1) := Lib.hid (by omega)
  unfold rvC kyC
  go_enter Try.func9, Try.ntmps9
  go_upto_region 1 with fail
  generalize ((w.alloc (.cells #[.int .i64 po, .int .u64 ma, .int .i64 ow, .int .i64 ta, .int .i64 ol, .int .i64 ge, .int .i64 ph, .int .i64 ve, .int .i64 si] 25)).alloc (.cells #[.int .i64 ki, .int .u64 km, .int .i64 kp, .int .i64 ks, .int .i64 ko] 35)).alloc (.cells #[.int .i64 0, .int .i64 0, .int .i64 0, .int .i64 0] 29) = w1 at *
  generalize w.heap.size + 1 + 1 = Q2 at *
  generalize w.heap.size + 1 = Q1 at *
  generalize w.heap.size = Q0 at HB0 ⊢
  obtain ⟨y0, y1, y2, y3, y4, y5, y6, y7, y8⟩ := rv_cells HB0.out
  obtain ⟨u0, u1, u2, u3, u4⟩ := ky_cells13 HB1.out
  by_cases h0 : ki = 0
  · skip
    have t0 : (ki == 0) = true := by simp [h0]
    have t1 : (ki == 1) = false := by simp [h0]
    have t2 : (ki == 2) = false := by simp [h0]
    by_cases hm : km = ma
    · skip
      have tm : (km == ma) = true := by simp [hm]
      by_cases h3 : ph = 3
      · skip
        have tp : (ph == 3) = true := by simp [h3]
        have HV := Lib.hid (show mk14 po ma ow ol ge ph c ki km kp ks ko = 0 from by simp [mk14, isB14, h0, hm, h3])
        clear h0 hm h3
        obtain ⟨x0, x1, x2, x3⟩ := ac_cells13 HZ.out
        obtain ⟨f0, f1, f2, f3⟩ := ac_free13 HZ.out
        obtain ⟨r0, r1, r2, r3, hcs⟩ := ac_put13 HZ.out 0 0 0 0
        have RR := Lib.hid (And.intro r0 (And.intro r1 (And.intro r2 r3)))
        have HF := Lib.hid (fresh_set HX.out hcs HQ.out)
        clear r0 r1 r2 r3 hcs
        go_wp2_with fail
        obtain ⟨r0, r1, r2, r3⟩ := RR.out
        exact bodyPost_ret (v := .agg (acC 0 0 0 0)) (by simp [results, Try.results9, go_sem, acC, r0, r1, r2, r3]) rfl ⟨by rw [HV.out]; rfl, HF.out⟩
      · skip
        have tp : (ph == 3) = false := by simp [h3]
        by_cases hg : ge < ks
        · skip
          have HV := Lib.hid (show mk14 po ma ow ol ge ph c ki km kp ks ko = 0 from by simp [mk14, isB14, h0, hm, h3, hg])
          clear h0 hm h3
          obtain ⟨x0, x1, x2, x3⟩ := ac_cells13 HZ.out
          obtain ⟨f0, f1, f2, f3⟩ := ac_free13 HZ.out
          obtain ⟨r0, r1, r2, r3, hcs⟩ := ac_put13 HZ.out 0 0 0 0
          have RR := Lib.hid (And.intro r0 (And.intro r1 (And.intro r2 r3)))
          have HF := Lib.hid (fresh_set HX.out hcs HQ.out)
          clear r0 r1 r2 r3 hcs
          go_wp2_with fail
          obtain ⟨r0, r1, r2, r3⟩ := RR.out
          exact bodyPost_ret (v := .agg (acC 0 0 0 0)) (by simp [results, Try.results9, go_sem, acC, r0, r1, r2, r3]) rfl ⟨by rw [HV.out]; rfl, HF.out⟩
        · skip
          by_cases hcw : c = ow
          · skip
            have tc : (ow == c) = true := by simp [hcw]
            have HV := Lib.hid (show mk14 po ma ow ol ge ph c ki km kp ks ko = 1 from by simp [mk14, isB14, h0, hm, h3, hg, hcw])
            clear h0 hm h3
            have HCW := Lib.hid hcw
            clear hcw
            obtain ⟨x0, x1, x2, x3⟩ := ac_cells13 HZ.out
            obtain ⟨f0, f1, f2, f3⟩ := ac_free13 HZ.out
            obtain ⟨r0, r1, r2, r3, hcs⟩ := ac_put13 HZ.out 1 po c ge
            have RR := Lib.hid (And.intro r0 (And.intro r1 (And.intro r2 r3)))
            have HF := Lib.hid (fresh_set HX.out hcs HQ.out)
            clear r0 r1 r2 r3 hcs
            go_wp2_with fail
            obtain ⟨r0, r1, r2, r3⟩ := RR.out
            exact bodyPost_ret (v := .agg (acC 1 po c ge)) (by simp [results, Try.results9, go_sem, acC, r0, r1, r2, r3]) rfl ⟨by rw [HV.out, HCW.out]; rfl, HF.out⟩
          · skip
            have tc : (ow == c) = false := beq_eq_false_iff_ne.2 (fun e => hcw e.symm)
            have HV := Lib.hid (show mk14 po ma ow ol ge ph c ki km kp ks ko = 2 from by simp [mk14, isB14, h0, hm, h3, hg, hcw])
            clear h0 hm h3 hcw
            obtain ⟨x0, x1, x2, x3⟩ := ac_cells13 HZ.out
            obtain ⟨f0, f1, f2, f3⟩ := ac_free13 HZ.out
            obtain ⟨r0, r1, r2, r3, hcs⟩ := ac_put13 HZ.out 2 po ow ge
            have RR := Lib.hid (And.intro r0 (And.intro r1 (And.intro r2 r3)))
            have HF := Lib.hid (fresh_set HX.out hcs HQ.out)
            clear r0 r1 r2 r3 hcs
            go_wp2_with fail
            obtain ⟨r0, r1, r2, r3⟩ := RR.out
            exact bodyPost_ret (v := .agg (acC 2 po ow ge)) (by simp [results, Try.results9, go_sem, acC, r0, r1, r2, r3]) rfl ⟨by rw [HV.out]; rfl, HF.out⟩
    · skip
      have tm : (km == ma) = false := by simp [hm]
      have HV := Lib.hid (show mk14 po ma ow ol ge ph c ki km kp ks ko = 0 from by simp [mk14, isB14, h0, hm])
      clear h0 hm
      obtain ⟨x0, x1, x2, x3⟩ := ac_cells13 HZ.out
      obtain ⟨f0, f1, f2, f3⟩ := ac_free13 HZ.out
      obtain ⟨r0, r1, r2, r3, hcs⟩ := ac_put13 HZ.out 0 0 0 0
      have RR := Lib.hid (And.intro r0 (And.intro r1 (And.intro r2 r3)))
      have HF := Lib.hid (fresh_set HX.out hcs HQ.out)
      clear r0 r1 r2 r3 hcs
      go_wp2_with fail
      obtain ⟨r0, r1, r2, r3⟩ := RR.out
      exact bodyPost_ret (v := .agg (acC 0 0 0 0)) (by simp [results, Try.results9, go_sem, acC, r0, r1, r2, r3]) rfl ⟨by rw [HV.out]; rfl, HF.out⟩
  · skip
    by_cases h1 : ki = 1
    · skip
      clear h0
      have t0 : (ki == 0) = false := by simp [h1]
      have t1 : (ki == 1) = true := by simp [h1]
      have t2 : (ki == 2) = false := by simp [h1]
      by_cases hm : kp = po
      · skip
        have tm : (kp == po) = true := by simp [hm]
        by_cases h3 : ph = 3
        · skip
          have tp : (ph == 3) = true := by simp [h3]
          have HV := Lib.hid (show mk14 po ma ow ol ge ph c ki km kp ks ko = 0 from by simp [mk14, isB14, h1, hm, h3])
          clear h1 hm h3
          obtain ⟨x0, x1, x2, x3⟩ := ac_cells13 HZ.out
          obtain ⟨f0, f1, f2, f3⟩ := ac_free13 HZ.out
          obtain ⟨r0, r1, r2, r3, hcs⟩ := ac_put13 HZ.out 0 0 0 0
          have RR := Lib.hid (And.intro r0 (And.intro r1 (And.intro r2 r3)))
          have HF := Lib.hid (fresh_set HX.out hcs HQ.out)
          clear r0 r1 r2 r3 hcs
          go_wp2_with fail
          obtain ⟨r0, r1, r2, r3⟩ := RR.out
          exact bodyPost_ret (v := .agg (acC 0 0 0 0)) (by simp [results, Try.results9, go_sem, acC, r0, r1, r2, r3]) rfl ⟨by rw [HV.out]; rfl, HF.out⟩
        · skip
          have tp : (ph == 3) = false := by simp [h3]
          by_cases hg : ge < ks
          · skip
            have HV := Lib.hid (show mk14 po ma ow ol ge ph c ki km kp ks ko = 0 from by simp [mk14, isB14, h1, hm, h3, hg])
            clear h1 hm h3
            obtain ⟨x0, x1, x2, x3⟩ := ac_cells13 HZ.out
            obtain ⟨f0, f1, f2, f3⟩ := ac_free13 HZ.out
            obtain ⟨r0, r1, r2, r3, hcs⟩ := ac_put13 HZ.out 0 0 0 0
            have RR := Lib.hid (And.intro r0 (And.intro r1 (And.intro r2 r3)))
            have HF := Lib.hid (fresh_set HX.out hcs HQ.out)
            clear r0 r1 r2 r3 hcs
            go_wp2_with fail
            obtain ⟨r0, r1, r2, r3⟩ := RR.out
            exact bodyPost_ret (v := .agg (acC 0 0 0 0)) (by simp [results, Try.results9, go_sem, acC, r0, r1, r2, r3]) rfl ⟨by rw [HV.out]; rfl, HF.out⟩
          · skip
            by_cases hcw : c = ow
            · skip
              have tc : (ow == c) = true := by simp [hcw]
              have HV := Lib.hid (show mk14 po ma ow ol ge ph c ki km kp ks ko = 1 from by simp [mk14, isB14, h1, hm, h3, hg, hcw])
              clear h1 hm h3
              have HCW := Lib.hid hcw
              clear hcw
              obtain ⟨x0, x1, x2, x3⟩ := ac_cells13 HZ.out
              obtain ⟨f0, f1, f2, f3⟩ := ac_free13 HZ.out
              obtain ⟨r0, r1, r2, r3, hcs⟩ := ac_put13 HZ.out 1 po c ge
              have RR := Lib.hid (And.intro r0 (And.intro r1 (And.intro r2 r3)))
              have HF := Lib.hid (fresh_set HX.out hcs HQ.out)
              clear r0 r1 r2 r3 hcs
              go_wp2_with fail
              obtain ⟨r0, r1, r2, r3⟩ := RR.out
              exact bodyPost_ret (v := .agg (acC 1 po c ge)) (by simp [results, Try.results9, go_sem, acC, r0, r1, r2, r3]) rfl ⟨by rw [HV.out, HCW.out]; rfl, HF.out⟩
            · skip
              have tc : (ow == c) = false := beq_eq_false_iff_ne.2 (fun e => hcw e.symm)
              by_cases hp : ph = 2
              · skip
                have tp2 : (ph == 2) = true := by simp [hp]
                by_cases hol : ol = c
                · skip
                  have tol : (ol == c) = true := by simp [hol]
                  by_cases ho : ko = ow
                  · skip
                    have tko : (ko != ow) = false := by simp [ho]
                    have HV := Lib.hid (show mk14 po ma ow ol ge ph c ki km kp ks ko = 0 from by simp [mk14, isB14, lfB14, h1, hm, h3, hg, hcw, hp, hol, ho])
                    clear h1 hm h3 hcw hp hol ho
                    obtain ⟨x0, x1, x2, x3⟩ := ac_cells13 HZ.out
                    obtain ⟨f0, f1, f2, f3⟩ := ac_free13 HZ.out
                    obtain ⟨r0, r1, r2, r3, hcs⟩ := ac_put13 HZ.out 0 0 0 0
                    have RR := Lib.hid (And.intro r0 (And.intro r1 (And.intro r2 r3)))
                    have HF := Lib.hid (fresh_set HX.out hcs HQ.out)
                    clear r0 r1 r2 r3 hcs
                    go_wp2_with fail
                    obtain ⟨r0, r1, r2, r3⟩ := RR.out
                    exact bodyPost_ret (v := .agg (acC 0 0 0 0)) (by simp [results, Try.results9, go_sem, acC, r0, r1, r2, r3]) rfl ⟨by rw [HV.out]; rfl, HF.out⟩
                  · skip
                    have tko : (ko != ow) = true := by simp [ho]
                    have HV := Lib.hid (show mk14 po ma ow ol ge ph c ki km kp ks ko = 2 from by simp [mk14, isB14, lfB14, h1, hm, h3, hg, hcw, hp, hol, ho])
                    clear h1 hm h3 hcw hp hol ho
                    obtain ⟨x0, x1, x2, x3⟩ := ac_cells13 HZ.out
                    obtain ⟨f0, f1, f2, f3⟩ := ac_free13 HZ.out
                    obtain ⟨r0, r1, r2, r3, hcs⟩ := ac_put13 HZ.out 2 po ow ge
                    have RR := Lib.hid (And.intro r0 (And.intro r1 (And.intro r2 r3)))
                    have HF := Lib.hid (fresh_set HX.out hcs HQ.out)
                    clear r0 r1 r2 r3 hcs
                    go_wp2_with fail
                    obtain ⟨r0, r1, r2, r3⟩ := RR.out
                    exact bodyPost_ret (v := .agg (acC 2 po ow ge)) (by simp [results, Try.results9, go_sem, acC, r0, r1, r2, r3]) rfl ⟨by rw [HV.out]; rfl, HF.out⟩
                · skip
                  have tol : (ol == c) = false := by simp [hol]
                  have hol2 : ¬ c = ol := fun e => hol e.symm
                  have HV := Lib.hid (show mk14 po ma ow ol ge ph c ki km kp ks ko = 0 from by simp [mk14, isB14, lfB14, h1, hm, h3, hg, hcw, hp, hol2])
                  clear h1 hm h3 hcw hp hol hol2
                  obtain ⟨x0, x1, x2, x3⟩ := ac_cells13 HZ.out
                  obtain ⟨f0, f1, f2, f3⟩ := ac_free13 HZ.out
                  obtain ⟨r0, r1, r2, r3, hcs⟩ := ac_put13 HZ.out 0 0 0 0
                  have RR := Lib.hid (And.intro r0 (And.intro r1 (And.intro r2 r3)))
                  have HF := Lib.hid (fresh_set HX.out hcs HQ.out)
                  clear r0 r1 r2 r3 hcs
                  go_wp2_with fail
                  obtain ⟨r0, r1, r2, r3⟩ := RR.out
                  exact bodyPost_ret (v := .agg (acC 0 0 0 0)) (by simp [results, Try.results9, go_sem, acC, r0, r1, r2, r3]) rfl ⟨by rw [HV.out]; rfl, HF.out⟩
              · skip
                have tp2 : (ph == 2) = false := by simp [hp]
                have HV := Lib.hid (show mk14 po ma ow ol ge ph c ki km kp ks ko = 0 from by simp [mk14, isB14, lfB14, h1, hm, h3, hg, hcw, hp])
                clear h1 hm h3 hcw hp
                obtain ⟨x0, x1, x2, x3⟩ := ac_cells13 HZ.out
                obtain ⟨f0, f1, f2, f3⟩ := ac_free13 HZ.out
                obtain ⟨r0, r1, r2, r3, hcs⟩ := ac_put13 HZ.out 0 0 0 0
                have RR := Lib.hid (And.intro r0 (And.intro r1 (And.intro r2 r3)))
                have HF := Lib.hid (fresh_set HX.out hcs HQ.out)
                clear r0 r1 r2 r3 hcs
                go_wp2_with fail
                obtain ⟨r0, r1, r2, r3⟩ := RR.out
                exact bodyPost_ret (v := .agg (acC 0 0 0 0)) (by simp [results, Try.results9, go_sem, acC, r0, r1, r2, r3]) rfl ⟨by rw [HV.out]; rfl, HF.out⟩
      · skip
        have tm : (kp == po) = false := by simp [hm]
        have HV := Lib.hid (show mk14 po ma ow ol ge ph c ki km kp ks ko = 0 from by simp [mk14, isB14, h1, hm])
        clear h1 hm
        obtain ⟨x0, x1, x2, x3⟩ := ac_cells13 HZ.out
        obtain ⟨f0, f1, f2, f3⟩ := ac_free13 HZ.out
        obtain ⟨r0, r1, r2, r3, hcs⟩ := ac_put13 HZ.out 0 0 0 0
        have RR := Lib.hid (And.intro r0 (And.intro r1 (And.intro r2 r3)))
        have HF := Lib.hid (fresh_set HX.out hcs HQ.out)
        clear r0 r1 r2 r3 hcs
        go_wp2_with fail
        obtain ⟨r0, r1, r2, r3⟩ := RR.out
        exact bodyPost_ret (v := .agg (acC 0 0 0 0)) (by simp [results, Try.results9, go_sem, acC, r0, r1, r2, r3]) rfl ⟨by rw [HV.out]; rfl, HF.out⟩
    · skip
      by_cases h2 : ki = 2
      · skip
        clear h0 h1
        have t0 : (ki == 0) = false := by simp [h2]
        have t1 : (ki == 1) = false := by simp [h2]
        have t2 : (ki == 2) = true := by simp [h2]
        by_cases hm : kp = po
        · skip
          have tm : (kp == po) = true := by simp [hm]
          by_cases h3 : ph = 3
          · skip
            have tp : (ph == 3) = true := by simp [h3]
            have HV := Lib.hid (show mk14 po ma ow ol ge ph c ki km kp ks ko = 0 from by simp [mk14, isB14, h2, hm, h3])
            clear h2 hm h3
            obtain ⟨x0, x1, x2, x3⟩ := ac_cells13 HZ.out
            obtain ⟨f0, f1, f2, f3⟩ := ac_free13 HZ.out
            obtain ⟨r0, r1, r2, r3, hcs⟩ := ac_put13 HZ.out 0 0 0 0
            have RR := Lib.hid (And.intro r0 (And.intro r1 (And.intro r2 r3)))
            have HF := Lib.hid (fresh_set HX.out hcs HQ.out)
            clear r0 r1 r2 r3 hcs
            go_wp2_with fail
            obtain ⟨r0, r1, r2, r3⟩ := RR.out
            exact bodyPost_ret (v := .agg (acC 0 0 0 0)) (by simp [results, Try.results9, go_sem, acC, r0, r1, r2, r3]) rfl ⟨by rw [HV.out]; rfl, HF.out⟩
          · skip
            have tp : (ph == 3) = false := by simp [h3]
            by_cases hg : ge < ks
            · skip
              have HV := Lib.hid (show mk14 po ma ow ol ge ph c ki km kp ks ko = 0 from by simp [mk14, isB14, h2, hm, h3, hg])
              clear h2 hm h3
              obtain ⟨x0, x1, x2, x3⟩ := ac_cells13 HZ.out
              obtain ⟨f0, f1, f2, f3⟩ := ac_free13 HZ.out
              obtain ⟨r0, r1, r2, r3, hcs⟩ := ac_put13 HZ.out 0 0 0 0
              have RR := Lib.hid (And.intro r0 (And.intro r1 (And.intro r2 r3)))
              have HF := Lib.hid (fresh_set HX.out hcs HQ.out)
              clear r0 r1 r2 r3 hcs
              go_wp2_with fail
              obtain ⟨r0, r1, r2, r3⟩ := RR.out
              exact bodyPost_ret (v := .agg (acC 0 0 0 0)) (by simp [results, Try.results9, go_sem, acC, r0, r1, r2, r3]) rfl ⟨by rw [HV.out]; rfl, HF.out⟩
            · skip
              by_cases hcw : c = ow
              · skip
                have tc : (ow == c) = true := by simp [hcw]
                have HV := Lib.hid (show mk14 po ma ow ol ge ph c ki km kp ks ko = 1 from by simp [mk14, isB14, h2, hm, h3, hg, hcw])
                clear h2 hm h3
                have HCW := Lib.hid hcw
                clear hcw
                obtain ⟨x0, x1, x2, x3⟩ := ac_cells13 HZ.out
                obtain ⟨f0, f1, f2, f3⟩ := ac_free13 HZ.out
                obtain ⟨r0, r1, r2, r3, hcs⟩ := ac_put13 HZ.out 1 po c ge
                have RR := Lib.hid (And.intro r0 (And.intro r1 (And.intro r2 r3)))
                have HF := Lib.hid (fresh_set HX.out hcs HQ.out)
                clear r0 r1 r2 r3 hcs
                go_wp2_with fail
                obtain ⟨r0, r1, r2, r3⟩ := RR.out
                exact bodyPost_ret (v := .agg (acC 1 po c ge)) (by simp [results, Try.results9, go_sem, acC, r0, r1, r2, r3]) rfl ⟨by rw [HV.out, HCW.out]; rfl, HF.out⟩
              · skip
                have tc : (ow == c) = false := beq_eq_false_iff_ne.2 (fun e => hcw e.symm)
                have HV := Lib.hid (show mk14 po ma ow ol ge ph c ki km kp ks ko = 0 from by simp [mk14, isB14, h2, hm, h3, hg, hcw])
                clear h2 hm h3 hcw
                obtain ⟨x0, x1, x2, x3⟩ := ac_cells13 HZ.out
                obtain ⟨f0, f1, f2, f3⟩ := ac_free13 HZ.out
                obtain ⟨r0, r1, r2, r3, hcs⟩ := ac_put13 HZ.out 0 0 0 0
                have RR := Lib.hid (And.intro r0 (And.intro r1 (And.intro r2 r3)))
                have HF := Lib.hid (fresh_set HX.out hcs HQ.out)
                clear r0 r1 r2 r3 hcs
                go_wp2_with fail
                obtain ⟨r0, r1, r2, r3⟩ := RR.out
                exact bodyPost_ret (v := .agg (acC 0 0 0 0)) (by simp [results, Try.results9, go_sem, acC, r0, r1, r2, r3]) rfl ⟨by rw [HV.out]; rfl, HF.out⟩
        · skip
          have tm : (kp == po) = false := by simp [hm]
          have HV := Lib.hid (show mk14 po ma ow ol ge ph c ki km kp ks ko = 0 from by simp [mk14, isB14, h2, hm])
          clear h2 hm
          obtain ⟨x0, x1, x2, x3⟩ := ac_cells13 HZ.out
          obtain ⟨f0, f1, f2, f3⟩ := ac_free13 HZ.out
          obtain ⟨r0, r1, r2, r3, hcs⟩ := ac_put13 HZ.out 0 0 0 0
          have RR := Lib.hid (And.intro r0 (And.intro r1 (And.intro r2 r3)))
          have HF := Lib.hid (fresh_set HX.out hcs HQ.out)
          clear r0 r1 r2 r3 hcs
          go_wp2_with fail
          obtain ⟨r0, r1, r2, r3⟩ := RR.out
          exact bodyPost_ret (v := .agg (acC 0 0 0 0)) (by simp [results, Try.results9, go_sem, acC, r0, r1, r2, r3]) rfl ⟨by rw [HV.out]; rfl, HF.out⟩
      · skip
        have t0 : (ki == 0) = false := by simp [h0]
        have t1 : (ki == 1) = false := by simp [h1]
        have t2 : (ki == 2) = false := by simp [h2]
        have HV := Lib.hid (show mk14 po ma ow ol ge ph c ki km kp ks ko = 0 from by simp [mk14, isB14, h0, h1, h2])
        clear h0 h1 h2
        obtain ⟨x0, x1, x2, x3⟩ := ac_cells13 HZ.out
        obtain ⟨f0, f1, f2, f3⟩ := ac_free13 HZ.out
        obtain ⟨r0, r1, r2, r3, hcs⟩ := ac_put13 HZ.out 0 0 0 0
        have RR := Lib.hid (And.intro r0 (And.intro r1 (And.intro r2 r3)))
        have HF := Lib.hid (fresh_set HX.out hcs HQ.out)
        clear r0 r1 r2 r3 hcs
        go_wp2_with fail
        obtain ⟨r0, r1, r2, r3⟩ := RR.out
        exact bodyPost_ret (v := .agg (acC 0 0 0 0)) (by simp [results, Try.results9, go_sem, acC, r0, r1, r2, r3]) rfl ⟨by rw [HV.out]; rfl, HF.out⟩

end Go.Proofs.Yteipeookmpnemaa
