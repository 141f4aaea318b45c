/-
  Walk: bind.Means. No condition.
-/
import Derived.Test.YteipeookmpnemaaZb
namespace Go.Proofs.Yteipeookmpnemaa
open Go.RowKit
set_option linter.unusedVariables false
set_option linter.unusedSimpArgs false

set_option maxRecDepth 100000 in
set_option maxHeartbeats 4000000 in
theorem bmeans14_any (po ma ow ta ol ge ph ve si c ki km kp ks ko : Int) (w : World) : Calls Try.prog 7 #[.agg (rvC po ma ow ta ol ge ph ve si), .int .i64 c, .agg (kyC ki km kp ks ko)] w fun e w' => e = .returned (.agg (mA14 (mk14 po ma ow ol ge ph c ki km kp ks ko) po ow ge)) ∧ Chg (fun _ => False) w w' := by
  have HB0 : Hid (Blk (((w.alloc (.cells #[.int .i64 po, .int .u64 ma, .int .i64 ow, .int .i64 ta, .int .i64 ol, .int .i64 ge, .int .i64 ph, .int .i64 ve, .int .i64 si] 25)).alloc (.cells #[.int .i64 ki, .int .u64 km, .int .i64 kp, .int .i64 ks, .int .i64 ko] 27)).alloc (.cells #[.int .i64 0, .int .i64 0, .int .i64 0, .int .i64 0] 31)) w.heap.size 25 (rvC po ma ow ta ol ge ph ve si)) := Lib.hid (Blk.alloc (Blk.alloc (blk_new rfl) _) _)
  have HB1 : Hid (Blk (((w.alloc (.cells #[.int .i64 po, .int .u64 ma, .int .i64 ow, .int .i64 ta, .int .i64 ol, .int .i64 ge, .int .i64 ph, .int .i64 ve, .int .i64 si] 25)).alloc (.cells #[.int .i64 ki, .int .u64 km, .int .i64 kp, .int .i64 ks, .int .i64 ko] 27)).alloc (.cells #[.int .i64 0, .int .i64 0, .int .i64 0, .int .i64 0] 31)) (w.heap.size + 1) 27 (kyC ki km kp ks ko)) := Lib.hid (Blk.alloc (blk_new (by simp)) _)
  have HZ : Hid (Blk (((w.alloc (.cells #[.int .i64 po, .int .u64 ma, .int .i64 ow, .int .i64 ta, .int .i64 ol, .int .i64 ge, .int .i64 ph, .int .i64 ve, .int .i64 si] 25)).alloc (.cells #[.int .i64 ki, .int .u64 km, .int .i64 kp, .int .i64 ks, .int .i64 ko] 27)).alloc (.cells #[.int .i64 0, .int .i64 0, .int .i64 0, .int .i64 0] 31)) (w.heap.size + 1 + 1) 31 (acC 0 0 0 0)) := Lib.hid (blk_new (by simp))
  have HX := Lib.hid ((((Chg.refl (fun _ => False) w).alloc (.cells #[.int .i64 po, .int .u64 ma, .int .i64 ow, .int .i64 ta, .int .i64 ol, .int .i64 ge, .int .i64 ph, .int .i64 ve, .int .i64 si] 25)).alloc (.cells #[.int .i64 ki, .int .u64 km, .int .i64 kp, .int .i64 ks, .int .i64 ko] 27)).alloc (.cells #[.int .i64 0, .int .i64 0, .int .i64 0, .int .i64 0] 31))
  have HQ : Hid (w.heap.size ≤ w.heap.size + 1 + 1) := Lib.hid (by omega)
  have HIO := Lib.hid (show ∀ W, Calls _ _ #[.agg #[.int .i64 po, .int .u64 ma, .int .i64 ow, .int .i64 ta, .int .i64 ol, .int .i64 ge, .int .i64 ph, .int .i64 ve, .int .i64 si], .agg #[.int .i64 ki, .int .u64 km, .int .i64 kp, .int .i64 ks, .int .i64 ko]] W _ from fun W => bisof14_any po ma ow ta ol ge ph ve si ki km kp ks ko W)
  have HA1 := Lib.hid (show ∀ W, Calls _ _ #[.int .i64 1, .agg #[.int .i64 po, .int .u64 ma, .int .i64 ow, .int .i64 ta, .int .i64 ol, .int .i64 ge, .int .i64 ph, .int .i64 ve, .int .i64 si]] W (fun e w' => e = .returned (.agg #[.int .i64 1, .int .i64 po, .int .i64 ow, .int .i64 ge]) ∧ Chg (fun _ => False) W w') from fun W => bact14_any 1 po ma ow ta ol ge ph ve si W)
  have HA2 := Lib.hid (show ∀ W, Calls _ _ #[.int .i64 2, .agg #[.int .i64 po, .int .u64 ma, .int .i64 ow, .int .i64 ta, .int .i64 ol, .int .i64 ge, .int .i64 ph, .int .i64 ve, .int .i64 si]] W (fun e w' => e = .returned (.agg #[.int .i64 2, .int .i64 po, .int .i64 ow, .int .i64 ge]) ∧ Chg (fun _ => False) W w') from fun W => bact14_any 2 po ma ow ta ol ge ph ve si W)
  have HLF := Lib.hid (show ∀ W, Calls _ _ #[.agg #[.int .i64 po, .int .u64 ma, .int .i64 ow, .int .i64 ta, .int .i64 ol, .int .i64 ge, .int .i64 ph, .int .i64 ve, .int .i64 si], .int .i64 c] W _ from fun W => bleft14_any po ma ow ta ol ge ph ve si c W)
  unfold rvC kyC
  go_enter Try.func7, Try.ntmps7
  go_upto_region 1 with fail
  generalize ((w.alloc (.cells #[.int .i64 po, .int .u64 ma, .int .i64 ow, .int .i64 ta, .int .i64 ol, .int .i64 ge, .int .i64 ph, .int .i64 ve, .int .i64 si] 25)).alloc (.cells #[.int .i64 ki, .int .u64 km, .int .i64 kp, .int .i64 ks, .int .i64 ko] 27)).alloc (.cells #[.int .i64 0, .int .i64 0, .int .i64 0, .int .i64 0] 31) = w1 at *
  generalize w.heap.size + 1 + 1 = Q2 at *
  generalize w.heap.size + 1 = Q1 at *
  generalize w.heap.size = Q0 at HB0 ⊢
  obtain ⟨y0, y1, y2, y3, y4, y5, y6, y7, y8⟩ := rv_cells HB0.out
  obtain ⟨u0, u1, u2, u3, u4⟩ := ky_cells13 HB1.out
  generalize hb : isB14 ma po ki km kp = b at *
  go_wp2_with fail
  refine (HIO.out _).mono ?_
  rintro e w2 ⟨rfl, hc⟩
  clear y0 y1 y2 y3 y4 y5 y6 y7 y8 u0 u1 u2 u3 u4
  replace HB0 := Lib.hid (HB0.out.chg hc id)
  replace HB1 := Lib.hid (HB1.out.chg hc id)
  replace HZ := Lib.hid (HZ.out.chg hc id)
  replace HX := Lib.hid (HX.out.trans hc (fun _ _ e => e))
  clear hc
  obtain ⟨y0, y1, y2, y3, y4, y5, y6, y7, y8⟩ := rv_cells HB0.out
  obtain ⟨u0, u1, u2, u3, u4⟩ := ky_cells13 HB1.out
  cases b with
  | false =>
    have HV := Lib.hid (show mk14 po ma ow ol ge ph c ki km kp ks ko = 0 from by unfold mk14; rw [hb]; simp)
    obtain ⟨x0, x1, x2, x3⟩ := ac_cells13 HZ.out
    obtain ⟨f0, f1, f2, f3⟩ := ac_free13 HZ.out
    obtain ⟨r0, r1, r2, r3, hcs⟩ := ac_put13 HZ.out 0 0 0 0
    have RR := Lib.hid (And.intro r0 (And.intro r1 (And.intro r2 r3)))
    have HF := Lib.hid (fresh_set HX.out hcs HQ.out)
    clear r0 r1 r2 r3 hcs
    go_wp2_with fail
    obtain ⟨r0, r1, r2, r3⟩ := RR.out
    exact bodyPost_ret (v := .agg (acC 0 0 0 0)) (by simp [results, Try.results7, go_sem, acC, r0, r1, r2, r3]) rfl ⟨by rw [HV.out]; rfl, HF.out⟩
  | true =>
    by_cases h3 : ph = 3
    · skip
      have tp : (ph == 3) = true := by simp [h3]
      have HV := Lib.hid (show mk14 po ma ow ol ge ph c ki km kp ks ko = 0 from by unfold mk14; rw [hb]; simp [h3])
      clear h3
      obtain ⟨x0, x1, x2, x3⟩ := ac_cells13 HZ.out
      obtain ⟨f0, f1, f2, f3⟩ := ac_free13 HZ.out
      obtain ⟨r0, r1, r2, r3, hcs⟩ := ac_put13 HZ.out 0 0 0 0
      have RR := Lib.hid (And.intro r0 (And.intro r1 (And.intro r2 r3)))
      have HF := Lib.hid (fresh_set HX.out hcs HQ.out)
      clear r0 r1 r2 r3 hcs
      go_wp2_with fail
      obtain ⟨r0, r1, r2, r3⟩ := RR.out
      exact bodyPost_ret (v := .agg (acC 0 0 0 0)) (by simp [results, Try.results7, go_sem, acC, r0, r1, r2, r3]) rfl ⟨by rw [HV.out]; rfl, HF.out⟩
    · skip
      have tp : (ph == 3) = false := by simp [h3]
      by_cases hg : ge < ks
      · skip
        have HV := Lib.hid (show mk14 po ma ow ol ge ph c ki km kp ks ko = 0 from by unfold mk14; rw [hb]; simp [h3, hg])
        obtain ⟨x0, x1, x2, x3⟩ := ac_cells13 HZ.out
        obtain ⟨f0, f1, f2, f3⟩ := ac_free13 HZ.out
        obtain ⟨r0, r1, r2, r3, hcs⟩ := ac_put13 HZ.out 0 0 0 0
        have RR := Lib.hid (And.intro r0 (And.intro r1 (And.intro r2 r3)))
        have HF := Lib.hid (fresh_set HX.out hcs HQ.out)
        clear r0 r1 r2 r3 hcs
        go_wp2_with fail
        obtain ⟨r0, r1, r2, r3⟩ := RR.out
        exact bodyPost_ret (v := .agg (acC 0 0 0 0)) (by simp [results, Try.results7, go_sem, acC, r0, r1, r2, r3]) rfl ⟨by rw [HV.out]; rfl, HF.out⟩
      · skip
        by_cases hcw : c = ow
        · skip
          have tc : (c == ow) = true := by simp [hcw]
          have HV := Lib.hid (show mk14 po ma ow ol ge ph c ki km kp ks ko = 1 from by unfold mk14; rw [hb]; simp [h3, hg, hcw])
          clear hcw h3
          go_wp2_with fail
          refine (HA1.out _).mono ?_
          rintro e w3 ⟨rfl, hc⟩
          clear y0 y1 y2 y3 y4 y5 y6 y7 y8 u0 u1 u2 u3 u4
          replace HB0 := Lib.hid (HB0.out.chg hc id)
          replace HB1 := Lib.hid (HB1.out.chg hc id)
          replace HZ := Lib.hid (HZ.out.chg hc id)
          replace HX := Lib.hid (HX.out.trans hc (fun _ _ e => e))
          clear hc
          obtain ⟨y0, y1, y2, y3, y4, y5, y6, y7, y8⟩ := rv_cells HB0.out
          obtain ⟨u0, u1, u2, u3, u4⟩ := ky_cells13 HB1.out
          obtain ⟨x0, x1, x2, x3⟩ := ac_cells13 HZ.out
          obtain ⟨f0, f1, f2, f3⟩ := ac_free13 HZ.out
          obtain ⟨r0, r1, r2, r3, hcs⟩ := ac_put13 HZ.out 1 po ow ge
          have RR := Lib.hid (And.intro r0 (And.intro r1 (And.intro r2 r3)))
          have HF := Lib.hid (fresh_set HX.out hcs HQ.out)
          clear r0 r1 r2 r3 hcs
          go_wp2_with fail
          obtain ⟨r0, r1, r2, r3⟩ := RR.out
          exact bodyPost_ret (v := .agg (acC 1 po ow ge)) (by simp [results, Try.results7, go_sem, acC, r0, r1, r2, r3]) rfl ⟨by rw [HV.out]; rfl, HF.out⟩
        · skip
          have tc : (c == ow) = false := by simp [hcw]
          by_cases h0 : ki = 0
          · skip
            have t0 : (ki == 0) = true := by simp [h0]
            have t1 : (ki == 1) = false := by simp [h0]
            have HV := Lib.hid (show mk14 po ma ow ol ge ph c ki km kp ks ko = 2 from by unfold mk14; rw [hb]; simp [h3, hg, hcw, h0])
            clear h0 hcw h3
            go_wp2_with fail
            refine (HA2.out _).mono ?_
            rintro e w3 ⟨rfl, hc⟩
            clear y0 y1 y2 y3 y4 y5 y6 y7 y8 u0 u1 u2 u3 u4
            replace HB0 := Lib.hid (HB0.out.chg hc id)
            replace HB1 := Lib.hid (HB1.out.chg hc id)
            replace HZ := Lib.hid (HZ.out.chg hc id)
            replace HX := Lib.hid (HX.out.trans hc (fun _ _ e => e))
            clear hc
            obtain ⟨y0, y1, y2, y3, y4, y5, y6, y7, y8⟩ := rv_cells HB0.out
            obtain ⟨u0, u1, u2, u3, u4⟩ := ky_cells13 HB1.out
            obtain ⟨x0, x1, x2, x3⟩ := ac_cells13 HZ.out
            obtain ⟨f0, f1, f2, f3⟩ := ac_free13 HZ.out
            obtain ⟨r0, r1, r2, r3, hcs⟩ := ac_put13 HZ.out 2 po ow ge
            have RR := Lib.hid (And.intro r0 (And.intro r1 (And.intro r2 r3)))
            have HF := Lib.hid (fresh_set HX.out hcs HQ.out)
            clear r0 r1 r2 r3 hcs
            go_wp2_with fail
            obtain ⟨r0, r1, r2, r3⟩ := RR.out
            exact bodyPost_ret (v := .agg (acC 2 po ow ge)) (by simp [results, Try.results7, go_sem, acC, r0, r1, r2, r3]) rfl ⟨by rw [HV.out]; rfl, HF.out⟩
          · skip
            by_cases h1 : ki = 1
            · skip
              have t0 : (ki == 0) = false := by simp [h1]
              have t1 : (ki == 1) = true := by simp [h1]
              have hlf := HLF.out
              clear HLF
              cases hl : lfB14 ph ol c with
              | false =>
                rw [hl] at hlf
                have HV := Lib.hid (show mk14 po ma ow ol ge ph c ki km kp ks ko = 0 from by unfold mk14; rw [hb]; simp [h3, hg, hcw, h0, h1, hl])
                have HLF := Lib.hid hlf
                clear hlf hl h0 h1 hcw h3
                go_wp2_with fail
                refine (HLF.out _).mono ?_
                rintro e w3 ⟨rfl, hc⟩
                clear y0 y1 y2 y3 y4 y5 y6 y7 y8 u0 u1 u2 u3 u4
                replace HB0 := Lib.hid (HB0.out.chg hc id)
                replace HB1 := Lib.hid (HB1.out.chg hc id)
                replace HZ := Lib.hid (HZ.out.chg hc id)
                replace HX := Lib.hid (HX.out.trans hc (fun _ _ e => e))
                clear hc
                obtain ⟨y0, y1, y2, y3, y4, y5, y6, y7, y8⟩ := rv_cells HB0.out
                obtain ⟨u0, u1, u2, u3, u4⟩ := ky_cells13 HB1.out
                obtain ⟨x0, x1, x2, x3⟩ := ac_cells13 HZ.out
                obtain ⟨f0, f1, f2, f3⟩ := ac_free13 HZ.out
                obtain ⟨r0, r1, r2, r3, hcs⟩ := ac_put13 HZ.out 0 0 0 0
                have RR := Lib.hid (And.intro r0 (And.intro r1 (And.intro r2 r3)))
                have HF := Lib.hid (fresh_set HX.out hcs HQ.out)
                clear r0 r1 r2 r3 hcs
                go_wp2_with fail
                obtain ⟨r0, r1, r2, r3⟩ := RR.out
                exact bodyPost_ret (v := .agg (acC 0 0 0 0)) (by simp [results, Try.results7, go_sem, acC, r0, r1, r2, r3]) rfl ⟨by rw [HV.out]; rfl, HF.out⟩
              | true =>
                rw [hl] at hlf
                by_cases ho : ko = ow
                · have tko : (ko != ow) = false := by simp [ho]
                  have HV := Lib.hid (show mk14 po ma ow ol ge ph c ki km kp ks ko = 0 from by unfold mk14; rw [hb]; simp [h3, hg, hcw, h0, h1, hl, ho])
                  have HLF := Lib.hid hlf
                  clear hlf hl ho h0 h1 hcw h3
                  go_wp2_with fail
                  refine (HLF.out _).mono ?_
                  rintro e w3 ⟨rfl, hc⟩
                  clear y0 y1 y2 y3 y4 y5 y6 y7 y8 u0 u1 u2 u3 u4
                  replace HB0 := Lib.hid (HB0.out.chg hc id)
                  replace HB1 := Lib.hid (HB1.out.chg hc id)
                  replace HZ := Lib.hid (HZ.out.chg hc id)
                  replace HX := Lib.hid (HX.out.trans hc (fun _ _ e => e))
                  clear hc
                  obtain ⟨y0, y1, y2, y3, y4, y5, y6, y7, y8⟩ := rv_cells HB0.out
                  obtain ⟨u0, u1, u2, u3, u4⟩ := ky_cells13 HB1.out
                  obtain ⟨x0, x1, x2, x3⟩ := ac_cells13 HZ.out
                  obtain ⟨f0, f1, f2, f3⟩ := ac_free13 HZ.out
                  obtain ⟨r0, r1, r2, r3, hcs⟩ := ac_put13 HZ.out 0 0 0 0
                  have RR := Lib.hid (And.intro r0 (And.intro r1 (And.intro r2 r3)))
                  have HF := Lib.hid (fresh_set HX.out hcs HQ.out)
                  clear r0 r1 r2 r3 hcs
                  go_wp2_with fail
                  obtain ⟨r0, r1, r2, r3⟩ := RR.out
                  exact bodyPost_ret (v := .agg (acC 0 0 0 0)) (by simp [results, Try.results7, go_sem, acC, r0, r1, r2, r3]) rfl ⟨by rw [HV.out]; rfl, HF.out⟩
                · have tko : (ko != ow) = true := by simp [ho]
                  have HV := Lib.hid (show mk14 po ma ow ol ge ph c ki km kp ks ko = 2 from by unfold mk14; rw [hb]; simp [h3, hg, hcw, h0, h1, hl, ho])
                  have HLF := Lib.hid hlf
                  clear hlf hl ho h0 h1 hcw h3
                  go_wp2_with fail
                  refine (HLF.out _).mono ?_
                  rintro e w3 ⟨rfl, hc⟩
                  clear y0 y1 y2 y3 y4 y5 y6 y7 y8 u0 u1 u2 u3 u4
                  replace HB0 := Lib.hid (HB0.out.chg hc id)
                  replace HB1 := Lib.hid (HB1.out.chg hc id)
                  replace HZ := Lib.hid (HZ.out.chg hc id)
                  replace HX := Lib.hid (HX.out.trans hc (fun _ _ e => e))
                  clear hc
                  obtain ⟨y0, y1, y2, y3, y4, y5, y6, y7, y8⟩ := rv_cells HB0.out
                  obtain ⟨u0, u1, u2, u3, u4⟩ := ky_cells13 HB1.out
                  go_wp2_with fail
                  refine (HA2.out _).mono ?_
                  rintro e w4 ⟨rfl, hc⟩
                  clear y0 y1 y2 y3 y4 y5 y6 y7 y8 u0 u1 u2 u3 u4
                  replace HB0 := Lib.hid (HB0.out.chg hc id)
                  replace HB1 := Lib.hid (HB1.out.chg hc id)
                  replace HZ := Lib.hid (HZ.out.chg hc id)
                  replace HX := Lib.hid (HX.out.trans hc (fun _ _ e => e))
                  clear hc
                  obtain ⟨y0, y1, y2, y3, y4, y5, y6, y7, y8⟩ := rv_cells HB0.out
                  obtain ⟨u0, u1, u2, u3, u4⟩ := ky_cells13 HB1.out
                  obtain ⟨x0, x1, x2, x3⟩ := ac_cells13 HZ.out
                  obtain ⟨f0, f1, f2, f3⟩ := ac_free13 HZ.out
                  obtain ⟨r0, r1, r2, r3, hcs⟩ := ac_put13 HZ.out 2 po ow ge
                  have RR := Lib.hid (And.intro r0 (And.intro r1 (And.intro r2 r3)))
                  have HF := Lib.hid (fresh_set HX.out hcs HQ.out)
                  clear r0 r1 r2 r3 hcs
                  go_wp2_with fail
                  obtain ⟨r0, r1, r2, r3⟩ := RR.out
                  exact bodyPost_ret (v := .agg (acC 2 po ow ge)) (by simp [results, Try.results7, go_sem, acC, r0, r1, r2, r3]) rfl ⟨by rw [HV.out]; rfl, HF.out⟩
            · skip
              have t0 : (ki == 0) = false := by simp [h0]
              have t1 : (ki == 1) = false := by simp [h1]
              have HV := Lib.hid (show mk14 po ma ow ol ge ph c ki km kp ks ko = 0 from by unfold mk14; rw [hb]; simp [h3, hg, hcw, h0, h1])
              clear h0 h1 hcw h3
              obtain ⟨x0, x1, x2, x3⟩ := ac_cells13 HZ.out
              obtain ⟨f0, f1, f2, f3⟩ := ac_free13 HZ.out
              obtain ⟨r0, r1, r2, r3, hcs⟩ := ac_put13 HZ.out 0 0 0 0
              have RR := Lib.hid (And.intro r0 (And.intro r1 (And.intro r2 r3)))
              have HF := Lib.hid (fresh_set HX.out hcs HQ.out)
              clear r0 r1 r2 r3 hcs
              go_wp2_with fail
              obtain ⟨r0, r1, r2, r3⟩ := RR.out
              exact bodyPost_ret (v := .agg (acC 0 0 0 0)) (by simp [results, Try.results7, go_sem, acC, r0, r1, r2, r3]) rfl ⟨by rw [HV.out]; rfl, HF.out⟩

end Go.Proofs.Yteipeookmpnemaa
