/-
  Walks: bind.isOf, leftFrom, action. No condition.
-/
import Derived.Test.YteipeookmpnemaaZa
import Derived.Test.YteipeookmpnemaaYd
import Derived.Deep.LoopGhost
import Derived.Lib.SmallJoins
import Derived.Deep.Cut
import Derived.Deep.DeepCutAuto
namespace Go.Proofs.Yteipeookmpnemaa
open Go.RowKit
set_option linter.unusedVariables false
set_option linter.unusedSimpArgs false

set_option maxRecDepth 100000 in
set_option maxHeartbeats 2000000 in
theorem bisof14_any (po ma ow ta ol ge ph ve si ki km kp ks ko : Int) (w : World) : Calls Try.prog 17 #[.agg (rvC po ma ow ta ol ge ph ve si), .agg (kyC ki km kp ks ko)] w fun e w' => e = .returned (.bool (isB14 ma po ki km kp)) ∧ Chg (fun _ => False) w w' := by
  have HB0 : Hid (Blk ((w.alloc (.cells #[.int .i64 po, .int .u64 ma, .int .i64 ow, .int .i64 ta, .int .i64 ol, .int .i64 ge, .int .i64 ph, .int .i64 ve, .int .i64 si] 25)).alloc (.cells #[.int .i64 ki, .int .u64 km, .int .i64 kp, .int .i64 ks, .int .i64 ko] 27)) w.heap.size 25 (rvC po ma ow ta ol ge ph ve si)) := Lib.hid (Blk.alloc (blk_new rfl) _)
  have HB1 : Hid (Blk ((w.alloc (.cells #[.int .i64 po, .int .u64 ma, .int .i64 ow, .int .i64 ta, .int .i64 ol, .int .i64 ge, .int .i64 ph, .int .i64 ve, .int .i64 si] 25)).alloc (.cells #[.int .i64 ki, .int .u64 km, .int .i64 kp, .int .i64 ks, .int .i64 ko] 27)) (w.heap.size + 1) 27 (kyC ki km kp ks ko)) := Lib.hid (blk_new (by simp))
  have HC0 := Lib.hid (((Chg.refl (fun _ => False) w).alloc (.cells #[.int .i64 po, .int .u64 ma, .int .i64 ow, .int .i64 ta, .int .i64 ol, .int .i64 ge, .int .i64 ph, .int .i64 ve, .int .i64 si] 25)).alloc (.cells #[.int .i64 ki, .int .u64 km, .int .i64 kp, .int .i64 ks, .int .i64 ko] 27))
  obtain ⟨y0, y1, y2, y3, y4, y5, y6, y7, y8⟩ := rv_cells HB0.out
  obtain ⟨u0, u1, u2, u3, u4⟩ := ky_cells13 HB1.out
  unfold rvC kyC
  by_cases h0 : ki = 0
  · skip
    have t0 : (ki == 0) = true := by simp [h0]
    have t1 : (ki == 1) = false := by simp [h0]
    have t2 : (ki == 2) = false := by simp [h0]
    have HH := Lib.hid h0
    clear h0
    go_enter Try.func17, Try.ntmps17
    go_upto_region 1 with fail
    generalize (w.alloc (.cells #[.int .i64 po, .int .u64 ma, .int .i64 ow, .int .i64 ta, .int .i64 ol, .int .i64 ge, .int .i64 ph, .int .i64 ve, .int .i64 si] 25)).alloc (.cells #[.int .i64 ki, .int .u64 km, .int .i64 kp, .int .i64 ks, .int .i64 ko] 27) = w1 at *
    generalize w.heap.size = q at *
    go_wp2_with fail
    go_ret
    exact ⟨ret_b13 (by simp [isB14, HH.out]), HC0.out⟩
  · skip
    by_cases h1 : ki = 1
    · skip
      have t0 : (ki == 0) = false := by simp [h1]
      have t1 : (ki == 1) = true := by simp [h1]
      have t2 : (ki == 2) = false := by simp [h1]
      have HH := Lib.hid h1
      clear h1 h0
      go_enter Try.func17, Try.ntmps17
      go_upto_region 1 with fail
      generalize (w.alloc (.cells #[.int .i64 po, .int .u64 ma, .int .i64 ow, .int .i64 ta, .int .i64 ol, .int .i64 ge, .int .i64 ph, .int .i64 ve, .int .i64 si] 25)).alloc (.cells #[.int .i64 ki, .int .u64 km, .int .i64 kp, .int .i64 ks, .int .i64 ko] 27) = w1 at *
      generalize w.heap.size = q at *
      go_wp2_with fail
      go_ret
      exact ⟨ret_b13 (by simp [isB14, HH.out]), HC0.out⟩
    · skip
      by_cases h2 : ki = 2
      · skip
        have t0 : (ki == 0) = false := by simp [h2]
        have t1 : (ki == 1) = false := by simp [h2]
        have t2 : (ki == 2) = true := by simp [h2]
        have HH := Lib.hid h2
        clear h2 h1 h0
        go_enter Try.func17, Try.ntmps17
        go_upto_region 1 with fail
        generalize (w.alloc (.cells #[.int .i64 po, .int .u64 ma, .int .i64 ow, .int .i64 ta, .int .i64 ol, .int .i64 ge, .int .i64 ph, .int .i64 ve, .int .i64 si] 25)).alloc (.cells #[.int .i64 ki, .int .u64 km, .int .i64 kp, .int .i64 ks, .int .i64 ko] 27) = w1 at *
        generalize w.heap.size = q at *
        go_wp2_with fail
        go_ret
        exact ⟨ret_b13 (by simp [isB14, HH.out]), HC0.out⟩
      · skip
        have t0 : (ki == 0) = false := by simp [h0]
        have t1 : (ki == 1) = false := by simp [h1]
        have t2 : (ki == 2) = false := by simp [h2]
        have HH := Lib.hid (And.intro h0 (And.intro h1 h2))
        clear h0 h1 h2
        go_enter Try.func17, Try.ntmps17
        go_upto_region 1 with fail
        generalize (w.alloc (.cells #[.int .i64 po, .int .u64 ma, .int .i64 ow, .int .i64 ta, .int .i64 ol, .int .i64 ge, .int .i64 ph, .int .i64 ve, .int .i64 si] 25)).alloc (.cells #[.int .i64 ki, .int .u64 km, .int .i64 kp, .int .i64 ks, .int .i64 ko] 27) = w1 at *
        generalize w.heap.size = q at *
        go_wp2_with fail
        go_ret
        exact ⟨ret_b13 (by simp [isB14, HH.out]), HC0.out⟩
set_option maxRecDepth 100000 in
set_option maxHeartbeats 2000000 in
theorem bleft14_any (po ma ow ta ol ge ph ve si c : Int) (w : World) : Calls Try.prog 19 #[.agg (rvC po ma ow ta ol ge ph ve si), .int .i64 c] w fun e w' => e = .returned (.bool (lfB14 ph ol c)) ∧ Chg (fun _ => False) w w' := by
  have HB0 : Hid (Blk (w.alloc (.cells #[.int .i64 po, .int .u64 ma, .int .i64 ow, .int .i64 ta, .int .i64 ol, .int .i64 ge, .int .i64 ph, .int .i64 ve, .int .i64 si] 25)) w.heap.size 25 (rvC po ma ow ta ol ge ph ve si)) := Lib.hid (blk_new rfl)
  have HC0 := Lib.hid ((Chg.refl (fun _ => False) w).alloc (.cells #[.int .i64 po, .int .u64 ma, .int .i64 ow, .int .i64 ta, .int .i64 ol, .int .i64 ge, .int .i64 ph, .int .i64 ve, .int .i64 si] 25))
  obtain ⟨y0, y1, y2, y3, y4, y5, y6, y7, y8⟩ := rv_cells HB0.out
  unfold rvC
  by_cases h2 : ph = 2
  · skip
    have tp : (ph == 2) = true := by simp [h2]
    have HH := Lib.hid h2
    clear h2
    go_enter Try.func19, Try.ntmps19
    go_upto_region 1 with fail
    generalize w.alloc (.cells #[.int .i64 po, .int .u64 ma, .int .i64 ow, .int .i64 ta, .int .i64 ol, .int .i64 ge, .int .i64 ph, .int .i64 ve, .int .i64 si] 25) = w1 at *
    generalize w.heap.size = q at *
    go_wp2_with fail
    go_ret
    exact ⟨ret_b13 (by simp [lfB14, HH.out]), HC0.out⟩
  · skip
    have tp : (ph == 2) = false := by simp [h2]
    have HH := Lib.hid h2
    clear h2
    go_enter Try.func19, Try.ntmps19
    go_upto_region 1 with fail
    generalize w.alloc (.cells #[.int .i64 po, .int .u64 ma, .int .i64 ow, .int .i64 ta, .int .i64 ol, .int .i64 ge, .int .i64 ph, .int .i64 ve, .int .i64 si] 25) = w1 at *
    generalize w.heap.size = q at *
    go_wp2_with fail
    go_ret
    exact ⟨ret_b13 (by simp [lfB14, HH.out]), HC0.out⟩
set_option maxRecDepth 100000 in
set_option maxHeartbeats 2000000 in
theorem bact14_any (kd po ma ow ta ol ge ph ve si : Int) (w : World) : Calls Try.prog 18 #[.int .i64 kd, .agg (rvC po ma ow ta ol ge ph ve si)] w fun e w' => e = .returned (.agg (acC kd po ow ge)) ∧ Chg (fun _ => False) w w' := by
  unfold rvC acC
  go_enter Try.func18, Try.ntmps18
  go_wp2_with fail
  have hb : Blk ((w.alloc (.cells #[.int .i64 po, .int .u64 ma, .int .i64 ow, .int .i64 ta, .int .i64 ol, .int .i64 ge, .int .i64 ph, .int .i64 ve, .int .i64 si] 25)).alloc (.cells #[.int .i64 kd, .int .i64 po, .int .i64 ow, .int .i64 ge] 31)) (w.heap.size + 1) 31 (acC kd po ow ge) := blk_new (by simp)
  obtain ⟨r0, r1, r2, r3⟩ := ac_cells13 hb
  exact bodyPost_ret (v := .agg #[.int .i64 kd, .int .i64 po, .int .i64 ow, .int .i64 ge]) (by simp [results, Try.results18, go_sem, r0, r1, r2, r3]) rfl ⟨rfl, ((Chg.refl (fun _ => False) w).alloc _).alloc _⟩

end Go.Proofs.Yteipeookmpnemaa
