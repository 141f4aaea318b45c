/-
  Walks: bind.isOf, leftFrom, action. No condition.
-/
import Derived.Test.YtacbgelbffmngaaZa
import Derived.Test.YtacbgelbffmngaaYd
import Derived.Deep.LoopGhost
import Derived.Lib.SmallJoins
import Derived.Deep.Cut
import Derived.Deep.DeepCutAuto
namespace Go.Proofs.Ytacbgelbffmngaa
open Go.RowKit
set_option linter.unusedVariables false
set_option linter.unusedSimpArgs false

set_option maxRecDepth 100000 in
set_option maxHeartbeats 2000000 in
theorem bleft14_any (po ma ow ta ol ge ph ve si c : Int) (w : World) : Calls Try.prog 65 #[.agg (rvC po ma ow ta ol ge ph ve si), .int .i64 c] w fun e w' => e = .returned (.bool (lfB14 ph ol c)) ∧ Chg (fun _ => False) w w' := by
  have HB0 : Hid (Blk (w.alloc (.cells #[.int .i64 po, .int .u64 ma, .int .i64 ow, .int .i64 ta, .int .i64 ol, .int .i64 ge, .int .i64 ph, .int .i64 ve, .int .i64 si] 65)) w.heap.size 65 (rvC po ma ow ta ol ge ph ve si)) := Lib.hid (blk_new rfl)
  have HC0 := Lib.hid ((Chg.refl (fun _ => False) w).alloc (.cells #[.int .i64 po, .int .u64 ma, .int .i64 ow, .int .i64 ta, .int .i64 ol, .int .i64 ge, .int .i64 ph, .int .i64 ve, .int .i64 si] 65))
  obtain ⟨y0, y1, y2, y3, y4, y5, y6, y7, y8⟩ := rv_cells HB0.out
  unfold rvC
  by_cases h2 : ph = 2
  · skip
    have tp : (ph == 2) = true := by simp [h2]
    have HH := Lib.hid h2
    clear h2
    go_enter Try.func65, Try.ntmps65
    go_upto_region 1 with fail
    generalize w.alloc (.cells #[.int .i64 po, .int .u64 ma, .int .i64 ow, .int .i64 ta, .int .i64 ol, .int .i64 ge, .int .i64 ph, .int .i64 ve, .int .i64 si] 65) = w1 at *
    generalize w.heap.size = q at *
    go_wp2_with fail
    go_ret
    exact ⟨ret_b13 (by simp [lfB14, HH.out]), HC0.out⟩
  · skip
    have tp : (ph == 2) = false := by simp [h2]
    have HH := Lib.hid h2
    clear h2
    go_enter Try.func65, Try.ntmps65
    go_upto_region 1 with fail
    generalize w.alloc (.cells #[.int .i64 po, .int .u64 ma, .int .i64 ow, .int .i64 ta, .int .i64 ol, .int .i64 ge, .int .i64 ph, .int .i64 ve, .int .i64 si] 65) = w1 at *
    generalize w.heap.size = q at *
    go_wp2_with fail
    go_ret
    exact ⟨ret_b13 (by simp [lfB14, HH.out]), HC0.out⟩
set_option maxRecDepth 100000 in
set_option maxHeartbeats 2000000 in
theorem bact14_any (kd po ma ow ta ol ge ph ve si : Int) (w : World) : Calls Try.prog 68 #[.int .i64 kd, .agg (rvC po ma ow ta ol ge ph ve si)] w fun e w' => e = .returned (.agg (acC kd po ow ge)) ∧ Chg (fun _ => False) w w' := by
  unfold rvC acC
  go_enter Try.func68, Try.ntmps68
  go_wp2_with fail
  have hb : Blk ((w.alloc (.cells #[.int .i64 po, .int .u64 ma, .int .i64 ow, .int .i64 ta, .int .i64 ol, .int .i64 ge, .int .i64 ph, .int .i64 ve, .int .i64 si] 65)).alloc (.cells #[.int .i64 kd, .int .i64 po, .int .i64 ow, .int .i64 ge] 68)) (w.heap.size + 1) 68 (acC kd po ow ge) := blk_new (by simp)
  obtain ⟨r0, r1, r2, r3⟩ := ac_cells13 hb
  exact bodyPost_ret (v := .agg #[.int .i64 kd, .int .i64 po, .int .i64 ow, .int .i64 ge]) (by simp [results, Try.results68, go_sem, r0, r1, r2, r3]) rfl ⟨rfl, ((Chg.refl (fun _ => False) w).alloc _).alloc _⟩

end Go.Proofs.Ytacbgelbffmngaa
