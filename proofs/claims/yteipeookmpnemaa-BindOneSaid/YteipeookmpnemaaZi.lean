/-
  Walk: rutterlaw14.alive. No condition.
-/
import Derived.Test.YteipeookmpnemaaZc
import Derived.Test.YteipeookmpnemaaZf
import Derived.Test.YteipeookmpnemaaYh
import Derived.Deep.RegionHeld3
import Derived.RegionTactic
import Derived.BigQuiet
namespace Go.Proofs.Yteipeookmpnemaa
open Go.RowKit
set_option linter.unusedVariables false
set_option linter.unusedSimpArgs false

theorem alook14 {w : World} {p : Nat} (h : TF w p [(⟨0, 1, 7, 3, -9223372036854775808, 5, -9223372036854775808, 2, 3, 2, 5⟩ : En), (⟨0, 2, 7, 3, -9223372036854775808, 5, 2, 2, 3, 2, 5⟩ : En)]) (k : Ky) (o : Option En) (hk : lk13 k [(⟨0, 1, 7, 3, -9223372036854775808, 5, -9223372036854775808, 2, 3, 2, 5⟩ : En), (⟨0, 2, 7, 3, -9223372036854775808, 5, 2, 2, 3, 2, 5⟩ : En)] = o) : Calls Try.prog 14 #[.pointer (some ⟨p, 0, none⟩), .agg k.cs] w (LkP13 o w) := by
  obtain ⟨k0, k1, k2, k3, k4⟩ := k
  have h2 := flook13_any h (by simp) k0 k1 k2 k3 k4
  rw [hk] at h2
  exact h2
set_option maxRecDepth 100000 in
set_option maxHeartbeats 8000000 in
theorem alive14_any (w : World) : Calls Try.prog 8 #[] w fun e w' => e = .returned (.bool true) ∧ Chg (fun _ => False) w w' := by
  have HA0 : Hid (Blk (w.alloc (.cells #[.int .i64 3, .int .u64 7, .int .i64 2, .int .i64 (-1), .int .i64 1, .int .i64 5, .int .i64 2, .int .i64 9, .int .i64 0] 25)) w.heap.size 25 (rvC 3 7 2 (-1) 1 5 2 9 0)) := Lib.hid (blk_new rfl)
  have HX := Lib.hid ((Chg.refl (fun _ => False) w).alloc (.cells #[.int .i64 3, .int .u64 7, .int .i64 2, .int .i64 (-1), .int .i64 1, .int .i64 5, .int .i64 2, .int .i64 9, .int .i64 0] 25))
  have HM1 := Lib.hid (show ∀ W, Calls _ _ #[.agg #[.int .i64 3, .int .u64 7, .int .i64 2, .int .i64 (-1), .int .i64 1, .int .i64 5, .int .i64 2, .int .i64 9, .int .i64 0], .int .i64 2, .agg #[.int .i64 2, .int .u64 0, .int .i64 3, .int .i64 5, .int .i64 0]] W (fun e w' => e = .returned (.agg #[.int .i64 1, .int .i64 3, .int .i64 2, .int .i64 5]) ∧ Chg (fun _ => False) W w') from fun W => bmeans14_any 3 7 2 (-1) 1 5 2 9 0 2 2 0 3 5 0 W)
  have HM2 := Lib.hid (show ∀ W, Calls _ _ #[.agg #[.int .i64 3, .int .u64 7, .int .i64 2, .int .i64 (-1), .int .i64 1, .int .i64 5, .int .i64 2, .int .i64 9, .int .i64 0], .int .i64 2, .agg #[.int .i64 2, .int .u64 0, .int .i64 3, .int .i64 6, .int .i64 0]] W (fun e w' => e = .returned (.agg #[.int .i64 0, .int .i64 0, .int .i64 0, .int .i64 0]) ∧ Chg (fun _ => False) W w') from fun W => bmeans14_any 3 7 2 (-1) 1 5 2 9 0 2 2 0 3 6 0 W)
  go_enter Try.func8, Try.ntmps8
  go_upto_region 2 with fail
  generalize w.alloc (.cells #[.int .i64 3, .int .u64 7, .int .i64 2, .int .i64 (-1), .int .i64 1, .int .i64 5, .int .i64 2, .int .i64 9, .int .i64 0] 25) = w2 at *
  generalize w.heap.size = QA at HA0 ⊢
  obtain ⟨y0, y1, y2, y3, y4, y5, y6, y7, y8⟩ := rv_cells HA0.out
  have HROW : Hid (RwR (w2.alloc (.cells #[.int .i64 3, .int .u64 7, .int .i64 2, .int .i64 (-1), .int .i64 1, .int .i64 5, .int .i64 2, .int .i64 9, .int .i64 0] 25)) (some ⟨w2.heap.size, 0, none⟩) 1 [(⟨3, 7, 2, -1, 1, 5, 2, 9, 0⟩ : RV)]) := Lib.hid (rwr_one (T := 25) (blk_new rfl))
  have HN := Lib.hid (btable14_any (lc := 1) HROW.out (by decide) 1)
  have hca := (Chg.refl (fun _ => False) w2).alloc (.cells #[.int .i64 3, .int .u64 7, .int .i64 2, .int .i64 (-1), .int .i64 1, .int .i64 5, .int .i64 2, .int .i64 9, .int .i64 0] 25)
  replace HA0 := Lib.hid (HA0.out.chg hca id)
  replace HX := Lib.hid (HX.out.trans hca (fun _ _ e => e))
  clear hca
  go_wp2_with fail
  refine HN.out.mono ?_
  rintro e w3 ⟨p, rfl, hT, hc⟩
  have HT := Lib.hid (show TF w3 p [(⟨0, 1, 7, 3, -9223372036854775808, 5, -9223372036854775808, 2, 3, 2, 5⟩ : En), (⟨0, 2, 7, 3, -9223372036854775808, 5, 2, 2, 3, 2, 5⟩ : En)] from hT)
  replace HA0 := Lib.hid (HA0.out.chg hc id)
  replace HX := Lib.hid (HX.out.trans hc (fun _ _ e => e))
  clear hT hc HN HROW y0 y1 y2 y3 y4 y5 y6 y7 y8
  have hl := alook14 HT.out ⟨0, 7, 0, 0, -1⟩ (some (⟨0, 1, 7, 3, -9223372036854775808, 5, -9223372036854775808, 2, 3, 2, 5⟩ : En)) rfl
  replace hl : Calls _ _ #[_, .agg #[.int .i64 0, .int .u64 7, .int .i64 0, .int .i64 0, .int .i64 (-1)]] _ (fun e w' => e = .returned (.tuple #[.agg #[.int .i64 2, .int .i64 3, .int .i64 2, .int .i64 5], .bool true]) ∧ Chg (fun _ => False) _ w') := hl
  have HL4 := Lib.hid hl
  clear hl
  go_wp2_with fail
  refine HL4.out.mono ?_
  rintro e w4 ⟨rfl, hc⟩
  have hca := hc.alloc (.cells #[.int .i64 2, .int .i64 3, .int .i64 2, .int .i64 5] 31)
  have HB4 : Hid (Blk (w4.alloc (.cells #[.int .i64 2, .int .i64 3, .int .i64 2, .int .i64 5] 31)) w4.heap.size 31 (acC 2 3 2 5)) := Lib.hid (blk_new rfl)
  replace HT := Lib.hid (HT.out.chg hca)
  replace HA0 := Lib.hid (HA0.out.chg hca id)
  replace HX := Lib.hid (HX.out.trans hca (fun _ _ e => e))
  clear hc hca HL4
  go_upto_region 4 with fail
  generalize w4.alloc (.cells #[.int .i64 2, .int .i64 3, .int .i64 2, .int .i64 5] 31) = v4 at *
  generalize w4.heap.size = X4 at *
  have hl := alook14 HT.out ⟨1, 0, 3, 5, 4⟩ (some (⟨0, 2, 7, 3, -9223372036854775808, 5, 2, 2, 3, 2, 5⟩ : En)) rfl
  replace hl : Calls _ _ #[_, .agg #[.int .i64 1, .int .u64 0, .int .i64 3, .int .i64 5, .int .i64 4]] _ (fun e w' => e = .returned (.tuple #[.agg #[.int .i64 2, .int .i64 3, .int .i64 2, .int .i64 5], .bool true]) ∧ Chg (fun _ => False) _ w') := hl
  have HL5 := Lib.hid hl
  clear hl
  go_wp2_with fail
  refine HL5.out.mono ?_
  rintro e w5 ⟨rfl, hc⟩
  have hca := hc.alloc (.cells #[.int .i64 2, .int .i64 3, .int .i64 2, .int .i64 5] 31)
  have HB5 : Hid (Blk (w5.alloc (.cells #[.int .i64 2, .int .i64 3, .int .i64 2, .int .i64 5] 31)) w5.heap.size 31 (acC 2 3 2 5)) := Lib.hid (blk_new rfl)
  replace HT := Lib.hid (HT.out.chg hca)
  replace HA0 := Lib.hid (HA0.out.chg hca id)
  replace HB4 := Lib.hid (HB4.out.chg hca id)
  replace HX := Lib.hid (HX.out.trans hca (fun _ _ e => e))
  clear hc hca HL5
  go_upto_region 5 with fail
  generalize w5.alloc (.cells #[.int .i64 2, .int .i64 3, .int .i64 2, .int .i64 5] 31) = v5 at *
  generalize w5.heap.size = X5 at *
  have hl := alook14 HT.out ⟨1, 0, 3, 5, 2⟩ none rfl
  replace hl : Calls _ _ #[_, .agg #[.int .i64 1, .int .u64 0, .int .i64 3, .int .i64 5, .int .i64 2]] _ (fun e w' => e = .returned (.tuple #[.agg #[.int .i64 0, .int .i64 0, .int .i64 0, .int .i64 0], .bool false]) ∧ Chg (fun _ => False) _ w') := hl
  have HL6 := Lib.hid hl
  clear hl
  go_wp2_with fail
  refine HL6.out.mono ?_
  rintro e w6 ⟨rfl, hc⟩
  have hca := hc.alloc (.cells #[.int .i64 0, .int .i64 0, .int .i64 0, .int .i64 0] 31)
  have HB6 : Hid (Blk (w6.alloc (.cells #[.int .i64 0, .int .i64 0, .int .i64 0, .int .i64 0] 31)) w6.heap.size 31 (acC 0 0 0 0)) := Lib.hid (blk_new rfl)
  replace HT := Lib.hid (HT.out.chg hca)
  replace HA0 := Lib.hid (HA0.out.chg hca id)
  replace HB4 := Lib.hid (HB4.out.chg hca id)
  replace HB5 := Lib.hid (HB5.out.chg hca id)
  replace HX := Lib.hid (HX.out.trans hca (fun _ _ e => e))
  clear hc hca HL6
  go_upto_region 6 with fail
  generalize w6.alloc (.cells #[.int .i64 0, .int .i64 0, .int .i64 0, .int .i64 0] 31) = v6 at *
  generalize w6.heap.size = X6 at *
  have hl := alook14 HT.out ⟨2, 0, 3, 5, 4⟩ none rfl
  replace hl : Calls _ _ #[_, .agg #[.int .i64 2, .int .u64 0, .int .i64 3, .int .i64 5, .int .i64 4]] _ (fun e w' => e = .returned (.tuple #[.agg #[.int .i64 0, .int .i64 0, .int .i64 0, .int .i64 0], .bool false]) ∧ Chg (fun _ => False) _ w') := hl
  have HL7 := Lib.hid hl
  clear hl
  go_wp2_with fail
  refine HL7.out.mono ?_
  rintro e w7 ⟨rfl, hc⟩
  have hca := hc.alloc (.cells #[.int .i64 0, .int .i64 0, .int .i64 0, .int .i64 0] 31)
  have HB7 : Hid (Blk (w7.alloc (.cells #[.int .i64 0, .int .i64 0, .int .i64 0, .int .i64 0] 31)) w7.heap.size 31 (acC 0 0 0 0)) := Lib.hid (blk_new rfl)
  replace HT := Lib.hid (HT.out.chg hca)
  replace HA0 := Lib.hid (HA0.out.chg hca id)
  replace HB4 := Lib.hid (HB4.out.chg hca id)
  replace HB5 := Lib.hid (HB5.out.chg hca id)
  replace HX := Lib.hid (HX.out.trans hca (fun _ _ e => e))
  clear hc hca HL7
  go_upto_region 7 with fail
  generalize w7.alloc (.cells #[.int .i64 0, .int .i64 0, .int .i64 0, .int .i64 0] 31) = v7 at *
  generalize w7.heap.size = X7 at *
  obtain ⟨x0, x1, x2, x3⟩ := ac_cells13 HB4.out
  obtain ⟨z0, z1, z2, z3⟩ := ac_cells13 HB5.out
  obtain ⟨y0, y1, y2, y3, y4, y5, y6, y7, y8⟩ := rv_cells HA0.out
  have he := fun W => eqAc13 W 2 3 2 5 2 3 2 5
  rw [acE13_refl] at he
  have hfd1 : ∀ w : World, (Instr.field 31 (.agg #[.int .i64 1, .int .i64 3, .int .i64 2, .int .i64 5]) 0).run Try.prog w = .ok (.int .i64 1) w := fun _ => by kernel_rfl
  have hfd0 : ∀ w : World, (Instr.field 31 (.agg #[.int .i64 0, .int .i64 0, .int .i64 0, .int .i64 0]) 0).run Try.prog w = .ok (.int .i64 0) w := fun _ => by kernel_rfl
  go_wp2_with fail
  refine (HM1.out _).mono ?_
  rintro e w8 ⟨rfl, hc⟩
  replace HA0 := Lib.hid (HA0.out.chg hc id)
  replace HX := Lib.hid (HX.out.trans hc (fun _ _ e => e))
  clear hc x0 x1 x2 x3 z0 z1 z2 z3 y0 y1 y2 y3 y4 y5 y6 y7 y8
  obtain ⟨y0, y1, y2, y3, y4, y5, y6, y7, y8⟩ := rv_cells HA0.out
  go_wp2_with fail
  refine (HM2.out _).mono ?_
  rintro e w9 ⟨rfl, hc⟩
  replace HX := Lib.hid (HX.out.trans hc (fun _ _ e => e))
  clear hc y0 y1 y2 y3 y4 y5 y6 y7 y8
  go_wp2_with fail
  go_ret
  exact ⟨rfl, HX.out⟩

end Go.Proofs.Yteipeookmpnemaa
