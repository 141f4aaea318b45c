/-
  Walk: rutterlaw09.alive. No condition.
-/
import Derived.Test.YtbigcebpfbfddaaOi
import Derived.Test.YtbigcebpfbfddaaOo
namespace Go.Proofs.Ytbigcebpfbfddaa
open Go.RowKit
set_option linter.unusedVariables false

set_option maxRecDepth 100000 in
set_option maxHeartbeats 4000000 in
theorem alive9_any (w : World) : Calls Try.prog 9 #[] w fun e w' => e = .returned (.bool true) ∧ Chg (fun _ => False) w w' := by
  have hd0 := fun W => pnew_any 3 7 1 5 W
  rw [show new9 3 7 1 5 = (⟨3, 7, 1, -1, -1, 1, 0, 1, 5⟩, 0) from by kernel_rfl] at hd0
  have HD0 : Hid (∀ W, Calls _ _ _ W (HR9 3 7 1 (-1) (-1) 1 0 1 5 0 W)) := Lib.hid hd0
  clear hd0
  have hd1 := fun W => psta_any 3 7 1 (-1) (-1) 1 0 1 5 2 6 W
  rw [show st9 ⟨3, 7, 1, -1, -1, 1, 0, 1, 5⟩ 2 6 = (⟨3, 7, 1, 2, -1, 1, 1, 2, 6⟩, 0) from by kernel_rfl] at hd1
  have HD1 : Hid (∀ W, Calls _ _ _ W (HR9 3 7 1 2 (-1) 1 1 2 6 0 W)) := Lib.hid hd1
  clear hd1
  have hd2 := fun W => pawa_any 3 7 1 2 (-1) 1 1 2 6 1 2 7 W
  rw [show aw9 ⟨3, 7, 1, 2, -1, 1, 1, 2, 6⟩ 1 2 7 = (⟨0, 0, 0, 0, 0, 0, 0, 0, 0⟩, 11) from by kernel_rfl] at hd2
  have HD2 : Hid (∀ W, Calls _ _ _ W (HR9 0 0 0 0 0 0 0 0 0 11 W)) := Lib.hid hd2
  clear hd2
  have hd3 := fun W => pawa_any 3 7 1 2 (-1) 1 1 2 6 2 2 7 W
  rw [show aw9 ⟨3, 7, 1, 2, -1, 1, 1, 2, 6⟩ 2 2 7 = (⟨3, 7, 2, -1, 1, 2, 2, 3, 7⟩, 0) from by kernel_rfl] at hd3
  have HD3 : Hid (∀ W, Calls _ _ _ W (HR9 3 7 2 (-1) 1 2 2 3 7 0 W)) := Lib.hid hd3
  clear hd3
  have hd4 := fun W => plate_any 3 7 2 (-1) 1 2 2 3 7 17 10 W (by decide)
  rw [show lt9 ⟨3, 7, 2, -1, 1, 2, 2, 3, 7⟩ 17 10 = (⟨3, 7, 2, -1, -1, 2, 0, 4, 17⟩, true) from by kernel_rfl] at hd4
  have HD4 : Hid (∀ W, Calls _ _ _ W (HB9 3 7 2 (-1) (-1) 2 0 4 17 true W)) := Lib.hid hd4
  clear hd4
  have hd5 := fun W => psta_any 3 7 2 (-1) (-1) 2 0 4 17 2 20 W
  rw [show st9 ⟨3, 7, 2, -1, -1, 2, 0, 4, 17⟩ 2 20 = (⟨0, 0, 0, 0, 0, 0, 0, 0, 0⟩, 9) from by kernel_rfl] at hd5
  have HD5 : Hid (∀ W, Calls _ _ _ W (HR9 0 0 0 0 0 0 0 0 0 9 W)) := Lib.hid hd5
  clear hd5
  have heq := fun W => eqRow W 3 7 2 (-1) 1 2 2 3 7 3 7 2 (-1) 1 2 2 3 7
  rw [show rvE 3 7 2 (-1) 1 2 2 3 7 3 7 2 (-1) 1 2 2 3 7 = true from by kernel_rfl] at heq
  have HX := Lib.hid (Chg.refl (fun _ => False) w)
  go_enter Try.func9, Try.ntmps9
  go_wp2_with fail
  refine (HD0.out _).mono ?_
  rintro e w0 ⟨rfl, hc⟩
  replace HX := Lib.hid (HX.out.trans hc (fun _ _ e => e))
  clear hc
  go_upto_region 2 with fail
  have B0 := Lib.hid (Blk.new w0 25 #[.int .i64 3, .int .u64 7, .int .i64 1, .int .i64 (-1), .int .i64 (-1), .int .i64 1, .int .i64 0, .int .i64 1, .int .i64 5])
  replace HX := Lib.hid (HX.out.alloc (.cells #[.int .i64 3, .int .u64 7, .int .i64 1, .int .i64 (-1), .int .i64 (-1), .int .i64 1, .int .i64 0, .int .i64 1, .int .i64 5] 25))
  generalize w0.heap.size = g0 at *
  generalize w0.alloc (.cells #[.int .i64 3, .int .u64 7, .int .i64 1, .int .i64 (-1), .int .i64 (-1), .int .i64 1, .int .i64 0, .int .i64 1, .int .i64 5] 25) = v0 at *
  replace B0 : Hid (Blk _ g0 25 (rvC 3 7 1 (-1) (-1) 1 0 1 5)) := B0
  obtain ⟨y0, y1, y2, y3, y4, y5, y6, y7, y8⟩ := rv_cells B0.out
  go_wp2_with fail
  refine (HD1.out _).mono ?_
  rintro e w1 ⟨rfl, hc⟩
  replace HX := Lib.hid (HX.out.trans hc (fun _ _ e => e))
  replace B0 := Lib.hid (B0.out.chg hc id)
  clear hc y0 y1 y2 y3 y4 y5 y6 y7 y8
  go_upto_region 3 with fail
  have B1 := Lib.hid (Blk.new w1 25 #[.int .i64 3, .int .u64 7, .int .i64 1, .int .i64 2, .int .i64 (-1), .int .i64 1, .int .i64 1, .int .i64 2, .int .i64 6])
  replace HX := Lib.hid (HX.out.alloc (.cells #[.int .i64 3, .int .u64 7, .int .i64 1, .int .i64 2, .int .i64 (-1), .int .i64 1, .int .i64 1, .int .i64 2, .int .i64 6] 25))
  replace B0 := Lib.hid (B0.out.alloc (.cells #[.int .i64 3, .int .u64 7, .int .i64 1, .int .i64 2, .int .i64 (-1), .int .i64 1, .int .i64 1, .int .i64 2, .int .i64 6] 25))
  generalize w1.heap.size = g1 at *
  generalize w1.alloc (.cells #[.int .i64 3, .int .u64 7, .int .i64 1, .int .i64 2, .int .i64 (-1), .int .i64 1, .int .i64 1, .int .i64 2, .int .i64 6] 25) = v1 at *
  replace B1 : Hid (Blk _ g1 25 (rvC 3 7 1 2 (-1) 1 1 2 6)) := B1
  obtain ⟨y0, y1, y2, y3, y4, y5, y6, y7, y8⟩ := rv_cells B1.out
  go_wp2_with fail
  refine (HD2.out _).mono ?_
  rintro e w2 ⟨rfl, hc⟩
  replace HX := Lib.hid (HX.out.trans hc (fun _ _ e => e))
  replace B0 := Lib.hid (B0.out.chg hc id)
  replace B1 := Lib.hid (B1.out.chg hc id)
  clear hc y0 y1 y2 y3 y4 y5 y6 y7 y8
  go_upto_region 4 with fail
  have B2 := Lib.hid (Blk.new w2 25 #[.int .i64 0, .int .u64 0, .int .i64 0, .int .i64 0, .int .i64 0, .int .i64 0, .int .i64 0, .int .i64 0, .int .i64 0])
  replace HX := Lib.hid (HX.out.alloc (.cells #[.int .i64 0, .int .u64 0, .int .i64 0, .int .i64 0, .int .i64 0, .int .i64 0, .int .i64 0, .int .i64 0, .int .i64 0] 25))
  replace B0 := Lib.hid (B0.out.alloc (.cells #[.int .i64 0, .int .u64 0, .int .i64 0, .int .i64 0, .int .i64 0, .int .i64 0, .int .i64 0, .int .i64 0, .int .i64 0] 25))
  replace B1 := Lib.hid (B1.out.alloc (.cells #[.int .i64 0, .int .u64 0, .int .i64 0, .int .i64 0, .int .i64 0, .int .i64 0, .int .i64 0, .int .i64 0, .int .i64 0] 25))
  generalize w2.heap.size = g2 at *
  generalize w2.alloc (.cells #[.int .i64 0, .int .u64 0, .int .i64 0, .int .i64 0, .int .i64 0, .int .i64 0, .int .i64 0, .int .i64 0, .int .i64 0] 25) = v2 at *
  replace B2 : Hid (Blk _ g2 25 (rvC 0 0 0 0 0 0 0 0 0)) := B2
  obtain ⟨y0, y1, y2, y3, y4, y5, y6, y7, y8⟩ := rv_cells B1.out
  go_wp2_with fail
  refine (HD3.out _).mono ?_
  rintro e w3 ⟨rfl, hc⟩
  replace HX := Lib.hid (HX.out.trans hc (fun _ _ e => e))
  replace B0 := Lib.hid (B0.out.chg hc id)
  replace B1 := Lib.hid (B1.out.chg hc id)
  replace B2 := Lib.hid (B2.out.chg hc id)
  clear hc y0 y1 y2 y3 y4 y5 y6 y7 y8
  go_upto_region 5 with fail
  have B3 := Lib.hid (Blk.new w3 25 #[.int .i64 3, .int .u64 7, .int .i64 2, .int .i64 (-1), .int .i64 1, .int .i64 2, .int .i64 2, .int .i64 3, .int .i64 7])
  replace HX := Lib.hid (HX.out.alloc (.cells #[.int .i64 3, .int .u64 7, .int .i64 2, .int .i64 (-1), .int .i64 1, .int .i64 2, .int .i64 2, .int .i64 3, .int .i64 7] 25))
  replace B0 := Lib.hid (B0.out.alloc (.cells #[.int .i64 3, .int .u64 7, .int .i64 2, .int .i64 (-1), .int .i64 1, .int .i64 2, .int .i64 2, .int .i64 3, .int .i64 7] 25))
  replace B1 := Lib.hid (B1.out.alloc (.cells #[.int .i64 3, .int .u64 7, .int .i64 2, .int .i64 (-1), .int .i64 1, .int .i64 2, .int .i64 2, .int .i64 3, .int .i64 7] 25))
  replace B2 := Lib.hid (B2.out.alloc (.cells #[.int .i64 3, .int .u64 7, .int .i64 2, .int .i64 (-1), .int .i64 1, .int .i64 2, .int .i64 2, .int .i64 3, .int .i64 7] 25))
  generalize w3.heap.size = g3 at *
  generalize w3.alloc (.cells #[.int .i64 3, .int .u64 7, .int .i64 2, .int .i64 (-1), .int .i64 1, .int .i64 2, .int .i64 2, .int .i64 3, .int .i64 7] 25) = v3 at *
  replace B3 : Hid (Blk _ g3 25 (rvC 3 7 2 (-1) 1 2 2 3 7)) := B3
  obtain ⟨y0, y1, y2, y3, y4, y5, y6, y7, y8⟩ := rv_cells B3.out
  go_wp2_with fail
  refine (HD4.out _).mono ?_
  rintro e w4 ⟨rfl, hc⟩
  replace HX := Lib.hid (HX.out.trans hc (fun _ _ e => e))
  replace B0 := Lib.hid (B0.out.chg hc id)
  replace B1 := Lib.hid (B1.out.chg hc id)
  replace B2 := Lib.hid (B2.out.chg hc id)
  replace B3 := Lib.hid (B3.out.chg hc id)
  clear hc y0 y1 y2 y3 y4 y5 y6 y7 y8
  go_upto_region 6 with fail
  have B4 := Lib.hid (Blk.new w4 25 #[.int .i64 3, .int .u64 7, .int .i64 2, .int .i64 (-1), .int .i64 (-1), .int .i64 2, .int .i64 0, .int .i64 4, .int .i64 17])
  replace HX := Lib.hid (HX.out.alloc (.cells #[.int .i64 3, .int .u64 7, .int .i64 2, .int .i64 (-1), .int .i64 (-1), .int .i64 2, .int .i64 0, .int .i64 4, .int .i64 17] 25))
  replace B0 := Lib.hid (B0.out.alloc (.cells #[.int .i64 3, .int .u64 7, .int .i64 2, .int .i64 (-1), .int .i64 (-1), .int .i64 2, .int .i64 0, .int .i64 4, .int .i64 17] 25))
  replace B1 := Lib.hid (B1.out.alloc (.cells #[.int .i64 3, .int .u64 7, .int .i64 2, .int .i64 (-1), .int .i64 (-1), .int .i64 2, .int .i64 0, .int .i64 4, .int .i64 17] 25))
  replace B2 := Lib.hid (B2.out.alloc (.cells #[.int .i64 3, .int .u64 7, .int .i64 2, .int .i64 (-1), .int .i64 (-1), .int .i64 2, .int .i64 0, .int .i64 4, .int .i64 17] 25))
  replace B3 := Lib.hid (B3.out.alloc (.cells #[.int .i64 3, .int .u64 7, .int .i64 2, .int .i64 (-1), .int .i64 (-1), .int .i64 2, .int .i64 0, .int .i64 4, .int .i64 17] 25))
  generalize w4.heap.size = g4 at *
  generalize w4.alloc (.cells #[.int .i64 3, .int .u64 7, .int .i64 2, .int .i64 (-1), .int .i64 (-1), .int .i64 2, .int .i64 0, .int .i64 4, .int .i64 17] 25) = v4 at *
  replace B4 : Hid (Blk _ g4 25 (rvC 3 7 2 (-1) (-1) 2 0 4 17)) := B4
  obtain ⟨y0, y1, y2, y3, y4, y5, y6, y7, y8⟩ := rv_cells B4.out
  go_wp2_with fail
  refine (HD5.out _).mono ?_
  rintro e w5 ⟨rfl, hc⟩
  replace HX := Lib.hid (HX.out.trans hc (fun _ _ e => e))
  replace B0 := Lib.hid (B0.out.chg hc id)
  replace B1 := Lib.hid (B1.out.chg hc id)
  replace B2 := Lib.hid (B2.out.chg hc id)
  replace B3 := Lib.hid (B3.out.chg hc id)
  replace B4 := Lib.hid (B4.out.chg hc id)
  clear hc y0 y1 y2 y3 y4 y5 y6 y7 y8
  go_upto_region 7 with fail
  have B5 := Lib.hid (Blk.new w5 25 #[.int .i64 0, .int .u64 0, .int .i64 0, .int .i64 0, .int .i64 0, .int .i64 0, .int .i64 0, .int .i64 0, .int .i64 0])
  replace HX := Lib.hid (HX.out.alloc (.cells #[.int .i64 0, .int .u64 0, .int .i64 0, .int .i64 0, .int .i64 0, .int .i64 0, .int .i64 0, .int .i64 0, .int .i64 0] 25))
  replace B0 := Lib.hid (B0.out.alloc (.cells #[.int .i64 0, .int .u64 0, .int .i64 0, .int .i64 0, .int .i64 0, .int .i64 0, .int .i64 0, .int .i64 0, .int .i64 0] 25))
  replace B1 := Lib.hid (B1.out.alloc (.cells #[.int .i64 0, .int .u64 0, .int .i64 0, .int .i64 0, .int .i64 0, .int .i64 0, .int .i64 0, .int .i64 0, .int .i64 0] 25))
  replace B2 := Lib.hid (B2.out.alloc (.cells #[.int .i64 0, .int .u64 0, .int .i64 0, .int .i64 0, .int .i64 0, .int .i64 0, .int .i64 0, .int .i64 0, .int .i64 0] 25))
  replace B3 := Lib.hid (B3.out.alloc (.cells #[.int .i64 0, .int .u64 0, .int .i64 0, .int .i64 0, .int .i64 0, .int .i64 0, .int .i64 0, .int .i64 0, .int .i64 0] 25))
  replace B4 := Lib.hid (B4.out.alloc (.cells #[.int .i64 0, .int .u64 0, .int .i64 0, .int .i64 0, .int .i64 0, .int .i64 0, .int .i64 0, .int .i64 0, .int .i64 0] 25))
  generalize w5.heap.size = g5 at *
  generalize w5.alloc (.cells #[.int .i64 0, .int .u64 0, .int .i64 0, .int .i64 0, .int .i64 0, .int .i64 0, .int .i64 0, .int .i64 0, .int .i64 0] 25) = v5 at *
  replace B5 : Hid (Blk _ g5 25 (rvC 0 0 0 0 0 0 0 0 0)) := B5
  obtain ⟨-, -, -, -, -, -, -, a7, -⟩ := rv_cells B1.out
  obtain ⟨b0, b1, b2, b3, b4, b5, b6, b7, b8⟩ := rv_cells B3.out
  obtain ⟨-, -, -, -, c4, -, c6, c7, -⟩ := rv_cells B4.out
  go_wp2_with fail
  go_ret
  exact ⟨rfl, HX.out⟩

end Go.Proofs.Ytbigcebpfbfddaa
