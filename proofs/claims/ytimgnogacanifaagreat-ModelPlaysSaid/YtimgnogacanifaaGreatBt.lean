/-
  Walk: rutterlaw20.alive. No condition.
-/
import Derived.Test.YtimgnogacanifaaGreatBs
namespace Go.Proofs.YtimgnogacanifaaGreat
open Go.RowKit
set_option linter.unusedVariables false
set_option linter.unusedSimpArgs false

def lv20_0 : MV20 := ⟨fun _ => false, fun _ => none, 10, 0⟩
def lv20_1 : MV20 := (doM20 lv20_0 0 0 1 0).2.2
theorem lvd20_0 : doM20 lv20_0 0 0 1 0 = (⟨0, 0, 0, 0, 0, 0, 0, 0, 0⟩, 0, lv20_1) := by
  have h1 : (doM20 lv20_0 0 0 1 0).1 = ⟨0, 0, 0, 0, 0, 0, 0, 0, 0⟩ := by kernel_rfl
  have h2 : (doM20 lv20_0 0 0 1 0).2.1 = 0 := by kernel_rfl
  rw [← h1, ← h2]
  rfl
def lv20_2 : MV20 := (doM20 lv20_1 0 0 2 0).2.2
theorem lvd20_1 : doM20 lv20_1 0 0 2 0 = (⟨0, 0, 0, 0, 0, 0, 0, 0, 0⟩, 0, lv20_2) := by
  have h1 : (doM20 lv20_1 0 0 2 0).1 = ⟨0, 0, 0, 0, 0, 0, 0, 0, 0⟩ := by kernel_rfl
  have h2 : (doM20 lv20_1 0 0 2 0).2.1 = 0 := by kernel_rfl
  rw [← h1, ← h2]
  rfl
def lv20_3 : MV20 := (doM20 lv20_2 2 3 4 7).2.2
theorem lvd20_2 : doM20 lv20_2 2 3 4 7 = (⟨0, 0, 0, 0, 0, 0, 0, 0, 0⟩, 4, lv20_3) := by
  have h1 : (doM20 lv20_2 2 3 4 7).1 = ⟨0, 0, 0, 0, 0, 0, 0, 0, 0⟩ := by kernel_rfl
  have h2 : (doM20 lv20_2 2 3 4 7).2.1 = 4 := by kernel_rfl
  rw [← h1, ← h2]
  rfl
def lv20_4 : MV20 := (doM20 lv20_3 2 3 1 7).2.2
theorem lvd20_3 : doM20 lv20_3 2 3 1 7 = (⟨3, 7, 1, -1, -1, 1, 0, 1, 0⟩, 0, lv20_4) := by
  have h1 : (doM20 lv20_3 2 3 1 7).1 = ⟨3, 7, 1, -1, -1, 1, 0, 1, 0⟩ := by kernel_rfl
  have h2 : (doM20 lv20_3 2 3 1 7).2.1 = 0 := by kernel_rfl
  rw [← h1, ← h2]
  rfl
def lv20_5 : MV20 := (doM20 lv20_4 4 3 1 0).2.2
theorem lvd20_4 : doM20 lv20_4 4 3 1 0 = (⟨0, 0, 0, 0, 0, 0, 0, 0, 0⟩, 9, lv20_5) := by
  have h1 : (doM20 lv20_4 4 3 1 0).1 = ⟨0, 0, 0, 0, 0, 0, 0, 0, 0⟩ := by kernel_rfl
  have h2 : (doM20 lv20_4 4 3 1 0).2.1 = 9 := by kernel_rfl
  rw [← h1, ← h2]
  rfl
def lv20_6 : MV20 := (doM20 lv20_5 4 3 2 0).2.2
theorem lvd20_5 : doM20 lv20_5 4 3 2 0 = (⟨3, 7, 1, 2, -1, 1, 1, 2, 0⟩, 0, lv20_6) := by
  have h1 : (doM20 lv20_5 4 3 2 0).1 = ⟨3, 7, 1, 2, -1, 1, 1, 2, 0⟩ := by kernel_rfl
  have h2 : (doM20 lv20_5 4 3 2 0).2.1 = 0 := by kernel_rfl
  rw [← h1, ← h2]
  rfl
def lv20_c : MV20 := (tickM20 lv20_6 10).2
theorem lvt20 : (tickM20 lv20_6 10).1 = 0 := by kernel_rfl
theorem lvq20 : doM20 lv20_c 7 3 0 0 = (⟨3, 7, 1, -1, -1, 1, 0, 3, 10⟩, 0, lv20_c) := by
  have h1 : (doM20 lv20_c 7 3 0 0).1 = ⟨3, 7, 1, -1, -1, 1, 0, 3, 10⟩ := by kernel_rfl
  have h2 : (doM20 lv20_c 7 3 0 0).2.1 = 0 := by kernel_rfl
  rw [← h1, ← h2]
  rfl
def lv20_7 : MV20 := becM20 lv20_6 (awP20 lv20_6 1 3 2)
theorem lvn20 : (becX20 lv20_6 (awP20 lv20_6 1 3 2) == 0) = false := by kernel_rfl
def lv20_8 : MV20 := becM20 lv20_7 (awP20 lv20_7 2 3 2)
theorem lvy20 : (becX20 lv20_7 (awP20 lv20_7 2 3 2) == 0) = true := by kernel_rfl
theorem lvp20 : doM20 lv20_8 7 3 0 0 = (⟨3, 7, 2, -1, 1, 2, 2, 3, 0⟩, 0, lv20_8) := by
  have h1 : (doM20 lv20_8 7 3 0 0).1 = ⟨3, 7, 2, -1, 1, 2, 2, 3, 0⟩ := by kernel_rfl
  have h2 : (doM20 lv20_8 7 3 0 0).2.1 = 0 := by kernel_rfl
  rw [← h1, ← h2]
  rfl
theorem lvc20 : chasP lv20_8.C = [1, 2] := by kernel_rfl
theorem lvo20_0 : MOk20 lv20_0 := ⟨WF.start, by decide, by decide⟩
theorem lvo20_1 : MOk20 lv20_1 := lvo20_0.do_ 0 0 1 0
theorem lvo20_2 : MOk20 lv20_2 := lvo20_1.do_ 0 0 2 0
theorem lvo20_3 : MOk20 lv20_3 := lvo20_2.do_ 2 3 4 7
theorem lvo20_4 : MOk20 lv20_4 := lvo20_3.do_ 2 3 1 7
theorem lvo20_5 : MOk20 lv20_5 := lvo20_4.do_ 4 3 1 0
theorem lvo20_6 : MOk20 lv20_6 := lvo20_5.do_ 4 3 2 0
theorem lvo20_c : MOk20 lv20_c := lvo20_6.tick 10
theorem lvo20_7 : MOk20 lv20_7 := lvo20_6.bec _
theorem lvo20_8 : MOk20 lv20_8 := lvo20_7.bec _
theorem dov20 {B : Nat} {w : World} {p ps bc br : Nat} {x y : MV20} {op po ch ma e : Int} {r : RV} (h : MM20 B w p ps bc br x.C x.R x.sp x.no) (ok : MOk20 x) (hd : doM20 x op po ch ma = (r, e, y)) : Calls Tryz.prog 9 #[.pointer (some ⟨p, 0, none⟩), .agg #[.int .i64 op, .int .i64 po, .int .i64 ch, .int .u64 ma]] w (fun e' w' => ∃ br', e' = .returned (.tuple #[.agg r.cs, .int .i64 e]) ∧ MM20 B w' p ps bc br' y.C y.R y.sp y.no ∧ Chg (Mv20 p ps bc) w w') := by
  have h1 := do20_any h ok.1 op po ch ma
  unfold BecP20 at h1
  rw [show doM20 ⟨x.C, x.R, x.sp, x.no⟩ op po ch ma = doM20 x op po ch ma from rfl, hd] at h1
  exact h1
/-- A model ahead of block B2 is as it was, behind a call on one that lies behind it. -/
theorem MM20.near {B B2 : Nat} {w w' : World} {p ps bc br p2 ps2 bc2 : Nat} {C : Int → Bool} {R : Int → Option RV} {sp no : Int} (h : MM20 B w p ps bc br C R sp no) (hc : Chg (Mv20 p2 ps2 bc2) w w') (hB : p < B2 ∧ ps < B2 ∧ bc < B2 ∧ br < B2) (h2 : ∀ k, Mv20 p2 ps2 bc2 k → B2 ≤ k) : MM20 B w' p ps bc br C R sp no :=
  h.chg hc (fun e => by have := h2 _ e; omega) (fun e => by have := h2 _ e; omega) (fun e => by have := h2 _ e; omega) (fun e => by have := h2 _ e; omega)
set_option maxRecDepth 100000 in
set_option maxHeartbeats 16000000 in
theorem alive20_any (w : World) : Calls Tryz.prog 4 #[] w fun e w' => e = .returned (.bool true) ∧ Chg (fun _ => False) w w' := by
  go_enter Tryz.func4, Tryz.ntmps4
  go_upto_region 1 with fail
  go_wp2_with fail
  refine (new20_any 10 (by decide) w).mono ?_
  rintro e w0 ⟨p, ps, bc, br, rfl, hm, hc⟩
  have HM : Hid (MM20 w.heap.size w0 p ps bc br lv20_0.C lv20_0.R lv20_0.sp lv20_0.no) := Lib.hid hm
  have HX := Lib.hid hc
  clear hm hc
  have HCL : Hid (Calls _ _ _ _ (fun e' w' => ∃ br', e' = .returned (.tuple #[.agg #[.int .i64 0, .int .u64 0, .int .i64 0, .int .i64 0, .int .i64 0, .int .i64 0, .int .i64 0, .int .i64 0, .int .i64 0], .int .i64 0]) ∧ MM20 _ w' _ _ _ br' lv20_1.C lv20_1.R lv20_1.sp lv20_1.no ∧ Chg _ _ w')) := Lib.hid (dov20 HM.out lvo20_0 lvd20_0)
  go_wp2_with fail
  refine HCL.out.mono ?_
  rintro e wa ⟨brn, rfl, hm, hc⟩
  clear HCL
  replace HX := Lib.hid (HX.out.trans hc (fun k hk e => by have := HM.out.mv k e; omega))
  replace HM := Lib.hid hm
  clear hc hm 
  have HCL : Hid (Calls _ _ _ _ (fun e' w' => ∃ br', e' = .returned (.tuple #[.agg #[.int .i64 0, .int .u64 0, .int .i64 0, .int .i64 0, .int .i64 0, .int .i64 0, .int .i64 0, .int .i64 0, .int .i64 0], .int .i64 0]) ∧ MM20 _ w' _ _ _ br' lv20_2.C lv20_2.R lv20_2.sp lv20_2.no ∧ Chg _ _ w')) := Lib.hid (dov20 HM.out lvo20_1 lvd20_1)
  go_wp2_with fail
  refine HCL.out.mono ?_
  rintro e wa ⟨brn, rfl, hm, hc⟩
  clear HCL
  replace HX := Lib.hid (HX.out.trans hc (fun k hk e => by have := HM.out.mv k e; omega))
  replace HM := Lib.hid hm
  clear hc hm 
  have HCL : Hid (Calls _ _ _ _ (fun e' w' => ∃ br', e' = .returned (.tuple #[.agg #[.int .i64 0, .int .u64 0, .int .i64 0, .int .i64 0, .int .i64 0, .int .i64 0, .int .i64 0, .int .i64 0, .int .i64 0], .int .i64 4]) ∧ MM20 _ w' _ _ _ br' lv20_3.C lv20_3.R lv20_3.sp lv20_3.no ∧ Chg _ _ w')) := Lib.hid (dov20 HM.out lvo20_2 lvd20_2)
  go_wp2_with fail
  refine HCL.out.mono ?_
  rintro e wa ⟨brn, rfl, hm, hc⟩
  clear HCL
  replace HX := Lib.hid (HX.out.trans hc (fun k hk e => by have := HM.out.mv k e; omega))
  replace HM := Lib.hid hm
  clear hc hm 
  go_upto_region 5 with fail
  have hc := (Chg.refl (fun _ => False) wa).alloc (.cells #[.int .i64 0, .int .u64 0, .int .i64 0, .int .i64 0, .int .i64 0, .int .i64 0, .int .i64 0, .int .i64 0, .int .i64 0] 40)
  replace HX := Lib.hid (HX.out.trans hc (fun _ _ e => e))
  replace HM := Lib.hid (HM.out.keep hc)
  clear hc
  generalize wa.alloc (.cells #[.int .i64 0, .int .u64 0, .int .i64 0, .int .i64 0, .int .i64 0, .int .i64 0, .int .i64 0, .int .i64 0, .int .i64 0] 40) = wb at *
  have HCL : Hid (Calls _ _ _ _ (fun e' w' => ∃ br', e' = .returned (.tuple #[.agg #[.int .i64 3, .int .u64 7, .int .i64 1, .int .i64 (-1), .int .i64 (-1), .int .i64 1, .int .i64 0, .int .i64 1, .int .i64 0], .int .i64 0]) ∧ MM20 _ w' _ _ _ br' lv20_4.C lv20_4.R lv20_4.sp lv20_4.no ∧ Chg _ _ w')) := Lib.hid (dov20 HM.out lvo20_3 lvd20_3)
  go_wp2_with fail
  refine HCL.out.mono ?_
  rintro e wa ⟨brn, rfl, hm, hc⟩
  clear HCL
  replace HX := Lib.hid (HX.out.trans hc (fun k hk e => by have := HM.out.mv k e; omega))
  replace HM := Lib.hid hm
  clear hc hm 
  go_upto_region 6 with fail
  have hc := (Chg.refl (fun _ => False) wa).alloc (.cells #[.int .i64 3, .int .u64 7, .int .i64 1, .int .i64 (-1), .int .i64 (-1), .int .i64 1, .int .i64 0, .int .i64 1, .int .i64 0] 40)
  replace HX := Lib.hid (HX.out.trans hc (fun _ _ e => e))
  replace HM := Lib.hid (HM.out.keep hc)
  clear hc
  generalize wa.alloc (.cells #[.int .i64 3, .int .u64 7, .int .i64 1, .int .i64 (-1), .int .i64 (-1), .int .i64 1, .int .i64 0, .int .i64 1, .int .i64 0] 40) = wb at *
  have HCL : Hid (Calls _ _ _ _ (fun e' w' => ∃ br', e' = .returned (.tuple #[.agg #[.int .i64 0, .int .u64 0, .int .i64 0, .int .i64 0, .int .i64 0, .int .i64 0, .int .i64 0, .int .i64 0, .int .i64 0], .int .i64 9]) ∧ MM20 _ w' _ _ _ br' lv20_5.C lv20_5.R lv20_5.sp lv20_5.no ∧ Chg _ _ w')) := Lib.hid (dov20 HM.out lvo20_4 lvd20_4)
  go_wp2_with fail
  refine HCL.out.mono ?_
  rintro e wa ⟨brn, rfl, hm, hc⟩
  clear HCL
  replace HX := Lib.hid (HX.out.trans hc (fun k hk e => by have := HM.out.mv k e; omega))
  replace HM := Lib.hid hm
  clear hc hm 
  go_upto_region 7 with fail
  have hc := (Chg.refl (fun _ => False) wa).alloc (.cells #[.int .i64 0, .int .u64 0, .int .i64 0, .int .i64 0, .int .i64 0, .int .i64 0, .int .i64 0, .int .i64 0, .int .i64 0] 40)
  replace HX := Lib.hid (HX.out.trans hc (fun _ _ e => e))
  replace HM := Lib.hid (HM.out.keep hc)
  clear hc
  generalize wa.alloc (.cells #[.int .i64 0, .int .u64 0, .int .i64 0, .int .i64 0, .int .i64 0, .int .i64 0, .int .i64 0, .int .i64 0, .int .i64 0] 40) = wb at *
  have HCL : Hid (Calls _ _ _ _ (fun e' w' => ∃ br', e' = .returned (.tuple #[.agg #[.int .i64 3, .int .u64 7, .int .i64 1, .int .i64 2, .int .i64 (-1), .int .i64 1, .int .i64 1, .int .i64 2, .int .i64 0], .int .i64 0]) ∧ MM20 _ w' _ _ _ br' lv20_6.C lv20_6.R lv20_6.sp lv20_6.no ∧ Chg _ _ w')) := Lib.hid (dov20 HM.out lvo20_5 lvd20_5)
  go_wp2_with fail
  refine HCL.out.mono ?_
  rintro e wa ⟨brn, rfl, hm, hc⟩
  clear HCL
  replace HX := Lib.hid (HX.out.trans hc (fun k hk e => by have := HM.out.mv k e; omega))
  replace HM := Lib.hid hm
  clear hc hm 
  go_upto_region 8 with fail
  have hc := (Chg.refl (fun _ => False) wa).alloc (.cells #[.int .i64 3, .int .u64 7, .int .i64 1, .int .i64 2, .int .i64 (-1), .int .i64 1, .int .i64 1, .int .i64 2, .int .i64 0] 40)
  have HR : Hid (Blk (wa.alloc (.cells #[.int .i64 3, .int .u64 7, .int .i64 1, .int .i64 2, .int .i64 (-1), .int .i64 1, .int .i64 1, .int .i64 2, .int .i64 0] 40)) wa.heap.size 40 (rvC 3 7 1 2 (-1) 1 1 2 0)) := Lib.hid (blk_new rfl)
  replace HX := Lib.hid (HX.out.trans hc (fun _ _ e => e))
  replace HM := Lib.hid (HM.out.keep hc)
  clear hc
  generalize wa.alloc (.cells #[.int .i64 3, .int .u64 7, .int .i64 1, .int .i64 2, .int .i64 (-1), .int .i64 1, .int .i64 1, .int .i64 2, .int .i64 0] 40) = wb at *
  generalize wa.heap.size = QHR at *
  have HCL := Lib.hid (clone20_any HM.out lvo20_6.1)
  have HLT := Lib.hid HM.out.lt
  have HBS := Lib.hid HX.out.size
  go_wp2_with fail
  refine HCL.out.mono ?_
  rintro e w9 ⟨p2, ps2, bc2, br2, rfl, hm2, hc⟩
  have HM2 := Lib.hid hm2
  replace HX := Lib.hid (HX.out.trans hc (fun _ _ e => e))
  replace HM := Lib.hid (HM.out.keep hc)
  replace HR := Lib.hid (HR.out.chg hc id)
  clear hc hm2 HCL
  generalize wb.heap.size = B2 at *
  have HCL := Lib.hid (tick20_any HM2.out lvo20_6.1 lvo20_6.2 10)
  go_wp2_with fail
  refine HCL.out.mono ?_
  rintro e wa ⟨brn, rfl, hm2, hc⟩
  rw [show (tickM20 ⟨lv20_6.C, lv20_6.R, lv20_6.sp, lv20_6.no⟩ 10).1 = 0 from lvt20]
  replace HX := Lib.hid (HX.out.trans hc (fun k hk e => by have h1 := HM2.out.mv k e; have h2 := HBS.out; omega))
  replace HM := Lib.hid (HM.out.near hc HLT.out HM2.out.mv)
  have hr := HM2.out.apart HR.out (by decide)
  replace HR := Lib.hid (HR.out.chg hc (by unfold Mv20; omega))
  replace HM2 : Hid (MM20 B2 wa p2 ps2 bc2 brn lv20_c.C lv20_c.R lv20_c.sp lv20_c.no) := Lib.hid hm2
  clear hc hm2 hr HCL
  have HCL : Hid (Calls _ _ _ _ (fun e' w' => ∃ br', e' = .returned (.tuple #[.agg #[.int .i64 3, .int .u64 7, .int .i64 1, .int .i64 (-1), .int .i64 (-1), .int .i64 1, .int .i64 0, .int .i64 3, .int .i64 10], .int .i64 0]) ∧ MM20 _ w' _ _ _ br' lv20_c.C lv20_c.R lv20_c.sp lv20_c.no ∧ Chg _ _ w')) := Lib.hid (dov20 HM2.out lvo20_c lvq20)
  go_wp2_with fail
  refine HCL.out.mono ?_
  rintro e wc ⟨brm, rfl, hm2, hc⟩
  replace HX := Lib.hid (HX.out.trans hc (fun k hk e => by have h1 := HM2.out.mv k e; have h2 := HBS.out; omega))
  replace HM := Lib.hid (HM.out.near hc HLT.out HM2.out.mv)
  have hr := HM2.out.apart HR.out (by decide)
  replace HR := Lib.hid (HR.out.chg hc (by unfold Mv20; omega))
  clear hc hm2 hr HCL HM2 HLT HBS
  go_upto_region 11 with fail
  have hc := (Chg.refl (fun _ => False) wc).alloc (.cells #[.int .i64 3, .int .u64 7, .int .i64 1, .int .i64 (-1), .int .i64 (-1), .int .i64 1, .int .i64 0, .int .i64 3, .int .i64 10] 40)
  have HQ : Hid (Blk (wc.alloc (.cells #[.int .i64 3, .int .u64 7, .int .i64 1, .int .i64 (-1), .int .i64 (-1), .int .i64 1, .int .i64 0, .int .i64 3, .int .i64 10] 40)) wc.heap.size 40 (rvC 3 7 1 (-1) (-1) 1 0 3 10)) := Lib.hid (blk_new rfl)
  replace HX := Lib.hid (HX.out.trans hc (fun _ _ e => e))
  replace HM := Lib.hid (HM.out.keep hc)
  replace HR := Lib.hid (HR.out.chg hc id)
  clear hc
  generalize wc.alloc (.cells #[.int .i64 3, .int .u64 7, .int .i64 1, .int .i64 (-1), .int .i64 (-1), .int .i64 1, .int .i64 0, .int .i64 3, .int .i64 10] 40) = wb at *
  generalize wc.heap.size = QHQ at *
  have HCL := Lib.hid (awake20_any HM.out lvo20_6.1 1 3 2)
  go_wp2_with fail
  refine HCL.out.mono ?_
  rintro e wa ⟨brn2, rfl, hm, hc⟩
  rw [show (becX20 ⟨lv20_6.C, lv20_6.R, lv20_6.sp, lv20_6.no⟩ (awP20 ⟨lv20_6.C, lv20_6.R, lv20_6.sp, lv20_6.no⟩ 1 3 2) == 0) = false from lvn20]
  replace hm : MM20 w.heap.size wa p ps bc brn2 lv20_7.C lv20_7.R lv20_7.sp lv20_7.no := hm
  clear HCL
  replace HX := Lib.hid (HX.out.trans hc (fun k hk e => by have := HM.out.mv k e; omega))
  have hHR := HM.out.apart HR.out (by decide)
  replace HR := Lib.hid (HR.out.chg hc (by unfold Mv20; omega))
  have hHQ := HM.out.apart HQ.out (by decide)
  replace HQ := Lib.hid (HQ.out.chg hc (by unfold Mv20; omega))
  replace HM := Lib.hid hm
  clear hc hm hHR hHQ
  have HCL := Lib.hid (awake20_any HM.out lvo20_7.1 2 3 2)
  go_wp2_with fail
  refine HCL.out.mono ?_
  rintro e wa ⟨brn2, rfl, hm, hc⟩
  rw [show (becX20 ⟨lv20_7.C, lv20_7.R, lv20_7.sp, lv20_7.no⟩ (awP20 ⟨lv20_7.C, lv20_7.R, lv20_7.sp, lv20_7.no⟩ 2 3 2) == 0) = true from lvy20]
  replace hm : MM20 w.heap.size wa p ps bc brn2 lv20_8.C lv20_8.R lv20_8.sp lv20_8.no := hm
  clear HCL
  replace HX := Lib.hid (HX.out.trans hc (fun k hk e => by have := HM.out.mv k e; omega))
  have hHR := HM.out.apart HR.out (by decide)
  replace HR := Lib.hid (HR.out.chg hc (by unfold Mv20; omega))
  have hHQ := HM.out.apart HQ.out (by decide)
  replace HQ := Lib.hid (HQ.out.chg hc (by unfold Mv20; omega))
  replace HM := Lib.hid hm
  clear hc hm hHR hHQ
  have HCL : Hid (Calls _ _ _ _ (fun e' w' => ∃ br', e' = .returned (.tuple #[.agg #[.int .i64 3, .int .u64 7, .int .i64 2, .int .i64 (-1), .int .i64 1, .int .i64 2, .int .i64 2, .int .i64 3, .int .i64 0], .int .i64 0]) ∧ MM20 _ w' _ _ _ br' lv20_8.C lv20_8.R lv20_8.sp lv20_8.no ∧ Chg _ _ w')) := Lib.hid (dov20 HM.out lvo20_8 lvp20)
  go_wp2_with fail
  refine HCL.out.mono ?_
  rintro e wa ⟨brn, rfl, hm, hc⟩
  clear HCL
  replace HX := Lib.hid (HX.out.trans hc (fun k hk e => by have := HM.out.mv k e; omega))
  have hHR := HM.out.apart HR.out (by decide)
  replace HR := Lib.hid (HR.out.chg hc (by unfold Mv20; omega))
  have hHQ := HM.out.apart HQ.out (by decide)
  replace HQ := Lib.hid (HQ.out.chg hc (by unfold Mv20; omega))
  replace HM := Lib.hid hm
  clear hc hm hHR hHQ
  have HCB : Hid (Chg (fun _ => False) wa (wa.alloc (.cells #[.int .i64 3, .int .u64 7, .int .i64 2, .int .i64 (-1), .int .i64 1, .int .i64 2, .int .i64 2, .int .i64 3, .int .i64 0] 40))) := Lib.hid ((Chg.refl (fun _ => False) wa).alloc (.cells #[.int .i64 3, .int .u64 7, .int .i64 2, .int .i64 (-1), .int .i64 1, .int .i64 2, .int .i64 2, .int .i64 3, .int .i64 0] 40))
  have HP : Hid (Blk (wa.alloc (.cells #[.int .i64 3, .int .u64 7, .int .i64 2, .int .i64 (-1), .int .i64 1, .int .i64 2, .int .i64 2, .int .i64 3, .int .i64 0] 40)) wa.heap.size 40 (rvC 3 7 2 (-1) 1 2 2 3 0)) := Lib.hid (blk_new rfl)
  have hcell : ∀ W, Chg (fun _ => False) (wa.alloc (.cells #[.int .i64 3, .int .u64 7, .int .i64 2, .int .i64 (-1), .int .i64 1, .int .i64 2, .int .i64 2, .int .i64 3, .int .i64 0] 40)) W → (W.cell? ⟨QHR, 3, none⟩ = some (.int .i64 2) ∧ W.cell? ⟨QHQ, 6, none⟩ = some (.int .i64 0) ∧ W.cell? ⟨QHQ, 7, none⟩ = some (.int .i64 3) ∧ W.cell? ⟨wa.heap.size, 2, none⟩ = some (.int .i64 2) ∧ W.cell? ⟨wa.heap.size, 5, none⟩ = some (.int .i64 2)) := fun W hW => by
    have hr := HR.out.chg (HCB.out.trans hW (fun _ _ e => e)) id
    have hq := HQ.out.chg (HCB.out.trans hW (fun _ _ e => e)) id
    have hp := HP.out.chg hW id
    obtain ⟨-, -, -, r3, -, -, -, -, -⟩ := rv_cells hr
    obtain ⟨-, -, -, -, -, -, q6, q7, -⟩ := rv_cells hq
    obtain ⟨-, -, p2, -, -, p5, -, -, -⟩ := rv_cells hp
    exact ⟨r3, q6, q7, p2, p5⟩
  have HCELL := Lib.hid hcell
  replace HX := Lib.hid (HX.out.trans HCB.out (fun _ _ e => e))
  replace HM := Lib.hid (HM.out.keep HCB.out)
  have hch := chassis20_any HM.out
  rw [lvc20] at hch
  have HCH := Lib.hid hch
  clear hcell hch HR HQ HP HCB
  obtain ⟨l0, l1, l2, l3, l4⟩ := HCELL.out _ (Chg.refl _ _)
  go_wp2_with fail
  refine HCH.out.mono ?_
  rintro e wd ⟨A, n, c, rfl, hn, hr, hc⟩
  have HRD := Lib.hid hr
  have HNN := Lib.hid (show n ≤ 9000000000000000000 by rw [hn]; decide)
  replace HX := Lib.hid (HX.out.trans hc (fun _ _ e => e))
  clear hc hr hn HCH l0 l1 l2 l3 l4
  have HI := Lib.hid (ints10_any A (some ⟨wd.heap.size, 0, none⟩) n 2 c 2 [1, 2] [1, 2] _ _ (wd.alloc (.cells #[.int .i64 1, .int .i64 2] 3)) (HRD.out.chg ((Chg.refl (fun _ => False) wd).alloc _) (fun _ _ => id)) (rds_alloc wd 3 #[.int .i64 1, .int .i64 2] (0, 0)) HNN.out)
  have HX2 := Lib.hid (HX.out.alloc (.cells #[.int .i64 1, .int .i64 2] 3))
  go_wp2_with fail
  refine HI.out.mono ?_
  rintro e we ⟨vb, rfl, hb, hc⟩
  obtain rfl : true = vb := (hb rfl).symm
  replace HX2 := Lib.hid (HX2.out.trans hc (fun _ _ e => e))
  clear hc hb HI
  go_wp2_with fail
  go_ret
  exact ⟨rfl, HX2.out⟩

end Go.Proofs.YtimgnogacanifaaGreat
