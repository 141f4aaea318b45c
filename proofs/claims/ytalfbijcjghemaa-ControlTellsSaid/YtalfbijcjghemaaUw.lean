/-
  Walk: rutterlaw06.ControlTells. Conditions: the records are read in memory, the numbers are of their types.
-/
import Derived.Test.YtalfbijcjghemaaUt
import Derived.Deep.RegionHeld3
namespace Go.Proofs.Ytalfbijcjghemaa
open Go.RowKit
set_option linter.unusedVariables false
set_option linter.unusedSimpArgs false

set_option maxHeartbeats 2000000 in
theorem ctells_biga (kd po ma ow ta ol ge ph ve si pt vr kd2 po2 ma2 ow2 ta2 ol2 ge2 ph2 ve2 si2 pt2 vr2 cut : Int) (A A2 : Option Addr) (n n2 c c2 : Nat) (w : World) (hn : n ≤ 9223372036854775807) (hn2 : n2 ≤ 9223372036854775807) (h3 : 60 < n) :
    Calls Try.prog 3 #[.agg (msC kd po ma ow ta ol ge ph ve si pt vr A n c), .agg (msC kd2 po2 ma2 ow2 ta2 ol2 ge2 ph2 ve2 si2 pt2 vr2 A2 n2 c2), .int .i64 cut] w fun e w' => e = .returned (.bool true) ∧ Chg (fun _ => False) w w' := by
  have HC := Lib.hid (((Chg.refl (fun _ => False) w).alloc (.cells #[.int .i64 kd, .int .i64 po, .int .u64 ma, .int .i64 ow, .int .i64 ta, .int .i64 ol, .int .i64 ge, .int .i64 ph, .int .i64 ve, .int .i64 si, .int .i64 pt, .int .i64 vr, .slice A n c] 28)).alloc (.cells #[.int .i64 kd2, .int .i64 po2, .int .u64 ma2, .int .i64 ow2, .int .i64 ta2, .int .i64 ol2, .int .i64 ge2, .int .i64 ph2, .int .i64 ve2, .int .i64 si2, .int .i64 pt2, .int .i64 vr2, .slice A2 n2 c2] 28))
  have HQ : Hid (Blk ((w.alloc (.cells #[.int .i64 kd, .int .i64 po, .int .u64 ma, .int .i64 ow, .int .i64 ta, .int .i64 ol, .int .i64 ge, .int .i64 ph, .int .i64 ve, .int .i64 si, .int .i64 pt, .int .i64 vr, .slice A n c] 28)).alloc (.cells #[.int .i64 kd2, .int .i64 po2, .int .u64 ma2, .int .i64 ow2, .int .i64 ta2, .int .i64 ol2, .int .i64 ge2, .int .i64 ph2, .int .i64 ve2, .int .i64 si2, .int .i64 pt2, .int .i64 vr2, .slice A2 n2 c2] 28)) (w.heap.size + 1) 28 (msC kd2 po2 ma2 ow2 ta2 ol2 ge2 ph2 ve2 si2 pt2 vr2 A2 n2 c2)) := Lib.hid (blk_new (by simp))
  have hfi := fun W => fits6_any kd po ma ow ta ol ge ph ve si pt vr A n c W hn
  have hfj := fun W => fits6_any kd2 po2 ma2 ow2 ta2 ol2 ge2 ph2 ve2 si2 pt2 vr2 A2 n2 c2 W hn2
  rw [show decide (n ≤ 60) = false by simp; omega] at hfi
  generalize decide (n2 ≤ 60) = bb at hfj
  unfold msC at hfi hfj ⊢
  have HFI := Lib.hid hfi
  have HFJ := Lib.hid hfj
  clear hfi hfj
  go_enter Try.func3, Try.ntmps3
  go_wp2_with fail
  refine (HFI.out _).mono ?_
  rintro e w1 ⟨rfl, hc1⟩
  obtain ⟨y0, y1, y2, y3, y4, y5, y6, y7, y8, y9, y10, y11, y12⟩ := ms_kept HQ.out hc1
  clear HFI
  go_wp2_with fail
  refine (HFJ.out _).mono ?_
  rintro e w1b ⟨rfl, hc1b⟩
  have HA := Lib.hid (alive6_any w1b)
  clear HFJ y0 y1 y2 y3 y4 y5 y6 y7 y8 y9 y10 y11 y12
  go_wp2_with fail
  refine HA.out.mono ?_
  rintro e w2 ⟨rfl, hc2⟩
  go_wp2_with fail
  go_ret
  exact ⟨rfl, ((HC.out.trans hc1 (fun _ _ e => e)).trans hc1b (fun _ _ e => e)).trans hc2 (fun _ _ e => e)⟩

set_option maxHeartbeats 2000000 in
theorem ctells_bigb (kd po ma ow ta ol ge ph ve si pt vr kd2 po2 ma2 ow2 ta2 ol2 ge2 ph2 ve2 si2 pt2 vr2 cut : Int) (A A2 : Option Addr) (n n2 c c2 : Nat) (w : World) (hn : n ≤ 9223372036854775807) (hn2 : n2 ≤ 9223372036854775807) (h1 : n ≤ 60) (h3 : 60 < n2) :
    Calls Try.prog 3 #[.agg (msC kd po ma ow ta ol ge ph ve si pt vr A n c), .agg (msC kd2 po2 ma2 ow2 ta2 ol2 ge2 ph2 ve2 si2 pt2 vr2 A2 n2 c2), .int .i64 cut] w fun e w' => e = .returned (.bool true) ∧ Chg (fun _ => False) w w' := by
  have HC := Lib.hid (((Chg.refl (fun _ => False) w).alloc (.cells #[.int .i64 kd, .int .i64 po, .int .u64 ma, .int .i64 ow, .int .i64 ta, .int .i64 ol, .int .i64 ge, .int .i64 ph, .int .i64 ve, .int .i64 si, .int .i64 pt, .int .i64 vr, .slice A n c] 28)).alloc (.cells #[.int .i64 kd2, .int .i64 po2, .int .u64 ma2, .int .i64 ow2, .int .i64 ta2, .int .i64 ol2, .int .i64 ge2, .int .i64 ph2, .int .i64 ve2, .int .i64 si2, .int .i64 pt2, .int .i64 vr2, .slice A2 n2 c2] 28))
  have HQ : Hid (Blk ((w.alloc (.cells #[.int .i64 kd, .int .i64 po, .int .u64 ma, .int .i64 ow, .int .i64 ta, .int .i64 ol, .int .i64 ge, .int .i64 ph, .int .i64 ve, .int .i64 si, .int .i64 pt, .int .i64 vr, .slice A n c] 28)).alloc (.cells #[.int .i64 kd2, .int .i64 po2, .int .u64 ma2, .int .i64 ow2, .int .i64 ta2, .int .i64 ol2, .int .i64 ge2, .int .i64 ph2, .int .i64 ve2, .int .i64 si2, .int .i64 pt2, .int .i64 vr2, .slice A2 n2 c2] 28)) (w.heap.size + 1) 28 (msC kd2 po2 ma2 ow2 ta2 ol2 ge2 ph2 ve2 si2 pt2 vr2 A2 n2 c2)) := Lib.hid (blk_new (by simp))
  have hfi := fun W => fits6_any kd po ma ow ta ol ge ph ve si pt vr A n c W hn
  have hfj := fun W => fits6_any kd2 po2 ma2 ow2 ta2 ol2 ge2 ph2 ve2 si2 pt2 vr2 A2 n2 c2 W hn2
  rw [show decide (n ≤ 60) = true by simp; omega] at hfi
  rw [show decide (n2 ≤ 60) = false by simp; omega] at hfj
  unfold msC at hfi hfj ⊢
  have HFI := Lib.hid hfi
  have HFJ := Lib.hid hfj
  clear hfi hfj
  go_enter Try.func3, Try.ntmps3
  go_wp2_with fail
  refine (HFI.out _).mono ?_
  rintro e w1 ⟨rfl, hc1⟩
  obtain ⟨y0, y1, y2, y3, y4, y5, y6, y7, y8, y9, y10, y11, y12⟩ := ms_kept HQ.out hc1
  clear HFI
  go_wp2_with fail
  refine (HFJ.out _).mono ?_
  rintro e w1b ⟨rfl, hc1b⟩
  have HA := Lib.hid (alive6_any w1b)
  clear HFJ y0 y1 y2 y3 y4 y5 y6 y7 y8 y9 y10 y11 y12
  go_wp2_with fail
  refine HA.out.mono ?_
  rintro e w2 ⟨rfl, hc2⟩
  go_wp2_with fail
  go_ret
  exact ⟨rfl, ((HC.out.trans hc1 (fun _ _ e => e)).trans hc1b (fun _ _ e => e)).trans hc2 (fun _ _ e => e)⟩

set_option maxRecDepth 100000 in
set_option maxHeartbeats 16000000 in
theorem ctells_any (kd po ma ow ta ol ge ph ve si pt vr kd2 po2 ma2 ow2 ta2 ol2 ge2 ph2 ve2 si2 pt2 vr2 cut : Int) (A A2 : Option Addr) (n n2 c c2 : Nat) (l l2 : List Rc) (S S2 : Nat → Prop) (w : World) (h : RcR w S A n l) (h2 : RcR w S2 A2 n2 l2) (hN : MsN kd po ma ow ta ol ge ph ve si pt vr l) (h3 : n ≤ 60) (h3' : n2 ≤ 60) :
    Calls Try.prog 3 #[.agg (msC kd po ma ow ta ol ge ph ve si pt vr A n c), .agg (msC kd2 po2 ma2 ow2 ta2 ol2 ge2 ph2 ve2 si2 pt2 vr2 A2 n2 c2), .int .i64 cut] w fun e w' => e = .returned (.bool true) ∧ Chg (fun _ => False) w w' := by
  have hn : n ≤ 9223372036854775807 := by omega
  have hn2 : n2 ≤ 9223372036854775807 := by omega
  have HC := Lib.hid (((Chg.refl (fun _ => False) w).alloc (.cells #[.int .i64 kd, .int .i64 po, .int .u64 ma, .int .i64 ow, .int .i64 ta, .int .i64 ol, .int .i64 ge, .int .i64 ph, .int .i64 ve, .int .i64 si, .int .i64 pt, .int .i64 vr, .slice A n c] 28)).alloc (.cells #[.int .i64 kd2, .int .i64 po2, .int .u64 ma2, .int .i64 ow2, .int .i64 ta2, .int .i64 ol2, .int .i64 ge2, .int .i64 ph2, .int .i64 ve2, .int .i64 si2, .int .i64 pt2, .int .i64 vr2, .slice A2 n2 c2] 28))
  have HP : Hid (Blk ((w.alloc (.cells #[.int .i64 kd, .int .i64 po, .int .u64 ma, .int .i64 ow, .int .i64 ta, .int .i64 ol, .int .i64 ge, .int .i64 ph, .int .i64 ve, .int .i64 si, .int .i64 pt, .int .i64 vr, .slice A n c] 28)).alloc (.cells #[.int .i64 kd2, .int .i64 po2, .int .u64 ma2, .int .i64 ow2, .int .i64 ta2, .int .i64 ol2, .int .i64 ge2, .int .i64 ph2, .int .i64 ve2, .int .i64 si2, .int .i64 pt2, .int .i64 vr2, .slice A2 n2 c2] 28)) w.heap.size 28 (msC kd po ma ow ta ol ge ph ve si pt vr A n c)) := Lib.hid ((blk_new rfl).alloc _)
  have HQ : Hid (Blk ((w.alloc (.cells #[.int .i64 kd, .int .i64 po, .int .u64 ma, .int .i64 ow, .int .i64 ta, .int .i64 ol, .int .i64 ge, .int .i64 ph, .int .i64 ve, .int .i64 si, .int .i64 pt, .int .i64 vr, .slice A n c] 28)).alloc (.cells #[.int .i64 kd2, .int .i64 po2, .int .u64 ma2, .int .i64 ow2, .int .i64 ta2, .int .i64 ol2, .int .i64 ge2, .int .i64 ph2, .int .i64 ve2, .int .i64 si2, .int .i64 pt2, .int .i64 vr2, .slice A2 n2 c2] 28)) (w.heap.size + 1) 28 (msC kd2 po2 ma2 ow2 ta2 ol2 ge2 ph2 ve2 si2 pt2 vr2 A2 n2 c2)) := Lib.hid (blk_new (by simp))
  have hfi := fun W => fits6_any kd po ma ow ta ol ge ph ve si pt vr A n c W hn
  have hfj := fun W => fits6_any kd2 po2 ma2 ow2 ta2 ol2 ge2 ph2 ve2 si2 pt2 vr2 A2 n2 c2 W hn2
  rw [show decide (n ≤ 60) = true by simp; omega] at hfi
  rw [show decide (n2 ≤ 60) = true by simp; omega] at hfj
  have hri := fun (W : World) (hw : Chg (fun _ => False) w W) => cright_any kd po ma ow ta ol ge ph ve si pt vr A n c l S W (h.chg hw (fun _ _ => id)) hn
  have hrr := fun (W : World) (hw : Chg (fun _ => False) w W) => rright6_any kd po ma ow ta ol ge ph ve si pt vr A n c l S W (h.chg hw (fun _ _ => id)) hn
  have hro := fun (W : World) => crow_any po ma ow ta ol ge ph ve si W
  have hrw := fun (W : World) => rrow_any po ma ow ta ol ge ph ve si W
  have HTS := Lib.hid (fun (W : World) (hw : Chg (fun _ => False) w W) => csame_any kd po ma ow ta ol ge ph ve si pt vr kd2 po2 ma2 ow2 ta2 ol2 ge2 ph2 ve2 si2 pt2 vr2 A A2 n n2 c c2 l l2 S S2 W (h.chg hw (fun _ _ => id)) (h2.chg hw (fun _ _ => id)) hn hn2)
  have HRS := Lib.hid (fun (W : World) (hw : Chg (fun _ => False) w W) => rsame6_any kd po ma ow ta ol ge ph ve si pt vr kd2 po2 ma2 ow2 ta2 ol2 ge2 ph2 ve2 si2 pt2 vr2 A A2 n n2 c c2 l l2 S S2 W (h.chg hw (fun _ _ => id)) (h2.chg hw (fun _ _ => id)) hn hn2)
  have HH := Lib.hid h
  have HL := Lib.hid h.1
  have HMN := Lib.hid hN
  generalize hpr : msR kd po ma ow ta ol ge ph ve si pt vr l = r at *
  generalize msS kd po ma ow ta ol ge ph ve si pt vr l kd2 po2 ma2 ow2 ta2 ol2 ge2 ph2 ve2 si2 pt2 vr2 l2 = s at *
  generalize rwR po ma ow ta ol ge ph ve si = rb at *
  have HPR := Lib.hid hpr
  unfold msC at hfi hfj hri hrr HTS HRS ⊢
  unfold rvC at hro hrw
  have HFI := Lib.hid hfi
  have HFJ := Lib.hid hfj
  have HRI := Lib.hid hri
  have HRR := Lib.hid hrr
  have HRO := Lib.hid hro
  have HRW := Lib.hid hrw
  clear h h2 hN hfi hfj hri hrr hro hrw hpr
  go_enter Try.func3, Try.ntmps3
  go_wp2_with fail
  refine (HFI.out _).mono ?_
  rintro e w1 ⟨rfl, hc1⟩
  replace HC := Lib.hid (HC.out.trans hc1 (fun _ _ e => e))
  replace HP := Lib.hid (HP.out.chg hc1 id)
  replace HQ := Lib.hid (HQ.out.chg hc1 id)
  obtain ⟨y0, y1, y2, y3, y4, y5, y6, y7, y8, y9, y10, y11, y12⟩ := ms_cells HQ.out
  clear hc1 HFI
  go_wp2_with fail
  refine (HFJ.out _).mono ?_
  rintro e w2 ⟨rfl, hc2⟩
  replace HC := Lib.hid (HC.out.trans hc2 (fun _ _ e => e))
  replace HP := Lib.hid (HP.out.chg hc2 id)
  replace HQ := Lib.hid (HQ.out.chg hc2 id)
  clear y0 y1 y2 y3 y4 y5 y6 y7 y8 y9 y10 y11 y12 hc2 HFJ
  obtain ⟨y0, y1, y2, y3, y4, y5, y6, y7, y8, y9, y10, y11, y12⟩ := ms_cells HP.out
  go_wp2_with fail
  refine (HRR.out _ HC.out).mono ?_
  rintro e w6 ⟨rfl, hc6⟩
  replace HC := Lib.hid (HC.out.trans hc6 (fun _ _ e => e))
  replace HP := Lib.hid (HP.out.chg hc6 id)
  replace HQ := Lib.hid (HQ.out.chg hc6 id)
  clear y0 y1 y2 y3 y4 y5 y6 y7 y8 y9 y10 y11 y12 hc6 HRR
  have HKEEP := Lib.hid (fun (W : World) (hw : Chg (fun _ => False) w6 W) => (show (W.cell? ⟨w.heap.size, 0, none⟩ = some (.int .i64 kd) ∧ W.cell? ⟨w.heap.size, 1, none⟩ = some (.int .i64 po) ∧ W.cell? ⟨w.heap.size, 2, none⟩ = some (.int .u64 ma) ∧ W.cell? ⟨w.heap.size, 3, none⟩ = some (.int .i64 ow) ∧ W.cell? ⟨w.heap.size, 4, none⟩ = some (.int .i64 ta) ∧ W.cell? ⟨w.heap.size, 5, none⟩ = some (.int .i64 ol) ∧ W.cell? ⟨w.heap.size, 6, none⟩ = some (.int .i64 ge) ∧ W.cell? ⟨w.heap.size, 7, none⟩ = some (.int .i64 ph) ∧ W.cell? ⟨w.heap.size, 8, none⟩ = some (.int .i64 ve) ∧ W.cell? ⟨w.heap.size, 9, none⟩ = some (.int .i64 si) ∧ W.cell? ⟨w.heap.size, 10, none⟩ = some (.int .i64 pt) ∧ W.cell? ⟨w.heap.size, 11, none⟩ = some (.int .i64 vr) ∧ W.cell? ⟨w.heap.size, 12, none⟩ = some (.slice A n c)) ∧ (W.cell? ⟨w.heap.size + 1, 0, none⟩ = some (.int .i64 kd2) ∧ W.cell? ⟨w.heap.size + 1, 1, none⟩ = some (.int .i64 po2) ∧ W.cell? ⟨w.heap.size + 1, 2, none⟩ = some (.int .u64 ma2) ∧ W.cell? ⟨w.heap.size + 1, 3, none⟩ = some (.int .i64 ow2) ∧ W.cell? ⟨w.heap.size + 1, 4, none⟩ = some (.int .i64 ta2) ∧ W.cell? ⟨w.heap.size + 1, 5, none⟩ = some (.int .i64 ol2) ∧ W.cell? ⟨w.heap.size + 1, 6, none⟩ = some (.int .i64 ge2) ∧ W.cell? ⟨w.heap.size + 1, 7, none⟩ = some (.int .i64 ph2) ∧ W.cell? ⟨w.heap.size + 1, 8, none⟩ = some (.int .i64 ve2) ∧ W.cell? ⟨w.heap.size + 1, 9, none⟩ = some (.int .i64 si2) ∧ W.cell? ⟨w.heap.size + 1, 10, none⟩ = some (.int .i64 pt2) ∧ W.cell? ⟨w.heap.size + 1, 11, none⟩ = some (.int .i64 vr2) ∧ W.cell? ⟨w.heap.size + 1, 12, none⟩ = some (.slice A2 n2 c2)) from ⟨ms_kept HP.out hw, ms_kept HQ.out hw⟩))
  have HT6 := Lib.hid (fun (W : World) (hw : Chg (fun _ => False) w6 W) => HTS.out W (HC.out.trans hw (fun _ _ e => e)))
  have HS6 := Lib.hid (fun (W : World) (hw : Chg (fun _ => False) w6 W) => HRS.out W (HC.out.trans hw (fun _ _ e => e)))
  have HR6 := Lib.hid (fun (W : World) (hw : Chg (fun _ => False) w6 W) => HRI.out W (HC.out.trans hw (fun _ _ e => e)))
  have HX := Lib.hid ((Chg.refl (fun _ => False) w6).drew)
  clear HTS HRS HRI
  go_wp2_with fail
  go_region_held3 (fun w' => (w'.cell? ⟨w.heap.size, 0, none⟩ = some (.int .i64 kd) ∧ w'.cell? ⟨w.heap.size, 1, none⟩ = some (.int .i64 po) ∧ w'.cell? ⟨w.heap.size, 2, none⟩ = some (.int .u64 ma) ∧ w'.cell? ⟨w.heap.size, 3, none⟩ = some (.int .i64 ow) ∧ w'.cell? ⟨w.heap.size, 4, none⟩ = some (.int .i64 ta) ∧ w'.cell? ⟨w.heap.size, 5, none⟩ = some (.int .i64 ol) ∧ w'.cell? ⟨w.heap.size, 6, none⟩ = some (.int .i64 ge) ∧ w'.cell? ⟨w.heap.size, 7, none⟩ = some (.int .i64 ph) ∧ w'.cell? ⟨w.heap.size, 8, none⟩ = some (.int .i64 ve) ∧ w'.cell? ⟨w.heap.size, 9, none⟩ = some (.int .i64 si) ∧ w'.cell? ⟨w.heap.size, 10, none⟩ = some (.int .i64 pt) ∧ w'.cell? ⟨w.heap.size, 11, none⟩ = some (.int .i64 vr) ∧ w'.cell? ⟨w.heap.size, 12, none⟩ = some (.slice A n c)) ∧ (w'.cell? ⟨w.heap.size + 1, 0, none⟩ = some (.int .i64 kd2) ∧ w'.cell? ⟨w.heap.size + 1, 1, none⟩ = some (.int .i64 po2) ∧ w'.cell? ⟨w.heap.size + 1, 2, none⟩ = some (.int .u64 ma2) ∧ w'.cell? ⟨w.heap.size + 1, 3, none⟩ = some (.int .i64 ow2) ∧ w'.cell? ⟨w.heap.size + 1, 4, none⟩ = some (.int .i64 ta2) ∧ w'.cell? ⟨w.heap.size + 1, 5, none⟩ = some (.int .i64 ol2) ∧ w'.cell? ⟨w.heap.size + 1, 6, none⟩ = some (.int .i64 ge2) ∧ w'.cell? ⟨w.heap.size + 1, 7, none⟩ = some (.int .i64 ph2) ∧ w'.cell? ⟨w.heap.size + 1, 8, none⟩ = some (.int .i64 ve2) ∧ w'.cell? ⟨w.heap.size + 1, 9, none⟩ = some (.int .i64 si2) ∧ w'.cell? ⟨w.heap.size + 1, 10, none⟩ = some (.int .i64 pt2) ∧ w'.cell? ⟨w.heap.size + 1, 11, none⟩ = some (.int .i64 vr2) ∧ w'.cell? ⟨w.heap.size + 1, 12, none⟩ = some (.slice A2 n2 c2)))
    (first | with_reducible exact HKEEP.out _ HX.out | fail)
    (first
      | (go_at_call 8; (with_reducible refine (HR6.out _ HX.out).mono ?_); rintro e wz ⟨rfl, hcz⟩; have HX := Lib.hid (HX.out.trans hcz (fun _ _ e => e)); clear hcz)
      | (go_at_call 9; (with_reducible refine (HRO.out _).mono ?_); rintro e wz ⟨rfl, hcz⟩; have HX := Lib.hid (HX.out.trans hcz (fun _ _ e => e)); clear hcz)
      | (go_at_call 10; (with_reducible refine (HRW.out _).mono ?_); rintro e wz ⟨rfl, hcz⟩; have HX := Lib.hid (HX.out.trans hcz (fun _ _ e => e)); clear hcz)
      | (go_at_call 11; (with_reducible refine (HT6.out _ HX.out).mono ?_); rintro e wz ⟨rfl, hcz⟩; have HX := Lib.hid (HX.out.trans hcz (fun _ _ e => e)); clear hcz)
      | (go_at_call 12; (with_reducible refine (HS6.out _ HX.out).mono ?_); rintro e wz ⟨rfl, hcz⟩; have HX := Lib.hid (HX.out.trans hcz (fun _ _ e => e)); clear hcz)
      | fail)
  replace HC := Lib.hid (HC.out.trans HX.out (fun _ _ e => e))
  replace HP := Lib.hid (HP.out.chg HX.out id)
  have HH7 := Lib.hid (HH.out.chg HC.out (fun _ _ => id))
  clear HKEEP HT6 HS6 HR6 HRO HRW HQ HX
  obtain ⟨y0, y1, y2, y3, y4, y5, y6, y7, y8, y9, y10, y11, y12⟩ := ms_cells HP.out
  cases r with
  | false =>
    have HEN := Lib.hid (cenc_bad kd po ma ow ta ol ge ph ve si pt vr A n c l _ _ HH7.out hn HPR.out)
    unfold msC at HEN
    clear HH7
    go_wp2_with fail
    refine HEN.out.mono ?_
    rintro e w8 ⟨D, dc, he, _, hc8⟩
    have he : e = .returned (.tuple #[.slice D 0 dc, .int .i64 1]) := he
    subst he
    have HA := Lib.hid (alive6_any w8)
    clear HEN y0 y1 y2 y3 y4 y5 y6 y7 y8 y9 y10 y11 y12
    go_wp2_with fail
    refine HA.out.mono ?_
    rintro e w9 ⟨rfl, hc9⟩
    go_wp2_with fail
    go_ret
    exact ⟨rfl, (HC.out.trans hc8 (fun _ _ e => e)).trans hc9 (fun _ _ e => e)⟩
  | true =>
    obtain ⟨m, hm⟩ : ∃ m : MV, m = ⟨kd, po, ma, ow, ta, ol, ge, ph, ve, si, pt, vr, l⟩ := ⟨_, rfl⟩
    have HOK : Hid (m.ok = true) := Lib.hid (by rw [hm]; exact HPR.out)
    have HNM : Hid (m.nm) := Lib.hid (by rw [hm]; exact HMN.out)
    obtain ⟨B, hB⟩ : ∃ B, B = m.bs := ⟨_, rfl⟩
    have hq0 := bs_len HOK.out
    rw [← hB] at hq0
    obtain ⟨q, hq⟩ : ∃ q, q = B.length := ⟨_, rfl⟩
    rw [← hq] at hq0
    have HQL := Lib.hid hq
    have HEN := Lib.hid (enc_lit m HOK.out HNM.out q (by rw [hq, hB]) A n c S _ (by rw [hm]; exact HH7.out) hn)
    have HDO := Lib.hid (fun (W : World) (e : Ending) (W' : World) (hd : Dec6 B W e W') => dec6_back HOK.out HNM.out (hB ▸ hd))
    have HCUT := Lib.hid (fun (k : Nat) (hk : k < q) => (show cOK (B.take k) = false from hB ▸ cdc_cut HOK.out HNM.out k (by rw [← hB, ← hq]; exact hk)))
    have HBY := Lib.hid (fun (W : World) (hw : Chg (fun _ => False) w W) => (show Calls Try.prog 15 #[.agg (msC kd po ma ow ta ol ge ph ve si pt vr A n c)] W (Bt B W) from (by rw [hB, hm]; exact rbytes6_any kd po ma ow ta ol ge ph ve si pt vr A n c l S W (HH.out.chg hw (fun _ _ => id)) hn HMN.out HPR.out)))
    rw [← hB] at HEN
    rw [hm] at HEN HDO
    unfold msC at HEN HBY
    dsimp only at HEN
    clear hm hB hq HOK HNM HPR HMN
    go_wp2_with fail
    refine HEN.out.mono ?_
    rintro e w8 ⟨F, fc, rfl, hown8, hc8⟩
    have hcap := own_cap hown8
    have HNIL := Lib.hid (own_nil hown8)
    replace HC := Lib.hid (HC.out.trans hc8 (fun _ _ e => e))
    replace HP := Lib.hid (HP.out.chg hc8 id)
    have HO := Lib.hid (own_rds2 hown8)
    have HDE := Lib.hid (cdec_any F q fc B _ w8 HQL.out (own_rds2 hown8) HNIL.out (by omega))
    clear y0 y1 y2 y3 y4 y5 y6 y7 y8 y9 y10 y11 y12 hown8 hc8 HEN HH7
    go_wp2_with fail
    refine HDE.out.mono ?_
    intro e w9 hd
    obtain ⟨G, gc, he, hr9, hc9⟩ := HDO.out _ _ _ hd
    have he : e = .returned (.tuple #[.agg #[.int .i64 kd, .int .i64 po, .int .u64 ma, .int .i64 ow, .int .i64 ta, .int .i64 ol, .int .i64 ge, .int .i64 ph, .int .i64 ve, .int .i64 si, .int .i64 pt, .int .i64 vr, .slice G l.length gc], .int .i64 0]) := he
    replace hr9 : RcR w9 (fun _ => True) G l.length l := hr9
    rw [← HL.out] at he hr9
    subst he
    have hca := hc9.alloc (.cells #[.int .i64 kd, .int .i64 po, .int .u64 ma, .int .i64 ow, .int .i64 ta, .int .i64 ol, .int .i64 ge, .int .i64 ph, .int .i64 ve, .int .i64 si, .int .i64 pt, .int .i64 vr, .slice G n gc] 28)
    replace HC := Lib.hid (HC.out.trans hca (fun _ _ e => e))
    replace HP := Lib.hid (HP.out.chg hca id)
    replace HO := Lib.hid (HO.out.chg hca (fun _ _ => id))
    have HZ := Lib.hid (show Blk (w9.alloc (.cells #[.int .i64 kd, .int .i64 po, .int .u64 ma, .int .i64 ow, .int .i64 ta, .int .i64 ol, .int .i64 ge, .int .i64 ph, .int .i64 ve, .int .i64 si, .int .i64 pt, .int .i64 vr, .slice G n gc] 28)) w9.heap.size 28 (msC kd po ma ow ta ol ge ph ve si pt vr G n gc) from blk_new rfl)
    have HSA := Lib.hid (rsame6_any kd po ma ow ta ol ge ph ve si pt vr kd po ma ow ta ol ge ph ve si pt vr A G n n c gc l l _ _ _ (HH.out.chg HC.out (fun _ _ => id)) (hr9.alloc (.cells #[.int .i64 kd, .int .i64 po, .int .u64 ma, .int .i64 ow, .int .i64 ta, .int .i64 ol, .int .i64 ge, .int .i64 ph, .int .i64 ve, .int .i64 si, .int .i64 pt, .int .i64 vr, .slice G n gc] 28)) hn hn)
    rw [msS_refl] at HSA
    obtain ⟨y0, y1, y2, y3, y4, y5, y6, y7, y8, y9, y10, y11, y12⟩ := ms_cells HP.out
    obtain ⟨z0, z1, z2, z3, z4, z5, z6, z7, z8, z9, z10, z11, z12⟩ := ms_cells HZ.out
    unfold msC at HSA
    clear hd hr9 hc9 hca HDE HDO
    go_wp2_with fail
    refine HSA.out.mono ?_
    rintro e w10 ⟨rfl, hc10⟩
    replace HC := Lib.hid (HC.out.trans hc10 (fun _ _ e => e))
    replace HP := Lib.hid (HP.out.chg hc10 id)
    replace HO := Lib.hid (HO.out.chg hc10 (fun _ _ => id))
    clear y0 y1 y2 y3 y4 y5 y6 y7 y8 y9 y10 y11 y12 z0 z1 z2 z3 z4 z5 z6 z7 z8 z9 z10 z11 z12 hc10 HZ HSA
    have HKEEP := Lib.hid (fun (W : World) (hw : Chg (fun _ => False) w10 W) => (show (W.cell? ⟨w.heap.size, 0, none⟩ = some (.int .i64 kd) ∧ W.cell? ⟨w.heap.size, 1, none⟩ = some (.int .i64 po) ∧ W.cell? ⟨w.heap.size, 2, none⟩ = some (.int .u64 ma) ∧ W.cell? ⟨w.heap.size, 3, none⟩ = some (.int .i64 ow) ∧ W.cell? ⟨w.heap.size, 4, none⟩ = some (.int .i64 ta) ∧ W.cell? ⟨w.heap.size, 5, none⟩ = some (.int .i64 ol) ∧ W.cell? ⟨w.heap.size, 6, none⟩ = some (.int .i64 ge) ∧ W.cell? ⟨w.heap.size, 7, none⟩ = some (.int .i64 ph) ∧ W.cell? ⟨w.heap.size, 8, none⟩ = some (.int .i64 ve) ∧ W.cell? ⟨w.heap.size, 9, none⟩ = some (.int .i64 si) ∧ W.cell? ⟨w.heap.size, 10, none⟩ = some (.int .i64 pt) ∧ W.cell? ⟨w.heap.size, 11, none⟩ = some (.int .i64 vr) ∧ W.cell? ⟨w.heap.size, 12, none⟩ = some (.slice A n c)) ∧ (convert 33 9 (.slice F q fc)).run Try.prog W = .ok (.string ⟨B.toArray⟩) W from ⟨ms_kept HP.out hw, conv_any (HO.out.chg hw (fun _ _ => id))⟩))
    have s0 := HKEEP.out _ (Chg.refl _ w10).drew
    go_wp2_with fail
    refine wp_region_noPanic ?_
    refine wp_region_held_drew (S := (fun w' => (w'.cell? ⟨w.heap.size, 0, none⟩ = some (.int .i64 kd) ∧ w'.cell? ⟨w.heap.size, 1, none⟩ = some (.int .i64 po) ∧ w'.cell? ⟨w.heap.size, 2, none⟩ = some (.int .u64 ma) ∧ w'.cell? ⟨w.heap.size, 3, none⟩ = some (.int .i64 ow) ∧ w'.cell? ⟨w.heap.size, 4, none⟩ = some (.int .i64 ta) ∧ w'.cell? ⟨w.heap.size, 5, none⟩ = some (.int .i64 ol) ∧ w'.cell? ⟨w.heap.size, 6, none⟩ = some (.int .i64 ge) ∧ w'.cell? ⟨w.heap.size, 7, none⟩ = some (.int .i64 ph) ∧ w'.cell? ⟨w.heap.size, 8, none⟩ = some (.int .i64 ve) ∧ w'.cell? ⟨w.heap.size, 9, none⟩ = some (.int .i64 si) ∧ w'.cell? ⟨w.heap.size, 10, none⟩ = some (.int .i64 pt) ∧ w'.cell? ⟨w.heap.size, 11, none⟩ = some (.int .i64 vr) ∧ w'.cell? ⟨w.heap.size, 12, none⟩ = some (.slice A n c)) ∧ (convert 33 9 (.slice F q fc)).run Try.prog w' = .ok (.string ⟨B.toArray⟩) w')) (by kernel_rfl) s0 (fun hHeld => ?_)
    refine wpAnyH_take (i := 0) (v := ?_) rfl (by kernel_rfl) (by kernel_rfl) (by kernel_rfl) (fun _ _ _ h => h) (Or.inl ⟨by rfl, ?_⟩) (by assumption) ?_
    rotate_left
    · intro w' hSw
      try dsimp only at hSw
      go_simp
      first | done | (with_reducible rfl)
    try simp only [List.getElem_toArray, List.getElem_cons_succ, List.getElem_cons_zero, Act.put, List.setIfInBounds_toArray, List.set_cons_zero, List.set_cons_succ]
    refine wpAnyH_take (i := 1) (v := ?_) rfl (by kernel_rfl) (by kernel_rfl) (by kernel_rfl) (fun _ _ _ h => h) (Or.inl ⟨by rfl, ?_⟩) (by assumption) ?_
    rotate_left
    · intro w' hSw
      try dsimp only at hSw
      go_simp
      first | done | (with_reducible rfl)
    try simp only [List.getElem_toArray, List.getElem_cons_succ, List.getElem_cons_zero, Act.put, List.setIfInBounds_toArray, List.set_cons_zero, List.set_cons_succ]
    refine wpAnyH_take (i := 2) (v := ?_) rfl (by kernel_rfl) (by kernel_rfl) (by kernel_rfl) (fun _ _ _ h => h) (Or.inl ⟨by rfl, ?_⟩) (by assumption) ?_
    rotate_left
    · intro w' hSw
      try dsimp only at hSw
      go_simp
      first | done | (with_reducible rfl)
    try simp only [List.getElem_toArray, List.getElem_cons_succ, List.getElem_cons_zero, Act.put, List.setIfInBounds_toArray, List.set_cons_zero, List.set_cons_succ]
    refine wpAnyH_take (i := 3) (v := ?_) rfl (by kernel_rfl) (by kernel_rfl) (by kernel_rfl) (fun _ _ _ h => h) (Or.inl ⟨by rfl, ?_⟩) (by assumption) ?_
    rotate_left
    · intro w' hSw
      try dsimp only at hSw
      go_simp
      first | done | (with_reducible rfl)
    try simp only [List.getElem_toArray, List.getElem_cons_succ, List.getElem_cons_zero, Act.put, List.setIfInBounds_toArray, List.set_cons_zero, List.set_cons_succ]
    refine wpAnyH_take (i := 4) (v := ?_) rfl (by kernel_rfl) (by kernel_rfl) (by kernel_rfl) (fun _ _ _ h => h) (Or.inl ⟨by rfl, ?_⟩) (by assumption) ?_
    rotate_left
    · intro w' hSw
      try dsimp only at hSw
      go_simp
      first | done | (with_reducible rfl)
    try simp only [List.getElem_toArray, List.getElem_cons_succ, List.getElem_cons_zero, Act.put, List.setIfInBounds_toArray, List.set_cons_zero, List.set_cons_succ]
    refine wpAnyH_take (i := 5) (v := ?_) rfl (by kernel_rfl) (by kernel_rfl) (by kernel_rfl) (fun _ _ _ h => h) (Or.inl ⟨by rfl, ?_⟩) (by assumption) ?_
    rotate_left
    · intro w' hSw
      try dsimp only at hSw
      go_simp
      first | done | (with_reducible rfl)
    try simp only [List.getElem_toArray, List.getElem_cons_succ, List.getElem_cons_zero, Act.put, List.setIfInBounds_toArray, List.set_cons_zero, List.set_cons_succ]
    refine wpAnyH_ready (rs := [6]) (by kernel_rfl) (by simp) ?_
    refine AllReadyH.cons rfl (fun K hK => ?_) AllReadyH.nil
    go_simp
    refine (HBY.out _ (HC.out.drew)).mono ?_
    rintro e w12 ⟨M, mc, rfl, hrM, _, hc12⟩
    have HX := Lib.hid ((Chg.refl (fun _ => False) w10).drew.trans hc12 (fun _ _ e => e))
    have s2 := HKEEP.out _ HX.out
    have s6 := conv_any (c := mc) hrM
    clear hc12 hrM
    go_wp2_with fail
    refine hK.out _ _ s2 (fun hHeld => ?_)
    clear hK K
    try simp only [List.getElem_toArray, List.getElem_cons_succ, List.getElem_cons_zero, Act.put, List.setIfInBounds_toArray, List.set_cons_zero, List.set_cons_succ]
    refine wpAnyH_ready (rs := [7]) (by kernel_rfl) (by simp) ?_
    refine AllReadyH.cons rfl (fun K hK => ?_) AllReadyH.nil
    go_simp
    refine hK.out _ _ s2 (fun hHeld => ?_)
    clear hK K
    try simp only [List.getElem_toArray, List.getElem_cons_succ, List.getElem_cons_zero, Act.put, List.setIfInBounds_toArray, List.set_cons_zero, List.set_cons_succ]
    refine wpAnyH_take (i := 8) (v := ?_) rfl (by kernel_rfl) (by kernel_rfl) (by kernel_rfl) (fun _ _ _ h => h) (Or.inl ⟨by rfl, ?_⟩) (by assumption) ?_
    rotate_left
    · intro w' hSw
      try dsimp only at hSw
      go_simp
      first | done | (with_reducible rfl)
    try simp only [List.getElem_toArray, List.getElem_cons_succ, List.getElem_cons_zero, Act.put, List.setIfInBounds_toArray, List.set_cons_zero, List.set_cons_succ]
    refine wpAnyH_take (i := 9) (v := ?_) rfl (by kernel_rfl) (by kernel_rfl) (by kernel_rfl) (fun _ _ _ h => h) (Or.inl ⟨by rfl, ?_⟩) (by assumption) ?_
    rotate_left
    · intro w' hSw
      try dsimp only at hSw
      go_simp
      first | done | (with_reducible rfl)
    try simp only [List.getElem_toArray, List.getElem_cons_succ, List.getElem_cons_zero, Act.put, List.setIfInBounds_toArray, List.set_cons_zero, List.set_cons_succ]
    refine wpAnyH_take (i := 10) (v := ?_) rfl (by kernel_rfl) (by kernel_rfl) (by kernel_rfl) (fun _ _ _ h => h) (Or.inl ⟨by rfl, ?_⟩) (by assumption) ?_
    rotate_left
    · intro w' hSw
      try dsimp only at hSw
      go_simp
      first | done | (with_reducible rfl)
    try simp only [List.getElem_toArray, List.getElem_cons_succ, List.getElem_cons_zero, Act.put, List.setIfInBounds_toArray, List.set_cons_zero, List.set_cons_succ]
    refine wpAnyH_take (i := 11) (v := ?_) rfl (by kernel_rfl) (by kernel_rfl) (by kernel_rfl) (fun _ _ _ h => h) (Or.inl ⟨by rfl, ?_⟩) (by assumption) ?_
    rotate_left
    · intro w' hSw
      try dsimp only at hSw
      go_simp
      first | done | (with_reducible rfl)
    try simp only [List.getElem_toArray, List.getElem_cons_succ, List.getElem_cons_zero, Act.put, List.setIfInBounds_toArray, List.set_cons_zero, List.set_cons_succ]
    refine wpAnyH_take (i := 12) (v := ?_) rfl (by kernel_rfl) (by kernel_rfl) (by kernel_rfl) (fun _ _ _ h => h) (Or.inl ⟨by rfl, ?_⟩) (by assumption) ?_
    rotate_left
    · intro w' hSw
      try dsimp only at hSw
      go_simp
      first | done | (with_reducible rfl)
    try simp only [List.getElem_toArray, List.getElem_cons_succ, List.getElem_cons_zero, Act.put, List.setIfInBounds_toArray, List.set_cons_zero, List.set_cons_succ]
    refine wpAnyH_take (i := 13) (v := ?_) rfl (by kernel_rfl) (by kernel_rfl) (by kernel_rfl) (fun _ _ _ h => h) (Or.inl ⟨by rfl, ?_⟩) (by assumption) ?_
    rotate_left
    · intro w' hSw
      try dsimp only at hSw
      go_simp
      first | done | (with_reducible rfl)
    try simp only [List.getElem_toArray, List.getElem_cons_succ, List.getElem_cons_zero, Act.put, List.setIfInBounds_toArray, List.set_cons_zero, List.set_cons_succ]
    refine wpAnyH_take (i := 14) (v := ?_) rfl (by kernel_rfl) (by kernel_rfl) (by kernel_rfl) (fun _ _ _ h => h) (Or.inl ⟨by rfl, ?_⟩) (by assumption) ?_
    rotate_left
    · intro w' hSw
      try dsimp only at hSw
      go_simp
      first | done | (with_reducible rfl)
    try simp only [List.getElem_toArray, List.getElem_cons_succ, List.getElem_cons_zero, Act.put, List.setIfInBounds_toArray, List.set_cons_zero, List.set_cons_succ]
    refine wpAnyH_take (i := 15) (v := ?_) rfl (by kernel_rfl) (by kernel_rfl) (by kernel_rfl) (fun _ _ _ h => h) (Or.inl ⟨by rfl, ?_⟩) (by assumption) ?_
    rotate_left
    · intro w' hSw
      try dsimp only at hSw
      go_simp
      first | done | (with_reducible rfl)
    try simp only [List.getElem_toArray, List.getElem_cons_succ, List.getElem_cons_zero, Act.put, List.setIfInBounds_toArray, List.set_cons_zero, List.set_cons_succ]
    refine wpAnyH_take (i := 16) (v := ?_) rfl (by kernel_rfl) (by kernel_rfl) (by kernel_rfl) (fun _ _ _ h => h) (Or.inl ⟨by rfl, ?_⟩) (by assumption) ?_
    rotate_left
    · intro w' hSw
      try dsimp only at hSw
      go_simp
      first | done | (with_reducible rfl)
    try simp only [List.getElem_toArray, List.getElem_cons_succ, List.getElem_cons_zero, Act.put, List.setIfInBounds_toArray, List.set_cons_zero, List.set_cons_succ]
    refine wpAnyH_take (i := 17) (v := ?_) rfl (by kernel_rfl) (by kernel_rfl) (by kernel_rfl) (fun _ _ _ h => h) (Or.inl ⟨by rfl, ?_⟩) (by assumption) ?_
    rotate_left
    · intro w' hSw
      try dsimp only at hSw
      go_simp
      first | done | (with_reducible rfl)
    try simp only [List.getElem_toArray, List.getElem_cons_succ, List.getElem_cons_zero, Act.put, List.setIfInBounds_toArray, List.set_cons_zero, List.set_cons_succ]
    refine wpAnyH_done (by kernel_rfl) ?_ _
    refine NoPanic.normal ?_
    clear hHeld s0 s2 s6
    replace HC := Lib.hid (HC.out.trans HX.out (fun _ _ e => e))
    replace HO := Lib.hid (HO.out.chg HX.out (fun _ _ => id))
    clear HX HKEEP HBY HP
    have hcase : cut < 0 ∨ (0 ≤ cut ∧ (q : Int) ≤ cut) ∨ ∃ k : Nat, cut = (k : Int) ∧ k < q := by
      by_cases c1 : cut < 0
      · exact .inl c1
      · by_cases c2 : (q : Int) ≤ cut
        · exact .inr (.inl ⟨by omega, c2⟩)
        · exact .inr (.inr ⟨cut.toNat, by omega, by omega⟩)
    rcases hcase with c1 | ⟨c1, c2⟩ | ⟨k, rfl, hk⟩
    · have HA := Lib.hid (alive6_any w12)
      go_wp2_with fail
      refine HA.out.mono ?_
      rintro e w13 ⟨rfl, hc13⟩
      go_wp2_with fail
      go_ret
      exact ⟨rfl, HC.out.trans hc13 (fun _ _ e => e)⟩
    · have HA := Lib.hid (alive6_any w12)
      go_wp2_with fail
      refine HA.out.mono ?_
      rintro e w13 ⟨rfl, hc13⟩
      go_wp2_with fail
      go_ret
      exact ⟨rfl, HC.out.trans hc13 (fun _ _ e => e)⟩
    · have htk := HO.out.take k (by omega)
      rw [← bcs_take] at htk
      have HDE := Lib.hid (cdec_any F k fc (B.take k) _ w12 (by rw [List.length_take, ← HQL.out]; omega) htk HNIL.out (by omega))
      have HNO := Lib.hid (HCUT.out k hk)
      clear htk
      go_wp2_with fail
      refine HDE.out.mono ?_
      intro e w13 hd
      unfold Dec6 at hd
      rw [cM_no HNO.out, cX_no HNO.out] at hd
      obtain ⟨G2, gc2, he, _, hc13⟩ := hd
      have he : e = .returned (.tuple #[.agg #[.int .i64 0, .int .i64 0, .int .u64 0, .int .i64 0, .int .i64 0, .int .i64 0, .int .i64 0, .int .i64 0, .int .i64 0, .int .i64 0, .int .i64 0, .int .i64 0, .slice G2 0 gc2], .int .i64 2]) := he
      subst he
      replace HC := Lib.hid (HC.out.trans (hc13.alloc (.cells #[.int .i64 0, .int .i64 0, .int .u64 0, .int .i64 0, .int .i64 0, .int .i64 0, .int .i64 0, .int .i64 0, .int .i64 0, .int .i64 0, .int .i64 0, .int .i64 0, .slice G2 0 gc2] 28)) (fun _ _ e => e))
      have HA := Lib.hid (alive6_any (w13.alloc (.cells #[.int .i64 0, .int .i64 0, .int .u64 0, .int .i64 0, .int .i64 0, .int .i64 0, .int .i64 0, .int .i64 0, .int .i64 0, .int .i64 0, .int .i64 0, .int .i64 0, .slice G2 0 gc2] 28)))
      clear hc13 HDE
      go_wp2_with fail
      refine HA.out.mono ?_
      rintro e w14 ⟨rfl, hc14⟩
      go_wp2_with fail
      go_ret
      exact ⟨rfl, HC.out.trans hc14 (fun _ _ e => e)⟩

end Go.Proofs.Ytalfbijcjghemaa
