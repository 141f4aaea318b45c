/-
  Walk: rutterlaw10.alive. No condition.
-/
import Derived.Test.YtbajcdmcjmkieaaPj
import Derived.Test.YtbajcdmcjmkieaaPr
import Derived.Test.YtbajcdmcjmkieaaPf
import Derived.Deep.RegionHeld3
namespace Go.Proofs.Ytbajcdmcjmkieaa
open Go.RowKit
set_option linter.unusedVariables false
set_option linter.unusedSimpArgs false

def r0 : RV := ⟨4, 7, 1, -1, -1, 1, 0, 1, 0⟩
def aC : Int → Bool := addC (fun _ => false) 1
def aR : Int → Option RV := putR (fun _ => none) r0
theorem al_1 : addP (fun _ => false) 1 = 0 := by decide
theorem al_2 : addP aC 1 = 5 := by decide
theorem al_3 : wrongP aC (fun _ => none) ⟨r0, 0⟩ = 0 := by decide +kernel
theorem al_4 : wrongP aC aR ⟨r0, 0⟩ = 7 := by decide +kernel
theorem al_5 : remP aC aR 1 = 11 := by decide +kernel
theorem al_6 : rowB (findP aR 7) = (r0, true) := by kernel_rfl
theorem al_7 : rowsP aR = [r0] := by kernel_rfl
theorem al_8 : lateP aR 99 0 = [] := by kernel_rfl
theorem al_k1 : addK (fun _ => false) 1 = aC := by unfold addK; rw [if_pos al_1]; rfl
theorem al_k2 : addK aC 1 = aC := by unfold addK; rw [al_2]; rfl
theorem al_k3 : (appP aC [⟨r0, 0⟩] (fun _ => none)).1 = 0 ∧ appK aC [⟨r0, 0⟩] (fun _ => none) = aR := by
  have e : appP aC [⟨r0, 0⟩] (fun _ => none) = (0, aR) := by
    unfold appP
    rw [if_pos al_3]
    rfl
  unfold appK
  rw [e]
  exact ⟨rfl, rfl⟩
theorem al_k4 : (appP aC [⟨r0, 0⟩] aR).1 = 7 ∧ appK aC [⟨r0, 0⟩] aR = aR := by
  have e : appP aC [⟨r0, 0⟩] aR = (7, aR) := by
    unfold appP
    rw [if_neg (by rw [al_4]; decide), al_4]
  unfold appK
  rw [e]
  exact ⟨rfl, rfl⟩
theorem al_k5 : remK aC aR 1 = aC := by unfold remK; rw [al_5]; rfl
theorem sr_one10 {w : World} {T : TypeId} (x : CV) : SR 10 CV.cs (w.alloc (.cells x.cs T)) (fun k => k = w.heap.size) (some ⟨w.heap.size, 0, none⟩) 1 [x] := by
  refine ⟨rfl, fun _ => ⟨_, rfl, rfl, by simp, fun i y hi j u hu => ?_⟩⟩
  have hi0 : i = 0 := by have := (List.getElem?_eq_some_iff.1 hi).1; simp at this; omega
  subst hi0
  simp only [List.getElem?_cons_zero, Option.some.injEq] at hi
  subst hi
  have := new_cells (w := w) (t := T) (cs := x.cs) rfl j u (by simpa using hu)
  rwa [show 0 * 10 + j = j by omega]
theorem sr_one9 {w : World} {T : TypeId} (x : RV) : SR 9 RV.cs (w.alloc (.cells x.cs T)) (fun k => k = w.heap.size) (some ⟨w.heap.size, 0, none⟩) 1 [x] := by
  refine ⟨rfl, fun _ => ⟨_, rfl, rfl, by simp, fun i y hi j u hu => ?_⟩⟩
  have hi0 : i = 0 := by have := (List.getElem?_eq_some_iff.1 hi).1; simp at this; omega
  subst hi0
  simp only [List.getElem?_cons_zero, Option.some.injEq] at hi
  subst hi
  have := new_cells (w := w) (t := T) (cs := x.cs) rfl j u (by simpa using hu)
  rwa [show 0 * 9 + j = j by omega]
theorem num_sorry : True := trivial
set_option maxRecDepth 20000 in
set_option maxHeartbeats 16000000 in
theorem alive10_any (w : World) : Calls Try.prog 6 #[] w fun e w' => e = .returned (.bool true) ∧ Chg (fun _ => False) w w' := by
  go_enter Try.func6, Try.ntmps6
  go_wp2_with fail
  refine (snew_any w).mono ?_
  rintro e w1 ⟨rfl, hcs, hc⟩
  have HX0 := Lib.hid hc
  have HS := Lib.hid hcs
  generalize hp : w.heap.size + 1 + 1 = p at *
  have HP := Lib.hid hp
  generalize hbc : w.heap.size = bc at hcs
  clear hcs hc hp hbc
  go_wp2_with fail
  refine (sadd_any HS.out 1).mono ?_
  rintro e w2 ⟨he, hcs, hc⟩
  rw [al_1] at he
  subst he
  rw [al_k1] at hcs
  replace HX0 := Lib.hid (fresh_set HX0.out hc (Nat.le_refl _))
  replace HS := Lib.hid hcs
  clear hc hcs
  go_wp2_with fail
  refine (sadd_any HS.out 1).mono ?_
  rintro e w3 ⟨he, hcs, hc⟩
  rw [al_2] at he
  subst he
  rw [al_k2] at hcs
  replace HX0 := Lib.hid (fresh_set HX0.out hc (Nat.le_refl _))
  replace HS := Lib.hid hcs
  clear hc hcs
  go_upto_region 5 with fail
  have HQ : Blk (w3.alloc (.cells #[.int .i64 4, .int .u64 7, .int .i64 1, .int .i64 (-1), .int .i64 (-1), .int .i64 1, .int .i64 0, .int .i64 1, .int .i64 0] 33)) w3.heap.size 33 (rvC 4 7 1 (-1) (-1) 1 0 1 0) := blk_new rfl
  replace HQ := Lib.hid HQ
  have HCA := (Chg.refl (fun _ => False) w3).alloc (.cells #[.int .i64 4, .int .u64 7, .int .i64 1, .int .i64 (-1), .int .i64 (-1), .int .i64 1, .int .i64 0, .int .i64 1, .int .i64 0] 33)
  replace HX0 := Lib.hid (HX0.out.trans HCA (fun _ _ e => e))
  have HQN := Lib.hid (show p < w3.heap.size from HS.out.blk.lt)
  replace HS := Lib.hid (HS.out.keep HCA)
  have HPW := Lib.hid (show w.heap.size ≤ p by have := HP.out; omega)
  clear HCA
  generalize (w3.alloc (.cells #[.int .i64 4, .int .u64 7, .int .i64 1, .int .i64 (-1), .int .i64 (-1), .int .i64 1, .int .i64 0, .int .i64 1, .int .i64 0] 33)) = w4 at *
  generalize w3.heap.size = qr at *
  obtain ⟨y0, y1, y2, y3, y4, y5, y6, y7, y8⟩ := rv_cells HQ.out
  go_upto_region 5 with fail
  have hpw : w.heap.size ≤ p := HPW.out
  have HBw5 := Lib.hid (show SR 10 CV.cs (w4.alloc (.cells #[.int .i64 4, .int .u64 7, .int .i64 1, .int .i64 (-1), .int .i64 (-1), .int .i64 1, .int .i64 0, .int .i64 1, .int .i64 0, .int .i64 0] 59)) (fun k => k = w4.heap.size) (some ⟨w4.heap.size, 0, none⟩) 1 [⟨r0, 0⟩] from sr_one10 ⟨r0, 0⟩)
  have HCA := (Chg.refl (fun _ => False) w4).alloc (.cells #[.int .i64 4, .int .u64 7, .int .i64 1, .int .i64 (-1), .int .i64 (-1), .int .i64 1, .int .i64 0, .int .i64 1, .int .i64 0, .int .i64 0] 59)
  replace HX0 := Lib.hid (HX0.out.trans HCA (fun _ _ e => e))
  replace HQ := Lib.hid (HQ.out.chg HCA id)
  replace HS := Lib.hid (HS.out.keep HCA)
  have HAP := Lib.hid (sapply_any HS.out (some ⟨w4.heap.size, 0, none⟩) 1 1 [⟨r0, 0⟩] _ HBw5.out (by decide))
  clear HCA HBw5
  go_wp2_with fail
  refine HAP.out.mono ?_
  rintro e w5 ⟨br1, he, hcs, hc⟩
  rw [al_k3.1] at he
  subst he
  rw [al_k3.2] at hcs
  replace HX0 := Lib.hid (fresh_set HX0.out hc (by omega))
  replace HQ := Lib.hid (HQ.out.chg hc (by have := HQN.out; omega))
  replace HS := Lib.hid hcs
  clear hc hcs HAP
  clear y0 y1 y2 y3 y4 y5 y6 y7 y8
  obtain ⟨y0, y1, y2, y3, y4, y5, y6, y7, y8⟩ := rv_cells HQ.out
  have HBw6 := Lib.hid (show SR 10 CV.cs (w5.alloc (.cells #[.int .i64 4, .int .u64 7, .int .i64 1, .int .i64 (-1), .int .i64 (-1), .int .i64 1, .int .i64 0, .int .i64 1, .int .i64 0, .int .i64 0] 59)) (fun k => k = w5.heap.size) (some ⟨w5.heap.size, 0, none⟩) 1 [⟨r0, 0⟩] from sr_one10 ⟨r0, 0⟩)
  have HCA := (Chg.refl (fun _ => False) w5).alloc (.cells #[.int .i64 4, .int .u64 7, .int .i64 1, .int .i64 (-1), .int .i64 (-1), .int .i64 1, .int .i64 0, .int .i64 1, .int .i64 0, .int .i64 0] 59)
  replace HX0 := Lib.hid (HX0.out.trans HCA (fun _ _ e => e))
  replace HQ := Lib.hid (HQ.out.chg HCA id)
  replace HS := Lib.hid (HS.out.keep HCA)
  have HAP := Lib.hid (sapply_any HS.out (some ⟨w5.heap.size, 0, none⟩) 1 1 [⟨r0, 0⟩] _ HBw6.out (by decide))
  clear HCA HBw6
  go_wp2_with fail
  refine HAP.out.mono ?_
  rintro e w6 ⟨br2, he, hcs, hc⟩
  rw [al_k4.1] at he
  subst he
  rw [al_k4.2] at hcs
  replace HX0 := Lib.hid (fresh_set HX0.out hc (by omega))
  replace HQ := Lib.hid (HQ.out.chg hc (by have := HQN.out; omega))
  replace HS := Lib.hid hcs
  clear hc hcs HAP
  clear y0 y1 y2 y3 y4 y5 y6 y7 y8
  have HRM := Lib.hid (srem_any HS.out 1)
  go_wp2_with fail
  refine HRM.out.mono ?_
  rintro e w7 ⟨he, hcs, hc⟩
  rw [al_5] at he
  subst he
  rw [al_k5] at hcs
  replace HX0 := Lib.hid (fresh_set HX0.out hc (Nat.le_refl _))
  replace HQ := Lib.hid (HQ.out.chg hc (fun e => HS.out.ch.ne HQ.out e))
  replace HS := Lib.hid hcs
  clear hc hcs HRM
  have HFN : Hid (Calls _ _ _ w7 (HB9 4 7 1 (-1) (-1) 1 0 1 0 true w7)) := Lib.hid (by have := sfind_any HS.out 7; rw [al_6] at this; exact this)
  go_wp2_with fail
  refine HFN.out.mono ?_
  rintro e w8 ⟨rfl, hc⟩
  replace HX0 := Lib.hid (HX0.out.trans hc (fun _ _ e => e))
  replace HQ := Lib.hid (HQ.out.chg hc id)
  replace HS := Lib.hid (HS.out.keep hc)
  clear hc HFN
  go_upto_region 9 with fail
  have HN : Blk (w8.alloc (.cells #[.int .i64 4, .int .u64 7, .int .i64 1, .int .i64 (-1), .int .i64 (-1), .int .i64 1, .int .i64 0, .int .i64 1, .int .i64 0] 33)) w8.heap.size 33 (rvC 4 7 1 (-1) (-1) 1 0 1 0) := blk_new rfl
  replace HN := Lib.hid HN
  have HCA := (Chg.refl (fun _ => False) w8).alloc (.cells #[.int .i64 4, .int .u64 7, .int .i64 1, .int .i64 (-1), .int .i64 (-1), .int .i64 1, .int .i64 0, .int .i64 1, .int .i64 0] 33)
  replace HX0 := Lib.hid (HX0.out.trans HCA (fun _ _ e => e))
  replace HQ := Lib.hid (HQ.out.chg HCA id)
  replace HS := Lib.hid (HS.out.keep HCA)
  clear HCA
  generalize (w8.alloc (.cells #[.int .i64 4, .int .u64 7, .int .i64 1, .int .i64 (-1), .int .i64 (-1), .int .i64 1, .int .i64 0, .int .i64 1, .int .i64 0] 33)) = w9 at *
  generalize w8.heap.size = qx at *
  have he : ∀ W, (binOp .eql 33 (.agg #[.int .i64 4, .int .u64 7, .int .i64 1, .int .i64 (-1), .int .i64 (-1), .int .i64 1, .int .i64 0, .int .i64 1, .int .i64 0]) (.agg #[.int .i64 4, .int .u64 7, .int .i64 1, .int .i64 (-1), .int .i64 (-1), .int .i64 1, .int .i64 0, .int .i64 1, .int .i64 0])).run Try.prog W = .ok (.bool true) W := fun W => by rw [eqRow]; rfl
  have HKEEP : Hid (∀ W : World, Chg (fun _ => False) w9 W → (W.cell? ⟨qr, 0, none⟩ = some (.int .i64 4) ∧ W.cell? ⟨qr, 1, none⟩ = some (.int .u64 7) ∧ W.cell? ⟨qr, 2, none⟩ = some (.int .i64 1) ∧ W.cell? ⟨qr, 3, none⟩ = some (.int .i64 (-1)) ∧ W.cell? ⟨qr, 4, none⟩ = some (.int .i64 (-1)) ∧ W.cell? ⟨qr, 5, none⟩ = some (.int .i64 1) ∧ W.cell? ⟨qr, 6, none⟩ = some (.int .i64 0) ∧ W.cell? ⟨qr, 7, none⟩ = some (.int .i64 1) ∧ W.cell? ⟨qr, 8, none⟩ = some (.int .i64 0) ∧ W.cell? ⟨qx, 0, none⟩ = some (.int .i64 4) ∧ W.cell? ⟨qx, 1, none⟩ = some (.int .u64 7) ∧ W.cell? ⟨qx, 2, none⟩ = some (.int .i64 1) ∧ W.cell? ⟨qx, 3, none⟩ = some (.int .i64 (-1)) ∧ W.cell? ⟨qx, 4, none⟩ = some (.int .i64 (-1)) ∧ W.cell? ⟨qx, 5, none⟩ = some (.int .i64 1) ∧ W.cell? ⟨qx, 6, none⟩ = some (.int .i64 0) ∧ W.cell? ⟨qx, 7, none⟩ = some (.int .i64 1) ∧ W.cell? ⟨qx, 8, none⟩ = some (.int .i64 0))) := Lib.hid (fun W hw => by
    obtain ⟨x0, x1, x2, x3, x4, x5, x6, x7, x8⟩ := rv_cells (HQ.out.chg hw id)
    obtain ⟨z0, z1, z2, z3, z4, z5, z6, z7, z8⟩ := rv_cells (HN.out.chg hw id)
    exact ⟨x0, x1, x2, x3, x4, x5, x6, x7, x8, z0, z1, z2, z3, z4, z5, z6, z7, z8⟩)
  have HXA := Lib.hid (Chg.refl (fun _ => False) w9).drew
  have HXA2 := Lib.hid ((Chg.refl (fun _ => False) w9).alloc (.cells #[.int .i64 4, .int .u64 7, .int .i64 1, .int .i64 (-1), .int .i64 (-1), .int .i64 1, .int .i64 0, .int .i64 1, .int .i64 0] 33)).drew
  have HRA : Hid (Calls _ _ _ w9.drew (NewS 33 9 RV.cs [r0] w9.drew)) := Lib.hid (by have := srows_any (HS.out.keep HXA.out); rw [al_7] at this; exact this)
  have HRB : Hid (Calls _ _ _ (w9.alloc (.cells #[.int .i64 4, .int .u64 7, .int .i64 1, .int .i64 (-1), .int .i64 (-1), .int .i64 1, .int .i64 0, .int .i64 1, .int .i64 0] 33)).drew (NewS 33 9 RV.cs [r0] (w9.alloc (.cells #[.int .i64 4, .int .u64 7, .int .i64 1, .int .i64 (-1), .int .i64 (-1), .int .i64 1, .int .i64 0, .int .i64 1, .int .i64 0] 33)).drew)) := Lib.hid (by have := srows_any (HS.out.keep HXA2.out); rw [al_7] at this; exact this)
  have HSB := Lib.hid (show SR 9 RV.cs (w9.alloc (.cells #[.int .i64 4, .int .u64 7, .int .i64 1, .int .i64 (-1), .int .i64 (-1), .int .i64 1, .int .i64 0, .int .i64 1, .int .i64 0] 33)).drew (fun k => k = w9.heap.size) (some ⟨w9.heap.size, 0, none⟩) 1 [r0] from SR.drew (sr_one9 r0))
  obtain ⟨x0, x1, x2, x3, x4, x5, x6, x7, x8, z0, z1, z2, z3, z4, z5, z6, z7, z8⟩ := HKEEP.out _ HXA.out
  go_wp2_with fail
  go_region_held3 (fun W => W.cell? ⟨qr, 0, none⟩ = some (.int .i64 4) ∧ W.cell? ⟨qr, 1, none⟩ = some (.int .u64 7) ∧ W.cell? ⟨qr, 2, none⟩ = some (.int .i64 1) ∧ W.cell? ⟨qr, 3, none⟩ = some (.int .i64 (-1)) ∧ W.cell? ⟨qr, 4, none⟩ = some (.int .i64 (-1)) ∧ W.cell? ⟨qr, 5, none⟩ = some (.int .i64 1) ∧ W.cell? ⟨qr, 6, none⟩ = some (.int .i64 0) ∧ W.cell? ⟨qr, 7, none⟩ = some (.int .i64 1) ∧ W.cell? ⟨qr, 8, none⟩ = some (.int .i64 0) ∧ W.cell? ⟨qx, 0, none⟩ = some (.int .i64 4) ∧ W.cell? ⟨qx, 1, none⟩ = some (.int .u64 7) ∧ W.cell? ⟨qx, 2, none⟩ = some (.int .i64 1) ∧ W.cell? ⟨qx, 3, none⟩ = some (.int .i64 (-1)) ∧ W.cell? ⟨qx, 4, none⟩ = some (.int .i64 (-1)) ∧ W.cell? ⟨qx, 5, none⟩ = some (.int .i64 1) ∧ W.cell? ⟨qx, 6, none⟩ = some (.int .i64 0) ∧ W.cell? ⟨qx, 7, none⟩ = some (.int .i64 1) ∧ W.cell? ⟨qx, 8, none⟩ = some (.int .i64 0))
    (first | with_reducible exact HKEEP.out _ HXA.out | with_reducible exact HKEEP.out _ HXA2.out | with_reducible exact HKEEP.out _ HXB.out | with_reducible exact HKEEP.out _ (HXB.out.alloc _) | with_reducible exact HKEEP.out _ HXC.out | with_reducible exact HKEEP.out _ HXD.out | fail)
    (first
      | (go_at_call 17; (with_reducible refine (HRA.out).mono ?_); rintro e wz ⟨ZA, zn, zc, rfl, hzn, hown, hc⟩; have HXB := Lib.hid (HXA.out.trans hc (fun _ _ e => e)); have hz1 : zn = 1 := hzn; subst hz1; have HSM := Lib.hid (same10_any ZA (some ⟨wz.heap.size, 0, none⟩) 1 1 zc 1 [r0] [r0] _ _ (wz.alloc (.cells #[.int .i64 4, .int .u64 7, .int .i64 1, .int .i64 (-1), .int .i64 (-1), .int .i64 1, .int .i64 0, .int .i64 1, .int .i64 0] 33)) ((own_sr rv_size hown rfl).chg ((Chg.refl (fun _ => False) wz).alloc (.cells #[.int .i64 4, .int .u64 7, .int .i64 1, .int .i64 (-1), .int .i64 (-1), .int .i64 1, .int .i64 0, .int .i64 1, .int .i64 0] 33)) (fun _ _ => id)) (sr_one9 r0) (by decide)); have HXBB := Lib.hid (HXB.out.alloc (.cells #[.int .i64 4, .int .u64 7, .int .i64 1, .int .i64 (-1), .int .i64 (-1), .int .i64 1, .int .i64 0, .int .i64 1, .int .i64 0] 33)); clear hc hown hzn)
      | (go_at_call 17; (with_reducible refine (HRB.out).mono ?_); rintro e wz ⟨ZA, zn, zc, rfl, hzn, hown, hc⟩; have HXB := Lib.hid (HXA2.out.trans hc (fun _ _ e => e)); have hz1 : zn = 1 := hzn; subst hz1; have HSM := Lib.hid (same10_any ZA (some ⟨w9.heap.size, 0, none⟩) 1 1 zc 1 [r0] [r0] _ _ wz (own_sr rv_size hown rfl) (HSB.out.chg hc (fun _ _ => id)) (by decide)); have HXBB := HXB; clear hc hown hzn)
      | (go_at_call 19; (with_reducible refine (HSM.out).mono ?_); rintro e wy ⟨bb, rfl, hbb, hc⟩; obtain rfl : true = bb := (hbb rfl).symm; have HXC := Lib.hid (HXBB.out.trans hc (fun _ _ e => e)); have HH1 := Lib.hid (show Calls _ _ _ wy (fun e w' => e = .returned (.bool true) ∧ wy = w') from shas_any (HS.out.keep HXC.out) 1); have HH2 := Lib.hid (show Calls _ _ _ wy (fun e w' => e = .returned (.bool false) ∧ wy = w') from shas_any (HS.out.keep HXC.out) 2); have HLT : Hid (Calls _ _ _ wy (NewS 59 10 CV.cs [] wy)) := Lib.hid (by have := slate_any (HS.out.keep HXC.out) 99 0 (by decide); rw [al_8] at this; exact this); clear hc hbb)
      | (go_at_call 15; (with_reducible refine (HH1.out).mono ?_); rintro e wu ⟨rfl, rfl⟩; clear HH1)
      | (go_at_call 15; (with_reducible refine (HH2.out).mono ?_); rintro e wu ⟨rfl, rfl⟩; clear HH2)
      | (go_at_call 18; (with_reducible refine (HLT.out).mono ?_); rintro e wx ⟨LA, lN, lc, rfl, hln, -, hc⟩; have HXD := Lib.hid (HXC.out.trans hc (fun _ _ e => e)); have hl0 : lN = 0 := hln; subst hl0; clear hc hln)
      | fail)
  all_goals
    go_wp2_with fail
    go_ret
    exact ⟨rfl, HX0.out.trans HXD.out (fun _ _ e => e)⟩


end Go.Proofs.Ytbajcdmcjmkieaa
