/-
  Walk: rutterlaw14.BindMeans. No condition.
-/
import Derived.Test.YteipeookmpnemaaZd
import Derived.Test.YteipeookmpnemaaZg
import Derived.Test.YteipeookmpnemaaZh
import Derived.Test.YteipeookmpnemaaZi
namespace Go.Proofs.Yteipeookmpnemaa
open Go.RowKit
set_option linter.unusedVariables false
set_option linter.unusedSimpArgs false

theorem stRa14 : Try.prog.underlying 29 = some (.struct (Try.prog.fieldsOf 29)) := by kernel_rfl
theorem hpRa14 : Try.prog.stoodInHeld 29 = false := by kernel_rfl
theorem eqRa14 (W : World) (a b c d : Int) : (binOp .eql 29 (.agg #[.int .i64 a, .int .i64 b, .int .i64 c, .int .i64 d]) (.agg #[.int .i64 a, .int .i64 b, .int .i64 c, .int .i64 d])).run Try.prog W = .ok (.bool true) W := by
  rw [run_eql_struct, show (10000 : Nat) = 9999 + 1 from rfl, run_equalIn_agg W 9999 29 _ _ stRa14 hpRa14]
  go_simp
set_option maxRecDepth 100000 in
set_option maxHeartbeats 8000000 in
theorem means14_any (po ma ow ta ol ge ph ve si c ki km kp ks ko : Int) (w : World) : Calls Try.prog 3 #[.agg (rvC po ma ow ta ol ge ph ve si), .int .i64 c, .agg (kyC ki km kp ks ko)] w fun e w' => e = .returned (.bool true) ∧ Chg (fun _ => False) w w' := by
  have HB0 : Hid (Blk ((w.alloc (.cells #[.int .i64 po, .int .u64 ma, .int .i64 ow, .int .i64 ta, .int .i64 ol, .int .i64 ge, .int .i64 ph, .int .i64 ve, .int .i64 si] 25)).alloc (.cells #[.int .i64 ki, .int .u64 km, .int .i64 kp, .int .i64 ks, .int .i64 ko] 27)) w.heap.size 25 (rvC po ma ow ta ol ge ph ve si)) := Lib.hid (Blk.alloc (blk_new rfl) _)
  have HB1 : Hid (Blk ((w.alloc (.cells #[.int .i64 po, .int .u64 ma, .int .i64 ow, .int .i64 ta, .int .i64 ol, .int .i64 ge, .int .i64 ph, .int .i64 ve, .int .i64 si] 25)).alloc (.cells #[.int .i64 ki, .int .u64 km, .int .i64 kp, .int .i64 ks, .int .i64 ko] 27)) (w.heap.size + 1) 27 (kyC ki km kp ks ko)) := Lib.hid (blk_new (by simp))
  have HX := Lib.hid (((Chg.refl (fun _ => False) w).alloc (.cells #[.int .i64 po, .int .u64 ma, .int .i64 ow, .int .i64 ta, .int .i64 ol, .int .i64 ge, .int .i64 ph, .int .i64 ve, .int .i64 si] 25)).alloc (.cells #[.int .i64 ki, .int .u64 km, .int .i64 kp, .int .i64 ks, .int .i64 ko] 27))
  have h1 := fun W => bmeans14_any po ma ow ta ol ge ph ve si c ki km kp ks ko W
  have h2 := fun W => rmeans14_any po ma ow ta ol ge ph ve si c ki km kp ks ko W
  have h3 := fun W => lkey14_any ki km kp ks ko W
  obtain ⟨a1, a2, a3, hA, -⟩ := mA14_ac (mk14 po ma ow ol ge ph c ki km kp ks ko) po ow ge
  rw [hA] at h1 h2
  generalize mk14 po ma ow ol ge ph c ki km kp ks ko = a0 at *
  clear hA
  have h4 := fun W => lact13_any a0 a1 a2 a3 W
  unfold rvC kyC acC at h1 h2
  unfold kyC at h3
  unfold acC at h4
  have HM := Lib.hid h1
  have HRM := Lib.hid h2
  have HKEY := Lib.hid h3
  have HACT := Lib.hid h4
  have HAL := Lib.hid (fun W => alive14_any W)
  clear h1 h2 h3 h4
  unfold rvC kyC
  go_enter Try.func3, Try.ntmps3
  go_upto_region 1 with fail
  generalize (w.alloc (.cells #[.int .i64 po, .int .u64 ma, .int .i64 ow, .int .i64 ta, .int .i64 ol, .int .i64 ge, .int .i64 ph, .int .i64 ve, .int .i64 si] 25)).alloc (.cells #[.int .i64 ki, .int .u64 km, .int .i64 kp, .int .i64 ks, .int .i64 ko] 27) = w1 at *
  generalize w.heap.size + 1 = Q1 at *
  generalize w.heap.size = Q0 at HB0 ⊢
  obtain ⟨y0, y1, y2, y3, y4, y5, y6, y7, y8⟩ := rv_cells HB0.out
  obtain ⟨u0, u1, u2, u3, u4⟩ := ky_cells13 HB1.out
  go_wp2_with fail
  refine (HM.out _).mono ?_
  rintro e w2 ⟨rfl, hc⟩
  replace HB0 := Lib.hid (HB0.out.chg hc id)
  replace HB1 := Lib.hid (HB1.out.chg hc id)
  replace HX := Lib.hid (HX.out.trans hc (fun _ _ e => e))
  clear hc y0 y1 y2 y3 y4 y5 y6 y7 y8 u0 u1 u2 u3 u4
  go_wp2_with fail
  refine (HACT.out _).mono ?_
  rintro e w3 ⟨rfl, hc⟩
  have hca := hc.alloc (.cells #[.int .i64 a0, .int .i64 a1, .int .i64 a2, .int .i64 a3] 29)
  have HB7 : Hid (Blk (w3.alloc (.cells #[.int .i64 a0, .int .i64 a1, .int .i64 a2, .int .i64 a3] 29)) w3.heap.size 29 (acC a0 a1 a2 a3)) := Lib.hid (blk_new rfl)
  replace HB0 := Lib.hid (HB0.out.chg hca id)
  replace HB1 := Lib.hid (HB1.out.chg hca id)
  replace HX := Lib.hid (HX.out.trans hca (fun _ _ e => e))
  clear hc hca
  go_upto_region 2 with fail
  generalize w3.alloc (.cells #[.int .i64 a0, .int .i64 a1, .int .i64 a2, .int .i64 a3] 29) = v3 at *
  generalize w3.heap.size = Q7 at *
  have HKEEP : Hid (∀ W : World, Chg (fun _ => False) v3 W → (W.cell? ⟨Q7, 0, none⟩ = some (.int .i64 a0) ∧ W.cell? ⟨Q7, 1, none⟩ = some (.int .i64 a1) ∧ W.cell? ⟨Q7, 2, none⟩ = some (.int .i64 a2) ∧ W.cell? ⟨Q7, 3, none⟩ = some (.int .i64 a3) ∧ W.cell? ⟨Q0, 0, none⟩ = some (.int .i64 po) ∧ W.cell? ⟨Q0, 1, none⟩ = some (.int .u64 ma) ∧ W.cell? ⟨Q0, 2, none⟩ = some (.int .i64 ow) ∧ W.cell? ⟨Q0, 3, none⟩ = some (.int .i64 ta) ∧ W.cell? ⟨Q0, 4, none⟩ = some (.int .i64 ol) ∧ W.cell? ⟨Q0, 5, none⟩ = some (.int .i64 ge) ∧ W.cell? ⟨Q0, 6, none⟩ = some (.int .i64 ph) ∧ W.cell? ⟨Q0, 7, none⟩ = some (.int .i64 ve) ∧ W.cell? ⟨Q0, 8, none⟩ = some (.int .i64 si) ∧ W.cell? ⟨Q1, 0, none⟩ = some (.int .i64 ki) ∧ W.cell? ⟨Q1, 1, none⟩ = some (.int .u64 km) ∧ W.cell? ⟨Q1, 2, none⟩ = some (.int .i64 kp) ∧ W.cell? ⟨Q1, 3, none⟩ = some (.int .i64 ks) ∧ W.cell? ⟨Q1, 4, none⟩ = some (.int .i64 ko))) := Lib.hid (fun W hw => by
    obtain ⟨x0, x1, x2, x3⟩ := ac_cells13 (HB7.out.chg hw id)
    obtain ⟨y0, y1, y2, y3, y4, y5, y6, y7, y8⟩ := rv_cells (HB0.out.chg hw id)
    obtain ⟨u0, u1, u2, u3, u4⟩ := ky_cells13 (HB1.out.chg hw id)
    exact ⟨x0, x1, x2, x3, y0, y1, y2, y3, y4, y5, y6, y7, y8, u0, u1, u2, u3, u4⟩)
  have HXA := Lib.hid ((Chg.refl (fun _ => False) v3).drew)
  obtain ⟨x0, x1, x2, x3, y0, y1, y2, y3, y4, y5, y6, y7, y8, u0, u1, u2, u3, u4⟩ := HKEEP.out _ HXA.out
  have he := fun W => eqRa14 W a0 a1 a2 a3
  go_region_held3 (fun w' => w'.cell? ⟨Q7, 0, none⟩ = some (.int .i64 a0) ∧ w'.cell? ⟨Q7, 1, none⟩ = some (.int .i64 a1) ∧ w'.cell? ⟨Q7, 2, none⟩ = some (.int .i64 a2) ∧ w'.cell? ⟨Q7, 3, none⟩ = some (.int .i64 a3) ∧ w'.cell? ⟨Q0, 0, none⟩ = some (.int .i64 po) ∧ w'.cell? ⟨Q0, 1, none⟩ = some (.int .u64 ma) ∧ w'.cell? ⟨Q0, 2, none⟩ = some (.int .i64 ow) ∧ w'.cell? ⟨Q0, 3, none⟩ = some (.int .i64 ta) ∧ w'.cell? ⟨Q0, 4, none⟩ = some (.int .i64 ol) ∧ w'.cell? ⟨Q0, 5, none⟩ = some (.int .i64 ge) ∧ w'.cell? ⟨Q0, 6, none⟩ = some (.int .i64 ph) ∧ w'.cell? ⟨Q0, 7, none⟩ = some (.int .i64 ve) ∧ w'.cell? ⟨Q0, 8, none⟩ = some (.int .i64 si) ∧ w'.cell? ⟨Q1, 0, none⟩ = some (.int .i64 ki) ∧ w'.cell? ⟨Q1, 1, none⟩ = some (.int .u64 km) ∧ w'.cell? ⟨Q1, 2, none⟩ = some (.int .i64 kp) ∧ w'.cell? ⟨Q1, 3, none⟩ = some (.int .i64 ks) ∧ w'.cell? ⟨Q1, 4, none⟩ = some (.int .i64 ko))
    (first | with_reducible exact HKEEP.out _ HXA.out | with_reducible exact HKEEP.out _ HXB.out | with_reducible exact HKEEP.out _ HXC.out | with_reducible exact HKEEP.out _ HXD.out | fail)
    (first
      | (go_at_call 8; (with_reducible refine (HAL.out _).mono ?_); rintro e wb ⟨rfl, hc⟩; have HXB := Lib.hid (HXA.out.trans hc (fun _ _ e => e)); clear hc)
      | (go_at_call 10; (with_reducible refine (HKEY.out _).mono ?_); rintro e wc ⟨rfl, hc⟩; have HXC := Lib.hid (HXB.out.trans hc (fun _ _ e => e)); clear hc)
      | (go_at_call 9; (with_reducible refine (HRM.out _).mono ?_); rintro e wd ⟨rfl, hc⟩; have HXD := Lib.hid (HXC.out.trans hc (fun _ _ e => e)); clear hc)
      | fail)
  all_goals
    go_wp2_with fail
    go_ret
    exact ⟨rfl, HX.out.trans HXD.out (fun _ _ e => e)⟩

end Go.Proofs.Yteipeookmpnemaa
