/-
  Walks: the document's time, chassis, may, spent, next, moved, New; what an act makes, by cases. Conditions: of next and moved, the row's version and generation are small numbers.
-/
import Derived.Test.YtimgnogacanifaaGreatM7
namespace Go.Proofs.YtimgnogacanifaaGreat
open Go.RowKit
set_option linter.unusedVariables false

theorem fin_no {x : RV} {now : Int} {may : Bool} {a : RV × Int} (h : (x.ok && tm9 now) = false) : fin9 x now may a = (z9, 1) := by
  unfold fin9
  refine if_neg (fun hh => ?_)
  rw [hh.2.1, hh.2.2] at h
  cases h
theorem fin_may {x : RV} {now : Int} {a : RV × Int} : fin9 x now false a = (z9, 1) := by
  unfold fin9
  exact if_neg (fun hh => by cases hh.1)
theorem fin_er {x y : RV} {now er : Int} (h : (x.ok && tm9 now) = true) (he : er ≠ 0) : fin9 x now true (y, er) = (z9, er) := by
  rw [Bool.and_eq_true] at h
  unfold fin9
  rw [if_pos ⟨rfl, h.2, h.1⟩]
  exact if_neg he
theorem fin_yes {x y : RV} {now : Int} (h : (x.ok && tm9 now) = true) : fin9 x now true (y, 0) = chk9 { y with ve := x.ve + 1, si := now } := by
  rw [Bool.and_eq_true] at h
  unfold fin9
  rw [if_pos ⟨rfl, h.2, h.1⟩]
  exact if_pos rfl
/-- Is no generation, or version, left, as the document asks? -/
def spB (ge ve : Int) : Bool := decide (4294967296 ≤ ge) || decide (1099511627760 < ve)
theorem spB_eq {po ma ow ta ol ge ph ve si : Int} (h : ge ≤ 4294967296) : spn9 ⟨po, ma, ow, ta, ol, ge, ph, ve, si⟩ = spB ge ve := by
  unfold spn9 spB
  have e : (ge == 4294967296) = decide (4294967296 ≤ ge) := by
    by_cases h2 : ge = 4294967296
    · subst h2; rfl
    · have h3 : ¬ 4294967296 ≤ ge := by omega
      rw [decide_eq_false h3]
      simpa using h2
  show (ge == 4294967296 || decide (1099511627760 < ve)) = _
  rw [e]

set_option maxRecDepth 100000 in
set_option maxHeartbeats 400000 in
theorem rtime_any (n : Int) (w : World) : Calls Tryz.prog 123 #[.int .i64 n] w fun e w' => e = .returned (.bool (tm9 n)) ∧ w = w' := by
  have HI := Lib.hid (show Calls _ _ _ _ (fun e w' => e = .returned (.bool (tm9 n)) ∧ w = w') from in6_any n 0 1099511627776 w)
  go_enter Tryz.func123, Tryz.ntmps123
  go_wp2_with fail
  refine HI.out.mono ?_
  rintro e w' ⟨rfl, rfl⟩
  go_wp2_with fail
  go_ret
  exact ⟨rfl, rfl⟩

set_option maxRecDepth 100000 in
set_option maxHeartbeats 400000 in
theorem rch_any (n : Int) (w : World) : Calls Tryz.prog 102 #[.int .i64 n] w fun e w' => e = .returned (.bool (ch9 n)) ∧ w = w' := by
  have HI := Lib.hid (show Calls _ _ _ _ (fun e w' => e = .returned (.bool (ch9 n)) ∧ w = w') from in6_any n 0 15 w)
  go_enter Tryz.func102, Tryz.ntmps102
  go_wp2_with fail
  refine HI.out.mono ?_
  rintro e w' ⟨rfl, rfl⟩
  go_wp2_with fail
  go_ret
  exact ⟨rfl, rfl⟩

set_option maxRecDepth 100000 in
set_option maxHeartbeats 2000000 in
theorem rmay_any (po ma ow ta ol ge ph ve si now : Int) (w : World) : Calls Tryz.prog 100 #[.agg #[.int .i64 po, .int .u64 ma, .int .i64 ow, .int .i64 ta, .int .i64 ol, .int .i64 ge, .int .i64 ph, .int .i64 ve, .int .i64 si], .int .i64 now] w fun e w' => e = .returned (.bool (rwR po ma ow ta ol ge ph ve si && tm9 now)) ∧ Chg (fun _ => False) w w' := by
  have hr := fun W => rrow_any po ma ow ta ol ge ph ve si W
  unfold rvC at hr
  have ht := fun W => rtime_any now W
  generalize tm9 now = b2 at *
  generalize rwR po ma ow ta ol ge ph ve si = b1 at *
  have HRW := Lib.hid hr
  have HTM := Lib.hid ht
  clear hr ht
  have HX0 := Lib.hid ((Chg.refl (fun _ => False) w).alloc (.cells #[.int .i64 po, .int .u64 ma, .int .i64 ow, .int .i64 ta, .int .i64 ol, .int .i64 ge, .int .i64 ph, .int .i64 ve, .int .i64 si] 40))
  have HQ0 : Hid (Blk (w.alloc (.cells #[.int .i64 po, .int .u64 ma, .int .i64 ow, .int .i64 ta, .int .i64 ol, .int .i64 ge, .int .i64 ph, .int .i64 ve, .int .i64 si] 40)) w.heap.size 40 (rvC po ma ow ta ol ge ph ve si)) := Lib.hid (blk_new rfl)
  obtain ⟨y0, y1, y2, y3, y4, y5, y6, y7, y8⟩ := rv_cells HQ0.out
  cases b1 with
  | false =>
    go_enter Tryz.func100, Tryz.ntmps100
    go_wp2_with fail
    refine (HRW.out _).mono ?_
    rintro e w1 ⟨rfl, hc⟩
    have HF := Lib.hid (HX0.out.trans hc (fun _ _ e => e))
    clear hc
    go_wp2_with fail
    go_ret
    exact ⟨rfl, HF.out⟩
  | true =>
    go_enter Tryz.func100, Tryz.ntmps100
    go_wp2_with fail
    refine (HRW.out _).mono ?_
    rintro e w1 ⟨rfl, hc⟩
    have HF := Lib.hid (HX0.out.trans hc (fun _ _ e => e))
    clear hc
    go_wp2_with fail
    refine (HTM.out _).mono ?_
    rintro e w2 ⟨rfl, rfl⟩
    go_wp2_with fail
    go_ret
    exact ⟨rfl, HF.out⟩

set_option maxRecDepth 100000 in
set_option maxHeartbeats 400000 in
theorem rspent_any (po ma ow ta ol ge ph ve si : Int) (w : World) : Calls Tryz.prog 114 #[.agg #[.int .i64 po, .int .u64 ma, .int .i64 ow, .int .i64 ta, .int .i64 ol, .int .i64 ge, .int .i64 ph, .int .i64 ve, .int .i64 si]] w fun e w' => e = .returned (.bool (spB ge ve)) ∧ Chg (fun _ => False) w w' := by
  have HX := Lib.hid ((Chg.refl (fun _ => False) w).alloc (.cells #[.int .i64 po, .int .u64 ma, .int .i64 ow, .int .i64 ta, .int .i64 ol, .int .i64 ge, .int .i64 ph, .int .i64 ve, .int .i64 si] 40))
  by_cases h : 4294967296 ≤ ge
  · have hR := Lib.hid (show spB ge ve = true by simp [spB, h])
    go_enter Tryz.func114, Tryz.ntmps114
    go_wp2_with fail
    go_ret
    exact ⟨ret_b hR.out.symm, HX.out⟩
  · have hR := Lib.hid (show spB ge ve = decide (1099511627760 < ve) by simp [spB, h])
    go_enter Tryz.func114, Tryz.ntmps114
    go_wp2_with fail
    go_ret
    exact ⟨ret_b hR.out.symm, HX.out⟩

set_option maxRecDepth 100000 in
set_option maxHeartbeats 2000000 in
theorem rnext_any (po ma ow ta ol ge ph ve si now : Int) (w : World) (hv : 0 ≤ ve ∧ ve ≤ 1099511627776) : Calls Tryz.prog 115 #[.agg #[.int .i64 po, .int .u64 ma, .int .i64 ow, .int .i64 ta, .int .i64 ol, .int .i64 ge, .int .i64 ph, .int .i64 ve, .int .i64 si], .int .i64 now] w (HR (chk9 ⟨po, ma, ow, ta, ol, ge, ph, ve + 1, now⟩) w) := by
  have hr := fun W => rrow_any po ma ow ta ol ge ph (ve + 1) now W
  unfold rvC at hr
  by_cases h : rwR po ma ow ta ol ge ph (ve + 1) now = true
  case pos =>
    rw [chk_yes (x := ⟨po, ma, ow, ta, ol, ge, ph, ve + 1, now⟩) h]
    rw [h] at hr
    have HRW := Lib.hid hr
    clear hr h
    have HQ0 : Blk ((w.alloc (.cells #[.int .i64 po, .int .u64 ma, .int .i64 ow, .int .i64 ta, .int .i64 ol, .int .i64 ge, .int .i64 ph, .int .i64 ve, .int .i64 si] 40)).alloc (.cells #[.int .i64 0, .int .u64 0, .int .i64 0, .int .i64 0, .int .i64 0, .int .i64 0, .int .i64 0, .int .i64 0, .int .i64 0] 40)) w.heap.size 40 (rvC po ma ow ta ol ge ph ve si) := (Blk.alloc (blk_new rfl) _)
    replace HQ0 := Lib.hid HQ0
    have HR0 : Blk ((w.alloc (.cells #[.int .i64 po, .int .u64 ma, .int .i64 ow, .int .i64 ta, .int .i64 ol, .int .i64 ge, .int .i64 ph, .int .i64 ve, .int .i64 si] 40)).alloc (.cells #[.int .i64 0, .int .u64 0, .int .i64 0, .int .i64 0, .int .i64 0, .int .i64 0, .int .i64 0, .int .i64 0, .int .i64 0] 40)) (w.heap.size + 1) 40 (rvC 0 0 0 0 0 0 0 0 0) := (blk_new (by simp))
    replace HR0 := Lib.hid HR0
    have HX0 := Lib.hid (((Chg.refl (fun _ => False) w).alloc (.cells #[.int .i64 po, .int .u64 ma, .int .i64 ow, .int .i64 ta, .int .i64 ol, .int .i64 ge, .int .i64 ph, .int .i64 ve, .int .i64 si] 40)).alloc (.cells #[.int .i64 0, .int .u64 0, .int .i64 0, .int .i64 0, .int .i64 0, .int .i64 0, .int .i64 0, .int .i64 0, .int .i64 0] 40))
    go_enter Tryz.func115, Tryz.ntmps115
    go_upto_region 1 with fail
    generalize ((w.alloc (.cells #[.int .i64 po, .int .u64 ma, .int .i64 ow, .int .i64 ta, .int .i64 ol, .int .i64 ge, .int .i64 ph, .int .i64 ve, .int .i64 si] 40)).alloc (.cells #[.int .i64 0, .int .u64 0, .int .i64 0, .int .i64 0, .int .i64 0, .int .i64 0, .int .i64 0, .int .i64 0, .int .i64 0] 40)) = w1 at *
    have fHQ00 := HQ0.out.frozen 7
    obtain ⟨-, -, -, -, -, -, -, yHQ00_7, -⟩ := rv_cells HQ0.out
    replace HQ0 := Lib.hid (rv_set7 HQ0.out (ve + 1))
    have fHQ01 := HQ0.out.frozen 8
    obtain ⟨-, -, -, -, -, -, -, -, yHQ01_8⟩ := rv_cells HQ0.out
    replace HQ0 := Lib.hid (rv_set8 HQ0.out (now))
    have hcs := (((Chg.refl (fun k => k = w.heap.size) w1).put w.heap.size 7 (fun _ => rfl) (.int .i64 (ve + 1))).put w.heap.size 8 (fun _ => rfl) (.int .i64 (now)))
    replace HR0 := Lib.hid (HR0.out.chg hcs (by omega))
    replace HX0 := Lib.hid (fresh_set HX0.out hcs (by first | exact Nat.le_refl _ | omega))
    clear hcs
    obtain ⟨y0, y1, y2, y3, y4, y5, y6, y7, y8⟩ := rv_cells HQ0.out
    go_wp2_with fail
    refine (HRW.out _).mono ?_
    rintro e w2 ⟨rfl, hc⟩
    replace HX0 := Lib.hid (HX0.out.trans hc (fun _ _ e => e))
    replace HQ0 := Lib.hid (HQ0.out.chg hc id)
    replace HR0 := Lib.hid (HR0.out.chg hc id)
    clear hc
    clear y0 y1 y2 y3 y4 y5 y6 y7 y8
    obtain ⟨y0, y1, y2, y3, y4, y5, y6, y7, y8⟩ := rv_cells HQ0.out
    obtain ⟨x0, x1, x2, x3, x4, x5, x6, x7, x8⟩ := rv_cells HR0.out
    obtain ⟨u0, u1, u2, u3, u4, u5, u6, u7, u8⟩ := rv_free9 HR0.out
    obtain ⟨r0, r1, r2, r3, r4, r5, r6, r7, r8, -, hcs⟩ := rv_put9 HR0.out po ma ow ta ol ge ph (ve + 1) now
    have HF := Lib.hid (fresh_set HX0.out hcs (by omega))
    have RR := Lib.hid (And.intro r0 (And.intro r1 (And.intro r2 (And.intro r3 (And.intro r4 (And.intro r5 (And.intro r6 (And.intro r7 r8))))))))
    clear r0 r1 r2 r3 r4 r5 r6 r7 r8 hcs HR0 HX0
    go_wp2_with fail
    obtain ⟨r0, r1, r2, r3, r4, r5, r6, r7, r8⟩ := RR.out
    exact bodyPost_ret (v := .tuple #[.agg (rvC po ma ow ta ol ge ph (ve + 1) now), .int .i64 0]) (by simp [results, Tryz.results115, go_sem, rvC, r0, r1, r2, r3, r4, r5, r6, r7, r8]) rfl ⟨rfl, HF.out⟩
  case neg =>
    have h : rwR po ma ow ta ol ge ph (ve + 1) now = false := by simpa using h
    rw [chk_no (x := ⟨po, ma, ow, ta, ol, ge, ph, ve + 1, now⟩) h]
    rw [h] at hr
    have HRW := Lib.hid hr
    clear hr h
    have HQ0 : Blk ((w.alloc (.cells #[.int .i64 po, .int .u64 ma, .int .i64 ow, .int .i64 ta, .int .i64 ol, .int .i64 ge, .int .i64 ph, .int .i64 ve, .int .i64 si] 40)).alloc (.cells #[.int .i64 0, .int .u64 0, .int .i64 0, .int .i64 0, .int .i64 0, .int .i64 0, .int .i64 0, .int .i64 0, .int .i64 0] 40)) w.heap.size 40 (rvC po ma ow ta ol ge ph ve si) := (Blk.alloc (blk_new rfl) _)
    replace HQ0 := Lib.hid HQ0
    have HR0 : Blk ((w.alloc (.cells #[.int .i64 po, .int .u64 ma, .int .i64 ow, .int .i64 ta, .int .i64 ol, .int .i64 ge, .int .i64 ph, .int .i64 ve, .int .i64 si] 40)).alloc (.cells #[.int .i64 0, .int .u64 0, .int .i64 0, .int .i64 0, .int .i64 0, .int .i64 0, .int .i64 0, .int .i64 0, .int .i64 0] 40)) (w.heap.size + 1) 40 (rvC 0 0 0 0 0 0 0 0 0) := (blk_new (by simp))
    replace HR0 := Lib.hid HR0
    have HX0 := Lib.hid (((Chg.refl (fun _ => False) w).alloc (.cells #[.int .i64 po, .int .u64 ma, .int .i64 ow, .int .i64 ta, .int .i64 ol, .int .i64 ge, .int .i64 ph, .int .i64 ve, .int .i64 si] 40)).alloc (.cells #[.int .i64 0, .int .u64 0, .int .i64 0, .int .i64 0, .int .i64 0, .int .i64 0, .int .i64 0, .int .i64 0, .int .i64 0] 40))
    go_enter Tryz.func115, Tryz.ntmps115
    go_upto_region 1 with fail
    generalize ((w.alloc (.cells #[.int .i64 po, .int .u64 ma, .int .i64 ow, .int .i64 ta, .int .i64 ol, .int .i64 ge, .int .i64 ph, .int .i64 ve, .int .i64 si] 40)).alloc (.cells #[.int .i64 0, .int .u64 0, .int .i64 0, .int .i64 0, .int .i64 0, .int .i64 0, .int .i64 0, .int .i64 0, .int .i64 0] 40)) = w1 at *
    have fHQ00 := HQ0.out.frozen 7
    obtain ⟨-, -, -, -, -, -, -, yHQ00_7, -⟩ := rv_cells HQ0.out
    replace HQ0 := Lib.hid (rv_set7 HQ0.out (ve + 1))
    have fHQ01 := HQ0.out.frozen 8
    obtain ⟨-, -, -, -, -, -, -, -, yHQ01_8⟩ := rv_cells HQ0.out
    replace HQ0 := Lib.hid (rv_set8 HQ0.out (now))
    have hcs := (((Chg.refl (fun k => k = w.heap.size) w1).put w.heap.size 7 (fun _ => rfl) (.int .i64 (ve + 1))).put w.heap.size 8 (fun _ => rfl) (.int .i64 (now)))
    replace HR0 := Lib.hid (HR0.out.chg hcs (by omega))
    replace HX0 := Lib.hid (fresh_set HX0.out hcs (by first | exact Nat.le_refl _ | omega))
    clear hcs
    obtain ⟨y0, y1, y2, y3, y4, y5, y6, y7, y8⟩ := rv_cells HQ0.out
    go_wp2_with fail
    refine (HRW.out _).mono ?_
    rintro e w2 ⟨rfl, hc⟩
    replace HX0 := Lib.hid (HX0.out.trans hc (fun _ _ e => e))
    replace HQ0 := Lib.hid (HQ0.out.chg hc id)
    replace HR0 := Lib.hid (HR0.out.chg hc id)
    clear hc
    clear y0 y1 y2 y3 y4 y5 y6 y7 y8
    obtain ⟨x0, x1, x2, x3, x4, x5, x6, x7, x8⟩ := rv_cells HR0.out
    obtain ⟨u0, u1, u2, u3, u4, u5, u6, u7, u8⟩ := rv_free9 HR0.out
    obtain ⟨r0, r1, r2, r3, r4, r5, r6, r7, r8, -, hcs⟩ := rv_put9 HR0.out 0 0 0 0 0 0 0 0 0
    have HF := Lib.hid (fresh_set HX0.out hcs (by omega))
    have RR := Lib.hid (And.intro r0 (And.intro r1 (And.intro r2 (And.intro r3 (And.intro r4 (And.intro r5 (And.intro r6 (And.intro r7 r8))))))))
    clear r0 r1 r2 r3 r4 r5 r6 r7 r8 hcs HR0 HX0
    go_wp2_with fail
    obtain ⟨r0, r1, r2, r3, r4, r5, r6, r7, r8⟩ := RR.out
    exact bodyPost_ret (v := .tuple #[.agg (rvC 0 0 0 0 0 0 0 0 0), .int .i64 1]) (by simp [results, Tryz.results115, go_sem, rvC, r0, r1, r2, r3, r4, r5, r6, r7, r8]) rfl ⟨rfl, HF.out⟩

set_option maxRecDepth 100000 in
set_option maxHeartbeats 2000000 in
theorem rmoved_any (po ma ow ta ol ge ph ve si now : Int) (w : World) (hv : 0 ≤ ve ∧ ve ≤ 1099511627776) (hg : 1 ≤ ge ∧ ge ≤ 4294967296) : Calls Tryz.prog 103 #[.agg #[.int .i64 po, .int .u64 ma, .int .i64 ow, .int .i64 ta, .int .i64 ol, .int .i64 ge, .int .i64 ph, .int .i64 ve, .int .i64 si], .int .i64 now] w (HR (chk9 ⟨po, ma, ta, -1, ow, ge + 1, 2, ve + 1, now⟩) w) := by
  have hd := fun W => rnext_any po ma ta (-1) ow (ge + 1) 2 ve si now W hv
  obtain ⟨z0, z1, z2, z3, z4, z5, z6, z7, z8, ze, hz⟩ := num9 (r := chk9 ⟨po, ma, ta, -1, ow, ge + 1, 2, ve + 1, now⟩)
  rw [hz] at hd ⊢
  have HD : Hid (∀ W, Calls _ _ _ W (HR9 z0 z1 z2 z3 z4 z5 z6 z7 z8 ze W)) := Lib.hid hd
  clear hd hz
  have HQ0 : Blk ((w.alloc (.cells #[.int .i64 po, .int .u64 ma, .int .i64 ow, .int .i64 ta, .int .i64 ol, .int .i64 ge, .int .i64 ph, .int .i64 ve, .int .i64 si] 40)).alloc (.cells #[.int .i64 0, .int .u64 0, .int .i64 0, .int .i64 0, .int .i64 0, .int .i64 0, .int .i64 0, .int .i64 0, .int .i64 0] 40)) w.heap.size 40 (rvC po ma ow ta ol ge ph ve si) := (Blk.alloc (blk_new rfl) _)
  replace HQ0 := Lib.hid HQ0
  have HR0 : Blk ((w.alloc (.cells #[.int .i64 po, .int .u64 ma, .int .i64 ow, .int .i64 ta, .int .i64 ol, .int .i64 ge, .int .i64 ph, .int .i64 ve, .int .i64 si] 40)).alloc (.cells #[.int .i64 0, .int .u64 0, .int .i64 0, .int .i64 0, .int .i64 0, .int .i64 0, .int .i64 0, .int .i64 0, .int .i64 0] 40)) (w.heap.size + 1) 40 (rvC 0 0 0 0 0 0 0 0 0) := (blk_new (by simp))
  replace HR0 := Lib.hid HR0
  have HX0 := Lib.hid (((Chg.refl (fun _ => False) w).alloc (.cells #[.int .i64 po, .int .u64 ma, .int .i64 ow, .int .i64 ta, .int .i64 ol, .int .i64 ge, .int .i64 ph, .int .i64 ve, .int .i64 si] 40)).alloc (.cells #[.int .i64 0, .int .u64 0, .int .i64 0, .int .i64 0, .int .i64 0, .int .i64 0, .int .i64 0, .int .i64 0, .int .i64 0] 40))
  go_enter Tryz.func103, Tryz.ntmps103
  go_upto_region 1 with fail
  generalize ((w.alloc (.cells #[.int .i64 po, .int .u64 ma, .int .i64 ow, .int .i64 ta, .int .i64 ol, .int .i64 ge, .int .i64 ph, .int .i64 ve, .int .i64 si] 40)).alloc (.cells #[.int .i64 0, .int .u64 0, .int .i64 0, .int .i64 0, .int .i64 0, .int .i64 0, .int .i64 0, .int .i64 0, .int .i64 0] 40)) = w1 at *
  have fHQ00 := HQ0.out.frozen 4
  obtain ⟨-, -, yHQ00_2, -, yHQ00_4, -, -, -, -⟩ := rv_cells HQ0.out
  replace HQ0 := Lib.hid (rv_set4 HQ0.out (ow))
  have fHQ01 := HQ0.out.frozen 2
  obtain ⟨-, -, yHQ01_2, yHQ01_3, -, -, -, -, -⟩ := rv_cells HQ0.out
  replace HQ0 := Lib.hid (rv_set2 HQ0.out (ta))
  have fHQ02 := HQ0.out.frozen 3
  obtain ⟨-, -, -, yHQ02_3, -, -, -, -, -⟩ := rv_cells HQ0.out
  replace HQ0 := Lib.hid (rv_set3 HQ0.out (-1))
  have fHQ03 := HQ0.out.frozen 6
  obtain ⟨-, -, -, -, -, -, yHQ03_6, -, -⟩ := rv_cells HQ0.out
  replace HQ0 := Lib.hid (rv_set6 HQ0.out (2))
  have fHQ04 := HQ0.out.frozen 5
  obtain ⟨-, -, -, -, -, yHQ04_5, -, -, -⟩ := rv_cells HQ0.out
  replace HQ0 := Lib.hid (rv_set5 HQ0.out (ge + 1))
  have hcs := ((((((Chg.refl (fun k => k = w.heap.size) w1).put w.heap.size 4 (fun _ => rfl) (.int .i64 (ow))).put w.heap.size 2 (fun _ => rfl) (.int .i64 (ta))).put w.heap.size 3 (fun _ => rfl) (.int .i64 (-1))).put w.heap.size 6 (fun _ => rfl) (.int .i64 (2))).put w.heap.size 5 (fun _ => rfl) (.int .i64 (ge + 1)))
  replace HR0 := Lib.hid (HR0.out.chg hcs (by omega))
  replace HX0 := Lib.hid (fresh_set HX0.out hcs (by first | exact Nat.le_refl _ | omega))
  clear hcs
  obtain ⟨y0, y1, y2, y3, y4, y5, y6, y7, y8⟩ := rv_cells HQ0.out
  go_wp2_with fail
  refine (HD.out _).mono ?_
  rintro e w2 ⟨rfl, hc⟩
  replace HX0 := Lib.hid (HX0.out.trans hc (fun _ _ e => e))
  replace HQ0 := Lib.hid (HQ0.out.chg hc id)
  replace HR0 := Lib.hid (HR0.out.chg hc id)
  clear hc
  clear y0 y1 y2 y3 y4 y5 y6 y7 y8
  obtain ⟨x0, x1, x2, x3, x4, x5, x6, x7, x8⟩ := rv_cells HR0.out
  obtain ⟨u0, u1, u2, u3, u4, u5, u6, u7, u8⟩ := rv_free9 HR0.out
  obtain ⟨r0, r1, r2, r3, r4, r5, r6, r7, r8, -, hcs⟩ := rv_put9 HR0.out z0 z1 z2 z3 z4 z5 z6 z7 z8
  have HF := Lib.hid (fresh_set HX0.out hcs (by omega))
  have RR := Lib.hid (And.intro r0 (And.intro r1 (And.intro r2 (And.intro r3 (And.intro r4 (And.intro r5 (And.intro r6 (And.intro r7 r8))))))))
  clear r0 r1 r2 r3 r4 r5 r6 r7 r8 hcs HR0 HX0
  go_wp2_with fail
  obtain ⟨r0, r1, r2, r3, r4, r5, r6, r7, r8⟩ := RR.out
  exact bodyPost_ret (v := .tuple #[.agg (rvC z0 z1 z2 z3 z4 z5 z6 z7 z8), .int .i64 ze]) (by simp [results, Tryz.results103, go_sem, rvC, r0, r1, r2, r3, r4, r5, r6, r7, r8]) rfl ⟨rfl, HF.out⟩

set_option maxRecDepth 100000 in
set_option maxHeartbeats 2000000 in
theorem rnew_any (po ma ow si : Int) (w : World) : Calls Tryz.prog 88 #[.int .i64 po, .int .u64 ma, .int .i64 ow, .int .i64 si] w (HR (new9 po ma ow si) w) := by
  have hm := fun W => rmay_any po ma ow (-1) (-1) 1 0 1 si si W
  by_cases h : rwR po ma ow (-1) (-1) 1 0 1 si = true
  case pos =>
    have ht : tm9 si = true := by
      obtain ⟨h1, h2⟩ := (ok_bounds h).2.2.2.2
      simp [tm9, withinB, h1, h2]
    rw [show new9 po ma ow si = (⟨po, ma, ow, -1, -1, 1, 0, 1, si⟩, 0) from chk_yes (x := ⟨po, ma, ow, -1, -1, 1, 0, 1, si⟩) h]
    rw [h, ht] at hm
    have HMY : Hid (∀ W, Calls _ _ _ W (fun e w' => e = .returned (.bool true) ∧ Chg (fun _ => False) W w')) := Lib.hid hm
    clear hm h ht
    have HR0 : Blk ((w.alloc (.cells #[.int .i64 0, .int .u64 0, .int .i64 0, .int .i64 0, .int .i64 0, .int .i64 0, .int .i64 0, .int .i64 0, .int .i64 0] 40)).alloc (.cells #[.int .i64 po, .int .u64 ma, .int .i64 ow, .int .i64 (-1), .int .i64 (-1), .int .i64 1, .int .i64 0, .int .i64 1, .int .i64 si] 40)) w.heap.size 40 (rvC 0 0 0 0 0 0 0 0 0) := (Blk.alloc (blk_new rfl) _)
    replace HR0 := Lib.hid HR0
    have HQ0 : Blk ((w.alloc (.cells #[.int .i64 0, .int .u64 0, .int .i64 0, .int .i64 0, .int .i64 0, .int .i64 0, .int .i64 0, .int .i64 0, .int .i64 0] 40)).alloc (.cells #[.int .i64 po, .int .u64 ma, .int .i64 ow, .int .i64 (-1), .int .i64 (-1), .int .i64 1, .int .i64 0, .int .i64 1, .int .i64 si] 40)) (w.heap.size + 1) 40 (rvC po ma ow (-1) (-1) 1 0 1 si) := (blk_new (by simp))
    replace HQ0 := Lib.hid HQ0
    have HX0 := Lib.hid (((Chg.refl (fun _ => False) w).alloc (.cells #[.int .i64 0, .int .u64 0, .int .i64 0, .int .i64 0, .int .i64 0, .int .i64 0, .int .i64 0, .int .i64 0, .int .i64 0] 40)).alloc (.cells #[.int .i64 po, .int .u64 ma, .int .i64 ow, .int .i64 (-1), .int .i64 (-1), .int .i64 1, .int .i64 0, .int .i64 1, .int .i64 si] 40))
    go_enter Tryz.func88, Tryz.ntmps88
    go_upto_region 2 with fail
    generalize ((w.alloc (.cells #[.int .i64 0, .int .u64 0, .int .i64 0, .int .i64 0, .int .i64 0, .int .i64 0, .int .i64 0, .int .i64 0, .int .i64 0] 40)).alloc (.cells #[.int .i64 po, .int .u64 ma, .int .i64 ow, .int .i64 (-1), .int .i64 (-1), .int .i64 1, .int .i64 0, .int .i64 1, .int .i64 si] 40)) = w1 at *
    obtain ⟨y0, y1, y2, y3, y4, y5, y6, y7, y8⟩ := rv_cells HQ0.out
    go_wp2_with fail
    refine (HMY.out _).mono ?_
    rintro e w2 ⟨rfl, hc⟩
    replace HX0 := Lib.hid (HX0.out.trans hc (fun _ _ e => e))
    replace HQ0 := Lib.hid (HQ0.out.chg hc id)
    replace HR0 := Lib.hid (HR0.out.chg hc id)
    clear hc
    clear y0 y1 y2 y3 y4 y5 y6 y7 y8
    obtain ⟨y0, y1, y2, y3, y4, y5, y6, y7, y8⟩ := rv_cells HQ0.out
    obtain ⟨x0, x1, x2, x3, x4, x5, x6, x7, x8⟩ := rv_cells HR0.out
    obtain ⟨u0, u1, u2, u3, u4, u5, u6, u7, u8⟩ := rv_free9 HR0.out
    obtain ⟨r0, r1, r2, r3, r4, r5, r6, r7, r8, -, hcs⟩ := rv_put9 HR0.out po ma ow (-1) (-1) 1 0 1 si
    have HF := Lib.hid (fresh_set HX0.out hcs (by omega))
    have RR := Lib.hid (And.intro r0 (And.intro r1 (And.intro r2 (And.intro r3 (And.intro r4 (And.intro r5 (And.intro r6 (And.intro r7 r8))))))))
    clear r0 r1 r2 r3 r4 r5 r6 r7 r8 hcs HR0 HX0
    go_wp2_with fail
    obtain ⟨r0, r1, r2, r3, r4, r5, r6, r7, r8⟩ := RR.out
    exact bodyPost_ret (v := .tuple #[.agg (rvC po ma ow (-1) (-1) 1 0 1 si), .int .i64 0]) (by simp [results, Tryz.results88, go_sem, rvC, r0, r1, r2, r3, r4, r5, r6, r7, r8]) rfl ⟨rfl, HF.out⟩
  case neg =>
    have h : rwR po ma ow (-1) (-1) 1 0 1 si = false := by simpa using h
    rw [show new9 po ma ow si = (z9, 1) from chk_no (x := ⟨po, ma, ow, -1, -1, 1, 0, 1, si⟩) h]
    rw [h, Bool.false_and] at hm
    have HMY := Lib.hid hm
    clear hm h
    have HR0 : Blk ((w.alloc (.cells #[.int .i64 0, .int .u64 0, .int .i64 0, .int .i64 0, .int .i64 0, .int .i64 0, .int .i64 0, .int .i64 0, .int .i64 0] 40)).alloc (.cells #[.int .i64 po, .int .u64 ma, .int .i64 ow, .int .i64 (-1), .int .i64 (-1), .int .i64 1, .int .i64 0, .int .i64 1, .int .i64 si] 40)) w.heap.size 40 (rvC 0 0 0 0 0 0 0 0 0) := (Blk.alloc (blk_new rfl) _)
    replace HR0 := Lib.hid HR0
    have HQ0 : Blk ((w.alloc (.cells #[.int .i64 0, .int .u64 0, .int .i64 0, .int .i64 0, .int .i64 0, .int .i64 0, .int .i64 0, .int .i64 0, .int .i64 0] 40)).alloc (.cells #[.int .i64 po, .int .u64 ma, .int .i64 ow, .int .i64 (-1), .int .i64 (-1), .int .i64 1, .int .i64 0, .int .i64 1, .int .i64 si] 40)) (w.heap.size + 1) 40 (rvC po ma ow (-1) (-1) 1 0 1 si) := (blk_new (by simp))
    replace HQ0 := Lib.hid HQ0
    have HX0 := Lib.hid (((Chg.refl (fun _ => False) w).alloc (.cells #[.int .i64 0, .int .u64 0, .int .i64 0, .int .i64 0, .int .i64 0, .int .i64 0, .int .i64 0, .int .i64 0, .int .i64 0] 40)).alloc (.cells #[.int .i64 po, .int .u64 ma, .int .i64 ow, .int .i64 (-1), .int .i64 (-1), .int .i64 1, .int .i64 0, .int .i64 1, .int .i64 si] 40))
    go_enter Tryz.func88, Tryz.ntmps88
    go_upto_region 2 with fail
    generalize ((w.alloc (.cells #[.int .i64 0, .int .u64 0, .int .i64 0, .int .i64 0, .int .i64 0, .int .i64 0, .int .i64 0, .int .i64 0, .int .i64 0] 40)).alloc (.cells #[.int .i64 po, .int .u64 ma, .int .i64 ow, .int .i64 (-1), .int .i64 (-1), .int .i64 1, .int .i64 0, .int .i64 1, .int .i64 si] 40)) = w1 at *
    obtain ⟨y0, y1, y2, y3, y4, y5, y6, y7, y8⟩ := rv_cells HQ0.out
    go_wp2_with fail
    refine (HMY.out _).mono ?_
    rintro e w2 ⟨rfl, hc⟩
    replace HX0 := Lib.hid (HX0.out.trans hc (fun _ _ e => e))
    replace HQ0 := Lib.hid (HQ0.out.chg hc id)
    replace HR0 := Lib.hid (HR0.out.chg hc id)
    clear hc
    clear y0 y1 y2 y3 y4 y5 y6 y7 y8
    obtain ⟨x0, x1, x2, x3, x4, x5, x6, x7, x8⟩ := rv_cells HR0.out
    obtain ⟨u0, u1, u2, u3, u4, u5, u6, u7, u8⟩ := rv_free9 HR0.out
    obtain ⟨r0, r1, r2, r3, r4, r5, r6, r7, r8, -, hcs⟩ := rv_put9 HR0.out 0 0 0 0 0 0 0 0 0
    have HF := Lib.hid (fresh_set HX0.out hcs (by omega))
    have RR := Lib.hid (And.intro r0 (And.intro r1 (And.intro r2 (And.intro r3 (And.intro r4 (And.intro r5 (And.intro r6 (And.intro r7 r8))))))))
    clear r0 r1 r2 r3 r4 r5 r6 r7 r8 hcs HR0 HX0
    go_wp2_with fail
    obtain ⟨r0, r1, r2, r3, r4, r5, r6, r7, r8⟩ := RR.out
    exact bodyPost_ret (v := .tuple #[.agg (rvC 0 0 0 0 0 0 0 0 0), .int .i64 1]) (by simp [results, Tryz.results88, go_sem, rvC, r0, r1, r2, r3, r4, r5, r6, r7, r8]) rfl ⟨rfl, HF.out⟩


end Go.Proofs.YtimgnogacanifaaGreat
