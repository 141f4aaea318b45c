/-
  Walks: what phase.Again, Start and Awake hand over: closures over what was asked. Conditions: what they captured lies in memory; the generation is a small number.
-/
import Derived.Test.YtbigcebpfbfddaaOc
import Derived.RegionTactic
namespace Go.Proofs.Ytbigcebpfbfddaa
open Go.RowKit
set_option linter.unusedVariables false

set_option maxHeartbeats 2000000 in
theorem st1_any (po ma ow ta ol ge ph ve si tg : Int) (p : Nat) (w : World) (hp : Blk w p 3 #[.int .i64 tg]) (hg : 1 ≤ ge ∧ ge ≤ 4294967296) : Calls Try.prog 33 #[.agg #[.int .i64 po, .int .u64 ma, .int .i64 ow, .int .i64 ta, .int .i64 ol, .int .i64 ge, .int .i64 ph, .int .i64 ve, .int .i64 si], .pointer (some ⟨p, 0, none⟩)] w (HR (stA9 ⟨po, ma, ow, ta, ol, ge, ph, ve, si⟩ tg) w) := by
  by_cases h0 : ph = 0
  case pos =>
    subst h0
    by_cases h1 : tg = ow
    case pos =>
      subst h1
      rw [show stA9 ⟨po, ma, tg, ta, ol, ge, 0, ve, si⟩ tg = (⟨po, ma, tg, ta, ol, ge, 0, ve, si⟩, 9) from by simp [stA9]]
      have HQ0 : Blk ((w.alloc (.cells #[.int .i64 po, .int .u64 ma, .int .i64 tg, .int .i64 ta, .int .i64 ol, .int .i64 ge, .int .i64 0, .int .i64 ve, .int .i64 si] 25)).alloc (.cells #[.int .i64 0, .int .u64 0, .int .i64 0, .int .i64 0, .int .i64 0, .int .i64 0, .int .i64 0, .int .i64 0, .int .i64 0] 25)) w.heap.size 25 (rvC po ma tg ta ol ge 0 ve si) := (Blk.alloc (blk_new rfl) _)
      replace HQ0 := Lib.hid HQ0
      have HR0 : Blk ((w.alloc (.cells #[.int .i64 po, .int .u64 ma, .int .i64 tg, .int .i64 ta, .int .i64 ol, .int .i64 ge, .int .i64 0, .int .i64 ve, .int .i64 si] 25)).alloc (.cells #[.int .i64 0, .int .u64 0, .int .i64 0, .int .i64 0, .int .i64 0, .int .i64 0, .int .i64 0, .int .i64 0, .int .i64 0] 25)) (w.heap.size + 1) 25 (rvC 0 0 0 0 0 0 0 0 0) := (blk_new (by simp))
      replace HR0 := Lib.hid HR0
      have HP0 := Lib.hid (Blk.alloc (Blk.alloc hp (.cells #[.int .i64 po, .int .u64 ma, .int .i64 tg, .int .i64 ta, .int .i64 ol, .int .i64 ge, .int .i64 0, .int .i64 ve, .int .i64 si] 25)) (.cells #[.int .i64 0, .int .u64 0, .int .i64 0, .int .i64 0, .int .i64 0, .int .i64 0, .int .i64 0, .int .i64 0, .int .i64 0] 25))
      have HX0 := Lib.hid (((Chg.refl (fun _ => False) w).alloc (.cells #[.int .i64 po, .int .u64 ma, .int .i64 tg, .int .i64 ta, .int .i64 ol, .int .i64 ge, .int .i64 0, .int .i64 ve, .int .i64 si] 25)).alloc (.cells #[.int .i64 0, .int .u64 0, .int .i64 0, .int .i64 0, .int .i64 0, .int .i64 0, .int .i64 0, .int .i64 0, .int .i64 0] 25))
      go_enter Try.func33, Try.ntmps33
      go_upto_region 1 with fail
      generalize ((w.alloc (.cells #[.int .i64 po, .int .u64 ma, .int .i64 tg, .int .i64 ta, .int .i64 ol, .int .i64 ge, .int .i64 0, .int .i64 ve, .int .i64 si] 25)).alloc (.cells #[.int .i64 0, .int .u64 0, .int .i64 0, .int .i64 0, .int .i64 0, .int .i64 0, .int .i64 0, .int .i64 0, .int .i64 0] 25)) = w1 at *
      have hpc := HP0.out.cell 0
      simp only [List.getElem?_toArray, List.getElem?_cons_zero] at hpc
      obtain ⟨y0, y1, y2, y3, y4, y5, y6, y7, y8⟩ := rv_cells HQ0.out
      go_upto_region 4 with fail
      clear y0 y1 y2 y3 y4 y5 y6 y7 y8
      obtain ⟨y0, y1, y2, y3, y4, y5, y6, y7, y8⟩ := rv_cells HQ0.out
      obtain ⟨x0, x1, x2, x3, x4, x5, x6, x7, x8⟩ := rv_cells HR0.out
      obtain ⟨u0, u1, u2, u3, u4, u5, u6, u7, u8⟩ := rv_free9 HR0.out
      obtain ⟨r0, r1, r2, r3, r4, r5, r6, r7, r8, -, hcs⟩ := rv_put9 HR0.out po ma tg ta ol ge 0 ve si
      have HF := Lib.hid (fresh_set HX0.out hcs (by omega))
      have RR := Lib.hid (And.intro r0 (And.intro r1 (And.intro r2 (And.intro r3 (And.intro r4 (And.intro r5 (And.intro r6 (And.intro r7 r8))))))))
      clear r0 r1 r2 r3 r4 r5 r6 r7 r8 hcs HR0 HX0
      go_wp2_with fail
      obtain ⟨r0, r1, r2, r3, r4, r5, r6, r7, r8⟩ := RR.out
      exact bodyPost_ret (v := .tuple #[.agg (rvC po ma tg ta ol ge 0 ve si), .int .i64 9]) (by simp [results, Try.results33, go_sem, rvC, r0, r1, r2, r3, r4, r5, r6, r7, r8]) rfl ⟨rfl, HF.out⟩
    have t1 : (tg == ow) = false := by simpa using h1
    cases hsp : spn9 ⟨po, ma, ow, ta, ol, ge, 0, ve, si⟩ with
    | true =>
      rw [show stA9 ⟨po, ma, ow, ta, ol, ge, 0, ve, si⟩ tg = (⟨po, ma, ow, ta, ol, ge, 0, ve, si⟩, 10) from by simp [stA9, h1, hsp]]
      have hs := fun W => pspent_any po ma ow ta ol ge 0 ve si W
      rw [hsp] at hs
      have HS := Lib.hid hs
      clear hs
      clear h1 hsp
      have HQ0 : Blk ((w.alloc (.cells #[.int .i64 po, .int .u64 ma, .int .i64 ow, .int .i64 ta, .int .i64 ol, .int .i64 ge, .int .i64 0, .int .i64 ve, .int .i64 si] 25)).alloc (.cells #[.int .i64 0, .int .u64 0, .int .i64 0, .int .i64 0, .int .i64 0, .int .i64 0, .int .i64 0, .int .i64 0, .int .i64 0] 25)) w.heap.size 25 (rvC po ma ow ta ol ge 0 ve si) := (Blk.alloc (blk_new rfl) _)
      replace HQ0 := Lib.hid HQ0
      have HR0 : Blk ((w.alloc (.cells #[.int .i64 po, .int .u64 ma, .int .i64 ow, .int .i64 ta, .int .i64 ol, .int .i64 ge, .int .i64 0, .int .i64 ve, .int .i64 si] 25)).alloc (.cells #[.int .i64 0, .int .u64 0, .int .i64 0, .int .i64 0, .int .i64 0, .int .i64 0, .int .i64 0, .int .i64 0, .int .i64 0] 25)) (w.heap.size + 1) 25 (rvC 0 0 0 0 0 0 0 0 0) := (blk_new (by simp))
      replace HR0 := Lib.hid HR0
      have HP0 := Lib.hid (Blk.alloc (Blk.alloc hp (.cells #[.int .i64 po, .int .u64 ma, .int .i64 ow, .int .i64 ta, .int .i64 ol, .int .i64 ge, .int .i64 0, .int .i64 ve, .int .i64 si] 25)) (.cells #[.int .i64 0, .int .u64 0, .int .i64 0, .int .i64 0, .int .i64 0, .int .i64 0, .int .i64 0, .int .i64 0, .int .i64 0] 25))
      have HX0 := Lib.hid (((Chg.refl (fun _ => False) w).alloc (.cells #[.int .i64 po, .int .u64 ma, .int .i64 ow, .int .i64 ta, .int .i64 ol, .int .i64 ge, .int .i64 0, .int .i64 ve, .int .i64 si] 25)).alloc (.cells #[.int .i64 0, .int .u64 0, .int .i64 0, .int .i64 0, .int .i64 0, .int .i64 0, .int .i64 0, .int .i64 0, .int .i64 0] 25))
      go_enter Try.func33, Try.ntmps33
      go_upto_region 1 with fail
      generalize ((w.alloc (.cells #[.int .i64 po, .int .u64 ma, .int .i64 ow, .int .i64 ta, .int .i64 ol, .int .i64 ge, .int .i64 0, .int .i64 ve, .int .i64 si] 25)).alloc (.cells #[.int .i64 0, .int .u64 0, .int .i64 0, .int .i64 0, .int .i64 0, .int .i64 0, .int .i64 0, .int .i64 0, .int .i64 0] 25)) = w1 at *
      have hpc := HP0.out.cell 0
      simp only [List.getElem?_toArray, List.getElem?_cons_zero] at hpc
      obtain ⟨y0, y1, y2, y3, y4, y5, y6, y7, y8⟩ := rv_cells HQ0.out
      go_wp2_with fail
      refine (HS.out _).mono ?_
      rintro e w2 ⟨rfl, hc⟩
      replace HX0 := Lib.hid (HX0.out.trans hc (fun _ _ e => e))
      replace HQ0 := Lib.hid (HQ0.out.chg hc id)
      replace HR0 := Lib.hid (HR0.out.chg hc id)
      replace HP0 := Lib.hid (HP0.out.chg hc id)
      clear hc
      clear y0 y1 y2 y3 y4 y5 y6 y7 y8 hpc
      obtain ⟨y0, y1, y2, y3, y4, y5, y6, y7, y8⟩ := rv_cells HQ0.out
      obtain ⟨x0, x1, x2, x3, x4, x5, x6, x7, x8⟩ := rv_cells HR0.out
      obtain ⟨u0, u1, u2, u3, u4, u5, u6, u7, u8⟩ := rv_free9 HR0.out
      obtain ⟨r0, r1, r2, r3, r4, r5, r6, r7, r8, -, hcs⟩ := rv_put9 HR0.out po ma ow ta ol ge 0 ve si
      have HF := Lib.hid (fresh_set HX0.out hcs (by omega))
      have RR := Lib.hid (And.intro r0 (And.intro r1 (And.intro r2 (And.intro r3 (And.intro r4 (And.intro r5 (And.intro r6 (And.intro r7 r8))))))))
      clear r0 r1 r2 r3 r4 r5 r6 r7 r8 hcs HR0 HX0
      go_wp2_with fail
      obtain ⟨r0, r1, r2, r3, r4, r5, r6, r7, r8⟩ := RR.out
      exact bodyPost_ret (v := .tuple #[.agg (rvC po ma ow ta ol ge 0 ve si), .int .i64 10]) (by simp [results, Try.results33, go_sem, rvC, r0, r1, r2, r3, r4, r5, r6, r7, r8]) rfl ⟨rfl, HF.out⟩
    | false =>
      rw [show stA9 ⟨po, ma, ow, ta, ol, ge, 0, ve, si⟩ tg = (⟨po, ma, ow, tg, ol, ge, 1, ve, si⟩, 0) from by simp [stA9, h1, hsp]]
      have hs := fun W => pspent_any po ma ow ta ol ge 0 ve si W
      rw [hsp] at hs
      have HS := Lib.hid hs
      clear hs
      clear h1 hsp
      have HQ0 : Blk ((w.alloc (.cells #[.int .i64 po, .int .u64 ma, .int .i64 ow, .int .i64 ta, .int .i64 ol, .int .i64 ge, .int .i64 0, .int .i64 ve, .int .i64 si] 25)).alloc (.cells #[.int .i64 0, .int .u64 0, .int .i64 0, .int .i64 0, .int .i64 0, .int .i64 0, .int .i64 0, .int .i64 0, .int .i64 0] 25)) w.heap.size 25 (rvC po ma ow ta ol ge 0 ve si) := (Blk.alloc (blk_new rfl) _)
      replace HQ0 := Lib.hid HQ0
      have HR0 : Blk ((w.alloc (.cells #[.int .i64 po, .int .u64 ma, .int .i64 ow, .int .i64 ta, .int .i64 ol, .int .i64 ge, .int .i64 0, .int .i64 ve, .int .i64 si] 25)).alloc (.cells #[.int .i64 0, .int .u64 0, .int .i64 0, .int .i64 0, .int .i64 0, .int .i64 0, .int .i64 0, .int .i64 0, .int .i64 0] 25)) (w.heap.size + 1) 25 (rvC 0 0 0 0 0 0 0 0 0) := (blk_new (by simp))
      replace HR0 := Lib.hid HR0
      have HP0 := Lib.hid (Blk.alloc (Blk.alloc hp (.cells #[.int .i64 po, .int .u64 ma, .int .i64 ow, .int .i64 ta, .int .i64 ol, .int .i64 ge, .int .i64 0, .int .i64 ve, .int .i64 si] 25)) (.cells #[.int .i64 0, .int .u64 0, .int .i64 0, .int .i64 0, .int .i64 0, .int .i64 0, .int .i64 0, .int .i64 0, .int .i64 0] 25))
      have HX0 := Lib.hid (((Chg.refl (fun _ => False) w).alloc (.cells #[.int .i64 po, .int .u64 ma, .int .i64 ow, .int .i64 ta, .int .i64 ol, .int .i64 ge, .int .i64 0, .int .i64 ve, .int .i64 si] 25)).alloc (.cells #[.int .i64 0, .int .u64 0, .int .i64 0, .int .i64 0, .int .i64 0, .int .i64 0, .int .i64 0, .int .i64 0, .int .i64 0] 25))
      go_enter Try.func33, Try.ntmps33
      go_upto_region 1 with fail
      generalize ((w.alloc (.cells #[.int .i64 po, .int .u64 ma, .int .i64 ow, .int .i64 ta, .int .i64 ol, .int .i64 ge, .int .i64 0, .int .i64 ve, .int .i64 si] 25)).alloc (.cells #[.int .i64 0, .int .u64 0, .int .i64 0, .int .i64 0, .int .i64 0, .int .i64 0, .int .i64 0, .int .i64 0, .int .i64 0] 25)) = w1 at *
      have hpc := HP0.out.cell 0
      simp only [List.getElem?_toArray, List.getElem?_cons_zero] at hpc
      obtain ⟨y0, y1, y2, y3, y4, y5, y6, y7, y8⟩ := rv_cells HQ0.out
      go_wp2_with fail
      refine (HS.out _).mono ?_
      rintro e w2 ⟨rfl, hc⟩
      replace HX0 := Lib.hid (HX0.out.trans hc (fun _ _ e => e))
      replace HQ0 := Lib.hid (HQ0.out.chg hc id)
      replace HR0 := Lib.hid (HR0.out.chg hc id)
      replace HP0 := Lib.hid (HP0.out.chg hc id)
      clear hc
      clear y0 y1 y2 y3 y4 y5 y6 y7 y8 hpc
      have hpc := HP0.out.cell 0
      simp only [List.getElem?_toArray, List.getElem?_cons_zero] at hpc
      obtain ⟨-, -, -, y3, -, -, y6, -⟩ := rv_cells HQ0.out
      have f3 := HQ0.out.frozen 3
      have f6 := HQ0.out.frozen 6
      go_wp2_with fail
      go_region
      clear hpc y3 y6 f3 f6
      replace HQ0 := Lib.hid (rv_set6 HQ0.out (1))
      replace HQ0 := Lib.hid (rv_set3 HQ0.out (tg))
      have hcs := (((Chg.refl (fun k => k = w.heap.size) w2).put w.heap.size 6 (fun _ => rfl) (.int .i64 (1))).put w.heap.size 3 (fun _ => rfl) (.int .i64 (tg)))
      replace HR0 := Lib.hid (HR0.out.chg hcs (by omega))
      replace HX0 := Lib.hid (fresh_set HX0.out hcs (Nat.le_refl _))
      clear hcs
      replace HQ0 := Lib.hid HQ0.out.drew
      replace HR0 := Lib.hid HR0.out.drew
      replace HX0 := Lib.hid HX0.out.drew
      generalize World.drew ((w2.setCell ⟨w.heap.size, 6, none⟩ (.int .i64 (1))).setCell ⟨w.heap.size, 3, none⟩ (.int .i64 (tg))) = w3 at *
      obtain ⟨y0, y1, y2, y3, y4, y5, y6, y7, y8⟩ := rv_cells HQ0.out
      obtain ⟨x0, x1, x2, x3, x4, x5, x6, x7, x8⟩ := rv_cells HR0.out
      obtain ⟨u0, u1, u2, u3, u4, u5, u6, u7, u8⟩ := rv_free9 HR0.out
      obtain ⟨r0, r1, r2, r3, r4, r5, r6, r7, r8, -, hcs⟩ := rv_put9 HR0.out po ma ow tg ol ge 1 ve si
      have HF := Lib.hid (fresh_set HX0.out hcs (by omega))
      have RR := Lib.hid (And.intro r0 (And.intro r1 (And.intro r2 (And.intro r3 (And.intro r4 (And.intro r5 (And.intro r6 (And.intro r7 r8))))))))
      clear r0 r1 r2 r3 r4 r5 r6 r7 r8 hcs HR0 HX0
      go_wp2_with fail
      obtain ⟨r0, r1, r2, r3, r4, r5, r6, r7, r8⟩ := RR.out
      exact bodyPost_ret (v := .tuple #[.agg (rvC po ma ow tg ol ge 1 ve si), .int .i64 0]) (by simp [results, Try.results33, go_sem, rvC, r0, r1, r2, r3, r4, r5, r6, r7, r8]) rfl ⟨rfl, HF.out⟩
  have t0 : (ph == 0) = false := by simpa using h0
  have s0 : (ph != 0) = true := by simpa using h0
  rw [show stA9 ⟨po, ma, ow, ta, ol, ge, ph, ve, si⟩ tg = (⟨po, ma, ow, ta, ol, ge, ph, ve, si⟩, 8) from by simp [stA9, h0]]
  clear h0
  have HQ0 : Blk ((w.alloc (.cells #[.int .i64 po, .int .u64 ma, .int .i64 ow, .int .i64 ta, .int .i64 ol, .int .i64 ge, .int .i64 ph, .int .i64 ve, .int .i64 si] 25)).alloc (.cells #[.int .i64 0, .int .u64 0, .int .i64 0, .int .i64 0, .int .i64 0, .int .i64 0, .int .i64 0, .int .i64 0, .int .i64 0] 25)) w.heap.size 25 (rvC po ma ow ta ol ge ph ve si) := (Blk.alloc (blk_new rfl) _)
  replace HQ0 := Lib.hid HQ0
  have HR0 : Blk ((w.alloc (.cells #[.int .i64 po, .int .u64 ma, .int .i64 ow, .int .i64 ta, .int .i64 ol, .int .i64 ge, .int .i64 ph, .int .i64 ve, .int .i64 si] 25)).alloc (.cells #[.int .i64 0, .int .u64 0, .int .i64 0, .int .i64 0, .int .i64 0, .int .i64 0, .int .i64 0, .int .i64 0, .int .i64 0] 25)) (w.heap.size + 1) 25 (rvC 0 0 0 0 0 0 0 0 0) := (blk_new (by simp))
  replace HR0 := Lib.hid HR0
  have HX0 := Lib.hid (((Chg.refl (fun _ => False) w).alloc (.cells #[.int .i64 po, .int .u64 ma, .int .i64 ow, .int .i64 ta, .int .i64 ol, .int .i64 ge, .int .i64 ph, .int .i64 ve, .int .i64 si] 25)).alloc (.cells #[.int .i64 0, .int .u64 0, .int .i64 0, .int .i64 0, .int .i64 0, .int .i64 0, .int .i64 0, .int .i64 0, .int .i64 0] 25))
  go_enter Try.func33, Try.ntmps33
  go_upto_region 1 with fail
  generalize ((w.alloc (.cells #[.int .i64 po, .int .u64 ma, .int .i64 ow, .int .i64 ta, .int .i64 ol, .int .i64 ge, .int .i64 ph, .int .i64 ve, .int .i64 si] 25)).alloc (.cells #[.int .i64 0, .int .u64 0, .int .i64 0, .int .i64 0, .int .i64 0, .int .i64 0, .int .i64 0, .int .i64 0, .int .i64 0] 25)) = w1 at *
  obtain ⟨y0, y1, y2, y3, y4, y5, y6, y7, y8⟩ := rv_cells HQ0.out
  obtain ⟨x0, x1, x2, x3, x4, x5, x6, x7, x8⟩ := rv_cells HR0.out
  obtain ⟨u0, u1, u2, u3, u4, u5, u6, u7, u8⟩ := rv_free9 HR0.out
  obtain ⟨r0, r1, r2, r3, r4, r5, r6, r7, r8, -, hcs⟩ := rv_put9 HR0.out po ma ow ta ol ge ph ve si
  have HF := Lib.hid (fresh_set HX0.out hcs (by omega))
  have RR := Lib.hid (And.intro r0 (And.intro r1 (And.intro r2 (And.intro r3 (And.intro r4 (And.intro r5 (And.intro r6 (And.intro r7 r8))))))))
  clear r0 r1 r2 r3 r4 r5 r6 r7 r8 hcs HR0 HX0
  go_wp2_with fail
  obtain ⟨r0, r1, r2, r3, r4, r5, r6, r7, r8⟩ := RR.out
  exact bodyPost_ret (v := .tuple #[.agg (rvC po ma ow ta ol ge ph ve si), .int .i64 8]) (by simp [results, Try.results33, go_sem, rvC, r0, r1, r2, r3, r4, r5, r6, r7, r8]) rfl ⟨rfl, HF.out⟩

set_option maxHeartbeats 2000000 in
theorem aw1_any (po ma ow ta ol ge ph ve si vr ch : Int) (p m : Nat) (w : World) (hp : Blk w p 3 #[.int .i64 vr]) (hm : Blk w m 3 #[.int .i64 ch]) (hg : 1 ≤ ge ∧ ge ≤ 4294967296) : Calls Try.prog 34 #[.agg #[.int .i64 po, .int .u64 ma, .int .i64 ow, .int .i64 ta, .int .i64 ol, .int .i64 ge, .int .i64 ph, .int .i64 ve, .int .i64 si], .pointer (some ⟨p, 0, none⟩), .pointer (some ⟨m, 0, none⟩)] w (HR (awA ⟨po, ma, ow, ta, ol, ge, ph, ve, si⟩ ch vr) w) := by
  by_cases h0 : ph = 1
  case pos =>
    subst h0
    by_cases h1 : vr = ve
    case pos =>
      subst h1
      by_cases h2 : ch = ta
      case pos =>
        subst h2
        rw [show awA ⟨po, ma, ow, ch, ol, ge, 1, vr, si⟩ ch vr = (⟨po, ma, ch, -1, ow, ge + 1, 2, vr, si⟩, 0) from by simp [awA, arr9]]
        have HQ0 : Blk ((w.alloc (.cells #[.int .i64 po, .int .u64 ma, .int .i64 ow, .int .i64 ch, .int .i64 ol, .int .i64 ge, .int .i64 1, .int .i64 vr, .int .i64 si] 25)).alloc (.cells #[.int .i64 0, .int .u64 0, .int .i64 0, .int .i64 0, .int .i64 0, .int .i64 0, .int .i64 0, .int .i64 0, .int .i64 0] 25)) w.heap.size 25 (rvC po ma ow ch ol ge 1 vr si) := (Blk.alloc (blk_new rfl) _)
        replace HQ0 := Lib.hid HQ0
        have HR0 : Blk ((w.alloc (.cells #[.int .i64 po, .int .u64 ma, .int .i64 ow, .int .i64 ch, .int .i64 ol, .int .i64 ge, .int .i64 1, .int .i64 vr, .int .i64 si] 25)).alloc (.cells #[.int .i64 0, .int .u64 0, .int .i64 0, .int .i64 0, .int .i64 0, .int .i64 0, .int .i64 0, .int .i64 0, .int .i64 0] 25)) (w.heap.size + 1) 25 (rvC 0 0 0 0 0 0 0 0 0) := (blk_new (by simp))
        replace HR0 := Lib.hid HR0
        have HP0 := Lib.hid (Blk.alloc (Blk.alloc hp (.cells #[.int .i64 po, .int .u64 ma, .int .i64 ow, .int .i64 ch, .int .i64 ol, .int .i64 ge, .int .i64 1, .int .i64 vr, .int .i64 si] 25)) (.cells #[.int .i64 0, .int .u64 0, .int .i64 0, .int .i64 0, .int .i64 0, .int .i64 0, .int .i64 0, .int .i64 0, .int .i64 0] 25))
        have HM0 := Lib.hid (Blk.alloc (Blk.alloc hm (.cells #[.int .i64 po, .int .u64 ma, .int .i64 ow, .int .i64 ch, .int .i64 ol, .int .i64 ge, .int .i64 1, .int .i64 vr, .int .i64 si] 25)) (.cells #[.int .i64 0, .int .u64 0, .int .i64 0, .int .i64 0, .int .i64 0, .int .i64 0, .int .i64 0, .int .i64 0, .int .i64 0] 25))
        have HX0 := Lib.hid (((Chg.refl (fun _ => False) w).alloc (.cells #[.int .i64 po, .int .u64 ma, .int .i64 ow, .int .i64 ch, .int .i64 ol, .int .i64 ge, .int .i64 1, .int .i64 vr, .int .i64 si] 25)).alloc (.cells #[.int .i64 0, .int .u64 0, .int .i64 0, .int .i64 0, .int .i64 0, .int .i64 0, .int .i64 0, .int .i64 0, .int .i64 0] 25))
        go_enter Try.func34, Try.ntmps34
        go_upto_region 1 with fail
        generalize ((w.alloc (.cells #[.int .i64 po, .int .u64 ma, .int .i64 ow, .int .i64 ch, .int .i64 ol, .int .i64 ge, .int .i64 1, .int .i64 vr, .int .i64 si] 25)).alloc (.cells #[.int .i64 0, .int .u64 0, .int .i64 0, .int .i64 0, .int .i64 0, .int .i64 0, .int .i64 0, .int .i64 0, .int .i64 0] 25)) = w1 at *
        have hpc := HP0.out.cell 0
        simp only [List.getElem?_toArray, List.getElem?_cons_zero] at hpc
        have hmc := HM0.out.cell 0
        simp only [List.getElem?_toArray, List.getElem?_cons_zero] at hmc
        obtain ⟨y0, y1, y2, y3, y4, y5, y6, y7, y8⟩ := rv_cells HQ0.out
        go_wp2_with fail
        refine (arrived_any po ma ow ch ol ge 1 vr si _ hg).mono ?_
        rintro e w2 ⟨rfl, hc⟩
        replace HX0 := Lib.hid (HX0.out.trans hc (fun _ _ e => e))
        replace HQ0 := Lib.hid (HQ0.out.chg hc id)
        replace HR0 := Lib.hid (HR0.out.chg hc id)
        clear hc
        clear y0 y1 y2 y3 y4 y5 y6 y7 y8 hpc hmc
        obtain ⟨x0, x1, x2, x3, x4, x5, x6, x7, x8⟩ := rv_cells HR0.out
        obtain ⟨u0, u1, u2, u3, u4, u5, u6, u7, u8⟩ := rv_free9 HR0.out
        obtain ⟨r0, r1, r2, r3, r4, r5, r6, r7, r8, -, hcs⟩ := rv_put9 HR0.out po ma ch (-1) ow (ge + 1) 2 vr si
        have HF := Lib.hid (fresh_set HX0.out hcs (by omega))
        have RR := Lib.hid (And.intro r0 (And.intro r1 (And.intro r2 (And.intro r3 (And.intro r4 (And.intro r5 (And.intro r6 (And.intro r7 r8))))))))
        clear r0 r1 r2 r3 r4 r5 r6 r7 r8 hcs HR0 HX0
        go_wp2_with fail
        obtain ⟨r0, r1, r2, r3, r4, r5, r6, r7, r8⟩ := RR.out
        exact bodyPost_ret (v := .tuple #[.agg (rvC po ma ch (-1) ow (ge + 1) 2 vr si), .int .i64 0]) (by simp [results, Try.results34, go_sem, rvC, r0, r1, r2, r3, r4, r5, r6, r7, r8]) rfl ⟨rfl, HF.out⟩
      have t2 : (ch == ta) = false := by simpa using h2
      have s2 : (ch != ta) = true := by simpa using h2
      rw [show awA ⟨po, ma, ow, ta, ol, ge, 1, vr, si⟩ ch vr = (⟨po, ma, ow, ta, ol, ge, 1, vr, si⟩, 11) from by simp [awA, h2]]
      clear h2
      have HQ0 : Blk ((w.alloc (.cells #[.int .i64 po, .int .u64 ma, .int .i64 ow, .int .i64 ta, .int .i64 ol, .int .i64 ge, .int .i64 1, .int .i64 vr, .int .i64 si] 25)).alloc (.cells #[.int .i64 0, .int .u64 0, .int .i64 0, .int .i64 0, .int .i64 0, .int .i64 0, .int .i64 0, .int .i64 0, .int .i64 0] 25)) w.heap.size 25 (rvC po ma ow ta ol ge 1 vr si) := (Blk.alloc (blk_new rfl) _)
      replace HQ0 := Lib.hid HQ0
      have HR0 : Blk ((w.alloc (.cells #[.int .i64 po, .int .u64 ma, .int .i64 ow, .int .i64 ta, .int .i64 ol, .int .i64 ge, .int .i64 1, .int .i64 vr, .int .i64 si] 25)).alloc (.cells #[.int .i64 0, .int .u64 0, .int .i64 0, .int .i64 0, .int .i64 0, .int .i64 0, .int .i64 0, .int .i64 0, .int .i64 0] 25)) (w.heap.size + 1) 25 (rvC 0 0 0 0 0 0 0 0 0) := (blk_new (by simp))
      replace HR0 := Lib.hid HR0
      have HP0 := Lib.hid (Blk.alloc (Blk.alloc hp (.cells #[.int .i64 po, .int .u64 ma, .int .i64 ow, .int .i64 ta, .int .i64 ol, .int .i64 ge, .int .i64 1, .int .i64 vr, .int .i64 si] 25)) (.cells #[.int .i64 0, .int .u64 0, .int .i64 0, .int .i64 0, .int .i64 0, .int .i64 0, .int .i64 0, .int .i64 0, .int .i64 0] 25))
      have HM0 := Lib.hid (Blk.alloc (Blk.alloc hm (.cells #[.int .i64 po, .int .u64 ma, .int .i64 ow, .int .i64 ta, .int .i64 ol, .int .i64 ge, .int .i64 1, .int .i64 vr, .int .i64 si] 25)) (.cells #[.int .i64 0, .int .u64 0, .int .i64 0, .int .i64 0, .int .i64 0, .int .i64 0, .int .i64 0, .int .i64 0, .int .i64 0] 25))
      have HX0 := Lib.hid (((Chg.refl (fun _ => False) w).alloc (.cells #[.int .i64 po, .int .u64 ma, .int .i64 ow, .int .i64 ta, .int .i64 ol, .int .i64 ge, .int .i64 1, .int .i64 vr, .int .i64 si] 25)).alloc (.cells #[.int .i64 0, .int .u64 0, .int .i64 0, .int .i64 0, .int .i64 0, .int .i64 0, .int .i64 0, .int .i64 0, .int .i64 0] 25))
      go_enter Try.func34, Try.ntmps34
      go_upto_region 1 with fail
      generalize ((w.alloc (.cells #[.int .i64 po, .int .u64 ma, .int .i64 ow, .int .i64 ta, .int .i64 ol, .int .i64 ge, .int .i64 1, .int .i64 vr, .int .i64 si] 25)).alloc (.cells #[.int .i64 0, .int .u64 0, .int .i64 0, .int .i64 0, .int .i64 0, .int .i64 0, .int .i64 0, .int .i64 0, .int .i64 0] 25)) = w1 at *
      have hpc := HP0.out.cell 0
      simp only [List.getElem?_toArray, List.getElem?_cons_zero] at hpc
      have hmc := HM0.out.cell 0
      simp only [List.getElem?_toArray, List.getElem?_cons_zero] at hmc
      obtain ⟨y0, y1, y2, y3, y4, y5, y6, y7, y8⟩ := rv_cells HQ0.out
      go_upto_region 4 with fail
      clear y0 y1 y2 y3 y4 y5 y6 y7 y8
      obtain ⟨y0, y1, y2, y3, y4, y5, y6, y7, y8⟩ := rv_cells HQ0.out
      obtain ⟨x0, x1, x2, x3, x4, x5, x6, x7, x8⟩ := rv_cells HR0.out
      obtain ⟨u0, u1, u2, u3, u4, u5, u6, u7, u8⟩ := rv_free9 HR0.out
      obtain ⟨r0, r1, r2, r3, r4, r5, r6, r7, r8, -, hcs⟩ := rv_put9 HR0.out po ma ow ta ol ge 1 vr si
      have HF := Lib.hid (fresh_set HX0.out hcs (by omega))
      have RR := Lib.hid (And.intro r0 (And.intro r1 (And.intro r2 (And.intro r3 (And.intro r4 (And.intro r5 (And.intro r6 (And.intro r7 r8))))))))
      clear r0 r1 r2 r3 r4 r5 r6 r7 r8 hcs HR0 HX0
      go_wp2_with fail
      obtain ⟨r0, r1, r2, r3, r4, r5, r6, r7, r8⟩ := RR.out
      exact bodyPost_ret (v := .tuple #[.agg (rvC po ma ow ta ol ge 1 vr si), .int .i64 11]) (by simp [results, Try.results34, go_sem, rvC, r0, r1, r2, r3, r4, r5, r6, r7, r8]) rfl ⟨rfl, HF.out⟩
    have t1 : (vr == ve) = false := by simpa using h1
    have s1 : (vr != ve) = true := by simpa using h1
    rw [show awA ⟨po, ma, ow, ta, ol, ge, 1, ve, si⟩ ch vr = (⟨po, ma, ow, ta, ol, ge, 1, ve, si⟩, 8) from by simp [awA, h1]]
    clear h1
    have HQ0 : Blk ((w.alloc (.cells #[.int .i64 po, .int .u64 ma, .int .i64 ow, .int .i64 ta, .int .i64 ol, .int .i64 ge, .int .i64 1, .int .i64 ve, .int .i64 si] 25)).alloc (.cells #[.int .i64 0, .int .u64 0, .int .i64 0, .int .i64 0, .int .i64 0, .int .i64 0, .int .i64 0, .int .i64 0, .int .i64 0] 25)) w.heap.size 25 (rvC po ma ow ta ol ge 1 ve si) := (Blk.alloc (blk_new rfl) _)
    replace HQ0 := Lib.hid HQ0
    have HR0 : Blk ((w.alloc (.cells #[.int .i64 po, .int .u64 ma, .int .i64 ow, .int .i64 ta, .int .i64 ol, .int .i64 ge, .int .i64 1, .int .i64 ve, .int .i64 si] 25)).alloc (.cells #[.int .i64 0, .int .u64 0, .int .i64 0, .int .i64 0, .int .i64 0, .int .i64 0, .int .i64 0, .int .i64 0, .int .i64 0] 25)) (w.heap.size + 1) 25 (rvC 0 0 0 0 0 0 0 0 0) := (blk_new (by simp))
    replace HR0 := Lib.hid HR0
    have HP0 := Lib.hid (Blk.alloc (Blk.alloc hp (.cells #[.int .i64 po, .int .u64 ma, .int .i64 ow, .int .i64 ta, .int .i64 ol, .int .i64 ge, .int .i64 1, .int .i64 ve, .int .i64 si] 25)) (.cells #[.int .i64 0, .int .u64 0, .int .i64 0, .int .i64 0, .int .i64 0, .int .i64 0, .int .i64 0, .int .i64 0, .int .i64 0] 25))
    have HM0 := Lib.hid (Blk.alloc (Blk.alloc hm (.cells #[.int .i64 po, .int .u64 ma, .int .i64 ow, .int .i64 ta, .int .i64 ol, .int .i64 ge, .int .i64 1, .int .i64 ve, .int .i64 si] 25)) (.cells #[.int .i64 0, .int .u64 0, .int .i64 0, .int .i64 0, .int .i64 0, .int .i64 0, .int .i64 0, .int .i64 0, .int .i64 0] 25))
    have HX0 := Lib.hid (((Chg.refl (fun _ => False) w).alloc (.cells #[.int .i64 po, .int .u64 ma, .int .i64 ow, .int .i64 ta, .int .i64 ol, .int .i64 ge, .int .i64 1, .int .i64 ve, .int .i64 si] 25)).alloc (.cells #[.int .i64 0, .int .u64 0, .int .i64 0, .int .i64 0, .int .i64 0, .int .i64 0, .int .i64 0, .int .i64 0, .int .i64 0] 25))
    go_enter Try.func34, Try.ntmps34
    go_upto_region 1 with fail
    generalize ((w.alloc (.cells #[.int .i64 po, .int .u64 ma, .int .i64 ow, .int .i64 ta, .int .i64 ol, .int .i64 ge, .int .i64 1, .int .i64 ve, .int .i64 si] 25)).alloc (.cells #[.int .i64 0, .int .u64 0, .int .i64 0, .int .i64 0, .int .i64 0, .int .i64 0, .int .i64 0, .int .i64 0, .int .i64 0] 25)) = w1 at *
    have hpc := HP0.out.cell 0
    simp only [List.getElem?_toArray, List.getElem?_cons_zero] at hpc
    have hmc := HM0.out.cell 0
    simp only [List.getElem?_toArray, List.getElem?_cons_zero] at hmc
    obtain ⟨y0, y1, y2, y3, y4, y5, y6, y7, y8⟩ := rv_cells HQ0.out
    go_upto_region 2 with fail
    clear y0 y1 y2 y3 y4 y5 y6 y7 y8
    obtain ⟨y0, y1, y2, y3, y4, y5, y6, y7, y8⟩ := rv_cells HQ0.out
    obtain ⟨x0, x1, x2, x3, x4, x5, x6, x7, x8⟩ := rv_cells HR0.out
    obtain ⟨u0, u1, u2, u3, u4, u5, u6, u7, u8⟩ := rv_free9 HR0.out
    obtain ⟨r0, r1, r2, r3, r4, r5, r6, r7, r8, -, hcs⟩ := rv_put9 HR0.out po ma ow ta ol ge 1 ve si
    have HF := Lib.hid (fresh_set HX0.out hcs (by omega))
    have RR := Lib.hid (And.intro r0 (And.intro r1 (And.intro r2 (And.intro r3 (And.intro r4 (And.intro r5 (And.intro r6 (And.intro r7 r8))))))))
    clear r0 r1 r2 r3 r4 r5 r6 r7 r8 hcs HR0 HX0
    go_wp2_with fail
    obtain ⟨r0, r1, r2, r3, r4, r5, r6, r7, r8⟩ := RR.out
    exact bodyPost_ret (v := .tuple #[.agg (rvC po ma ow ta ol ge 1 ve si), .int .i64 8]) (by simp [results, Try.results34, go_sem, rvC, r0, r1, r2, r3, r4, r5, r6, r7, r8]) rfl ⟨rfl, HF.out⟩
  have t0 : (ph == 1) = false := by simpa using h0
  have s0 : (ph != 1) = true := by simpa using h0
  rw [show awA ⟨po, ma, ow, ta, ol, ge, ph, ve, si⟩ ch vr = (⟨po, ma, ow, ta, ol, ge, ph, ve, si⟩, 8) from by simp [awA, h0]]
  clear h0
  have HQ0 : Blk ((w.alloc (.cells #[.int .i64 po, .int .u64 ma, .int .i64 ow, .int .i64 ta, .int .i64 ol, .int .i64 ge, .int .i64 ph, .int .i64 ve, .int .i64 si] 25)).alloc (.cells #[.int .i64 0, .int .u64 0, .int .i64 0, .int .i64 0, .int .i64 0, .int .i64 0, .int .i64 0, .int .i64 0, .int .i64 0] 25)) w.heap.size 25 (rvC po ma ow ta ol ge ph ve si) := (Blk.alloc (blk_new rfl) _)
  replace HQ0 := Lib.hid HQ0
  have HR0 : Blk ((w.alloc (.cells #[.int .i64 po, .int .u64 ma, .int .i64 ow, .int .i64 ta, .int .i64 ol, .int .i64 ge, .int .i64 ph, .int .i64 ve, .int .i64 si] 25)).alloc (.cells #[.int .i64 0, .int .u64 0, .int .i64 0, .int .i64 0, .int .i64 0, .int .i64 0, .int .i64 0, .int .i64 0, .int .i64 0] 25)) (w.heap.size + 1) 25 (rvC 0 0 0 0 0 0 0 0 0) := (blk_new (by simp))
  replace HR0 := Lib.hid HR0
  have HP0 := Lib.hid (Blk.alloc (Blk.alloc hp (.cells #[.int .i64 po, .int .u64 ma, .int .i64 ow, .int .i64 ta, .int .i64 ol, .int .i64 ge, .int .i64 ph, .int .i64 ve, .int .i64 si] 25)) (.cells #[.int .i64 0, .int .u64 0, .int .i64 0, .int .i64 0, .int .i64 0, .int .i64 0, .int .i64 0, .int .i64 0, .int .i64 0] 25))
  have HM0 := Lib.hid (Blk.alloc (Blk.alloc hm (.cells #[.int .i64 po, .int .u64 ma, .int .i64 ow, .int .i64 ta, .int .i64 ol, .int .i64 ge, .int .i64 ph, .int .i64 ve, .int .i64 si] 25)) (.cells #[.int .i64 0, .int .u64 0, .int .i64 0, .int .i64 0, .int .i64 0, .int .i64 0, .int .i64 0, .int .i64 0, .int .i64 0] 25))
  have HX0 := Lib.hid (((Chg.refl (fun _ => False) w).alloc (.cells #[.int .i64 po, .int .u64 ma, .int .i64 ow, .int .i64 ta, .int .i64 ol, .int .i64 ge, .int .i64 ph, .int .i64 ve, .int .i64 si] 25)).alloc (.cells #[.int .i64 0, .int .u64 0, .int .i64 0, .int .i64 0, .int .i64 0, .int .i64 0, .int .i64 0, .int .i64 0, .int .i64 0] 25))
  go_enter Try.func34, Try.ntmps34
  go_upto_region 1 with fail
  generalize ((w.alloc (.cells #[.int .i64 po, .int .u64 ma, .int .i64 ow, .int .i64 ta, .int .i64 ol, .int .i64 ge, .int .i64 ph, .int .i64 ve, .int .i64 si] 25)).alloc (.cells #[.int .i64 0, .int .u64 0, .int .i64 0, .int .i64 0, .int .i64 0, .int .i64 0, .int .i64 0, .int .i64 0, .int .i64 0] 25)) = w1 at *
  have hpc := HP0.out.cell 0
  simp only [List.getElem?_toArray, List.getElem?_cons_zero] at hpc
  have hmc := HM0.out.cell 0
  simp only [List.getElem?_toArray, List.getElem?_cons_zero] at hmc
  obtain ⟨y0, y1, y2, y3, y4, y5, y6, y7, y8⟩ := rv_cells HQ0.out
  obtain ⟨x0, x1, x2, x3, x4, x5, x6, x7, x8⟩ := rv_cells HR0.out
  obtain ⟨u0, u1, u2, u3, u4, u5, u6, u7, u8⟩ := rv_free9 HR0.out
  obtain ⟨r0, r1, r2, r3, r4, r5, r6, r7, r8, -, hcs⟩ := rv_put9 HR0.out po ma ow ta ol ge ph ve si
  have HF := Lib.hid (fresh_set HX0.out hcs (by omega))
  have RR := Lib.hid (And.intro r0 (And.intro r1 (And.intro r2 (And.intro r3 (And.intro r4 (And.intro r5 (And.intro r6 (And.intro r7 r8))))))))
  clear r0 r1 r2 r3 r4 r5 r6 r7 r8 hcs HR0 HX0
  go_wp2_with fail
  obtain ⟨r0, r1, r2, r3, r4, r5, r6, r7, r8⟩ := RR.out
  exact bodyPost_ret (v := .tuple #[.agg (rvC po ma ow ta ol ge ph ve si), .int .i64 8]) (by simp [results, Try.results34, go_sem, rvC, r0, r1, r2, r3, r4, r5, r6, r7, r8]) rfl ⟨rfl, HF.out⟩

set_option maxHeartbeats 2000000 in
theorem ag1_any (po ma ow ta ol ge ph ve si mc no : Int) (p m : Nat) (w : World) (hp : Blk w p 22 #[.int .u64 mc]) (hm : Blk w m 3 #[.int .i64 no]) (hg : 1 ≤ ge ∧ ge ≤ 4294967296) : Calls Try.prog 31 #[.agg #[.int .i64 po, .int .u64 ma, .int .i64 ow, .int .i64 ta, .int .i64 ol, .int .i64 ge, .int .i64 ph, .int .i64 ve, .int .i64 si], .pointer (some ⟨p, 0, none⟩), .pointer (some ⟨m, 0, none⟩)] w (HR (agA ⟨po, ma, ow, ta, ol, ge, ph, ve, si⟩ mc no) w) := by
  by_cases h0 : ph = 3
  case pos =>
    subst h0
    cases hsp : spn9 ⟨po, ma, ow, ta, ol, ge, 3, ve, si⟩ with
    | true =>
      rw [show agA ⟨po, ma, ow, ta, ol, ge, 3, ve, si⟩ mc no = (⟨po, ma, ow, ta, ol, ge, 3, ve, si⟩, 10) from by simp [agA, hsp]]
      have hs := fun W => pspent_any po ma ow ta ol ge 3 ve si W
      rw [hsp] at hs
      have HS := Lib.hid hs
      clear hs
      clear hsp
      have HQ0 : Blk ((w.alloc (.cells #[.int .i64 po, .int .u64 ma, .int .i64 ow, .int .i64 ta, .int .i64 ol, .int .i64 ge, .int .i64 3, .int .i64 ve, .int .i64 si] 25)).alloc (.cells #[.int .i64 0, .int .u64 0, .int .i64 0, .int .i64 0, .int .i64 0, .int .i64 0, .int .i64 0, .int .i64 0, .int .i64 0] 25)) w.heap.size 25 (rvC po ma ow ta ol ge 3 ve si) := (Blk.alloc (blk_new rfl) _)
      replace HQ0 := Lib.hid HQ0
      have HR0 : Blk ((w.alloc (.cells #[.int .i64 po, .int .u64 ma, .int .i64 ow, .int .i64 ta, .int .i64 ol, .int .i64 ge, .int .i64 3, .int .i64 ve, .int .i64 si] 25)).alloc (.cells #[.int .i64 0, .int .u64 0, .int .i64 0, .int .i64 0, .int .i64 0, .int .i64 0, .int .i64 0, .int .i64 0, .int .i64 0] 25)) (w.heap.size + 1) 25 (rvC 0 0 0 0 0 0 0 0 0) := (blk_new (by simp))
      replace HR0 := Lib.hid HR0
      have HP0 := Lib.hid (Blk.alloc (Blk.alloc hp (.cells #[.int .i64 po, .int .u64 ma, .int .i64 ow, .int .i64 ta, .int .i64 ol, .int .i64 ge, .int .i64 3, .int .i64 ve, .int .i64 si] 25)) (.cells #[.int .i64 0, .int .u64 0, .int .i64 0, .int .i64 0, .int .i64 0, .int .i64 0, .int .i64 0, .int .i64 0, .int .i64 0] 25))
      have HM0 := Lib.hid (Blk.alloc (Blk.alloc hm (.cells #[.int .i64 po, .int .u64 ma, .int .i64 ow, .int .i64 ta, .int .i64 ol, .int .i64 ge, .int .i64 3, .int .i64 ve, .int .i64 si] 25)) (.cells #[.int .i64 0, .int .u64 0, .int .i64 0, .int .i64 0, .int .i64 0, .int .i64 0, .int .i64 0, .int .i64 0, .int .i64 0] 25))
      have HX0 := Lib.hid (((Chg.refl (fun _ => False) w).alloc (.cells #[.int .i64 po, .int .u64 ma, .int .i64 ow, .int .i64 ta, .int .i64 ol, .int .i64 ge, .int .i64 3, .int .i64 ve, .int .i64 si] 25)).alloc (.cells #[.int .i64 0, .int .u64 0, .int .i64 0, .int .i64 0, .int .i64 0, .int .i64 0, .int .i64 0, .int .i64 0, .int .i64 0] 25))
      go_enter Try.func31, Try.ntmps31
      go_upto_region 1 with fail
      generalize ((w.alloc (.cells #[.int .i64 po, .int .u64 ma, .int .i64 ow, .int .i64 ta, .int .i64 ol, .int .i64 ge, .int .i64 3, .int .i64 ve, .int .i64 si] 25)).alloc (.cells #[.int .i64 0, .int .u64 0, .int .i64 0, .int .i64 0, .int .i64 0, .int .i64 0, .int .i64 0, .int .i64 0, .int .i64 0] 25)) = w1 at *
      obtain ⟨y0, y1, y2, y3, y4, y5, y6, y7, y8⟩ := rv_cells HQ0.out
      go_wp2_with fail
      refine (HS.out _).mono ?_
      rintro e w2 ⟨rfl, hc⟩
      replace HX0 := Lib.hid (HX0.out.trans hc (fun _ _ e => e))
      replace HQ0 := Lib.hid (HQ0.out.chg hc id)
      replace HR0 := Lib.hid (HR0.out.chg hc id)
      replace HP0 := Lib.hid (HP0.out.chg hc id)
      replace HM0 := Lib.hid (HM0.out.chg hc id)
      clear hc
      clear y0 y1 y2 y3 y4 y5 y6 y7 y8
      obtain ⟨y0, y1, y2, y3, y4, y5, y6, y7, y8⟩ := rv_cells HQ0.out
      obtain ⟨x0, x1, x2, x3, x4, x5, x6, x7, x8⟩ := rv_cells HR0.out
      obtain ⟨u0, u1, u2, u3, u4, u5, u6, u7, u8⟩ := rv_free9 HR0.out
      obtain ⟨r0, r1, r2, r3, r4, r5, r6, r7, r8, -, hcs⟩ := rv_put9 HR0.out po ma ow ta ol ge 3 ve si
      have HF := Lib.hid (fresh_set HX0.out hcs (by omega))
      have RR := Lib.hid (And.intro r0 (And.intro r1 (And.intro r2 (And.intro r3 (And.intro r4 (And.intro r5 (And.intro r6 (And.intro r7 r8))))))))
      clear r0 r1 r2 r3 r4 r5 r6 r7 r8 hcs HR0 HX0
      go_wp2_with fail
      obtain ⟨r0, r1, r2, r3, r4, r5, r6, r7, r8⟩ := RR.out
      exact bodyPost_ret (v := .tuple #[.agg (rvC po ma ow ta ol ge 3 ve si), .int .i64 10]) (by simp [results, Try.results31, go_sem, rvC, r0, r1, r2, r3, r4, r5, r6, r7, r8]) rfl ⟨rfl, HF.out⟩
    | false =>
      rw [show agA ⟨po, ma, ow, ta, ol, ge, 3, ve, si⟩ mc no = (⟨po, mc, no, ta, ol, ge + 1, 0, ve, si⟩, 0) from by simp [agA, hsp]]
      have hs := fun W => pspent_any po ma ow ta ol ge 3 ve si W
      rw [hsp] at hs
      have HS := Lib.hid hs
      clear hs
      clear hsp
      have HQ0 : Blk ((w.alloc (.cells #[.int .i64 po, .int .u64 ma, .int .i64 ow, .int .i64 ta, .int .i64 ol, .int .i64 ge, .int .i64 3, .int .i64 ve, .int .i64 si] 25)).alloc (.cells #[.int .i64 0, .int .u64 0, .int .i64 0, .int .i64 0, .int .i64 0, .int .i64 0, .int .i64 0, .int .i64 0, .int .i64 0] 25)) w.heap.size 25 (rvC po ma ow ta ol ge 3 ve si) := (Blk.alloc (blk_new rfl) _)
      replace HQ0 := Lib.hid HQ0
      have HR0 : Blk ((w.alloc (.cells #[.int .i64 po, .int .u64 ma, .int .i64 ow, .int .i64 ta, .int .i64 ol, .int .i64 ge, .int .i64 3, .int .i64 ve, .int .i64 si] 25)).alloc (.cells #[.int .i64 0, .int .u64 0, .int .i64 0, .int .i64 0, .int .i64 0, .int .i64 0, .int .i64 0, .int .i64 0, .int .i64 0] 25)) (w.heap.size + 1) 25 (rvC 0 0 0 0 0 0 0 0 0) := (blk_new (by simp))
      replace HR0 := Lib.hid HR0
      have HP0 := Lib.hid (Blk.alloc (Blk.alloc hp (.cells #[.int .i64 po, .int .u64 ma, .int .i64 ow, .int .i64 ta, .int .i64 ol, .int .i64 ge, .int .i64 3, .int .i64 ve, .int .i64 si] 25)) (.cells #[.int .i64 0, .int .u64 0, .int .i64 0, .int .i64 0, .int .i64 0, .int .i64 0, .int .i64 0, .int .i64 0, .int .i64 0] 25))
      have HM0 := Lib.hid (Blk.alloc (Blk.alloc hm (.cells #[.int .i64 po, .int .u64 ma, .int .i64 ow, .int .i64 ta, .int .i64 ol, .int .i64 ge, .int .i64 3, .int .i64 ve, .int .i64 si] 25)) (.cells #[.int .i64 0, .int .u64 0, .int .i64 0, .int .i64 0, .int .i64 0, .int .i64 0, .int .i64 0, .int .i64 0, .int .i64 0] 25))
      have HX0 := Lib.hid (((Chg.refl (fun _ => False) w).alloc (.cells #[.int .i64 po, .int .u64 ma, .int .i64 ow, .int .i64 ta, .int .i64 ol, .int .i64 ge, .int .i64 3, .int .i64 ve, .int .i64 si] 25)).alloc (.cells #[.int .i64 0, .int .u64 0, .int .i64 0, .int .i64 0, .int .i64 0, .int .i64 0, .int .i64 0, .int .i64 0, .int .i64 0] 25))
      go_enter Try.func31, Try.ntmps31
      go_upto_region 1 with fail
      generalize ((w.alloc (.cells #[.int .i64 po, .int .u64 ma, .int .i64 ow, .int .i64 ta, .int .i64 ol, .int .i64 ge, .int .i64 3, .int .i64 ve, .int .i64 si] 25)).alloc (.cells #[.int .i64 0, .int .u64 0, .int .i64 0, .int .i64 0, .int .i64 0, .int .i64 0, .int .i64 0, .int .i64 0, .int .i64 0] 25)) = w1 at *
      obtain ⟨y0, y1, y2, y3, y4, y5, y6, y7, y8⟩ := rv_cells HQ0.out
      go_wp2_with fail
      refine (HS.out _).mono ?_
      rintro e w2 ⟨rfl, hc⟩
      replace HX0 := Lib.hid (HX0.out.trans hc (fun _ _ e => e))
      replace HQ0 := Lib.hid (HQ0.out.chg hc id)
      replace HR0 := Lib.hid (HR0.out.chg hc id)
      replace HP0 := Lib.hid (HP0.out.chg hc id)
      replace HM0 := Lib.hid (HM0.out.chg hc id)
      clear hc
      clear y0 y1 y2 y3 y4 y5 y6 y7 y8
      have hpc := HP0.out.cell 0
      simp only [List.getElem?_toArray, List.getElem?_cons_zero] at hpc
      have hmc := HM0.out.cell 0
      simp only [List.getElem?_toArray, List.getElem?_cons_zero] at hmc
      obtain ⟨-, y1, y2, -, -, y5, y6, -⟩ := rv_cells HQ0.out
      have f1 := HQ0.out.frozen 1
      have f2 := HQ0.out.frozen 2
      have f5 := HQ0.out.frozen 5
      have f6 := HQ0.out.frozen 6
      go_wp2_with fail
      go_region
      clear hpc hmc y1 y2 y5 y6 f1 f2 f5 f6
      replace HQ0 := Lib.hid (rv_set6 HQ0.out (0))
      replace HQ0 := Lib.hid (rv_set1 HQ0.out (mc))
      replace HQ0 := Lib.hid (rv_set2 HQ0.out (no))
      replace HQ0 := Lib.hid (rv_set5 HQ0.out (ge + 1))
      have hcs := (((((Chg.refl (fun k => k = w.heap.size) w2).put w.heap.size 6 (fun _ => rfl) (.int .i64 (0))).put w.heap.size 1 (fun _ => rfl) (.int .u64 (mc))).put w.heap.size 2 (fun _ => rfl) (.int .i64 (no))).put w.heap.size 5 (fun _ => rfl) (.int .i64 (ge + 1)))
      replace HR0 := Lib.hid (HR0.out.chg hcs (by omega))
      replace HX0 := Lib.hid (fresh_set HX0.out hcs (Nat.le_refl _))
      clear hcs
      replace HQ0 := Lib.hid HQ0.out.drew
      replace HR0 := Lib.hid HR0.out.drew
      replace HX0 := Lib.hid HX0.out.drew
      generalize World.drew ((((w2.setCell ⟨w.heap.size, 6, none⟩ (.int .i64 (0))).setCell ⟨w.heap.size, 1, none⟩ (.int .u64 (mc))).setCell ⟨w.heap.size, 2, none⟩ (.int .i64 (no))).setCell ⟨w.heap.size, 5, none⟩ (.int .i64 (ge + 1))) = w3 at *
      obtain ⟨y0, y1, y2, y3, y4, y5, y6, y7, y8⟩ := rv_cells HQ0.out
      obtain ⟨x0, x1, x2, x3, x4, x5, x6, x7, x8⟩ := rv_cells HR0.out
      obtain ⟨u0, u1, u2, u3, u4, u5, u6, u7, u8⟩ := rv_free9 HR0.out
      obtain ⟨r0, r1, r2, r3, r4, r5, r6, r7, r8, -, hcs⟩ := rv_put9 HR0.out po mc no ta ol (ge + 1) 0 ve si
      have HF := Lib.hid (fresh_set HX0.out hcs (by omega))
      have RR := Lib.hid (And.intro r0 (And.intro r1 (And.intro r2 (And.intro r3 (And.intro r4 (And.intro r5 (And.intro r6 (And.intro r7 r8))))))))
      clear r0 r1 r2 r3 r4 r5 r6 r7 r8 hcs HR0 HX0
      go_wp2_with fail
      obtain ⟨r0, r1, r2, r3, r4, r5, r6, r7, r8⟩ := RR.out
      exact bodyPost_ret (v := .tuple #[.agg (rvC po mc no ta ol (ge + 1) 0 ve si), .int .i64 0]) (by simp [results, Try.results31, go_sem, rvC, r0, r1, r2, r3, r4, r5, r6, r7, r8]) rfl ⟨rfl, HF.out⟩
  have t0 : (ph == 3) = false := by simpa using h0
  have s0 : (ph != 3) = true := by simpa using h0
  rw [show agA ⟨po, ma, ow, ta, ol, ge, ph, ve, si⟩ mc no = (⟨po, ma, ow, ta, ol, ge, ph, ve, si⟩, 8) from by simp [agA, h0]]
  clear h0
  have HQ0 : Blk ((w.alloc (.cells #[.int .i64 po, .int .u64 ma, .int .i64 ow, .int .i64 ta, .int .i64 ol, .int .i64 ge, .int .i64 ph, .int .i64 ve, .int .i64 si] 25)).alloc (.cells #[.int .i64 0, .int .u64 0, .int .i64 0, .int .i64 0, .int .i64 0, .int .i64 0, .int .i64 0, .int .i64 0, .int .i64 0] 25)) w.heap.size 25 (rvC po ma ow ta ol ge ph ve si) := (Blk.alloc (blk_new rfl) _)
  replace HQ0 := Lib.hid HQ0
  have HR0 : Blk ((w.alloc (.cells #[.int .i64 po, .int .u64 ma, .int .i64 ow, .int .i64 ta, .int .i64 ol, .int .i64 ge, .int .i64 ph, .int .i64 ve, .int .i64 si] 25)).alloc (.cells #[.int .i64 0, .int .u64 0, .int .i64 0, .int .i64 0, .int .i64 0, .int .i64 0, .int .i64 0, .int .i64 0, .int .i64 0] 25)) (w.heap.size + 1) 25 (rvC 0 0 0 0 0 0 0 0 0) := (blk_new (by simp))
  replace HR0 := Lib.hid HR0
  have HX0 := Lib.hid (((Chg.refl (fun _ => False) w).alloc (.cells #[.int .i64 po, .int .u64 ma, .int .i64 ow, .int .i64 ta, .int .i64 ol, .int .i64 ge, .int .i64 ph, .int .i64 ve, .int .i64 si] 25)).alloc (.cells #[.int .i64 0, .int .u64 0, .int .i64 0, .int .i64 0, .int .i64 0, .int .i64 0, .int .i64 0, .int .i64 0, .int .i64 0] 25))
  go_enter Try.func31, Try.ntmps31
  go_upto_region 1 with fail
  generalize ((w.alloc (.cells #[.int .i64 po, .int .u64 ma, .int .i64 ow, .int .i64 ta, .int .i64 ol, .int .i64 ge, .int .i64 ph, .int .i64 ve, .int .i64 si] 25)).alloc (.cells #[.int .i64 0, .int .u64 0, .int .i64 0, .int .i64 0, .int .i64 0, .int .i64 0, .int .i64 0, .int .i64 0, .int .i64 0] 25)) = w1 at *
  obtain ⟨y0, y1, y2, y3, y4, y5, y6, y7, y8⟩ := rv_cells HQ0.out
  obtain ⟨x0, x1, x2, x3, x4, x5, x6, x7, x8⟩ := rv_cells HR0.out
  obtain ⟨u0, u1, u2, u3, u4, u5, u6, u7, u8⟩ := rv_free9 HR0.out
  obtain ⟨r0, r1, r2, r3, r4, r5, r6, r7, r8, -, hcs⟩ := rv_put9 HR0.out po ma ow ta ol ge ph ve si
  have HF := Lib.hid (fresh_set HX0.out hcs (by omega))
  have RR := Lib.hid (And.intro r0 (And.intro r1 (And.intro r2 (And.intro r3 (And.intro r4 (And.intro r5 (And.intro r6 (And.intro r7 r8))))))))
  clear r0 r1 r2 r3 r4 r5 r6 r7 r8 hcs HR0 HX0
  go_wp2_with fail
  obtain ⟨r0, r1, r2, r3, r4, r5, r6, r7, r8⟩ := RR.out
  exact bodyPost_ret (v := .tuple #[.agg (rvC po ma ow ta ol ge ph ve si), .int .i64 8]) (by simp [results, Try.results31, go_sem, rvC, r0, r1, r2, r3, r4, r5, r6, r7, r8]) rfl ⟨rfl, HF.out⟩


end Go.Proofs.Ytbigcebpfbfddaa
