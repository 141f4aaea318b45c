/-
  Walks: what phase.Again, Start, Awake, Commit, Abort and Drop hand over: the closures. Conditions: what they captured lies in memory; the generation is a small number.
-/
import Derived.Test.YtbajcdmcjmkieaaOb
import Derived.RegionTactic
namespace Go.Proofs.Ytbajcdmcjmkieaa
open Go.RowKit
set_option linter.unusedVariables false

set_option maxHeartbeats 2000000 in
theorem ab1_any (po ma ow ta ol ge ph ve si : Int) (w : World) : Calls Try.prog 93 #[.agg #[.int .i64 po, .int .u64 ma, .int .i64 ow, .int .i64 ta, .int .i64 ol, .int .i64 ge, .int .i64 ph, .int .i64 ve, .int .i64 si]] w (HR (abA ⟨po, ma, ow, ta, ol, ge, ph, ve, si⟩) w) := by
  by_cases h1 : ph = 1
  case pos =>
    subst h1
    rw [show abA ⟨po, ma, ow, ta, ol, ge, 1, ve, si⟩ = (⟨po, ma, ow, -1, ol, ge, 0, ve, si⟩, 0) from rfl]
    have HQ0 : Blk ((w.alloc (.cells #[.int .i64 po, .int .u64 ma, .int .i64 ow, .int .i64 ta, .int .i64 ol, .int .i64 ge, .int .i64 1, .int .i64 ve, .int .i64 si] 33)).alloc (.cells #[.int .i64 0, .int .u64 0, .int .i64 0, .int .i64 0, .int .i64 0, .int .i64 0, .int .i64 0, .int .i64 0, .int .i64 0] 33)) w.heap.size 33 (rvC po ma ow ta ol ge 1 ve si) := (Blk.alloc (blk_new rfl) _)
    replace HQ0 := Lib.hid HQ0
    have HR0 : Blk ((w.alloc (.cells #[.int .i64 po, .int .u64 ma, .int .i64 ow, .int .i64 ta, .int .i64 ol, .int .i64 ge, .int .i64 1, .int .i64 ve, .int .i64 si] 33)).alloc (.cells #[.int .i64 0, .int .u64 0, .int .i64 0, .int .i64 0, .int .i64 0, .int .i64 0, .int .i64 0, .int .i64 0, .int .i64 0] 33)) (w.heap.size + 1) 33 (rvC 0 0 0 0 0 0 0 0 0) := (blk_new (by simp))
    replace HR0 := Lib.hid HR0
    have HX0 := Lib.hid (((Chg.refl (fun _ => False) w).alloc (.cells #[.int .i64 po, .int .u64 ma, .int .i64 ow, .int .i64 ta, .int .i64 ol, .int .i64 ge, .int .i64 1, .int .i64 ve, .int .i64 si] 33)).alloc (.cells #[.int .i64 0, .int .u64 0, .int .i64 0, .int .i64 0, .int .i64 0, .int .i64 0, .int .i64 0, .int .i64 0, .int .i64 0] 33))
    go_enter Try.func93, Try.ntmps93
    go_upto_region 1 with fail
    generalize ((w.alloc (.cells #[.int .i64 po, .int .u64 ma, .int .i64 ow, .int .i64 ta, .int .i64 ol, .int .i64 ge, .int .i64 1, .int .i64 ve, .int .i64 si] 33)).alloc (.cells #[.int .i64 0, .int .u64 0, .int .i64 0, .int .i64 0, .int .i64 0, .int .i64 0, .int .i64 0, .int .i64 0, .int .i64 0] 33)) = w1 at *
    obtain ⟨-, -, -, -, -, -, y6, -⟩ := rv_cells HQ0.out
    have fHQ00 := HQ0.out.frozen 6
    obtain ⟨-, -, -, -, -, -, yHQ00_6, -, -⟩ := rv_cells HQ0.out
    replace HQ0 := Lib.hid (rv_set6 HQ0.out (0))
    have fHQ01 := HQ0.out.frozen 3
    obtain ⟨-, -, -, yHQ01_3, -, -, -, -, -⟩ := rv_cells HQ0.out
    replace HQ0 := Lib.hid (rv_set3 HQ0.out (-1))
    have hcs := (((Chg.refl (fun k => k = w.heap.size) w1).put w.heap.size 6 (fun _ => rfl) (.int .i64 (0))).put w.heap.size 3 (fun _ => rfl) (.int .i64 (-1)))
    replace HR0 := Lib.hid (HR0.out.chg hcs (by omega))
    replace HX0 := Lib.hid (fresh_set HX0.out hcs (by first | exact Nat.le_refl _ | omega))
    clear hcs
    obtain ⟨y0, y1, y2, y3, y4, y5, y6, y7, y8⟩ := rv_cells HQ0.out
    obtain ⟨x0, x1, x2, x3, x4, x5, x6, x7, x8⟩ := rv_cells HR0.out
    obtain ⟨u0, u1, u2, u3, u4, u5, u6, u7, u8⟩ := rv_free9 HR0.out
    obtain ⟨r0, r1, r2, r3, r4, r5, r6, r7, r8, -, hcs⟩ := rv_put9 HR0.out po ma ow (-1) ol ge 0 ve si
    have HF := Lib.hid (fresh_set HX0.out hcs (by omega))
    have RR := Lib.hid (And.intro r0 (And.intro r1 (And.intro r2 (And.intro r3 (And.intro r4 (And.intro r5 (And.intro r6 (And.intro r7 r8))))))))
    clear r0 r1 r2 r3 r4 r5 r6 r7 r8 hcs HR0 HX0
    go_wp2_with fail
    obtain ⟨r0, r1, r2, r3, r4, r5, r6, r7, r8⟩ := RR.out
    exact bodyPost_ret (v := .tuple #[.agg (rvC po ma ow (-1) ol ge 0 ve si), .int .i64 0]) (by simp [results, Try.results93, go_sem, rvC, r0, r1, r2, r3, r4, r5, r6, r7, r8]) rfl ⟨rfl, HF.out⟩
  have t1 : (ph == 1) = false := by simpa using h1
  have s1 : (ph != 1) = true := by simpa using h1
  rw [show abA ⟨po, ma, ow, ta, ol, ge, ph, ve, si⟩ = (⟨po, ma, ow, ta, ol, ge, ph, ve, si⟩, 8) from by simp [abA, h1]]
  clear h1
  have HQ0 : Blk ((w.alloc (.cells #[.int .i64 po, .int .u64 ma, .int .i64 ow, .int .i64 ta, .int .i64 ol, .int .i64 ge, .int .i64 ph, .int .i64 ve, .int .i64 si] 33)).alloc (.cells #[.int .i64 0, .int .u64 0, .int .i64 0, .int .i64 0, .int .i64 0, .int .i64 0, .int .i64 0, .int .i64 0, .int .i64 0] 33)) w.heap.size 33 (rvC po ma ow ta ol ge ph ve si) := (Blk.alloc (blk_new rfl) _)
  replace HQ0 := Lib.hid HQ0
  have HR0 : Blk ((w.alloc (.cells #[.int .i64 po, .int .u64 ma, .int .i64 ow, .int .i64 ta, .int .i64 ol, .int .i64 ge, .int .i64 ph, .int .i64 ve, .int .i64 si] 33)).alloc (.cells #[.int .i64 0, .int .u64 0, .int .i64 0, .int .i64 0, .int .i64 0, .int .i64 0, .int .i64 0, .int .i64 0, .int .i64 0] 33)) (w.heap.size + 1) 33 (rvC 0 0 0 0 0 0 0 0 0) := (blk_new (by simp))
  replace HR0 := Lib.hid HR0
  have HX0 := Lib.hid (((Chg.refl (fun _ => False) w).alloc (.cells #[.int .i64 po, .int .u64 ma, .int .i64 ow, .int .i64 ta, .int .i64 ol, .int .i64 ge, .int .i64 ph, .int .i64 ve, .int .i64 si] 33)).alloc (.cells #[.int .i64 0, .int .u64 0, .int .i64 0, .int .i64 0, .int .i64 0, .int .i64 0, .int .i64 0, .int .i64 0, .int .i64 0] 33))
  go_enter Try.func93, Try.ntmps93
  go_upto_region 1 with fail
  generalize ((w.alloc (.cells #[.int .i64 po, .int .u64 ma, .int .i64 ow, .int .i64 ta, .int .i64 ol, .int .i64 ge, .int .i64 ph, .int .i64 ve, .int .i64 si] 33)).alloc (.cells #[.int .i64 0, .int .u64 0, .int .i64 0, .int .i64 0, .int .i64 0, .int .i64 0, .int .i64 0, .int .i64 0, .int .i64 0] 33)) = w1 at *
  obtain ⟨y0, y1, y2, y3, y4, y5, y6, y7, y8⟩ := rv_cells HQ0.out
  obtain ⟨x0, x1, x2, x3, x4, x5, x6, x7, x8⟩ := rv_cells HR0.out
  obtain ⟨u0, u1, u2, u3, u4, u5, u6, u7, u8⟩ := rv_free9 HR0.out
  obtain ⟨r0, r1, r2, r3, r4, r5, r6, r7, r8, -, hcs⟩ := rv_put9 HR0.out po ma ow ta ol ge ph ve si
  have HF := Lib.hid (fresh_set HX0.out hcs (by omega))
  have RR := Lib.hid (And.intro r0 (And.intro r1 (And.intro r2 (And.intro r3 (And.intro r4 (And.intro r5 (And.intro r6 (And.intro r7 r8))))))))
  clear r0 r1 r2 r3 r4 r5 r6 r7 r8 hcs HR0 HX0
  go_wp2_with fail
  obtain ⟨r0, r1, r2, r3, r4, r5, r6, r7, r8⟩ := RR.out
  exact bodyPost_ret (v := .tuple #[.agg (rvC po ma ow ta ol ge ph ve si), .int .i64 8]) (by simp [results, Try.results93, go_sem, rvC, r0, r1, r2, r3, r4, r5, r6, r7, r8]) rfl ⟨rfl, HF.out⟩

set_option maxHeartbeats 2000000 in
theorem co1_any (po ma ow ta ol ge ph ve si : Int) (w : World) (hg : 1 ≤ ge ∧ ge ≤ 4294967296) : Calls Try.prog 91 #[.agg #[.int .i64 po, .int .u64 ma, .int .i64 ow, .int .i64 ta, .int .i64 ol, .int .i64 ge, .int .i64 ph, .int .i64 ve, .int .i64 si]] w (HR (coA ⟨po, ma, ow, ta, ol, ge, ph, ve, si⟩) w) := by
  by_cases h1 : ph = 1
  case pos =>
    subst h1
    rw [show coA ⟨po, ma, ow, ta, ol, ge, 1, ve, si⟩ = (⟨po, ma, ta, -1, ow, ge + 1, 2, ve, si⟩, 0) from rfl]
    have HQ0 : Blk ((w.alloc (.cells #[.int .i64 po, .int .u64 ma, .int .i64 ow, .int .i64 ta, .int .i64 ol, .int .i64 ge, .int .i64 1, .int .i64 ve, .int .i64 si] 33)).alloc (.cells #[.int .i64 0, .int .u64 0, .int .i64 0, .int .i64 0, .int .i64 0, .int .i64 0, .int .i64 0, .int .i64 0, .int .i64 0] 33)) w.heap.size 33 (rvC po ma ow ta ol ge 1 ve si) := (Blk.alloc (blk_new rfl) _)
    replace HQ0 := Lib.hid HQ0
    have HR0 : Blk ((w.alloc (.cells #[.int .i64 po, .int .u64 ma, .int .i64 ow, .int .i64 ta, .int .i64 ol, .int .i64 ge, .int .i64 1, .int .i64 ve, .int .i64 si] 33)).alloc (.cells #[.int .i64 0, .int .u64 0, .int .i64 0, .int .i64 0, .int .i64 0, .int .i64 0, .int .i64 0, .int .i64 0, .int .i64 0] 33)) (w.heap.size + 1) 33 (rvC 0 0 0 0 0 0 0 0 0) := (blk_new (by simp))
    replace HR0 := Lib.hid HR0
    have HX0 := Lib.hid (((Chg.refl (fun _ => False) w).alloc (.cells #[.int .i64 po, .int .u64 ma, .int .i64 ow, .int .i64 ta, .int .i64 ol, .int .i64 ge, .int .i64 1, .int .i64 ve, .int .i64 si] 33)).alloc (.cells #[.int .i64 0, .int .u64 0, .int .i64 0, .int .i64 0, .int .i64 0, .int .i64 0, .int .i64 0, .int .i64 0, .int .i64 0] 33))
    go_enter Try.func91, Try.ntmps91
    go_upto_region 1 with fail
    generalize ((w.alloc (.cells #[.int .i64 po, .int .u64 ma, .int .i64 ow, .int .i64 ta, .int .i64 ol, .int .i64 ge, .int .i64 1, .int .i64 ve, .int .i64 si] 33)).alloc (.cells #[.int .i64 0, .int .u64 0, .int .i64 0, .int .i64 0, .int .i64 0, .int .i64 0, .int .i64 0, .int .i64 0, .int .i64 0] 33)) = w1 at *
    obtain ⟨y0, y1, y2, y3, y4, y5, y6, y7, y8⟩ := rv_cells HQ0.out
    go_wp2_with fail
    refine (arrived_any po ma ow ta ol ge 1 ve si _ hg).mono ?_
    rintro e w2 ⟨rfl, hc⟩
    replace HX0 := Lib.hid (HX0.out.trans hc (fun _ _ e => e))
    replace HQ0 := Lib.hid (HQ0.out.chg hc id)
    replace HR0 := Lib.hid (HR0.out.chg hc id)
    clear hc
    clear y0 y1 y2 y3 y4 y5 y6 y7 y8
    obtain ⟨x0, x1, x2, x3, x4, x5, x6, x7, x8⟩ := rv_cells HR0.out
    obtain ⟨u0, u1, u2, u3, u4, u5, u6, u7, u8⟩ := rv_free9 HR0.out
    obtain ⟨r0, r1, r2, r3, r4, r5, r6, r7, r8, -, hcs⟩ := rv_put9 HR0.out po ma ta (-1) ow (ge + 1) 2 ve si
    have HF := Lib.hid (fresh_set HX0.out hcs (by omega))
    have RR := Lib.hid (And.intro r0 (And.intro r1 (And.intro r2 (And.intro r3 (And.intro r4 (And.intro r5 (And.intro r6 (And.intro r7 r8))))))))
    clear r0 r1 r2 r3 r4 r5 r6 r7 r8 hcs HR0 HX0
    go_wp2_with fail
    obtain ⟨r0, r1, r2, r3, r4, r5, r6, r7, r8⟩ := RR.out
    exact bodyPost_ret (v := .tuple #[.agg (rvC po ma ta (-1) ow (ge + 1) 2 ve si), .int .i64 0]) (by simp [results, Try.results91, go_sem, rvC, r0, r1, r2, r3, r4, r5, r6, r7, r8]) rfl ⟨rfl, HF.out⟩
  by_cases h2 : ph = 2
  case pos =>
    subst h2
    rw [show coA ⟨po, ma, ow, ta, ol, ge, 2, ve, si⟩ = (⟨po, ma, ow, ta, -1, ge, 0, ve, si⟩, 0) from rfl]
    have HQ0 : Blk ((w.alloc (.cells #[.int .i64 po, .int .u64 ma, .int .i64 ow, .int .i64 ta, .int .i64 ol, .int .i64 ge, .int .i64 2, .int .i64 ve, .int .i64 si] 33)).alloc (.cells #[.int .i64 0, .int .u64 0, .int .i64 0, .int .i64 0, .int .i64 0, .int .i64 0, .int .i64 0, .int .i64 0, .int .i64 0] 33)) w.heap.size 33 (rvC po ma ow ta ol ge 2 ve si) := (Blk.alloc (blk_new rfl) _)
    replace HQ0 := Lib.hid HQ0
    have HR0 : Blk ((w.alloc (.cells #[.int .i64 po, .int .u64 ma, .int .i64 ow, .int .i64 ta, .int .i64 ol, .int .i64 ge, .int .i64 2, .int .i64 ve, .int .i64 si] 33)).alloc (.cells #[.int .i64 0, .int .u64 0, .int .i64 0, .int .i64 0, .int .i64 0, .int .i64 0, .int .i64 0, .int .i64 0, .int .i64 0] 33)) (w.heap.size + 1) 33 (rvC 0 0 0 0 0 0 0 0 0) := (blk_new (by simp))
    replace HR0 := Lib.hid HR0
    have HX0 := Lib.hid (((Chg.refl (fun _ => False) w).alloc (.cells #[.int .i64 po, .int .u64 ma, .int .i64 ow, .int .i64 ta, .int .i64 ol, .int .i64 ge, .int .i64 2, .int .i64 ve, .int .i64 si] 33)).alloc (.cells #[.int .i64 0, .int .u64 0, .int .i64 0, .int .i64 0, .int .i64 0, .int .i64 0, .int .i64 0, .int .i64 0, .int .i64 0] 33))
    go_enter Try.func91, Try.ntmps91
    go_upto_region 1 with fail
    generalize ((w.alloc (.cells #[.int .i64 po, .int .u64 ma, .int .i64 ow, .int .i64 ta, .int .i64 ol, .int .i64 ge, .int .i64 2, .int .i64 ve, .int .i64 si] 33)).alloc (.cells #[.int .i64 0, .int .u64 0, .int .i64 0, .int .i64 0, .int .i64 0, .int .i64 0, .int .i64 0, .int .i64 0, .int .i64 0] 33)) = w1 at *
    obtain ⟨-, -, -, -, -, -, y6, -⟩ := rv_cells HQ0.out
    have fHQ00 := HQ0.out.frozen 6
    obtain ⟨-, -, -, -, -, -, yHQ00_6, -, -⟩ := rv_cells HQ0.out
    replace HQ0 := Lib.hid (rv_set6 HQ0.out (0))
    have fHQ01 := HQ0.out.frozen 4
    obtain ⟨-, -, -, -, yHQ01_4, -, -, -, -⟩ := rv_cells HQ0.out
    replace HQ0 := Lib.hid (rv_set4 HQ0.out (-1))
    have hcs := (((Chg.refl (fun k => k = w.heap.size) w1).put w.heap.size 6 (fun _ => rfl) (.int .i64 (0))).put w.heap.size 4 (fun _ => rfl) (.int .i64 (-1)))
    replace HR0 := Lib.hid (HR0.out.chg hcs (by omega))
    replace HX0 := Lib.hid (fresh_set HX0.out hcs (by first | exact Nat.le_refl _ | omega))
    clear hcs
    obtain ⟨y0, y1, y2, y3, y4, y5, y6, y7, y8⟩ := rv_cells HQ0.out
    obtain ⟨x0, x1, x2, x3, x4, x5, x6, x7, x8⟩ := rv_cells HR0.out
    obtain ⟨u0, u1, u2, u3, u4, u5, u6, u7, u8⟩ := rv_free9 HR0.out
    obtain ⟨r0, r1, r2, r3, r4, r5, r6, r7, r8, -, hcs⟩ := rv_put9 HR0.out po ma ow ta (-1) ge 0 ve si
    have HF := Lib.hid (fresh_set HX0.out hcs (by omega))
    have RR := Lib.hid (And.intro r0 (And.intro r1 (And.intro r2 (And.intro r3 (And.intro r4 (And.intro r5 (And.intro r6 (And.intro r7 r8))))))))
    clear r0 r1 r2 r3 r4 r5 r6 r7 r8 hcs HR0 HX0
    go_wp2_with fail
    obtain ⟨r0, r1, r2, r3, r4, r5, r6, r7, r8⟩ := RR.out
    exact bodyPost_ret (v := .tuple #[.agg (rvC po ma ow ta (-1) ge 0 ve si), .int .i64 0]) (by simp [results, Try.results91, go_sem, rvC, r0, r1, r2, r3, r4, r5, r6, r7, r8]) rfl ⟨rfl, HF.out⟩
  have t1 : (ph == 1) = false := by simpa using h1
  have s1 : (ph != 1) = true := by simpa using h1
  have t2 : (ph == 2) = false := by simpa using h2
  have s2 : (ph != 2) = true := by simpa using h2
  rw [show coA ⟨po, ma, ow, ta, ol, ge, ph, ve, si⟩ = (⟨po, ma, ow, ta, ol, ge, ph, ve, si⟩, 8) from by simp [coA, h1, h2]]
  clear h1 h2
  have HQ0 : Blk ((w.alloc (.cells #[.int .i64 po, .int .u64 ma, .int .i64 ow, .int .i64 ta, .int .i64 ol, .int .i64 ge, .int .i64 ph, .int .i64 ve, .int .i64 si] 33)).alloc (.cells #[.int .i64 0, .int .u64 0, .int .i64 0, .int .i64 0, .int .i64 0, .int .i64 0, .int .i64 0, .int .i64 0, .int .i64 0] 33)) w.heap.size 33 (rvC po ma ow ta ol ge ph ve si) := (Blk.alloc (blk_new rfl) _)
  replace HQ0 := Lib.hid HQ0
  have HR0 : Blk ((w.alloc (.cells #[.int .i64 po, .int .u64 ma, .int .i64 ow, .int .i64 ta, .int .i64 ol, .int .i64 ge, .int .i64 ph, .int .i64 ve, .int .i64 si] 33)).alloc (.cells #[.int .i64 0, .int .u64 0, .int .i64 0, .int .i64 0, .int .i64 0, .int .i64 0, .int .i64 0, .int .i64 0, .int .i64 0] 33)) (w.heap.size + 1) 33 (rvC 0 0 0 0 0 0 0 0 0) := (blk_new (by simp))
  replace HR0 := Lib.hid HR0
  have HX0 := Lib.hid (((Chg.refl (fun _ => False) w).alloc (.cells #[.int .i64 po, .int .u64 ma, .int .i64 ow, .int .i64 ta, .int .i64 ol, .int .i64 ge, .int .i64 ph, .int .i64 ve, .int .i64 si] 33)).alloc (.cells #[.int .i64 0, .int .u64 0, .int .i64 0, .int .i64 0, .int .i64 0, .int .i64 0, .int .i64 0, .int .i64 0, .int .i64 0] 33))
  go_enter Try.func91, Try.ntmps91
  go_upto_region 1 with fail
  generalize ((w.alloc (.cells #[.int .i64 po, .int .u64 ma, .int .i64 ow, .int .i64 ta, .int .i64 ol, .int .i64 ge, .int .i64 ph, .int .i64 ve, .int .i64 si] 33)).alloc (.cells #[.int .i64 0, .int .u64 0, .int .i64 0, .int .i64 0, .int .i64 0, .int .i64 0, .int .i64 0, .int .i64 0, .int .i64 0] 33)) = w1 at *
  obtain ⟨y0, y1, y2, y3, y4, y5, y6, y7, y8⟩ := rv_cells HQ0.out
  obtain ⟨x0, x1, x2, x3, x4, x5, x6, x7, x8⟩ := rv_cells HR0.out
  obtain ⟨u0, u1, u2, u3, u4, u5, u6, u7, u8⟩ := rv_free9 HR0.out
  obtain ⟨r0, r1, r2, r3, r4, r5, r6, r7, r8, -, hcs⟩ := rv_put9 HR0.out po ma ow ta ol ge ph ve si
  have HF := Lib.hid (fresh_set HX0.out hcs (by omega))
  have RR := Lib.hid (And.intro r0 (And.intro r1 (And.intro r2 (And.intro r3 (And.intro r4 (And.intro r5 (And.intro r6 (And.intro r7 r8))))))))
  clear r0 r1 r2 r3 r4 r5 r6 r7 r8 hcs HR0 HX0
  go_wp2_with fail
  obtain ⟨r0, r1, r2, r3, r4, r5, r6, r7, r8⟩ := RR.out
  exact bodyPost_ret (v := .tuple #[.agg (rvC po ma ow ta ol ge ph ve si), .int .i64 8]) (by simp [results, Try.results91, go_sem, rvC, r0, r1, r2, r3, r4, r5, r6, r7, r8]) rfl ⟨rfl, HF.out⟩


end Go.Proofs.Ytbajcdmcjmkieaa
