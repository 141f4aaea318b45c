/-
  Walks: phase.do over the closures of Commit, Abort and Drop. Condition: what the closure makes of a row that may be is known.
-/
import Derived.Test.YtbajcdmcjmkieaaOd
namespace Go.Proofs.Ytbajcdmcjmkieaa
open Go.RowKit
set_option linter.unusedVariables false

set_option maxHeartbeats 4000000 in
theorem do_co (po ma ow ta ol ge ph ve si now : Int) (may : Bool) (po_ ma_ ow_ ta_ ol_ ge_ ph_ ve_ si_ er : Int) (w : World) (hk : rwR po ma ow ta ol ge ph ve si = true → ∀ W, Chg (fun _ => False) w W → Calls Try.prog 91 #[.agg #[.int .i64 po, .int .u64 ma, .int .i64 ow, .int .i64 ta, .int .i64 ol, .int .i64 ge, .int .i64 ph, .int .i64 ve, .int .i64 si]] W (HR9 po_ ma_ ow_ ta_ ol_ ge_ ph_ ve_ si_ er W)) :
    Calls Try.prog 90 #[.agg #[.int .i64 po, .int .u64 ma, .int .i64 ow, .int .i64 ta, .int .i64 ol, .int .i64 ge, .int .i64 ph, .int .i64 ve, .int .i64 si], .int .i64 now, .bool may, .func (.func 91) #[] #[]] w (HR (fin9 ⟨po, ma, ow, ta, ol, ge, ph, ve, si⟩ now may (⟨po_, ma_, ow_, ta_, ol_, ge_, ph_, ve_, si_⟩, er)) w) := by
  cases may with
  | false =>
    rw [show fin9 ⟨po, ma, ow, ta, ol, ge, ph, ve, si⟩ now false (⟨po_, ma_, ow_, ta_, ol_, ge_, ph_, ve_, si_⟩, er) = (z9, 1) from by simp [fin9]]
    have HQ0 : Blk ((w.alloc (.cells #[.int .i64 po, .int .u64 ma, .int .i64 ow, .int .i64 ta, .int .i64 ol, .int .i64 ge, .int .i64 ph, .int .i64 ve, .int .i64 si] 33)).alloc (.cells #[.int .i64 0, .int .u64 0, .int .i64 0, .int .i64 0, .int .i64 0, .int .i64 0, .int .i64 0, .int .i64 0, .int .i64 0] 33)) w.heap.size 33 (rvC po ma ow ta ol ge ph ve si) := (Blk.alloc (blk_new rfl) _)
    replace HQ0 := Lib.hid HQ0
    have HR0 : Blk ((w.alloc (.cells #[.int .i64 po, .int .u64 ma, .int .i64 ow, .int .i64 ta, .int .i64 ol, .int .i64 ge, .int .i64 ph, .int .i64 ve, .int .i64 si] 33)).alloc (.cells #[.int .i64 0, .int .u64 0, .int .i64 0, .int .i64 0, .int .i64 0, .int .i64 0, .int .i64 0, .int .i64 0, .int .i64 0] 33)) (w.heap.size + 1) 33 (rvC 0 0 0 0 0 0 0 0 0) := (blk_new (by simp))
    replace HR0 := Lib.hid HR0
    have HX0 := Lib.hid (((Chg.refl (fun _ => False) w).alloc (.cells #[.int .i64 po, .int .u64 ma, .int .i64 ow, .int .i64 ta, .int .i64 ol, .int .i64 ge, .int .i64 ph, .int .i64 ve, .int .i64 si] 33)).alloc (.cells #[.int .i64 0, .int .u64 0, .int .i64 0, .int .i64 0, .int .i64 0, .int .i64 0, .int .i64 0, .int .i64 0, .int .i64 0] 33))
    go_enter Try.func90, Try.ntmps90
    go_upto_region 1 with fail
    generalize ((w.alloc (.cells #[.int .i64 po, .int .u64 ma, .int .i64 ow, .int .i64 ta, .int .i64 ol, .int .i64 ge, .int .i64 ph, .int .i64 ve, .int .i64 si] 33)).alloc (.cells #[.int .i64 0, .int .u64 0, .int .i64 0, .int .i64 0, .int .i64 0, .int .i64 0, .int .i64 0, .int .i64 0, .int .i64 0] 33)) = w1 at *
    obtain ⟨x0, x1, x2, x3, x4, x5, x6, x7, x8⟩ := rv_cells HR0.out
    obtain ⟨u0, u1, u2, u3, u4, u5, u6, u7, u8⟩ := rv_free9 HR0.out
    obtain ⟨r0, r1, r2, r3, r4, r5, r6, r7, r8, -, hcs⟩ := rv_put9 HR0.out 0 0 0 0 0 0 0 0 0
    have HF := Lib.hid (fresh_set HX0.out hcs (by omega))
    have RR := Lib.hid (And.intro r0 (And.intro r1 (And.intro r2 (And.intro r3 (And.intro r4 (And.intro r5 (And.intro r6 (And.intro r7 r8))))))))
    clear r0 r1 r2 r3 r4 r5 r6 r7 r8 hcs HR0 HX0
    go_wp2_with fail
    obtain ⟨r0, r1, r2, r3, r4, r5, r6, r7, r8⟩ := RR.out
    exact bodyPost_ret (v := .tuple #[.agg (rvC 0 0 0 0 0 0 0 0 0), .int .i64 1]) (by simp [results, Try.results90, go_sem, rvC, r0, r1, r2, r3, r4, r5, r6, r7, r8]) rfl ⟨rfl, HF.out⟩
  | true =>
    have hm := fun W => pmom_any now W
    cases ht : tm9 now with
    | false =>
      rw [show fin9 ⟨po, ma, ow, ta, ol, ge, ph, ve, si⟩ now true (⟨po_, ma_, ow_, ta_, ol_, ge_, ph_, ve_, si_⟩, er) = (z9, 1) from by simp [fin9, ht]]
      rw [show withinB 0 1099511627776 [now] = false from ht] at hm
      have HM := Lib.hid hm
      clear hm ht hk
      have HQ0 : Blk ((w.alloc (.cells #[.int .i64 po, .int .u64 ma, .int .i64 ow, .int .i64 ta, .int .i64 ol, .int .i64 ge, .int .i64 ph, .int .i64 ve, .int .i64 si] 33)).alloc (.cells #[.int .i64 0, .int .u64 0, .int .i64 0, .int .i64 0, .int .i64 0, .int .i64 0, .int .i64 0, .int .i64 0, .int .i64 0] 33)) w.heap.size 33 (rvC po ma ow ta ol ge ph ve si) := (Blk.alloc (blk_new rfl) _)
      replace HQ0 := Lib.hid HQ0
      have HR0 : Blk ((w.alloc (.cells #[.int .i64 po, .int .u64 ma, .int .i64 ow, .int .i64 ta, .int .i64 ol, .int .i64 ge, .int .i64 ph, .int .i64 ve, .int .i64 si] 33)).alloc (.cells #[.int .i64 0, .int .u64 0, .int .i64 0, .int .i64 0, .int .i64 0, .int .i64 0, .int .i64 0, .int .i64 0, .int .i64 0] 33)) (w.heap.size + 1) 33 (rvC 0 0 0 0 0 0 0 0 0) := (blk_new (by simp))
      replace HR0 := Lib.hid HR0
      have HX0 := Lib.hid (((Chg.refl (fun _ => False) w).alloc (.cells #[.int .i64 po, .int .u64 ma, .int .i64 ow, .int .i64 ta, .int .i64 ol, .int .i64 ge, .int .i64 ph, .int .i64 ve, .int .i64 si] 33)).alloc (.cells #[.int .i64 0, .int .u64 0, .int .i64 0, .int .i64 0, .int .i64 0, .int .i64 0, .int .i64 0, .int .i64 0, .int .i64 0] 33))
      go_enter Try.func90, Try.ntmps90
      go_upto_region 1 with fail
      generalize ((w.alloc (.cells #[.int .i64 po, .int .u64 ma, .int .i64 ow, .int .i64 ta, .int .i64 ol, .int .i64 ge, .int .i64 ph, .int .i64 ve, .int .i64 si] 33)).alloc (.cells #[.int .i64 0, .int .u64 0, .int .i64 0, .int .i64 0, .int .i64 0, .int .i64 0, .int .i64 0, .int .i64 0, .int .i64 0] 33)) = w1 at *
      go_wp2_with fail
      refine (HM.out _).mono ?_
      rintro e wq ⟨rfl, rfl⟩
      obtain ⟨x0, x1, x2, x3, x4, x5, x6, x7, x8⟩ := rv_cells HR0.out
      obtain ⟨u0, u1, u2, u3, u4, u5, u6, u7, u8⟩ := rv_free9 HR0.out
      obtain ⟨r0, r1, r2, r3, r4, r5, r6, r7, r8, -, hcs⟩ := rv_put9 HR0.out 0 0 0 0 0 0 0 0 0
      have HF := Lib.hid (fresh_set HX0.out hcs (by omega))
      have RR := Lib.hid (And.intro r0 (And.intro r1 (And.intro r2 (And.intro r3 (And.intro r4 (And.intro r5 (And.intro r6 (And.intro r7 r8))))))))
      clear r0 r1 r2 r3 r4 r5 r6 r7 r8 hcs HR0 HX0
      go_wp2_with fail
      obtain ⟨r0, r1, r2, r3, r4, r5, r6, r7, r8⟩ := RR.out
      exact bodyPost_ret (v := .tuple #[.agg (rvC 0 0 0 0 0 0 0 0 0), .int .i64 1]) (by simp [results, Try.results90, go_sem, rvC, r0, r1, r2, r3, r4, r5, r6, r7, r8]) rfl ⟨rfl, HF.out⟩
    | true =>
      rw [show withinB 0 1099511627776 [now] = true from ht] at hm
      have HM := Lib.hid hm
      clear hm
      have hr := fun W => crow_any po ma ow ta ol ge ph ve si W
      unfold rvC at hr
      by_cases h : rwR po ma ow ta ol ge ph ve si = true
      case neg =>
        have h : rwR po ma ow ta ol ge ph ve si = false := by simpa using h
        rw [show fin9 ⟨po, ma, ow, ta, ol, ge, ph, ve, si⟩ now true (⟨po_, ma_, ow_, ta_, ol_, ge_, ph_, ve_, si_⟩, er) = (z9, 1) from if_neg (fun hh => by have h2 : rwR po ma ow ta ol ge ph ve si = true := hh.2.2; rw [h] at h2; cases h2)]
        rw [h] at hr
        have HRW := Lib.hid hr
        clear hr h ht hk
        have HQ0 : Blk ((w.alloc (.cells #[.int .i64 po, .int .u64 ma, .int .i64 ow, .int .i64 ta, .int .i64 ol, .int .i64 ge, .int .i64 ph, .int .i64 ve, .int .i64 si] 33)).alloc (.cells #[.int .i64 0, .int .u64 0, .int .i64 0, .int .i64 0, .int .i64 0, .int .i64 0, .int .i64 0, .int .i64 0, .int .i64 0] 33)) w.heap.size 33 (rvC po ma ow ta ol ge ph ve si) := (Blk.alloc (blk_new rfl) _)
        replace HQ0 := Lib.hid HQ0
        have HR0 : Blk ((w.alloc (.cells #[.int .i64 po, .int .u64 ma, .int .i64 ow, .int .i64 ta, .int .i64 ol, .int .i64 ge, .int .i64 ph, .int .i64 ve, .int .i64 si] 33)).alloc (.cells #[.int .i64 0, .int .u64 0, .int .i64 0, .int .i64 0, .int .i64 0, .int .i64 0, .int .i64 0, .int .i64 0, .int .i64 0] 33)) (w.heap.size + 1) 33 (rvC 0 0 0 0 0 0 0 0 0) := (blk_new (by simp))
        replace HR0 := Lib.hid HR0
        have HX0 := Lib.hid (((Chg.refl (fun _ => False) w).alloc (.cells #[.int .i64 po, .int .u64 ma, .int .i64 ow, .int .i64 ta, .int .i64 ol, .int .i64 ge, .int .i64 ph, .int .i64 ve, .int .i64 si] 33)).alloc (.cells #[.int .i64 0, .int .u64 0, .int .i64 0, .int .i64 0, .int .i64 0, .int .i64 0, .int .i64 0, .int .i64 0, .int .i64 0] 33))
        go_enter Try.func90, Try.ntmps90
        go_upto_region 1 with fail
        generalize ((w.alloc (.cells #[.int .i64 po, .int .u64 ma, .int .i64 ow, .int .i64 ta, .int .i64 ol, .int .i64 ge, .int .i64 ph, .int .i64 ve, .int .i64 si] 33)).alloc (.cells #[.int .i64 0, .int .u64 0, .int .i64 0, .int .i64 0, .int .i64 0, .int .i64 0, .int .i64 0, .int .i64 0, .int .i64 0] 33)) = w1 at *
        obtain ⟨y0, y1, y2, y3, y4, y5, y6, y7, y8⟩ := rv_cells HQ0.out
        go_wp2_with fail
        refine (HM.out _).mono ?_
        rintro e wq ⟨rfl, rfl⟩
        go_wp2_with fail
        refine (HRW.out _).mono ?_
        rintro e w2 ⟨rfl, hc⟩
        replace HX0 := Lib.hid (HX0.out.trans hc (fun _ _ e => e))
        replace HQ0 := Lib.hid (HQ0.out.chg hc id)
        replace HR0 := Lib.hid (HR0.out.chg hc id)
        clear hc
        clear y0 y1 y2 y3 y4 y5 y6 y7 y8
        obtain ⟨x0, x1, x2, x3, x4, x5, x6, x7, x8⟩ := rv_cells HR0.out
        obtain ⟨u0, u1, u2, u3, u4, u5, u6, u7, u8⟩ := rv_free9 HR0.out
        obtain ⟨r0, r1, r2, r3, r4, r5, r6, r7, r8, -, hcs⟩ := rv_put9 HR0.out 0 0 0 0 0 0 0 0 0
        have HF := Lib.hid (fresh_set HX0.out hcs (by omega))
        have RR := Lib.hid (And.intro r0 (And.intro r1 (And.intro r2 (And.intro r3 (And.intro r4 (And.intro r5 (And.intro r6 (And.intro r7 r8))))))))
        clear r0 r1 r2 r3 r4 r5 r6 r7 r8 hcs HR0 HX0
        go_wp2_with fail
        obtain ⟨r0, r1, r2, r3, r4, r5, r6, r7, r8⟩ := RR.out
        exact bodyPost_ret (v := .tuple #[.agg (rvC 0 0 0 0 0 0 0 0 0), .int .i64 1]) (by simp [results, Try.results90, go_sem, rvC, r0, r1, r2, r3, r4, r5, r6, r7, r8]) rfl ⟨rfl, HF.out⟩
      have hK := Lib.hid (hk h)
      have hb := ok_bounds h
      have hbt := tm_bounds ht
      rw [h] at hr
      have HRW := Lib.hid hr
      clear hr hk
      by_cases he : er = 0
      case neg =>
        rw [show fin9 ⟨po, ma, ow, ta, ol, ge, ph, ve, si⟩ now true (⟨po_, ma_, ow_, ta_, ol_, ge_, ph_, ve_, si_⟩, er) = (z9, er) from by unfold fin9; rw [if_pos ⟨rfl, ht, h⟩]; exact if_neg he]
        have te : (er != 0) = true := by simpa using he
        have te2 : (er == 0) = false := by simpa using he
        clear he h ht
        have HQ0 : Blk ((w.alloc (.cells #[.int .i64 po, .int .u64 ma, .int .i64 ow, .int .i64 ta, .int .i64 ol, .int .i64 ge, .int .i64 ph, .int .i64 ve, .int .i64 si] 33)).alloc (.cells #[.int .i64 0, .int .u64 0, .int .i64 0, .int .i64 0, .int .i64 0, .int .i64 0, .int .i64 0, .int .i64 0, .int .i64 0] 33)) w.heap.size 33 (rvC po ma ow ta ol ge ph ve si) := (Blk.alloc (blk_new rfl) _)
        replace HQ0 := Lib.hid HQ0
        have HR0 : Blk ((w.alloc (.cells #[.int .i64 po, .int .u64 ma, .int .i64 ow, .int .i64 ta, .int .i64 ol, .int .i64 ge, .int .i64 ph, .int .i64 ve, .int .i64 si] 33)).alloc (.cells #[.int .i64 0, .int .u64 0, .int .i64 0, .int .i64 0, .int .i64 0, .int .i64 0, .int .i64 0, .int .i64 0, .int .i64 0] 33)) (w.heap.size + 1) 33 (rvC 0 0 0 0 0 0 0 0 0) := (blk_new (by simp))
        replace HR0 := Lib.hid HR0
        have HX0 := Lib.hid (((Chg.refl (fun _ => False) w).alloc (.cells #[.int .i64 po, .int .u64 ma, .int .i64 ow, .int .i64 ta, .int .i64 ol, .int .i64 ge, .int .i64 ph, .int .i64 ve, .int .i64 si] 33)).alloc (.cells #[.int .i64 0, .int .u64 0, .int .i64 0, .int .i64 0, .int .i64 0, .int .i64 0, .int .i64 0, .int .i64 0, .int .i64 0] 33))
        go_enter Try.func90, Try.ntmps90
        go_upto_region 1 with fail
        generalize ((w.alloc (.cells #[.int .i64 po, .int .u64 ma, .int .i64 ow, .int .i64 ta, .int .i64 ol, .int .i64 ge, .int .i64 ph, .int .i64 ve, .int .i64 si] 33)).alloc (.cells #[.int .i64 0, .int .u64 0, .int .i64 0, .int .i64 0, .int .i64 0, .int .i64 0, .int .i64 0, .int .i64 0, .int .i64 0] 33)) = w1 at *
        obtain ⟨y0, y1, y2, y3, y4, y5, y6, y7, y8⟩ := rv_cells HQ0.out
        go_wp2_with fail
        refine (HM.out _).mono ?_
        rintro e wq ⟨rfl, rfl⟩
        go_wp2_with fail
        refine (HRW.out _).mono ?_
        rintro e w2 ⟨rfl, hc⟩
        replace HX0 := Lib.hid (HX0.out.trans hc (fun _ _ e => e))
        replace HQ0 := Lib.hid (HQ0.out.chg hc id)
        replace HR0 := Lib.hid (HR0.out.chg hc id)
        clear hc
        clear y0 y1 y2 y3 y4 y5 y6 y7 y8
        obtain ⟨y0, y1, y2, y3, y4, y5, y6, y7, y8⟩ := rv_cells HQ0.out
        go_wp2_with fail
        refine (hK.out _ HX0.out).mono ?_
        rintro e w3 ⟨rfl, hc⟩
        replace HX0 := Lib.hid (HX0.out.trans hc (fun _ _ e => e))
        replace HQ0 := Lib.hid (HQ0.out.chg hc id)
        replace HR0 := Lib.hid (HR0.out.chg hc id)
        clear hc
        clear y0 y1 y2 y3 y4 y5 y6 y7 y8
        replace HX0 := Lib.hid (HX0.out.alloc (.cells #[.int .i64 po_, .int .u64 ma_, .int .i64 ow_, .int .i64 ta_, .int .i64 ol_, .int .i64 ge_, .int .i64 ph_, .int .i64 ve_, .int .i64 si_] 33))
        replace HR0 := Lib.hid (HR0.out.alloc (.cells #[.int .i64 po_, .int .u64 ma_, .int .i64 ow_, .int .i64 ta_, .int .i64 ol_, .int .i64 ge_, .int .i64 ph_, .int .i64 ve_, .int .i64 si_] 33))
        replace HQ0 := Lib.hid (HQ0.out.alloc (.cells #[.int .i64 po_, .int .u64 ma_, .int .i64 ow_, .int .i64 ta_, .int .i64 ol_, .int .i64 ge_, .int .i64 ph_, .int .i64 ve_, .int .i64 si_] 33))
        go_upto_region 4 with fail
        generalize w3.alloc (.cells #[.int .i64 po_, .int .u64 ma_, .int .i64 ow_, .int .i64 ta_, .int .i64 ol_, .int .i64 ge_, .int .i64 ph_, .int .i64 ve_, .int .i64 si_] 33) = w4 at *
        obtain ⟨x0, x1, x2, x3, x4, x5, x6, x7, x8⟩ := rv_cells HR0.out
        obtain ⟨u0, u1, u2, u3, u4, u5, u6, u7, u8⟩ := rv_free9 HR0.out
        obtain ⟨r0, r1, r2, r3, r4, r5, r6, r7, r8, -, hcs⟩ := rv_put9 HR0.out 0 0 0 0 0 0 0 0 0
        have HF := Lib.hid (fresh_set HX0.out hcs (by omega))
        have RR := Lib.hid (And.intro r0 (And.intro r1 (And.intro r2 (And.intro r3 (And.intro r4 (And.intro r5 (And.intro r6 (And.intro r7 r8))))))))
        clear r0 r1 r2 r3 r4 r5 r6 r7 r8 hcs HR0 HX0
        go_wp2_with fail
        obtain ⟨r0, r1, r2, r3, r4, r5, r6, r7, r8⟩ := RR.out
        exact bodyPost_ret (v := .tuple #[.agg (rvC 0 0 0 0 0 0 0 0 0), .int .i64 er]) (by simp [results, Try.results90, go_sem, rvC, r0, r1, r2, r3, r4, r5, r6, r7, r8]) rfl ⟨rfl, HF.out⟩
      subst he
      rw [show fin9 ⟨po, ma, ow, ta, ol, ge, ph, ve, si⟩ now true (⟨po_, ma_, ow_, ta_, ol_, ge_, ph_, ve_, si_⟩, 0) = chk9 ⟨po_, ma_, ow_, ta_, ol_, ge_, ph_, ve + 1, now⟩ from by unfold fin9; rw [if_pos ⟨rfl, ht, h⟩]; exact if_pos rfl]
      have hck := fun W => checked_any po_ ma_ ow_ ta_ ol_ ge_ ph_ (ve + 1) now W
      obtain ⟨z0, z1, z2, z3, z4, z5, z6, z7, z8, ze, hz⟩ := num9 (r := chk9 ⟨po_, ma_, ow_, ta_, ol_, ge_, ph_, ve + 1, now⟩)
      rw [hz] at hck ⊢
      have HCK : Hid (∀ W, Calls _ _ _ W (HR9 z0 z1 z2 z3 z4 z5 z6 z7 z8 ze W)) := Lib.hid hck
      clear hck hz h ht
      have HQ0 : Blk ((w.alloc (.cells #[.int .i64 po, .int .u64 ma, .int .i64 ow, .int .i64 ta, .int .i64 ol, .int .i64 ge, .int .i64 ph, .int .i64 ve, .int .i64 si] 33)).alloc (.cells #[.int .i64 0, .int .u64 0, .int .i64 0, .int .i64 0, .int .i64 0, .int .i64 0, .int .i64 0, .int .i64 0, .int .i64 0] 33)) w.heap.size 33 (rvC po ma ow ta ol ge ph ve si) := (Blk.alloc (blk_new rfl) _)
      replace HQ0 := Lib.hid HQ0
      have HR0 : Blk ((w.alloc (.cells #[.int .i64 po, .int .u64 ma, .int .i64 ow, .int .i64 ta, .int .i64 ol, .int .i64 ge, .int .i64 ph, .int .i64 ve, .int .i64 si] 33)).alloc (.cells #[.int .i64 0, .int .u64 0, .int .i64 0, .int .i64 0, .int .i64 0, .int .i64 0, .int .i64 0, .int .i64 0, .int .i64 0] 33)) (w.heap.size + 1) 33 (rvC 0 0 0 0 0 0 0 0 0) := (blk_new (by simp))
      replace HR0 := Lib.hid HR0
      have HX0 := Lib.hid (((Chg.refl (fun _ => False) w).alloc (.cells #[.int .i64 po, .int .u64 ma, .int .i64 ow, .int .i64 ta, .int .i64 ol, .int .i64 ge, .int .i64 ph, .int .i64 ve, .int .i64 si] 33)).alloc (.cells #[.int .i64 0, .int .u64 0, .int .i64 0, .int .i64 0, .int .i64 0, .int .i64 0, .int .i64 0, .int .i64 0, .int .i64 0] 33))
      go_enter Try.func90, Try.ntmps90
      go_upto_region 1 with fail
      generalize ((w.alloc (.cells #[.int .i64 po, .int .u64 ma, .int .i64 ow, .int .i64 ta, .int .i64 ol, .int .i64 ge, .int .i64 ph, .int .i64 ve, .int .i64 si] 33)).alloc (.cells #[.int .i64 0, .int .u64 0, .int .i64 0, .int .i64 0, .int .i64 0, .int .i64 0, .int .i64 0, .int .i64 0, .int .i64 0] 33)) = w1 at *
      obtain ⟨y0, y1, y2, y3, y4, y5, y6, y7, y8⟩ := rv_cells HQ0.out
      go_wp2_with fail
      refine (HM.out _).mono ?_
      rintro e wq ⟨rfl, rfl⟩
      go_wp2_with fail
      refine (HRW.out _).mono ?_
      rintro e w2 ⟨rfl, hc⟩
      replace HX0 := Lib.hid (HX0.out.trans hc (fun _ _ e => e))
      replace HQ0 := Lib.hid (HQ0.out.chg hc id)
      replace HR0 := Lib.hid (HR0.out.chg hc id)
      clear hc
      clear y0 y1 y2 y3 y4 y5 y6 y7 y8
      obtain ⟨y0, y1, y2, y3, y4, y5, y6, y7, y8⟩ := rv_cells HQ0.out
      go_wp2_with fail
      refine (hK.out _ HX0.out).mono ?_
      rintro e w3 ⟨rfl, hc⟩
      replace HX0 := Lib.hid (HX0.out.trans hc (fun _ _ e => e))
      replace HQ0 := Lib.hid (HQ0.out.chg hc id)
      replace HR0 := Lib.hid (HR0.out.chg hc id)
      clear hc
      clear y0 y1 y2 y3 y4 y5 y6 y7 y8
      go_upto_region 4 with fail
      have hN := Lib.hid (Blk.new w3 33 #[.int .i64 po_, .int .u64 ma_, .int .i64 ow_, .int .i64 ta_, .int .i64 ol_, .int .i64 ge_, .int .i64 ph_, .int .i64 ve_, .int .i64 si_])
      have hsz := HX0.out.size
      have hg3 : w.heap.size + 2 ≤ w3.heap.size := by have := (Blk.lt HR0.out); omega
      generalize hgn : w3.heap.size = g at *
      replace HX0 := Lib.hid (HX0.out.alloc (.cells #[.int .i64 po_, .int .u64 ma_, .int .i64 ow_, .int .i64 ta_, .int .i64 ol_, .int .i64 ge_, .int .i64 ph_, .int .i64 ve_, .int .i64 si_] 33))
      replace HR0 := Lib.hid (HR0.out.alloc (.cells #[.int .i64 po_, .int .u64 ma_, .int .i64 ow_, .int .i64 ta_, .int .i64 ol_, .int .i64 ge_, .int .i64 ph_, .int .i64 ve_, .int .i64 si_] 33))
      replace HQ0 := Lib.hid (HQ0.out.alloc (.cells #[.int .i64 po_, .int .u64 ma_, .int .i64 ow_, .int .i64 ta_, .int .i64 ol_, .int .i64 ge_, .int .i64 ph_, .int .i64 ve_, .int .i64 si_] 33))
      replace hN : Hid (Blk _ g 33 (rvC po_ ma_ ow_ ta_ ol_ ge_ ph_ ve_ si_)) := hN
      clear hgn
      generalize w3.alloc (.cells #[.int .i64 po_, .int .u64 ma_, .int .i64 ow_, .int .i64 ta_, .int .i64 ol_, .int .i64 ge_, .int .i64 ph_, .int .i64 ve_, .int .i64 si_] 33) = w4 at *
      obtain ⟨-, -, -, -, -, -, -, q7, -⟩ := rv_cells HQ0.out
      have fhN0 := hN.out.frozen 7
      obtain ⟨-, -, -, -, -, -, -, yhN0_7, -⟩ := rv_cells hN.out
      replace hN := Lib.hid (rv_set7 hN.out (ve + 1))
      have fhN1 := hN.out.frozen 8
      obtain ⟨-, -, -, -, -, -, -, -, yhN1_8⟩ := rv_cells hN.out
      replace hN := Lib.hid (rv_set8 hN.out (now))
      have hcs := (((Chg.refl (fun k => k = g) w4).put g 7 (fun _ => rfl) (.int .i64 (ve + 1))).put g 8 (fun _ => rfl) (.int .i64 (now)))
      replace HR0 := Lib.hid (HR0.out.chg hcs (by omega))
      replace HX0 := Lib.hid (fresh_set HX0.out hcs (by first | exact Nat.le_refl _ | omega))
      clear hcs
      obtain ⟨y0, y1, y2, y3, y4, y5, y6, y7, y8⟩ := rv_cells hN.out
      go_wp2_with fail
      refine (HCK.out _).mono ?_
      rintro e w5 ⟨rfl, hc⟩
      replace HX0 := Lib.hid (HX0.out.trans hc (fun _ _ e => e))
      replace HR0 := Lib.hid (HR0.out.chg hc id)
      clear hc y0 y1 y2 y3 y4 y5 y6 y7 y8
      obtain ⟨x0, x1, x2, x3, x4, x5, x6, x7, x8⟩ := rv_cells HR0.out
      obtain ⟨u0, u1, u2, u3, u4, u5, u6, u7, u8⟩ := rv_free9 HR0.out
      obtain ⟨r0, r1, r2, r3, r4, r5, r6, r7, r8, -, hcs⟩ := rv_put9 HR0.out z0 z1 z2 z3 z4 z5 z6 z7 z8
      have HF := Lib.hid (fresh_set HX0.out hcs (by omega))
      have RR := Lib.hid (And.intro r0 (And.intro r1 (And.intro r2 (And.intro r3 (And.intro r4 (And.intro r5 (And.intro r6 (And.intro r7 r8))))))))
      clear r0 r1 r2 r3 r4 r5 r6 r7 r8 hcs HR0 HX0
      go_wp2_with fail
      obtain ⟨r0, r1, r2, r3, r4, r5, r6, r7, r8⟩ := RR.out
      exact bodyPost_ret (v := .tuple #[.agg (rvC z0 z1 z2 z3 z4 z5 z6 z7 z8), .int .i64 ze]) (by simp [results, Try.results90, go_sem, rvC, r0, r1, r2, r3, r4, r5, r6, r7, r8]) rfl ⟨rfl, HF.out⟩


end Go.Proofs.Ytbajcdmcjmkieaa
