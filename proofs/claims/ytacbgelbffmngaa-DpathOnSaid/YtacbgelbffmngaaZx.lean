/-
  Walk: dpath.Guest. Conditions: the load is read in memory; what the table tells of the frame's key.
-/
import Derived.Test.YtacbgelbffmngaaZv
import Derived.Test.YtacbgelbffmngaaFf
import Derived.Deep.RegionHeld3
import Derived.RegionTactic
namespace Go.Proofs.Ytacbgelbffmngaa
open Go.RowKit
set_option linter.unusedVariables false
set_option linter.unusedSimpArgs false

set_option maxRecDepth 100000 in
set_option maxHeartbeats 4000000 in
theorem guest15_bad (tp : Value) (d s t ch nu : Int) (A : Option Addr) (n c : Nat) (w : World) (hd : 0 ≤ d) (hs : 0 ≤ s) (hn : n ≤ 9223372036854775807) (hr : rightB d s t n = false) : Calls Try.prog 9 #[tp, .int .i64 ch, .agg #[.int .u64 d, .int .u64 s, .int .i64 t, .slice A n c], .int .i64 nu] w (HE15 zOV 1 w) := by
  have HEN := Lib.hid (fun W => encode_bad d s t A n c W hd hs hn hr)
  clear hr
  have HB0 : Hid (Blk ((w.alloc (.cells #[.int .u64 d, .int .u64 s, .int .i64 t, .slice A n c] 26)).alloc (.cells #[.int .i64 0, .int .i64 0, .int .i64 0, .int .i64 0, .slice none 0 0, .int .i64 0, .int .i64 0, .int .i64 0, .int .i64 0, .int .i64 0, .int .i64 0, .int .i64 0, .slice none 0 0] 39)) (w.heap.size) 26 (#[.int .u64 d, .int .u64 s, .int .i64 t, .slice A n c])) := Lib.hid (Blk.alloc (blk_new rfl) _)
  have HZ : Hid (Blk ((w.alloc (.cells #[.int .u64 d, .int .u64 s, .int .i64 t, .slice A n c] 26)).alloc (.cells #[.int .i64 0, .int .i64 0, .int .i64 0, .int .i64 0, .slice none 0 0, .int .i64 0, .int .i64 0, .int .i64 0, .int .i64 0, .int .i64 0, .int .i64 0, .int .i64 0, .slice none 0 0] 39)) (w.heap.size + 1) 39 (ouC15 0 0 0 0 none 0 0 0 0 0 0 0 0 0 none 0 0)) := Lib.hid (blk_new (by simp))
  have HX := Lib.hid (((Chg.refl (fun _ => False) w).alloc (.cells #[.int .u64 d, .int .u64 s, .int .i64 t, .slice A n c] 26)).alloc (.cells #[.int .i64 0, .int .i64 0, .int .i64 0, .int .i64 0, .slice none 0 0, .int .i64 0, .int .i64 0, .int .i64 0, .int .i64 0, .int .i64 0, .int .i64 0, .int .i64 0, .slice none 0 0] 39))
  have HQ : Hid (w.heap.size ≤ w.heap.size + 1) := Lib.hid (by omega)
  go_enter Try.func9, Try.ntmps9
  go_upto_region 1 with fail
  generalize (w.alloc (.cells #[.int .u64 d, .int .u64 s, .int .i64 t, .slice A n c] 26)).alloc (.cells #[.int .i64 0, .int .i64 0, .int .i64 0, .int .i64 0, .slice none 0 0, .int .i64 0, .int .i64 0, .int .i64 0, .int .i64 0, .int .i64 0, .int .i64 0, .int .i64 0, .slice none 0 0] 39) = w1 at *
  generalize w.heap.size + 1 = Q1 at *
  generalize w.heap.size = Q0 at HB0 ⊢
  have y0 := HB0.out.cell 0
  have y1 := HB0.out.cell 1
  have y2 := HB0.out.cell 2
  have y3 := HB0.out.cell 3
  simp only [List.getElem?_toArray, List.getElem?_cons_zero, List.getElem?_cons_succ] at y0 y1 y2 y3
  go_wp2_with fail
  refine (HEN.out _).mono ?_
  rintro e w2 ⟨rfl, hc⟩
  replace HZ := Lib.hid (HZ.out.chg hc id)
  replace HX := Lib.hid (HX.out.trans hc (fun _ _ e => e))
  clear hc
  clear y0 y1 y2 y3
  obtain ⟨x0, x1, x2, x3, x4, x5, x6, x7, x8, x9, x10, x11, x12⟩ := ou_cells15 HZ.out
  obtain ⟨f0, f1, f2, f3, f4, f5, f6, f7, f8, f9, f10, f11, f12⟩ := ou_free15 HZ.out
  obtain ⟨r0, r1, r2, r3, r4, r5, r6, r7, r8, r9, r10, r11, r12, hcs⟩ := ou_put15 HZ.out rfl 0 0 0 0 none 0 0 0 0 0 0 0 0 0 none 0 0
  have RR := Lib.hid (And.intro r0 (And.intro r1 (And.intro r2 (And.intro r3 (And.intro r4 (And.intro r5 (And.intro r6 (And.intro r7 (And.intro r8 (And.intro r9 (And.intro r10 (And.intro r11 r12))))))))))))
  have HF := Lib.hid (fresh_set HX.out hcs HQ.out)
  clear r0 r1 r2 r3 r4 r5 r6 r7 r8 r9 r10 r11 r12 hcs
  go_wp2_with fail
  obtain ⟨r0, r1, r2, r3, r4, r5, r6, r7, r8, r9, r10, r11, r12⟩ := RR.out
  exact bodyPost_ret (v := .tuple #[.agg #[.int .i64 0, .int .i64 0, .int .i64 0, .int .i64 0, .slice none 0 0, .int .i64 0, .int .i64 0, .int .i64 0, .int .i64 0, .int .i64 0, .int .i64 0, .int .i64 0, .slice none 0 0], .int .i64 1]) (by simp [results, Try.results9, go_sem, r0, r1, r2, r3, r4, r5, r6, r7, r8, r9, r10, r11, r12]) rfl ⟨none, 0, 0, none, 0, 0, rfl, BsM15.nil _, BsM15.nil _, HF.out⟩
set_option maxRecDepth 100000 in
set_option maxHeartbeats 8000000 in
theorem guest15_rng (tp : Value) (d s t ch nu : Int) (A : Option Addr) (n c : Nat) (w : World) (hd : 0 ≤ d) (hs : 0 ≤ s) (hn : n ≤ 9223372036854775807) (l : List UInt8) (h : BsM15 w A n c l) (hr : rightB d s t n = true) (hx : ch < 0 ∨ 15 < ch ∨ nu < 0 ∨ 1099511627776 < nu) : Calls Try.prog 9 #[tp, .int .i64 ch, .agg #[.int .u64 d, .int .u64 s, .int .i64 t, .slice A n c], .int .i64 nu] w (HE15 zOV 1 w) := by
  have HEN := Lib.hid (fun (W : World) (hW : Chg (fun _ => False) w W) => encode_ok d s t A n c l (fun _ => True) W h.2.1 (h.2.2.chg hW (fun _ _ => id)) hd hs hr)
  generalize hfb : frameB d s t l = fb at *
  have HFB := Lib.hid hfb
  clear h hr hfb
  have HB0 : Hid (Blk ((w.alloc (.cells #[.int .u64 d, .int .u64 s, .int .i64 t, .slice A n c] 26)).alloc (.cells #[.int .i64 0, .int .i64 0, .int .i64 0, .int .i64 0, .slice none 0 0, .int .i64 0, .int .i64 0, .int .i64 0, .int .i64 0, .int .i64 0, .int .i64 0, .int .i64 0, .slice none 0 0] 39)) (w.heap.size) 26 (#[.int .u64 d, .int .u64 s, .int .i64 t, .slice A n c])) := Lib.hid (Blk.alloc (blk_new rfl) _)
  have HZ : Hid (Blk ((w.alloc (.cells #[.int .u64 d, .int .u64 s, .int .i64 t, .slice A n c] 26)).alloc (.cells #[.int .i64 0, .int .i64 0, .int .i64 0, .int .i64 0, .slice none 0 0, .int .i64 0, .int .i64 0, .int .i64 0, .int .i64 0, .int .i64 0, .int .i64 0, .int .i64 0, .slice none 0 0] 39)) (w.heap.size + 1) 39 (ouC15 0 0 0 0 none 0 0 0 0 0 0 0 0 0 none 0 0)) := Lib.hid (blk_new (by simp))
  have HX := Lib.hid (((Chg.refl (fun _ => False) w).alloc (.cells #[.int .u64 d, .int .u64 s, .int .i64 t, .slice A n c] 26)).alloc (.cells #[.int .i64 0, .int .i64 0, .int .i64 0, .int .i64 0, .slice none 0 0, .int .i64 0, .int .i64 0, .int .i64 0, .int .i64 0, .int .i64 0, .int .i64 0, .int .i64 0, .slice none 0 0] 39))
  have HQ : Hid (w.heap.size ≤ w.heap.size + 1) := Lib.hid (by omega)
  by_cases h1 : ch < 0
  · skip
    clear hx
    go_enter Try.func9, Try.ntmps9
    go_upto_region 1 with fail
    generalize (w.alloc (.cells #[.int .u64 d, .int .u64 s, .int .i64 t, .slice A n c] 26)).alloc (.cells #[.int .i64 0, .int .i64 0, .int .i64 0, .int .i64 0, .slice none 0 0, .int .i64 0, .int .i64 0, .int .i64 0, .int .i64 0, .int .i64 0, .int .i64 0, .int .i64 0, .slice none 0 0] 39) = w1 at *
    generalize w.heap.size + 1 = Q1 at *
    generalize w.heap.size = Q0 at HB0 ⊢
    have y0 := HB0.out.cell 0
    have y1 := HB0.out.cell 1
    have y2 := HB0.out.cell 2
    have y3 := HB0.out.cell 3
    simp only [List.getElem?_toArray, List.getElem?_cons_zero, List.getElem?_cons_succ] at y0 y1 y2 y3
    go_wp2_with fail
    refine (HEN.out _ HX.out).mono ?_
    rintro e w2 ⟨A', k, c', rfl, hk, hz, hrd, hc⟩
    have HM := Lib.hid (show BsM15 w2 A' k c' fb from ⟨hz, hk, hrd.mono (fun _ _ => trivial)⟩)
    replace HZ := Lib.hid (HZ.out.chg hc id)
    replace HB0 := Lib.hid (HB0.out.chg hc id)
    replace HX := Lib.hid (HX.out.trans hc (fun _ _ e => e))
    clear y0 y1 y2 y3 hk hz hrd hc
    obtain ⟨x0, x1, x2, x3, x4, x5, x6, x7, x8, x9, x10, x11, x12⟩ := ou_cells15 HZ.out
    obtain ⟨f0, f1, f2, f3, f4, f5, f6, f7, f8, f9, f10, f11, f12⟩ := ou_free15 HZ.out
    obtain ⟨r0, r1, r2, r3, r4, r5, r6, r7, r8, r9, r10, r11, r12, hcs⟩ := ou_put15 HZ.out rfl 0 0 0 0 none 0 0 0 0 0 0 0 0 0 none 0 0
    have RR := Lib.hid (And.intro r0 (And.intro r1 (And.intro r2 (And.intro r3 (And.intro r4 (And.intro r5 (And.intro r6 (And.intro r7 (And.intro r8 (And.intro r9 (And.intro r10 (And.intro r11 r12))))))))))))
    have HF := Lib.hid (fresh_set HX.out hcs HQ.out)
    clear r0 r1 r2 r3 r4 r5 r6 r7 r8 r9 r10 r11 r12 hcs
    go_wp2_with fail
    obtain ⟨r0, r1, r2, r3, r4, r5, r6, r7, r8, r9, r10, r11, r12⟩ := RR.out
    exact bodyPost_ret (v := .tuple #[.agg #[.int .i64 0, .int .i64 0, .int .i64 0, .int .i64 0, .slice none 0 0, .int .i64 0, .int .i64 0, .int .i64 0, .int .i64 0, .int .i64 0, .int .i64 0, .int .i64 0, .slice none 0 0], .int .i64 1]) (by simp [results, Try.results9, go_sem, r0, r1, r2, r3, r4, r5, r6, r7, r8, r9, r10, r11, r12]) rfl ⟨none, 0, 0, none, 0, 0, rfl, BsM15.nil _, BsM15.nil _, HF.out⟩
  by_cases h2 : 16 ≤ ch
  · skip
    clear hx
    go_enter Try.func9, Try.ntmps9
    go_upto_region 1 with fail
    generalize (w.alloc (.cells #[.int .u64 d, .int .u64 s, .int .i64 t, .slice A n c] 26)).alloc (.cells #[.int .i64 0, .int .i64 0, .int .i64 0, .int .i64 0, .slice none 0 0, .int .i64 0, .int .i64 0, .int .i64 0, .int .i64 0, .int .i64 0, .int .i64 0, .int .i64 0, .slice none 0 0] 39) = w1 at *
    generalize w.heap.size + 1 = Q1 at *
    generalize w.heap.size = Q0 at HB0 ⊢
    have y0 := HB0.out.cell 0
    have y1 := HB0.out.cell 1
    have y2 := HB0.out.cell 2
    have y3 := HB0.out.cell 3
    simp only [List.getElem?_toArray, List.getElem?_cons_zero, List.getElem?_cons_succ] at y0 y1 y2 y3
    go_wp2_with fail
    refine (HEN.out _ HX.out).mono ?_
    rintro e w2 ⟨A', k, c', rfl, hk, hz, hrd, hc⟩
    have HM := Lib.hid (show BsM15 w2 A' k c' fb from ⟨hz, hk, hrd.mono (fun _ _ => trivial)⟩)
    replace HZ := Lib.hid (HZ.out.chg hc id)
    replace HB0 := Lib.hid (HB0.out.chg hc id)
    replace HX := Lib.hid (HX.out.trans hc (fun _ _ e => e))
    clear y0 y1 y2 y3 hk hz hrd hc
    obtain ⟨x0, x1, x2, x3, x4, x5, x6, x7, x8, x9, x10, x11, x12⟩ := ou_cells15 HZ.out
    obtain ⟨f0, f1, f2, f3, f4, f5, f6, f7, f8, f9, f10, f11, f12⟩ := ou_free15 HZ.out
    obtain ⟨r0, r1, r2, r3, r4, r5, r6, r7, r8, r9, r10, r11, r12, hcs⟩ := ou_put15 HZ.out rfl 0 0 0 0 none 0 0 0 0 0 0 0 0 0 none 0 0
    have RR := Lib.hid (And.intro r0 (And.intro r1 (And.intro r2 (And.intro r3 (And.intro r4 (And.intro r5 (And.intro r6 (And.intro r7 (And.intro r8 (And.intro r9 (And.intro r10 (And.intro r11 r12))))))))))))
    have HF := Lib.hid (fresh_set HX.out hcs HQ.out)
    clear r0 r1 r2 r3 r4 r5 r6 r7 r8 r9 r10 r11 r12 hcs
    go_wp2_with fail
    obtain ⟨r0, r1, r2, r3, r4, r5, r6, r7, r8, r9, r10, r11, r12⟩ := RR.out
    exact bodyPost_ret (v := .tuple #[.agg #[.int .i64 0, .int .i64 0, .int .i64 0, .int .i64 0, .slice none 0 0, .int .i64 0, .int .i64 0, .int .i64 0, .int .i64 0, .int .i64 0, .int .i64 0, .int .i64 0, .slice none 0 0], .int .i64 1]) (by simp [results, Try.results9, go_sem, r0, r1, r2, r3, r4, r5, r6, r7, r8, r9, r10, r11, r12]) rfl ⟨none, 0, 0, none, 0, 0, rfl, BsM15.nil _, BsM15.nil _, HF.out⟩
  by_cases h3 : nu < 0
  · skip
    clear hx
    go_enter Try.func9, Try.ntmps9
    go_upto_region 1 with fail
    generalize (w.alloc (.cells #[.int .u64 d, .int .u64 s, .int .i64 t, .slice A n c] 26)).alloc (.cells #[.int .i64 0, .int .i64 0, .int .i64 0, .int .i64 0, .slice none 0 0, .int .i64 0, .int .i64 0, .int .i64 0, .int .i64 0, .int .i64 0, .int .i64 0, .int .i64 0, .slice none 0 0] 39) = w1 at *
    generalize w.heap.size + 1 = Q1 at *
    generalize w.heap.size = Q0 at HB0 ⊢
    have y0 := HB0.out.cell 0
    have y1 := HB0.out.cell 1
    have y2 := HB0.out.cell 2
    have y3 := HB0.out.cell 3
    simp only [List.getElem?_toArray, List.getElem?_cons_zero, List.getElem?_cons_succ] at y0 y1 y2 y3
    go_wp2_with fail
    refine (HEN.out _ HX.out).mono ?_
    rintro e w2 ⟨A', k, c', rfl, hk, hz, hrd, hc⟩
    have HM := Lib.hid (show BsM15 w2 A' k c' fb from ⟨hz, hk, hrd.mono (fun _ _ => trivial)⟩)
    replace HZ := Lib.hid (HZ.out.chg hc id)
    replace HB0 := Lib.hid (HB0.out.chg hc id)
    replace HX := Lib.hid (HX.out.trans hc (fun _ _ e => e))
    clear y0 y1 y2 y3 hk hz hrd hc
    obtain ⟨x0, x1, x2, x3, x4, x5, x6, x7, x8, x9, x10, x11, x12⟩ := ou_cells15 HZ.out
    obtain ⟨f0, f1, f2, f3, f4, f5, f6, f7, f8, f9, f10, f11, f12⟩ := ou_free15 HZ.out
    obtain ⟨r0, r1, r2, r3, r4, r5, r6, r7, r8, r9, r10, r11, r12, hcs⟩ := ou_put15 HZ.out rfl 0 0 0 0 none 0 0 0 0 0 0 0 0 0 none 0 0
    have RR := Lib.hid (And.intro r0 (And.intro r1 (And.intro r2 (And.intro r3 (And.intro r4 (And.intro r5 (And.intro r6 (And.intro r7 (And.intro r8 (And.intro r9 (And.intro r10 (And.intro r11 r12))))))))))))
    have HF := Lib.hid (fresh_set HX.out hcs HQ.out)
    clear r0 r1 r2 r3 r4 r5 r6 r7 r8 r9 r10 r11 r12 hcs
    go_wp2_with fail
    obtain ⟨r0, r1, r2, r3, r4, r5, r6, r7, r8, r9, r10, r11, r12⟩ := RR.out
    exact bodyPost_ret (v := .tuple #[.agg #[.int .i64 0, .int .i64 0, .int .i64 0, .int .i64 0, .slice none 0 0, .int .i64 0, .int .i64 0, .int .i64 0, .int .i64 0, .int .i64 0, .int .i64 0, .int .i64 0, .slice none 0 0], .int .i64 1]) (by simp [results, Try.results9, go_sem, r0, r1, r2, r3, r4, r5, r6, r7, r8, r9, r10, r11, r12]) rfl ⟨none, 0, 0, none, 0, 0, rfl, BsM15.nil _, BsM15.nil _, HF.out⟩
  have h4 : 1099511627776 < nu := by omega
  clear hx
  go_enter Try.func9, Try.ntmps9
  go_upto_region 1 with fail
  generalize (w.alloc (.cells #[.int .u64 d, .int .u64 s, .int .i64 t, .slice A n c] 26)).alloc (.cells #[.int .i64 0, .int .i64 0, .int .i64 0, .int .i64 0, .slice none 0 0, .int .i64 0, .int .i64 0, .int .i64 0, .int .i64 0, .int .i64 0, .int .i64 0, .int .i64 0, .slice none 0 0] 39) = w1 at *
  generalize w.heap.size + 1 = Q1 at *
  generalize w.heap.size = Q0 at HB0 ⊢
  have y0 := HB0.out.cell 0
  have y1 := HB0.out.cell 1
  have y2 := HB0.out.cell 2
  have y3 := HB0.out.cell 3
  simp only [List.getElem?_toArray, List.getElem?_cons_zero, List.getElem?_cons_succ] at y0 y1 y2 y3
  go_wp2_with fail
  refine (HEN.out _ HX.out).mono ?_
  rintro e w2 ⟨A', k, c', rfl, hk, hz, hrd, hc⟩
  have HM := Lib.hid (show BsM15 w2 A' k c' fb from ⟨hz, hk, hrd.mono (fun _ _ => trivial)⟩)
  replace HZ := Lib.hid (HZ.out.chg hc id)
  replace HB0 := Lib.hid (HB0.out.chg hc id)
  replace HX := Lib.hid (HX.out.trans hc (fun _ _ e => e))
  clear y0 y1 y2 y3 hk hz hrd hc
  obtain ⟨x0, x1, x2, x3, x4, x5, x6, x7, x8, x9, x10, x11, x12⟩ := ou_cells15 HZ.out
  obtain ⟨f0, f1, f2, f3, f4, f5, f6, f7, f8, f9, f10, f11, f12⟩ := ou_free15 HZ.out
  obtain ⟨r0, r1, r2, r3, r4, r5, r6, r7, r8, r9, r10, r11, r12, hcs⟩ := ou_put15 HZ.out rfl 0 0 0 0 none 0 0 0 0 0 0 0 0 0 none 0 0
  have RR := Lib.hid (And.intro r0 (And.intro r1 (And.intro r2 (And.intro r3 (And.intro r4 (And.intro r5 (And.intro r6 (And.intro r7 (And.intro r8 (And.intro r9 (And.intro r10 (And.intro r11 r12))))))))))))
  have HF := Lib.hid (fresh_set HX.out hcs HQ.out)
  clear r0 r1 r2 r3 r4 r5 r6 r7 r8 r9 r10 r11 r12 hcs
  go_wp2_with fail
  obtain ⟨r0, r1, r2, r3, r4, r5, r6, r7, r8, r9, r10, r11, r12⟩ := RR.out
  exact bodyPost_ret (v := .tuple #[.agg #[.int .i64 0, .int .i64 0, .int .i64 0, .int .i64 0, .slice none 0 0, .int .i64 0, .int .i64 0, .int .i64 0, .int .i64 0, .int .i64 0, .int .i64 0, .int .i64 0, .slice none 0 0], .int .i64 1]) (by simp [results, Try.results9, go_sem, r0, r1, r2, r3, r4, r5, r6, r7, r8, r9, r10, r11, r12]) rfl ⟨none, 0, 0, none, 0, 0, rfl, BsM15.nil _, BsM15.nil _, HF.out⟩
set_option maxRecDepth 100000 in
set_option maxHeartbeats 8000000 in
theorem guest15_ok (tp : Value) (oe : Option En) (ak ap ao ag : Int) (hac : acO13 oe = acC ak ap ao ag) (d s t ch nu : Int) (A : Option Addr) (n c : Nat) (w : World) (hd : 0 ≤ d) (hs : 0 ≤ s) (hn : n ≤ 9223372036854775807) (l : List UInt8) (h : BsM15 w A n c l) (hl : ∀ W, Chg (fun _ => False) w W → Calls Try.prog 39 #[tp, .agg (kyC 0 d 0 0 (-1))] W (LkP13 oe W)) (hr : rightB d s t n = true) (h0 : 0 ≤ ch) (h1 : ch ≤ 15) (h2 : 0 ≤ nu) (h3 : nu ≤ 1099511627776) : Calls Try.prog 9 #[tp, .int .i64 ch, .agg #[.int .u64 d, .int .u64 s, .int .i64 t, .slice A n c], .int .i64 nu] w (HE15 (gu15 ch (frameB d s t l) nu ak ap ao ag) 0 w) := by
  have hlen : (frameB d s t l).length ≤ 9223372036854775807 := by
    have hn2 : n ≤ 1500 := by
      unfold rightB at hr
      simp only [Bool.and_eq_true, decide_eq_true_eq] at hr
      exact hr.2
    have h4 := h.2.1
    unfold frameB
    simp only [List.length_append, be_len]
    omega
  have HEN := Lib.hid (fun (W : World) (hW : Chg (fun _ => False) w W) => encode_ok d s t A n c l (fun _ => True) W h.2.1 (h.2.2.chg hW (fun _ _ => id)) hd hs hr)
  generalize hfb : frameB d s t l = fb at *
  have HFB := Lib.hid hfb
  clear h hr hfb
  have hbe := fun (W : World) (qc qi qb : Nat) (A' : Option Addr) (k c' : Nat) (hW : Chg (fun _ => False) w W) (g1 : Blk W qc 3 #[.int .i64 ch]) (g2 : Blk W qi 3 #[.int .i64 nu]) (g3 : Blk W qb 24 #[.slice A' k c']) (g4 : BsM15 W A' k c' fb) => becg15_any tp 0 d 0 0 (-1) oe ak ap ao ag hac ch nu qc qi qb A' k c' fb W (fun W2 h2 => hl W2 (hW.trans h2 (fun _ _ e => e))) (by have := g4.2.1; omega) g1 g2 g3 g4
  generalize gu15 ch fb nu ak ap ao ag = v at *
  have HBE := Lib.hid (fun (W : World) (qc qi qb : Nat) (hW : Chg (fun _ => False) w W) => @hbe W qc qi qb)
  clear hl hac hlen
  have HBEX := Lib.hid hbe
  clear HBE hbe
  have HB0 : Hid (Blk ((w.alloc (.cells #[.int .u64 d, .int .u64 s, .int .i64 t, .slice A n c] 26)).alloc (.cells #[.int .i64 0, .int .i64 0, .int .i64 0, .int .i64 0, .slice none 0 0, .int .i64 0, .int .i64 0, .int .i64 0, .int .i64 0, .int .i64 0, .int .i64 0, .int .i64 0, .slice none 0 0] 39)) (w.heap.size) 26 (#[.int .u64 d, .int .u64 s, .int .i64 t, .slice A n c])) := Lib.hid (Blk.alloc (blk_new rfl) _)
  have HZ : Hid (Blk ((w.alloc (.cells #[.int .u64 d, .int .u64 s, .int .i64 t, .slice A n c] 26)).alloc (.cells #[.int .i64 0, .int .i64 0, .int .i64 0, .int .i64 0, .slice none 0 0, .int .i64 0, .int .i64 0, .int .i64 0, .int .i64 0, .int .i64 0, .int .i64 0, .int .i64 0, .slice none 0 0] 39)) (w.heap.size + 1) 39 (ouC15 0 0 0 0 none 0 0 0 0 0 0 0 0 0 none 0 0)) := Lib.hid (blk_new (by simp))
  have HX := Lib.hid (((Chg.refl (fun _ => False) w).alloc (.cells #[.int .u64 d, .int .u64 s, .int .i64 t, .slice A n c] 26)).alloc (.cells #[.int .i64 0, .int .i64 0, .int .i64 0, .int .i64 0, .slice none 0 0, .int .i64 0, .int .i64 0, .int .i64 0, .int .i64 0, .int .i64 0, .int .i64 0, .int .i64 0, .slice none 0 0] 39))
  have HQ : Hid (w.heap.size ≤ w.heap.size + 1) := Lib.hid (by omega)
  have HN0 : Hid (¬ w.heap.size = w.heap.size + 1) := Lib.hid (by omega)
  go_enter Try.func9, Try.ntmps9
  go_upto_region 1 with fail
  generalize (w.alloc (.cells #[.int .u64 d, .int .u64 s, .int .i64 t, .slice A n c] 26)).alloc (.cells #[.int .i64 0, .int .i64 0, .int .i64 0, .int .i64 0, .slice none 0 0, .int .i64 0, .int .i64 0, .int .i64 0, .int .i64 0, .int .i64 0, .int .i64 0, .int .i64 0, .slice none 0 0] 39) = w1 at *
  generalize w.heap.size + 1 = Q1 at *
  generalize w.heap.size = Q0 at HB0 HN0 ⊢
  have y0 := HB0.out.cell 0
  have y1 := HB0.out.cell 1
  have y2 := HB0.out.cell 2
  have y3 := HB0.out.cell 3
  simp only [List.getElem?_toArray, List.getElem?_cons_zero, List.getElem?_cons_succ] at y0 y1 y2 y3
  go_wp2_with fail
  refine (HEN.out _ HX.out).mono ?_
  rintro e w2 ⟨A', k, c', rfl, hk, hz, hrd, hc⟩
  have HM := Lib.hid (show BsM15 w2 A' k c' fb from ⟨hz, hk, hrd.mono (fun _ _ => trivial)⟩)
  replace HZ := Lib.hid (HZ.out.chg hc id)
  replace HB0 := Lib.hid (HB0.out.chg hc id)
  replace HX := Lib.hid (HX.out.trans hc (fun _ _ e => e))
  clear y0 y1 y2 y3 hk hz hrd hc
  have HBE := Lib.hid (fun (W : World) (qc qi qb : Nat) (hW : Chg (fun _ => False) w W) (g1 : Blk W qc 3 #[.int .i64 ch]) (g2 : Blk W qi 3 #[.int .i64 nu]) (g3 : Blk W qb 24 #[.slice A' k c']) (g4 : BsM15 W A' k c' fb) => HBEX.out W qc qi qb A' k c' hW g1 g2 g3 g4)
  go_wp2_with fail
  have HKEEP : Hid (∀ W : World, Chg (fun k => k = Q1) w2 W → (W.cell? ⟨Q0, 0, none⟩ = some (.int .u64 d))) := Lib.hid (fun W hw => by
    have y0 := Blk.cell (HB0.out.chg hw HN0.out) 0
    simp only [List.getElem?_toArray, List.getElem?_cons_zero, List.getElem?_cons_succ] at y0
    exact y0
  )
  have HYA := Lib.hid (Chg.refl (fun k => k = Q1) w2).drew
  replace HX := Lib.hid HX.out.drew
  replace HZ := Lib.hid HZ.out.drew
  replace HM := Lib.hid (show BsM15 w2.drew A' k c' fb from HM.out)
  have y0 := HKEEP.out _ HYA.out
  go_region_held3 (fun w' => w'.cell? ⟨Q0, 0, none⟩ = some (.int .u64 d))
    (first | with_reducible exact HKEEP.out _ HYA.out | with_reducible exact HKEEP.out _ HYB.out | with_reducible exact HKEEP.out _ HYC.out | with_reducible exact HKEEP.out _ HYD.out | fail)
    (first
      | (go_at_call 24; (with_reducible refine (ofg15_any ch nu A' k c' _).mono ?_); rintro e w3 ⟨qc, qi, qb, rfl, hqc, hqi, hqb, hc⟩; have HYB := Lib.hid (HYA.out.trans (hc.mono (S' := fun k => k = Q1) (fun _ _ h => h.elim)) (fun _ _ e => e)); replace HZ := Lib.hid (HZ.out.chg hc id); replace HM := Lib.hid (HM.out.chg hc); replace HX := Lib.hid (HX.out.trans hc (fun _ _ e => e)); clear hc; have HB4 := Lib.hid hqc; have HB5 := Lib.hid hqi; have HB6 := Lib.hid hqb; clear hqc hqi hqb)
      | (go_at_call 23; (with_reducible refine (HBE.out _ _ _ _ HX.out HB4.out HB5.out HB6.out HM.out).mono ?_); rintro e w4 ⟨A2, n2, c2, A3, n3, c3, rfl, hm2, hm3, hc⟩; have HYC := Lib.hid (HYB.out.trans (hc.mono (S' := fun k => k = Q1) (fun _ _ h => h.elim)) (fun _ _ e => e)); replace HZ := Lib.hid (HZ.out.chg hc id); replace HX := Lib.hid (HX.out.trans hc (fun _ _ e => e)); clear hc; unfold ouC15; have HM2 := Lib.hid hm2; have HM3 := Lib.hid hm3; clear hm2 hm3; obtain ⟨x0, x1, x2, x3, x4, x5, x6, x7, x8, x9, x10, x11, x12⟩ := ou_cells15 HZ.out; obtain ⟨f0, f1, f2, f3, f4, f5, f6, f7, f8, f9, f10, f11, f12⟩ := ou_free15 HZ.out; obtain ⟨r0, r1, r2, r3, r4, r5, r6, r7, r8, r9, r10, r11, r12, hcs⟩ := ou_put15 HZ.out rfl v.kd v.po v.ge v.st A2 n2 c2 v.k v.o v.f v.t v.p v.g v.i A3 n3 c3; have RR := Lib.hid (And.intro r0 (And.intro r1 (And.intro r2 (And.intro r3 (And.intro r4 (And.intro r5 (And.intro r6 (And.intro r7 (And.intro r8 (And.intro r9 (And.intro r10 (And.intro r11 r12)))))))))))); have HF := Lib.hid (fresh_set HX.out hcs HQ.out); replace HM2 := Lib.hid (HM2.out.put HZ.out noU8_ou hcs); replace HM3 := Lib.hid (HM3.out.put HZ.out noU8_ou hcs); have HYD := Lib.hid (HYC.out.trans hcs (fun _ _ e => e)); clear r0 r1 r2 r3 r4 r5 r6 r7 r8 r9 r10 r11 r12 hcs)
      | fail)
  all_goals
    go_wp2_with fail
    obtain ⟨r0, r1, r2, r3, r4, r5, r6, r7, r8, r9, r10, r11, r12⟩ := RR.out
    exact bodyPost_ret (v := .tuple #[.agg #[.int .i64 v.kd, .int .i64 v.po, .int .i64 v.ge, .int .i64 v.st, .slice A2 n2 c2, .int .i64 v.k, .int .i64 v.o, .int .i64 v.f, .int .i64 v.t, .int .i64 v.p, .int .i64 v.g, .int .i64 v.i, .slice A3 n3 c3], .int .i64 0]) (by simp [results, Try.results9, go_sem, r0, r1, r2, r3, r4, r5, r6, r7, r8, r9, r10, r11, r12]) rfl ⟨A2, n2, c2, A3, n3, c3, rfl, HM2.out, HM3.out, HF.out⟩

end Go.Proofs.Ytacbgelbffmngaa
