/-
  Walk: the document's Guest. Conditions: the load is read in memory; what the entries tell of the frame's key.
-/
import Derived.Test.YtacbgelbffmngaaIa
import Derived.Test.YtacbgelbffmngaaYe
import Derived.Deep.RegionHeld3
import Derived.RegionTactic
namespace Go.Proofs.Ytacbgelbffmngaa
open Go.RowKit
set_option linter.unusedVariables false
set_option linter.unusedSimpArgs false

set_option maxRecDepth 100000 in
set_option maxHeartbeats 4000000 in
theorem rguest15_bad (sl : Value) (d s t ch nu : Int) (A : Option Addr) (n c : Nat) (w : World) (hd : 0 ≤ d) (hs : 0 ≤ s) (hn : n ≤ 9223372036854775807) (hr : rightB d s t n = false) : Calls Try.prog 10 #[sl, .int .i64 ch, .agg #[.int .u64 d, .int .u64 s, .int .i64 t, .slice A n c], .int .i64 nu] w (RE15 zOV 1 w) := by
  have hrt := fun W => rright_any d s t A n c W hd hs hn
  rw [hr] at hrt
  have HRT := Lib.hid hrt
  clear hrt
  clear hr
  have HB0 : Hid (Blk ((w.alloc (.cells #[.int .u64 d, .int .u64 s, .int .i64 t, .slice A n c] 26)).alloc (.cells #[.int .i64 0, .int .i64 0, .int .i64 0, .int .i64 0, .string ⟨#[]⟩, .int .i64 0, .int .i64 0, .int .i64 0, .int .i64 0, .int .i64 0, .int .i64 0, .int .i64 0, .slice none 0 0] 43)) (w.heap.size) 26 (#[.int .u64 d, .int .u64 s, .int .i64 t, .slice A n c])) := Lib.hid (Blk.alloc (blk_new rfl) _)
  have HZ : Hid (Blk ((w.alloc (.cells #[.int .u64 d, .int .u64 s, .int .i64 t, .slice A n c] 26)).alloc (.cells #[.int .i64 0, .int .i64 0, .int .i64 0, .int .i64 0, .string ⟨#[]⟩, .int .i64 0, .int .i64 0, .int .i64 0, .int .i64 0, .int .i64 0, .int .i64 0, .int .i64 0, .slice none 0 0] 43)) (w.heap.size + 1) 43 (roC15 0 0 0 0 ([]) 0 0 0 0 0 0 0 none 0 0)) := Lib.hid (blk_new (by simp))
  have HX := Lib.hid (((Chg.refl (fun _ => False) w).alloc (.cells #[.int .u64 d, .int .u64 s, .int .i64 t, .slice A n c] 26)).alloc (.cells #[.int .i64 0, .int .i64 0, .int .i64 0, .int .i64 0, .string ⟨#[]⟩, .int .i64 0, .int .i64 0, .int .i64 0, .int .i64 0, .int .i64 0, .int .i64 0, .int .i64 0, .slice none 0 0] 43))
  have HQ : Hid (w.heap.size ≤ w.heap.size + 1) := Lib.hid (by omega)
  go_enter Try.func10, Try.ntmps10
  go_upto_region 1 with fail
  generalize (w.alloc (.cells #[.int .u64 d, .int .u64 s, .int .i64 t, .slice A n c] 26)).alloc (.cells #[.int .i64 0, .int .i64 0, .int .i64 0, .int .i64 0, .string ⟨#[]⟩, .int .i64 0, .int .i64 0, .int .i64 0, .int .i64 0, .int .i64 0, .int .i64 0, .int .i64 0, .slice none 0 0] 43) = w1 at *
  generalize w.heap.size + 1 = Q1 at *
  generalize w.heap.size = Q0 at HB0 ⊢
  have y0 := HB0.out.cell 0
  have y1 := HB0.out.cell 1
  have y2 := HB0.out.cell 2
  have y3 := HB0.out.cell 3
  simp only [List.getElem?_toArray, List.getElem?_cons_zero, List.getElem?_cons_succ] at y0 y1 y2 y3
  go_wp2_with fail
  refine (HRT.out _).mono ?_
  rintro e w2 ⟨rfl, hc⟩
  replace HZ := Lib.hid (HZ.out.chg hc id)
  replace HB0 := Lib.hid (HB0.out.chg hc id)
  replace HX := Lib.hid (HX.out.trans hc (fun _ _ e => e))
  clear hc
  clear y0 y1 y2 y3
  have y0 := HB0.out.cell 0
  have y1 := HB0.out.cell 1
  have y2 := HB0.out.cell 2
  have y3 := HB0.out.cell 3
  simp only [List.getElem?_toArray, List.getElem?_cons_zero, List.getElem?_cons_succ] at y0 y1 y2 y3
  obtain ⟨x0, x1, x2, x3, x4, x5, x6, x7, x8, x9, x10, x11, x12⟩ := ro_cells15 HZ.out
  obtain ⟨f0, f1, f2, f3, f4, f5, f6, f7, f8, f9, f10, f11, f12⟩ := ou_free15 HZ.out
  obtain ⟨r0, r1, r2, r3, r4, r5, r6, r7, r8, r9, r10, r11, r12, hcs⟩ := ro_put15 HZ.out rfl 0 0 0 0 ([]) 0 0 0 0 0 0 0 none 0 0
  have RR := Lib.hid (And.intro r0 (And.intro r1 (And.intro r2 (And.intro r3 (And.intro r4 (And.intro r5 (And.intro r6 (And.intro r7 (And.intro r8 (And.intro r9 (And.intro r10 (And.intro r11 r12))))))))))))
  have HF := Lib.hid (fresh_set HX.out hcs HQ.out)
  clear r0 r1 r2 r3 r4 r5 r6 r7 r8 r9 r10 r11 r12 hcs
  go_wp2_with fail
  obtain ⟨r0, r1, r2, r3, r4, r5, r6, r7, r8, r9, r10, r11, r12⟩ := RR.out
  exact bodyPost_ret (v := .tuple #[.agg #[.int .i64 0, .int .i64 0, .int .i64 0, .int .i64 0, .string ⟨#[]⟩, .int .i64 0, .int .i64 0, .int .i64 0, .int .i64 0, .int .i64 0, .int .i64 0, .int .i64 0, .slice none 0 0], .int .i64 1]) (by simp [results, Try.results10, go_sem, r0, r1, r2, r3, r4, r5, r6, r7, r8, r9, r10, r11, r12]) rfl ⟨none, 0, 0, rfl, BsM15.nil _, HF.out⟩
set_option maxRecDepth 100000 in
set_option maxHeartbeats 8000000 in
theorem rguest15_rng (sl : Value) (d s t ch nu : Int) (A : Option Addr) (n c : Nat) (w : World) (hd : 0 ≤ d) (hs : 0 ≤ s) (hn : n ≤ 9223372036854775807) (hr : rightB d s t n = true) (hx : ch < 0 ∨ 15 < ch ∨ nu < 0 ∨ 1099511627776 < nu) : Calls Try.prog 10 #[sl, .int .i64 ch, .agg #[.int .u64 d, .int .u64 s, .int .i64 t, .slice A n c], .int .i64 nu] w (RE15 zOV 1 w) := by
  have hrt := fun W => rright_any d s t A n c W hd hs hn
  rw [hr] at hrt
  have HRT := Lib.hid hrt
  clear hrt
  clear hr
  have HB0 : Hid (Blk ((w.alloc (.cells #[.int .u64 d, .int .u64 s, .int .i64 t, .slice A n c] 26)).alloc (.cells #[.int .i64 0, .int .i64 0, .int .i64 0, .int .i64 0, .string ⟨#[]⟩, .int .i64 0, .int .i64 0, .int .i64 0, .int .i64 0, .int .i64 0, .int .i64 0, .int .i64 0, .slice none 0 0] 43)) (w.heap.size) 26 (#[.int .u64 d, .int .u64 s, .int .i64 t, .slice A n c])) := Lib.hid (Blk.alloc (blk_new rfl) _)
  have HZ : Hid (Blk ((w.alloc (.cells #[.int .u64 d, .int .u64 s, .int .i64 t, .slice A n c] 26)).alloc (.cells #[.int .i64 0, .int .i64 0, .int .i64 0, .int .i64 0, .string ⟨#[]⟩, .int .i64 0, .int .i64 0, .int .i64 0, .int .i64 0, .int .i64 0, .int .i64 0, .int .i64 0, .slice none 0 0] 43)) (w.heap.size + 1) 43 (roC15 0 0 0 0 ([]) 0 0 0 0 0 0 0 none 0 0)) := Lib.hid (blk_new (by simp))
  have HX := Lib.hid (((Chg.refl (fun _ => False) w).alloc (.cells #[.int .u64 d, .int .u64 s, .int .i64 t, .slice A n c] 26)).alloc (.cells #[.int .i64 0, .int .i64 0, .int .i64 0, .int .i64 0, .string ⟨#[]⟩, .int .i64 0, .int .i64 0, .int .i64 0, .int .i64 0, .int .i64 0, .int .i64 0, .int .i64 0, .slice none 0 0] 43))
  have HQ : Hid (w.heap.size ≤ w.heap.size + 1) := Lib.hid (by omega)
  by_cases h1 : ch < 0
  · skip
    clear hx
    go_enter Try.func10, Try.ntmps10
    go_upto_region 1 with fail
    generalize (w.alloc (.cells #[.int .u64 d, .int .u64 s, .int .i64 t, .slice A n c] 26)).alloc (.cells #[.int .i64 0, .int .i64 0, .int .i64 0, .int .i64 0, .string ⟨#[]⟩, .int .i64 0, .int .i64 0, .int .i64 0, .int .i64 0, .int .i64 0, .int .i64 0, .int .i64 0, .slice none 0 0] 43) = w1 at *
    generalize w.heap.size + 1 = Q1 at *
    generalize w.heap.size = Q0 at HB0 ⊢
    have y0 := HB0.out.cell 0
    have y1 := HB0.out.cell 1
    have y2 := HB0.out.cell 2
    have y3 := HB0.out.cell 3
    simp only [List.getElem?_toArray, List.getElem?_cons_zero, List.getElem?_cons_succ] at y0 y1 y2 y3
    go_wp2_with fail
    refine (HRT.out _).mono ?_
    rintro e w2 ⟨rfl, hc⟩
    replace HZ := Lib.hid (HZ.out.chg hc id)
    replace HB0 := Lib.hid (HB0.out.chg hc id)
    replace HX := Lib.hid (HX.out.trans hc (fun _ _ e => e))
    clear hc
    clear y0 y1 y2 y3
    have y0 := HB0.out.cell 0
    have y1 := HB0.out.cell 1
    have y2 := HB0.out.cell 2
    have y3 := HB0.out.cell 3
    simp only [List.getElem?_toArray, List.getElem?_cons_zero, List.getElem?_cons_succ] at y0 y1 y2 y3
    obtain ⟨x0, x1, x2, x3, x4, x5, x6, x7, x8, x9, x10, x11, x12⟩ := ro_cells15 HZ.out
    obtain ⟨f0, f1, f2, f3, f4, f5, f6, f7, f8, f9, f10, f11, f12⟩ := ou_free15 HZ.out
    obtain ⟨r0, r1, r2, r3, r4, r5, r6, r7, r8, r9, r10, r11, r12, hcs⟩ := ro_put15 HZ.out rfl 0 0 0 0 ([]) 0 0 0 0 0 0 0 none 0 0
    have RR := Lib.hid (And.intro r0 (And.intro r1 (And.intro r2 (And.intro r3 (And.intro r4 (And.intro r5 (And.intro r6 (And.intro r7 (And.intro r8 (And.intro r9 (And.intro r10 (And.intro r11 r12))))))))))))
    have HF := Lib.hid (fresh_set HX.out hcs HQ.out)
    clear r0 r1 r2 r3 r4 r5 r6 r7 r8 r9 r10 r11 r12 hcs
    go_wp2_with fail
    obtain ⟨r0, r1, r2, r3, r4, r5, r6, r7, r8, r9, r10, r11, r12⟩ := RR.out
    exact bodyPost_ret (v := .tuple #[.agg #[.int .i64 0, .int .i64 0, .int .i64 0, .int .i64 0, .string ⟨#[]⟩, .int .i64 0, .int .i64 0, .int .i64 0, .int .i64 0, .int .i64 0, .int .i64 0, .int .i64 0, .slice none 0 0], .int .i64 1]) (by simp [results, Try.results10, go_sem, r0, r1, r2, r3, r4, r5, r6, r7, r8, r9, r10, r11, r12]) rfl ⟨none, 0, 0, rfl, BsM15.nil _, HF.out⟩
  by_cases h2 : 15 < ch
  · skip
    clear hx
    go_enter Try.func10, Try.ntmps10
    go_upto_region 1 with fail
    generalize (w.alloc (.cells #[.int .u64 d, .int .u64 s, .int .i64 t, .slice A n c] 26)).alloc (.cells #[.int .i64 0, .int .i64 0, .int .i64 0, .int .i64 0, .string ⟨#[]⟩, .int .i64 0, .int .i64 0, .int .i64 0, .int .i64 0, .int .i64 0, .int .i64 0, .int .i64 0, .slice none 0 0] 43) = w1 at *
    generalize w.heap.size + 1 = Q1 at *
    generalize w.heap.size = Q0 at HB0 ⊢
    have y0 := HB0.out.cell 0
    have y1 := HB0.out.cell 1
    have y2 := HB0.out.cell 2
    have y3 := HB0.out.cell 3
    simp only [List.getElem?_toArray, List.getElem?_cons_zero, List.getElem?_cons_succ] at y0 y1 y2 y3
    go_wp2_with fail
    refine (HRT.out _).mono ?_
    rintro e w2 ⟨rfl, hc⟩
    replace HZ := Lib.hid (HZ.out.chg hc id)
    replace HB0 := Lib.hid (HB0.out.chg hc id)
    replace HX := Lib.hid (HX.out.trans hc (fun _ _ e => e))
    clear hc
    clear y0 y1 y2 y3
    have y0 := HB0.out.cell 0
    have y1 := HB0.out.cell 1
    have y2 := HB0.out.cell 2
    have y3 := HB0.out.cell 3
    simp only [List.getElem?_toArray, List.getElem?_cons_zero, List.getElem?_cons_succ] at y0 y1 y2 y3
    obtain ⟨x0, x1, x2, x3, x4, x5, x6, x7, x8, x9, x10, x11, x12⟩ := ro_cells15 HZ.out
    obtain ⟨f0, f1, f2, f3, f4, f5, f6, f7, f8, f9, f10, f11, f12⟩ := ou_free15 HZ.out
    obtain ⟨r0, r1, r2, r3, r4, r5, r6, r7, r8, r9, r10, r11, r12, hcs⟩ := ro_put15 HZ.out rfl 0 0 0 0 ([]) 0 0 0 0 0 0 0 none 0 0
    have RR := Lib.hid (And.intro r0 (And.intro r1 (And.intro r2 (And.intro r3 (And.intro r4 (And.intro r5 (And.intro r6 (And.intro r7 (And.intro r8 (And.intro r9 (And.intro r10 (And.intro r11 r12))))))))))))
    have HF := Lib.hid (fresh_set HX.out hcs HQ.out)
    clear r0 r1 r2 r3 r4 r5 r6 r7 r8 r9 r10 r11 r12 hcs
    go_wp2_with fail
    obtain ⟨r0, r1, r2, r3, r4, r5, r6, r7, r8, r9, r10, r11, r12⟩ := RR.out
    exact bodyPost_ret (v := .tuple #[.agg #[.int .i64 0, .int .i64 0, .int .i64 0, .int .i64 0, .string ⟨#[]⟩, .int .i64 0, .int .i64 0, .int .i64 0, .int .i64 0, .int .i64 0, .int .i64 0, .int .i64 0, .slice none 0 0], .int .i64 1]) (by simp [results, Try.results10, go_sem, r0, r1, r2, r3, r4, r5, r6, r7, r8, r9, r10, r11, r12]) rfl ⟨none, 0, 0, rfl, BsM15.nil _, HF.out⟩
  by_cases h3 : nu < 0
  · skip
    clear hx
    go_enter Try.func10, Try.ntmps10
    go_upto_region 1 with fail
    generalize (w.alloc (.cells #[.int .u64 d, .int .u64 s, .int .i64 t, .slice A n c] 26)).alloc (.cells #[.int .i64 0, .int .i64 0, .int .i64 0, .int .i64 0, .string ⟨#[]⟩, .int .i64 0, .int .i64 0, .int .i64 0, .int .i64 0, .int .i64 0, .int .i64 0, .int .i64 0, .slice none 0 0] 43) = w1 at *
    generalize w.heap.size + 1 = Q1 at *
    generalize w.heap.size = Q0 at HB0 ⊢
    have y0 := HB0.out.cell 0
    have y1 := HB0.out.cell 1
    have y2 := HB0.out.cell 2
    have y3 := HB0.out.cell 3
    simp only [List.getElem?_toArray, List.getElem?_cons_zero, List.getElem?_cons_succ] at y0 y1 y2 y3
    go_wp2_with fail
    refine (HRT.out _).mono ?_
    rintro e w2 ⟨rfl, hc⟩
    replace HZ := Lib.hid (HZ.out.chg hc id)
    replace HB0 := Lib.hid (HB0.out.chg hc id)
    replace HX := Lib.hid (HX.out.trans hc (fun _ _ e => e))
    clear hc
    clear y0 y1 y2 y3
    have y0 := HB0.out.cell 0
    have y1 := HB0.out.cell 1
    have y2 := HB0.out.cell 2
    have y3 := HB0.out.cell 3
    simp only [List.getElem?_toArray, List.getElem?_cons_zero, List.getElem?_cons_succ] at y0 y1 y2 y3
    obtain ⟨x0, x1, x2, x3, x4, x5, x6, x7, x8, x9, x10, x11, x12⟩ := ro_cells15 HZ.out
    obtain ⟨f0, f1, f2, f3, f4, f5, f6, f7, f8, f9, f10, f11, f12⟩ := ou_free15 HZ.out
    obtain ⟨r0, r1, r2, r3, r4, r5, r6, r7, r8, r9, r10, r11, r12, hcs⟩ := ro_put15 HZ.out rfl 0 0 0 0 ([]) 0 0 0 0 0 0 0 none 0 0
    have RR := Lib.hid (And.intro r0 (And.intro r1 (And.intro r2 (And.intro r3 (And.intro r4 (And.intro r5 (And.intro r6 (And.intro r7 (And.intro r8 (And.intro r9 (And.intro r10 (And.intro r11 r12))))))))))))
    have HF := Lib.hid (fresh_set HX.out hcs HQ.out)
    clear r0 r1 r2 r3 r4 r5 r6 r7 r8 r9 r10 r11 r12 hcs
    go_wp2_with fail
    obtain ⟨r0, r1, r2, r3, r4, r5, r6, r7, r8, r9, r10, r11, r12⟩ := RR.out
    exact bodyPost_ret (v := .tuple #[.agg #[.int .i64 0, .int .i64 0, .int .i64 0, .int .i64 0, .string ⟨#[]⟩, .int .i64 0, .int .i64 0, .int .i64 0, .int .i64 0, .int .i64 0, .int .i64 0, .int .i64 0, .slice none 0 0], .int .i64 1]) (by simp [results, Try.results10, go_sem, r0, r1, r2, r3, r4, r5, r6, r7, r8, r9, r10, r11, r12]) rfl ⟨none, 0, 0, rfl, BsM15.nil _, HF.out⟩
  have h4 : 1099511627776 < nu := by omega
  clear hx
  go_enter Try.func10, Try.ntmps10
  go_upto_region 1 with fail
  generalize (w.alloc (.cells #[.int .u64 d, .int .u64 s, .int .i64 t, .slice A n c] 26)).alloc (.cells #[.int .i64 0, .int .i64 0, .int .i64 0, .int .i64 0, .string ⟨#[]⟩, .int .i64 0, .int .i64 0, .int .i64 0, .int .i64 0, .int .i64 0, .int .i64 0, .int .i64 0, .slice none 0 0] 43) = w1 at *
  generalize w.heap.size + 1 = Q1 at *
  generalize w.heap.size = Q0 at HB0 ⊢
  have y0 := HB0.out.cell 0
  have y1 := HB0.out.cell 1
  have y2 := HB0.out.cell 2
  have y3 := HB0.out.cell 3
  simp only [List.getElem?_toArray, List.getElem?_cons_zero, List.getElem?_cons_succ] at y0 y1 y2 y3
  go_wp2_with fail
  refine (HRT.out _).mono ?_
  rintro e w2 ⟨rfl, hc⟩
  replace HZ := Lib.hid (HZ.out.chg hc id)
  replace HB0 := Lib.hid (HB0.out.chg hc id)
  replace HX := Lib.hid (HX.out.trans hc (fun _ _ e => e))
  clear hc
  clear y0 y1 y2 y3
  have y0 := HB0.out.cell 0
  have y1 := HB0.out.cell 1
  have y2 := HB0.out.cell 2
  have y3 := HB0.out.cell 3
  simp only [List.getElem?_toArray, List.getElem?_cons_zero, List.getElem?_cons_succ] at y0 y1 y2 y3
  obtain ⟨x0, x1, x2, x3, x4, x5, x6, x7, x8, x9, x10, x11, x12⟩ := ro_cells15 HZ.out
  obtain ⟨f0, f1, f2, f3, f4, f5, f6, f7, f8, f9, f10, f11, f12⟩ := ou_free15 HZ.out
  obtain ⟨r0, r1, r2, r3, r4, r5, r6, r7, r8, r9, r10, r11, r12, hcs⟩ := ro_put15 HZ.out rfl 0 0 0 0 ([]) 0 0 0 0 0 0 0 none 0 0
  have RR := Lib.hid (And.intro r0 (And.intro r1 (And.intro r2 (And.intro r3 (And.intro r4 (And.intro r5 (And.intro r6 (And.intro r7 (And.intro r8 (And.intro r9 (And.intro r10 (And.intro r11 r12))))))))))))
  have HF := Lib.hid (fresh_set HX.out hcs HQ.out)
  clear r0 r1 r2 r3 r4 r5 r6 r7 r8 r9 r10 r11 r12 hcs
  go_wp2_with fail
  obtain ⟨r0, r1, r2, r3, r4, r5, r6, r7, r8, r9, r10, r11, r12⟩ := RR.out
  exact bodyPost_ret (v := .tuple #[.agg #[.int .i64 0, .int .i64 0, .int .i64 0, .int .i64 0, .string ⟨#[]⟩, .int .i64 0, .int .i64 0, .int .i64 0, .int .i64 0, .int .i64 0, .int .i64 0, .int .i64 0, .slice none 0 0], .int .i64 1]) (by simp [results, Try.results10, go_sem, r0, r1, r2, r3, r4, r5, r6, r7, r8, r9, r10, r11, r12]) rfl ⟨none, 0, 0, rfl, BsM15.nil _, HF.out⟩
set_option maxRecDepth 100000 in
set_option maxHeartbeats 8000000 in
theorem rguest15_ok (sl : Value) (oe : Option En) (ak ap ao ag : Int) (hac : acO13 oe = acC ak ap ao ag) (d s t ch nu : Int) (A : Option Addr) (n c : Nat) (w : World) (hd : 0 ≤ d) (hs : 0 ≤ s) (hn : n ≤ 9223372036854775807) (l : List UInt8) (h : BsM15 w A n c l) (hl : ∀ W, Chg (fun _ => False) w W → Calls Try.prog 25 #[sl, .agg (kyC 0 d 0 0 (-1))] W (LkP13 oe W)) (hr : rightB d s t n = true) (h0 : 0 ≤ ch) (h1 : ch ≤ 15) (h2 : 0 ≤ nu) (h3 : nu ≤ 1099511627776) : Calls Try.prog 10 #[sl, .int .i64 ch, .agg #[.int .u64 d, .int .u64 s, .int .i64 t, .slice A n c], .int .i64 nu] w (RE15 (gu15 ch (frameB d s t l) nu ak ap ao ag) 0 w) := by
  have hrp : d ≤ 281474976710655 ∧ s ≤ 281474976710655 ∧ 0 ≤ t ∧ t ≤ 65535 ∧ n ≤ 1500 := by
    unfold rightB at hr
    simp only [Bool.and_eq_true, decide_eq_true_eq] at hr
    obtain ⟨⟨⟨⟨r1, r2⟩, r3⟩, r4⟩, r5⟩ := hr
    exact ⟨r1, r2, r3, r4, r5⟩
  obtain ⟨hd2, hs2, ht, ht2, hn2⟩ := hrp
  have HLEN := Lib.hid (show (frameB d s t l).length ≤ 9223372036854775807 ∧ 1 ≤ (frameB d s t l).length by
    have h4 := h.2.1
    unfold frameB
    simp only [List.length_append, be_len]
    omega)
  have HBY := Lib.hid (fun (W : World) (hW : Chg (fun _ => False) w W) => rbytes2_any d s t A n c l (fun _ => True) W h.2.1 (h.2.2.chg hW (fun _ _ => id)) hd hd2 hs hs2 ht ht2 hn2)
  have hl2 := hl
  unfold LkP13 at hl2
  rw [hac] at hl2
  generalize oe.isSome = bb at *
  unfold kyC acC at hl2
  have HLK := Lib.hid hl2
  have hrt := fun W => rright_any d s t A n c W hd hs hn
  rw [hr] at hrt
  have HRT := Lib.hid hrt
  clear hrt
  generalize frameB d s t l = fb at *
  generalize hv : gu15 ch fb nu ak ap ao ag = v
  have HV := Lib.hid hv
  clear hv hl2 hl hac hr h hd2 hs2 ht ht2 hn2
  have HB0 : Hid (Blk ((w.alloc (.cells #[.int .u64 d, .int .u64 s, .int .i64 t, .slice A n c] 26)).alloc (.cells #[.int .i64 0, .int .i64 0, .int .i64 0, .int .i64 0, .string ⟨#[]⟩, .int .i64 0, .int .i64 0, .int .i64 0, .int .i64 0, .int .i64 0, .int .i64 0, .int .i64 0, .slice none 0 0] 43)) (w.heap.size) 26 (#[.int .u64 d, .int .u64 s, .int .i64 t, .slice A n c])) := Lib.hid (Blk.alloc (blk_new rfl) _)
  have HZ : Hid (Blk ((w.alloc (.cells #[.int .u64 d, .int .u64 s, .int .i64 t, .slice A n c] 26)).alloc (.cells #[.int .i64 0, .int .i64 0, .int .i64 0, .int .i64 0, .string ⟨#[]⟩, .int .i64 0, .int .i64 0, .int .i64 0, .int .i64 0, .int .i64 0, .int .i64 0, .int .i64 0, .slice none 0 0] 43)) (w.heap.size + 1) 43 (roC15 0 0 0 0 ([]) 0 0 0 0 0 0 0 none 0 0)) := Lib.hid (blk_new (by simp))
  have HX := Lib.hid (((Chg.refl (fun _ => False) w).alloc (.cells #[.int .u64 d, .int .u64 s, .int .i64 t, .slice A n c] 26)).alloc (.cells #[.int .i64 0, .int .i64 0, .int .i64 0, .int .i64 0, .string ⟨#[]⟩, .int .i64 0, .int .i64 0, .int .i64 0, .int .i64 0, .int .i64 0, .int .i64 0, .int .i64 0, .slice none 0 0] 43))
  have HQ : Hid (w.heap.size ≤ w.heap.size + 1) := Lib.hid (by omega)
  go_enter Try.func10, Try.ntmps10
  go_upto_region 1 with fail
  generalize (w.alloc (.cells #[.int .u64 d, .int .u64 s, .int .i64 t, .slice A n c] 26)).alloc (.cells #[.int .i64 0, .int .i64 0, .int .i64 0, .int .i64 0, .string ⟨#[]⟩, .int .i64 0, .int .i64 0, .int .i64 0, .int .i64 0, .int .i64 0, .int .i64 0, .int .i64 0, .slice none 0 0] 43) = w1 at *
  generalize w.heap.size + 1 = Q1 at *
  generalize w.heap.size = Q0 at HB0 ⊢
  have y0 := HB0.out.cell 0
  have y1 := HB0.out.cell 1
  have y2 := HB0.out.cell 2
  have y3 := HB0.out.cell 3
  simp only [List.getElem?_toArray, List.getElem?_cons_zero, List.getElem?_cons_succ] at y0 y1 y2 y3
  go_wp2_with fail
  refine (HRT.out _).mono ?_
  rintro e w2 ⟨rfl, hc⟩
  replace HZ := Lib.hid (HZ.out.chg hc id)
  replace HB0 := Lib.hid (HB0.out.chg hc id)
  replace HX := Lib.hid (HX.out.trans hc (fun _ _ e => e))
  clear hc
  clear y0 y1 y2 y3
  have y0 := HB0.out.cell 0
  have y1 := HB0.out.cell 1
  have y2 := HB0.out.cell 2
  have y3 := HB0.out.cell 3
  simp only [List.getElem?_toArray, List.getElem?_cons_zero, List.getElem?_cons_succ] at y0 y1 y2 y3
  go_wp2_with fail
  refine (HBY.out _ HX.out).mono ?_
  rintro e w3 ⟨A', k, c', rfl, hrd, hc⟩
  have hk : k = fb.length := by have := hrd.1; rw [bcs_len] at this; omega
  have HM := Lib.hid (show BsM15 w3 A' k c' fb from ⟨rds_nil_ok hrd (by have := HLEN.out; omega), hk, hrd.mono (fun _ _ => trivial)⟩)
  replace HZ := Lib.hid (HZ.out.chg hc id)
  replace HB0 := Lib.hid (HB0.out.chg hc id)
  replace HX := Lib.hid (HX.out.trans hc (fun _ _ e => e))
  clear y0 y1 y2 y3 hrd hk hc
  have y0 := HB0.out.cell 0
  have y1 := HB0.out.cell 1
  have y2 := HB0.out.cell 2
  have y3 := HB0.out.cell 3
  simp only [List.getElem?_toArray, List.getElem?_cons_zero, List.getElem?_cons_succ] at y0 y1 y2 y3
  go_wp2_with fail
  refine (HLK.out _ HX.out).mono ?_
  rintro e w4 ⟨rfl, hc⟩
  have hca := hc.alloc (.cells #[.int .i64 ak, .int .i64 ap, .int .i64 ao, .int .i64 ag] 82)
  have HB3 : Hid (Blk (w4.alloc (.cells #[.int .i64 ak, .int .i64 ap, .int .i64 ao, .int .i64 ag] 82)) w4.heap.size 82 (acC ak ap ao ag)) := Lib.hid (blk_new rfl)
  replace HZ := Lib.hid (HZ.out.chg hca id)
  replace HM := Lib.hid (HM.out.chg hca)
  replace HX := Lib.hid (HX.out.trans hca (fun _ _ e => e))
  clear hc hca y0 y1 y2 y3 HB0
  go_upto_region 6 with fail
  generalize w4.alloc (.cells #[.int .i64 ak, .int .i64 ap, .int .i64 ao, .int .i64 ag] 82) = v4 at *
  generalize w4.heap.size = Q3 at *
  by_cases hx1 : ak = 1
  · subst hx1
    obtain rfl : v = dlv15 ap ag ag fb := HV.out.symm
    obtain ⟨a0, a1, a2, a3⟩ := ac_cells13 HB3.out
    have hcv := conv_any (c := c') HM.out.2.2
    obtain ⟨x0, x1, x2, x3, x4, x5, x6, x7, x8, x9, x10, x11, x12⟩ := ro_cells15 HZ.out
    obtain ⟨f0, f1, f2, f3, f4, f5, f6, f7, f8, f9, f10, f11, f12⟩ := ou_free15 HZ.out
    obtain ⟨r0, r1, r2, r3, r4, r5, r6, r7, r8, r9, r10, r11, r12, hcs⟩ := ro_put15 HZ.out rfl 1 ap ag ag fb 0 0 0 0 0 0 0 none 0 0
    have RR := Lib.hid (And.intro r0 (And.intro r1 (And.intro r2 (And.intro r3 (And.intro r4 (And.intro r5 (And.intro r6 (And.intro r7 (And.intro r8 (And.intro r9 (And.intro r10 (And.intro r11 r12))))))))))))
    have HF := Lib.hid (fresh_set HX.out hcs HQ.out)
    clear r0 r1 r2 r3 r4 r5 r6 r7 r8 r9 r10 r11 r12 hcs
    go_wp2_with fail
    obtain ⟨r0, r1, r2, r3, r4, r5, r6, r7, r8, r9, r10, r11, r12⟩ := RR.out
    exact bodyPost_ret (v := .tuple #[.agg #[.int .i64 1, .int .i64 ap, .int .i64 ag, .int .i64 ag, .string ⟨fb.toArray⟩, .int .i64 0, .int .i64 0, .int .i64 0, .int .i64 0, .int .i64 0, .int .i64 0, .int .i64 0, .slice none 0 0], .int .i64 0]) (by simp [results, Try.results10, go_sem, r0, r1, r2, r3, r4, r5, r6, r7, r8, r9, r10, r11, r12]) rfl ⟨none, 0, 0, rfl, BsM15.nil _, HF.out⟩
  by_cases hx2 : ak = 2
  · subst hx2
    clear hx1
    have hs2 := fun (W : World) (hW : BsM15 W A' k c' fb) => rsent15_any 1 ch ch ao ap ag nu A' k c' fb W (by have := hW.2.1; have := HLEN.out; omega) hW
    rw [show snt15 1 ch ch ao ap ag nu fb = v from HV.out] at hs2
    have HS := Lib.hid hs2
    clear hs2
    obtain ⟨a0, a1, a2, a3⟩ := ac_cells13 HB3.out
    go_wp2_with fail
    refine (HS.out _ HM.out).mono ?_
    rintro e w5 ⟨A3, n3, c3, rfl, hm3, hc⟩
    unfold roC15
    have HM3 := Lib.hid hm3
    replace HZ := Lib.hid (HZ.out.chg hc id)
    replace HX := Lib.hid (HX.out.trans hc (fun _ _ e => e))
    clear a0 a1 a2 a3 hc hm3
    obtain ⟨x0, x1, x2, x3, x4, x5, x6, x7, x8, x9, x10, x11, x12⟩ := ro_cells15 HZ.out
    obtain ⟨f0, f1, f2, f3, f4, f5, f6, f7, f8, f9, f10, f11, f12⟩ := ou_free15 HZ.out
    obtain ⟨r0, r1, r2, r3, r4, r5, r6, r7, r8, r9, r10, r11, r12, hcs⟩ := ro_put15 HZ.out rfl v.kd v.po v.ge v.st v.fb v.k v.o v.f v.t v.p v.g v.i A3 n3 c3
    have RR := Lib.hid (And.intro r0 (And.intro r1 (And.intro r2 (And.intro r3 (And.intro r4 (And.intro r5 (And.intro r6 (And.intro r7 (And.intro r8 (And.intro r9 (And.intro r10 (And.intro r11 r12))))))))))))
    have HF := Lib.hid (fresh_set HX.out hcs HQ.out)
    replace HM3 := Lib.hid (HM3.out.put HZ.out noU8_ro hcs)
    clear r0 r1 r2 r3 r4 r5 r6 r7 r8 r9 r10 r11 r12 hcs
    go_wp2_with fail
    obtain ⟨r0, r1, r2, r3, r4, r5, r6, r7, r8, r9, r10, r11, r12⟩ := RR.out
    exact bodyPost_ret (v := .tuple #[.agg #[.int .i64 v.kd, .int .i64 v.po, .int .i64 v.ge, .int .i64 v.st, .string ⟨v.fb.toArray⟩, .int .i64 v.k, .int .i64 v.o, .int .i64 v.f, .int .i64 v.t, .int .i64 v.p, .int .i64 v.g, .int .i64 v.i, .slice A3 n3 c3], .int .i64 0]) (by simp [results, Try.results10, go_sem, r0, r1, r2, r3, r4, r5, r6, r7, r8, r9, r10, r11, r12]) rfl ⟨A3, n3, c3, rfl, HM3.out, HF.out⟩
  obtain rfl : v = zOV := by rw [← HV.out]; exact gu15_no hx1 hx2 ..
  have t1 : (ak == 1) = false := by simpa using hx1
  have t2 : (ak == 2) = false := by simpa using hx2
  clear hx1 hx2
  obtain ⟨a0, a1, a2, a3⟩ := ac_cells13 HB3.out
  obtain ⟨x0, x1, x2, x3, x4, x5, x6, x7, x8, x9, x10, x11, x12⟩ := ro_cells15 HZ.out
  obtain ⟨f0, f1, f2, f3, f4, f5, f6, f7, f8, f9, f10, f11, f12⟩ := ou_free15 HZ.out
  obtain ⟨r0, r1, r2, r3, r4, r5, r6, r7, r8, r9, r10, r11, r12, hcs⟩ := ro_put15 HZ.out rfl 0 0 0 0 ([]) 0 0 0 0 0 0 0 none 0 0
  have RR := Lib.hid (And.intro r0 (And.intro r1 (And.intro r2 (And.intro r3 (And.intro r4 (And.intro r5 (And.intro r6 (And.intro r7 (And.intro r8 (And.intro r9 (And.intro r10 (And.intro r11 r12))))))))))))
  have HF := Lib.hid (fresh_set HX.out hcs HQ.out)
  clear r0 r1 r2 r3 r4 r5 r6 r7 r8 r9 r10 r11 r12 hcs
  go_wp2_with fail
  obtain ⟨r0, r1, r2, r3, r4, r5, r6, r7, r8, r9, r10, r11, r12⟩ := RR.out
  exact bodyPost_ret (v := .tuple #[.agg #[.int .i64 0, .int .i64 0, .int .i64 0, .int .i64 0, .string ⟨#[]⟩, .int .i64 0, .int .i64 0, .int .i64 0, .int .i64 0, .int .i64 0, .int .i64 0, .int .i64 0, .slice none 0 0], .int .i64 0]) (by simp [results, Try.results10, go_sem, r0, r1, r2, r3, r4, r5, r6, r7, r8, r9, r10, r11, r12]) rfl ⟨none, 0, 0, rfl, BsM15.nil _, HF.out⟩

end Go.Proofs.Ytacbgelbffmngaa
