/-
  Walks: rutterref15.sent, Same, rutterlaw15.Of. Conditions: the bytes are read in memory; what is the same is one outcome.
-/
import Derived.Test.YtacbgelbffmngaaZq
import Derived.Deep.RegionHeld3
import Derived.RegionTactic
namespace Go.Proofs.Ytacbgelbffmngaa
open Go.RowKit
set_option linter.unusedVariables false
set_option linter.unusedSimpArgs false

set_option maxRecDepth 100000 in
set_option maxHeartbeats 4000000 in
theorem rsent15_any (k o f t p g i : Int) (A : Option Addr) (n c : Nat) (b : List UInt8) (w : World) (hn : n ≤ 9223372036854775807) (h : BsM15 w A n c b) : Calls Try.prog 26 #[.agg #[.int .i64 k, .int .i64 o, .int .i64 f, .int .i64 t, .int .i64 p, .int .i64 g, .int .i64 i, .slice A n c]] w (RO15 (snt15 k o f t p g i b) w) := by
  have hrt := fun W => rright5_any k o f t p g i A n c W hn
  unfold pkC at hrt
  have HN := Lib.hid h.2.1
  have HM := Lib.hid h
  clear h
  have HB0 : Hid (Blk ((w.alloc (.cells #[.int .i64 k, .int .i64 o, .int .i64 f, .int .i64 t, .int .i64 p, .int .i64 g, .int .i64 i, .slice A n c] 37)).alloc (.cells #[.int .i64 0, .int .i64 0, .int .i64 0, .int .i64 0, .string ⟨#[]⟩, .int .i64 0, .int .i64 0, .int .i64 0, .int .i64 0, .int .i64 0, .int .i64 0, .int .i64 0, .slice none 0 0] 43)) (w.heap.size) 37 (pkC k o f t p g i A n c)) := Lib.hid (Blk.alloc (blk_new rfl) _)
  have HZ : Hid (Blk ((w.alloc (.cells #[.int .i64 k, .int .i64 o, .int .i64 f, .int .i64 t, .int .i64 p, .int .i64 g, .int .i64 i, .slice A n c] 37)).alloc (.cells #[.int .i64 0, .int .i64 0, .int .i64 0, .int .i64 0, .string ⟨#[]⟩, .int .i64 0, .int .i64 0, .int .i64 0, .int .i64 0, .int .i64 0, .int .i64 0, .int .i64 0, .slice none 0 0] 43)) (w.heap.size + 1) 43 (roC15 0 0 0 0 ([]) 0 0 0 0 0 0 0 none 0 0)) := Lib.hid (blk_new (by simp))
  have HX := Lib.hid (((Chg.refl (fun _ => False) w).alloc (.cells #[.int .i64 k, .int .i64 o, .int .i64 f, .int .i64 t, .int .i64 p, .int .i64 g, .int .i64 i, .slice A n c] 37)).alloc (.cells #[.int .i64 0, .int .i64 0, .int .i64 0, .int .i64 0, .string ⟨#[]⟩, .int .i64 0, .int .i64 0, .int .i64 0, .int .i64 0, .int .i64 0, .int .i64 0, .int .i64 0, .slice none 0 0] 43))
  have HQ : Hid (w.heap.size ≤ w.heap.size + 1) := Lib.hid (by omega)
  cases hr : pkR k o f t p g i n with
  | false =>
    have HV := Lib.hid (show snt15 k o f t p g i b = zOV from snt15_no (by rw [← HN.out]; exact hr))
    rw [hr] at hrt
    have HRT := Lib.hid hrt
    clear hrt hr
    rw [HV.out]
    go_enter Try.func26, Try.ntmps26
    go_upto_region 1 with fail
    generalize (w.alloc (.cells #[.int .i64 k, .int .i64 o, .int .i64 f, .int .i64 t, .int .i64 p, .int .i64 g, .int .i64 i, .slice A n c] 37)).alloc (.cells #[.int .i64 0, .int .i64 0, .int .i64 0, .int .i64 0, .string ⟨#[]⟩, .int .i64 0, .int .i64 0, .int .i64 0, .int .i64 0, .int .i64 0, .int .i64 0, .int .i64 0, .slice none 0 0] 43) = w1 at *
    generalize w.heap.size + 1 = Q1 at *
    generalize w.heap.size = Q0 at HB0 ⊢
    obtain ⟨y0, y1, y2, y3, y4, y5, y6, y7⟩ := pk_cells HB0.out
    go_wp2_with fail
    refine (HRT.out _).mono ?_
    rintro e w2 ⟨rfl, hc⟩
    replace HB0 := Lib.hid (HB0.out.chg hc id)
    replace HZ := Lib.hid (HZ.out.chg hc id)
    replace HX := Lib.hid (HX.out.trans hc (fun _ _ e => e))
    clear hc
    clear y0 y1 y2 y3 y4 y5 y6 y7
    obtain ⟨y0, y1, y2, y3, y4, y5, y6, y7⟩ := pk_cells HB0.out
    obtain ⟨x0, x1, x2, x3, x4, x5, x6, x7, x8, x9, x10, x11, x12⟩ := ro_cells15 HZ.out
    obtain ⟨f0, f1, f2, f3, f4, f5, f6, f7, f8, f9, f10, f11, f12⟩ := ou_free15 HZ.out
    obtain ⟨r0, r1, r2, r3, r4, r5, r6, r7, r8, r9, r10, r11, r12, hcs⟩ := ro_put15 HZ.out rfl 0 0 0 0 ([]) 0 0 0 0 0 0 0 none 0 0
    have RR := Lib.hid (And.intro r0 (And.intro r1 (And.intro r2 (And.intro r3 (And.intro r4 (And.intro r5 (And.intro r6 (And.intro r7 (And.intro r8 (And.intro r9 (And.intro r10 (And.intro r11 r12))))))))))))
    have HF := Lib.hid (fresh_set HX.out hcs HQ.out)
    clear r0 r1 r2 r3 r4 r5 r6 r7 r8 r9 r10 r11 r12 hcs
    go_wp2_with fail
    obtain ⟨r0, r1, r2, r3, r4, r5, r6, r7, r8, r9, r10, r11, r12⟩ := RR.out
    exact bodyPost_ret (v := .agg #[.int .i64 0, .int .i64 0, .int .i64 0, .int .i64 0, .string ⟨#[]⟩, .int .i64 0, .int .i64 0, .int .i64 0, .int .i64 0, .int .i64 0, .int .i64 0, .int .i64 0, .slice none 0 0]) (by simp [results, Try.results26, go_sem, r0, r1, r2, r3, r4, r5, r6, r7, r8, r9, r10, r11, r12]) rfl ⟨none, 0, 0, rfl, BsM15.nil _, HF.out⟩
  | true =>
    have HV := Lib.hid (show snt15 k o f t p g i b = ⟨2, 0, 0, 0, [], k, o, f, t, p, g, i, b⟩ from snt15_yes (by rw [← HN.out]; exact hr))
    rw [hr] at hrt
    have HRT := Lib.hid hrt
    clear hrt hr
    rw [HV.out]
    go_enter Try.func26, Try.ntmps26
    go_upto_region 1 with fail
    generalize (w.alloc (.cells #[.int .i64 k, .int .i64 o, .int .i64 f, .int .i64 t, .int .i64 p, .int .i64 g, .int .i64 i, .slice A n c] 37)).alloc (.cells #[.int .i64 0, .int .i64 0, .int .i64 0, .int .i64 0, .string ⟨#[]⟩, .int .i64 0, .int .i64 0, .int .i64 0, .int .i64 0, .int .i64 0, .int .i64 0, .int .i64 0, .slice none 0 0] 43) = w1 at *
    generalize w.heap.size + 1 = Q1 at *
    generalize w.heap.size = Q0 at HB0 ⊢
    obtain ⟨y0, y1, y2, y3, y4, y5, y6, y7⟩ := pk_cells HB0.out
    go_wp2_with fail
    refine (HRT.out _).mono ?_
    rintro e w2 ⟨rfl, hc⟩
    replace HB0 := Lib.hid (HB0.out.chg hc id)
    replace HZ := Lib.hid (HZ.out.chg hc id)
    replace HX := Lib.hid (HX.out.trans hc (fun _ _ e => e))
    clear hc
    clear y0 y1 y2 y3 y4 y5 y6 y7
    obtain ⟨y0, y1, y2, y3, y4, y5, y6, y7⟩ := pk_cells HB0.out
    obtain ⟨x0, x1, x2, x3, x4, x5, x6, x7, x8, x9, x10, x11, x12⟩ := ro_cells15 HZ.out
    obtain ⟨f0, f1, f2, f3, f4, f5, f6, f7, f8, f9, f10, f11, f12⟩ := ou_free15 HZ.out
    obtain ⟨r0, r1, r2, r3, r4, r5, r6, r7, r8, r9, r10, r11, r12, hcs⟩ := ro_put15 HZ.out rfl 2 0 0 0 ([]) k o f t p g i A n c
    have RR := Lib.hid (And.intro r0 (And.intro r1 (And.intro r2 (And.intro r3 (And.intro r4 (And.intro r5 (And.intro r6 (And.intro r7 (And.intro r8 (And.intro r9 (And.intro r10 (And.intro r11 r12))))))))))))
    have HF := Lib.hid (fresh_set HX.out hcs HQ.out)
    clear r0 r1 r2 r3 r4 r5 r6 r7 r8 r9 r10 r11 r12 hcs
    go_wp2_with fail
    obtain ⟨r0, r1, r2, r3, r4, r5, r6, r7, r8, r9, r10, r11, r12⟩ := RR.out
    exact bodyPost_ret (v := .agg #[.int .i64 2, .int .i64 0, .int .i64 0, .int .i64 0, .string ⟨#[]⟩, .int .i64 k, .int .i64 o, .int .i64 f, .int .i64 t, .int .i64 p, .int .i64 g, .int .i64 i, .slice A n c]) (by simp [results, Try.results26, go_sem, r0, r1, r2, r3, r4, r5, r6, r7, r8, r9, r10, r11, r12]) rfl ⟨A, n, c, rfl, HM.out.chg HF.out, HF.out⟩
set_option maxRecDepth 100000 in
set_option maxHeartbeats 4000000 in
theorem lof15_any (kd po ge sp : Int) (k o f t p g i : Int) (A A2 : Option Addr) (n c n2 c2 : Nat) (b : List UInt8) (w : World) (h : BsM15 w A n c b) : Calls Try.prog 13 #[.agg #[.int .i64 kd, .int .i64 po, .int .i64 ge, .int .i64 sp, .slice A n c, .int .i64 k, .int .i64 o, .int .i64 f, .int .i64 t, .int .i64 p, .int .i64 g, .int .i64 i, .slice A2 n2 c2]] w fun e w2 => e = .returned (.agg #[.int .i64 kd, .int .i64 po, .int .i64 ge, .int .i64 sp, .string ⟨b.toArray⟩, .int .i64 k, .int .i64 o, .int .i64 f, .int .i64 t, .int .i64 p, .int .i64 g, .int .i64 i, .slice A2 n2 c2]) ∧ Chg (fun _ => False) w w2 := by
  have HB0 : Hid (Blk ((w.alloc (.cells #[.int .i64 kd, .int .i64 po, .int .i64 ge, .int .i64 sp, .slice A n c, .int .i64 k, .int .i64 o, .int .i64 f, .int .i64 t, .int .i64 p, .int .i64 g, .int .i64 i, .slice A2 n2 c2] 39)).alloc (.cells #[.int .i64 0, .int .i64 0, .int .i64 0, .int .i64 0, .string ⟨#[]⟩, .int .i64 0, .int .i64 0, .int .i64 0, .int .i64 0, .int .i64 0, .int .i64 0, .int .i64 0, .slice none 0 0] 43)) (w.heap.size) 39 (ouC15 kd po ge sp A n c k o f t p g i A2 n2 c2)) := Lib.hid (Blk.alloc (blk_new rfl) _)
  have HZ : Hid (Blk ((w.alloc (.cells #[.int .i64 kd, .int .i64 po, .int .i64 ge, .int .i64 sp, .slice A n c, .int .i64 k, .int .i64 o, .int .i64 f, .int .i64 t, .int .i64 p, .int .i64 g, .int .i64 i, .slice A2 n2 c2] 39)).alloc (.cells #[.int .i64 0, .int .i64 0, .int .i64 0, .int .i64 0, .string ⟨#[]⟩, .int .i64 0, .int .i64 0, .int .i64 0, .int .i64 0, .int .i64 0, .int .i64 0, .int .i64 0, .slice none 0 0] 43)) (w.heap.size + 1) 43 (roC15 0 0 0 0 ([]) 0 0 0 0 0 0 0 none 0 0)) := Lib.hid (blk_new (by simp))
  have HX := Lib.hid (((Chg.refl (fun _ => False) w).alloc (.cells #[.int .i64 kd, .int .i64 po, .int .i64 ge, .int .i64 sp, .slice A n c, .int .i64 k, .int .i64 o, .int .i64 f, .int .i64 t, .int .i64 p, .int .i64 g, .int .i64 i, .slice A2 n2 c2] 39)).alloc (.cells #[.int .i64 0, .int .i64 0, .int .i64 0, .int .i64 0, .string ⟨#[]⟩, .int .i64 0, .int .i64 0, .int .i64 0, .int .i64 0, .int .i64 0, .int .i64 0, .int .i64 0, .slice none 0 0] 43))
  have HQ : Hid (w.heap.size ≤ w.heap.size + 1) := Lib.hid (by omega)
  have hcv := conv_any (c := c) (h.2.2.chg HX.out (fun _ _ => id))
  clear h
  go_enter Try.func13, Try.ntmps13
  go_upto_region 1 with fail
  generalize (w.alloc (.cells #[.int .i64 kd, .int .i64 po, .int .i64 ge, .int .i64 sp, .slice A n c, .int .i64 k, .int .i64 o, .int .i64 f, .int .i64 t, .int .i64 p, .int .i64 g, .int .i64 i, .slice A2 n2 c2] 39)).alloc (.cells #[.int .i64 0, .int .i64 0, .int .i64 0, .int .i64 0, .string ⟨#[]⟩, .int .i64 0, .int .i64 0, .int .i64 0, .int .i64 0, .int .i64 0, .int .i64 0, .int .i64 0, .slice none 0 0] 43) = w1 at *
  generalize w.heap.size + 1 = Q1 at *
  generalize w.heap.size = Q0 at HB0 ⊢
  obtain ⟨y0, y1, y2, y3, y4, y5, y6, y7, y8, y9, y10, y11, y12⟩ := ou_cells15 HB0.out
  obtain ⟨x0, x1, x2, x3, x4, x5, x6, x7, x8, x9, x10, x11, x12⟩ := ro_cells15 HZ.out
  obtain ⟨f0, f1, f2, f3, f4, f5, f6, f7, f8, f9, f10, f11, f12⟩ := ou_free15 HZ.out
  obtain ⟨r0, r1, r2, r3, r4, r5, r6, r7, r8, r9, r10, r11, r12, hcs⟩ := ro_put15 HZ.out rfl kd po ge sp b k o f t p g i A2 n2 c2
  have RR := Lib.hid (And.intro r0 (And.intro r1 (And.intro r2 (And.intro r3 (And.intro r4 (And.intro r5 (And.intro r6 (And.intro r7 (And.intro r8 (And.intro r9 (And.intro r10 (And.intro r11 r12))))))))))))
  have HF := Lib.hid (fresh_set HX.out hcs HQ.out)
  clear r0 r1 r2 r3 r4 r5 r6 r7 r8 r9 r10 r11 r12 hcs
  go_wp2_with fail
  obtain ⟨r0, r1, r2, r3, r4, r5, r6, r7, r8, r9, r10, r11, r12⟩ := RR.out
  exact bodyPost_ret (v := .agg #[.int .i64 kd, .int .i64 po, .int .i64 ge, .int .i64 sp, .string ⟨b.toArray⟩, .int .i64 k, .int .i64 o, .int .i64 f, .int .i64 t, .int .i64 p, .int .i64 g, .int .i64 i, .slice A2 n2 c2]) (by simp [results, Try.results13, go_sem, r0, r1, r2, r3, r4, r5, r6, r7, r8, r9, r10, r11, r12]) rfl ⟨rfl, HF.out⟩
set_option maxRecDepth 100000 in
set_option maxHeartbeats 4000000 in
theorem rsame15_any (kd po ge sp : Int) (k o f t p g i : Int) (A A2 : Option Addr) (n c n2 c2 : Nat) (b pb : List UInt8) (w : World) (h : BsM15 w A n c pb) (h2 : BsM15 w A2 n2 c2 pb) : Calls Try.prog 12 #[.agg #[.int .i64 kd, .int .i64 po, .int .i64 ge, .int .i64 sp, .string ⟨b.toArray⟩, .int .i64 k, .int .i64 o, .int .i64 f, .int .i64 t, .int .i64 p, .int .i64 g, .int .i64 i, .slice A n c], .agg #[.int .i64 kd, .int .i64 po, .int .i64 ge, .int .i64 sp, .string ⟨b.toArray⟩, .int .i64 k, .int .i64 o, .int .i64 f, .int .i64 t, .int .i64 p, .int .i64 g, .int .i64 i, .slice A2 n2 c2]] w fun e w2 => e = .returned (.bool true) ∧ Chg (fun _ => False) w w2 := by
  have HB0 : Hid (Blk ((w.alloc (.cells #[.int .i64 kd, .int .i64 po, .int .i64 ge, .int .i64 sp, .string ⟨b.toArray⟩, .int .i64 k, .int .i64 o, .int .i64 f, .int .i64 t, .int .i64 p, .int .i64 g, .int .i64 i, .slice A n c] 43)).alloc (.cells #[.int .i64 kd, .int .i64 po, .int .i64 ge, .int .i64 sp, .string ⟨b.toArray⟩, .int .i64 k, .int .i64 o, .int .i64 f, .int .i64 t, .int .i64 p, .int .i64 g, .int .i64 i, .slice A2 n2 c2] 43)) (w.heap.size) 43 (roC15 kd po ge sp b k o f t p g i A n c)) := Lib.hid (Blk.alloc (blk_new rfl) _)
  have HB1 : Hid (Blk ((w.alloc (.cells #[.int .i64 kd, .int .i64 po, .int .i64 ge, .int .i64 sp, .string ⟨b.toArray⟩, .int .i64 k, .int .i64 o, .int .i64 f, .int .i64 t, .int .i64 p, .int .i64 g, .int .i64 i, .slice A n c] 43)).alloc (.cells #[.int .i64 kd, .int .i64 po, .int .i64 ge, .int .i64 sp, .string ⟨b.toArray⟩, .int .i64 k, .int .i64 o, .int .i64 f, .int .i64 t, .int .i64 p, .int .i64 g, .int .i64 i, .slice A2 n2 c2] 43)) (w.heap.size + 1) 43 (roC15 kd po ge sp b k o f t p g i A2 n2 c2)) := Lib.hid (blk_new (by simp))
  have HX := Lib.hid (((Chg.refl (fun _ => False) w).alloc (.cells #[.int .i64 kd, .int .i64 po, .int .i64 ge, .int .i64 sp, .string ⟨b.toArray⟩, .int .i64 k, .int .i64 o, .int .i64 f, .int .i64 t, .int .i64 p, .int .i64 g, .int .i64 i, .slice A n c] 43)).alloc (.cells #[.int .i64 kd, .int .i64 po, .int .i64 ge, .int .i64 sp, .string ⟨b.toArray⟩, .int .i64 k, .int .i64 o, .int .i64 f, .int .i64 t, .int .i64 p, .int .i64 g, .int .i64 i, .slice A2 n2 c2] 43))
  have HQ : Hid (w.heap.size ≤ w.heap.size + 1) := Lib.hid (by omega)
  have hsm := fun (W : World) (hW : Chg (fun _ => False) w W) => rsame5_any k o f t p g i k o f t p g i A A2 n n2 c c2 pb pb (fun _ => True) (fun _ => True) W (h.2.2.chg hW (fun _ _ => id)) (h2.2.2.chg hW (fun _ _ => id))
  rw [pkS_refl] at hsm
  unfold pkC at hsm
  have HS := Lib.hid hsm
  clear hsm h h2
  go_enter Try.func12, Try.ntmps12
  go_upto_region 1 with fail
  generalize (w.alloc (.cells #[.int .i64 kd, .int .i64 po, .int .i64 ge, .int .i64 sp, .string ⟨b.toArray⟩, .int .i64 k, .int .i64 o, .int .i64 f, .int .i64 t, .int .i64 p, .int .i64 g, .int .i64 i, .slice A n c] 43)).alloc (.cells #[.int .i64 kd, .int .i64 po, .int .i64 ge, .int .i64 sp, .string ⟨b.toArray⟩, .int .i64 k, .int .i64 o, .int .i64 f, .int .i64 t, .int .i64 p, .int .i64 g, .int .i64 i, .slice A2 n2 c2] 43) = w1 at *
  generalize w.heap.size + 1 = Q1 at *
  generalize w.heap.size = Q0 at HB0 ⊢
  obtain ⟨y0, y1, y2, y3, y4, y5, y6, y7, y8, y9, y10, y11, y12⟩ := ro_cells15 HB0.out
  obtain ⟨z0, z1, z2, z3, z4, z5, z6, z7, z8, z9, z10, z11, z12⟩ := ro_cells15 HB1.out
  go_wp2_with fail
  refine (HS.out _ HX.out).mono ?_
  rintro e w2 ⟨rfl, hc⟩
  replace HB0 := Lib.hid (HB0.out.chg hc id)
  replace HB1 := Lib.hid (HB1.out.chg hc id)
  replace HX := Lib.hid (HX.out.trans hc (fun _ _ e => e))
  clear hc y0 y1 y2 y3 y4 y5 y6 y7 y8 y9 y10 y11 y12 z0 z1 z2 z3 z4 z5 z6 z7 z8 z9 z10 z11 z12
  obtain ⟨y0, y1, y2, y3, y4, y5, y6, y7, y8, y9, y10, y11, y12⟩ := ro_cells15 HB0.out
  obtain ⟨z0, z1, z2, z3, z4, z5, z6, z7, z8, z9, z10, z11, z12⟩ := ro_cells15 HB1.out
  go_wp2_with fail
  go_ret
  exact ⟨by simp, HX.out⟩

end Go.Proofs.Ytacbgelbffmngaa
