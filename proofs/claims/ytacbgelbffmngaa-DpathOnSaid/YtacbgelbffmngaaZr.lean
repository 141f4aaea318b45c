/-
  Walks: dpath.dropped, delivered, sent, what ofGuest and ofPacket hand over: the closures. Conditions: what they captured lies in memory.
-/
import Derived.Test.YtacbgelbffmngaaZq
import Derived.Deep.RegionHeld3
import Derived.RegionTactic
namespace Go.Proofs.Ytacbgelbffmngaa
open Go.RowKit
set_option linter.unusedVariables false
set_option linter.unusedSimpArgs false

set_option maxRecDepth 100000 in
set_option maxHeartbeats 1000000 in
theorem drop15_any (w : World) : Calls Try.prog 40 #[] w fun e w2 => e = .returned (.agg #[.int .i64 0, .int .i64 0, .int .i64 0, .int .i64 0, .slice none 0 0, .int .i64 0, .int .i64 0, .int .i64 0, .int .i64 0, .int .i64 0, .int .i64 0, .int .i64 0, .slice none 0 0]) ∧ Chg (fun _ => False) w w2 := by
  go_enter Try.func40, Try.ntmps40
  go_wp2_with fail
  have hb : Blk (w.alloc (.cells #[.int .i64 0, .int .i64 0, .int .i64 0, .int .i64 0, .slice none 0 0, .int .i64 0, .int .i64 0, .int .i64 0, .int .i64 0, .int .i64 0, .int .i64 0, .int .i64 0, .slice none 0 0] 39)) w.heap.size 39 (ouC15 0 0 0 0 none 0 0 0 0 0 0 0 0 0 none 0 0) := blk_new rfl
  obtain ⟨r0, r1, r2, r3, r4, r5, r6, r7, r8, r9, r10, r11, r12⟩ := ou_cells15 hb
  exact bodyPost_ret (v := .agg #[.int .i64 0, .int .i64 0, .int .i64 0, .int .i64 0, .slice none 0 0, .int .i64 0, .int .i64 0, .int .i64 0, .int .i64 0, .int .i64 0, .int .i64 0, .int .i64 0, .slice none 0 0]) (by simp [results, Try.results40, go_sem, r0, r1, r2, r3, r4, r5, r6, r7, r8, r9, r10, r11, r12]) rfl ⟨rfl, (Chg.refl (fun _ => False) w).alloc _⟩
set_option maxRecDepth 100000 in
set_option maxHeartbeats 1000000 in
theorem deliv15_any (ak ap ao ag sp : Int) (A : Option Addr) (n c : Nat) (w : World) : Calls Try.prog 43 #[.agg #[.int .i64 ak, .int .i64 ap, .int .i64 ao, .int .i64 ag], .int .i64 sp, .slice A n c] w fun e w2 => e = .returned (.agg #[.int .i64 1, .int .i64 ap, .int .i64 ag, .int .i64 sp, .slice A n c, .int .i64 0, .int .i64 0, .int .i64 0, .int .i64 0, .int .i64 0, .int .i64 0, .int .i64 0, .slice none 0 0]) ∧ Chg (fun _ => False) w w2 := by
  go_enter Try.func43, Try.ntmps43
  go_wp2_with fail
  have hb : Blk ((w.alloc (.cells #[.int .i64 ak, .int .i64 ap, .int .i64 ao, .int .i64 ag] 68)).alloc (.cells #[.int .i64 1, .int .i64 ap, .int .i64 ag, .int .i64 sp, .slice A n c, .int .i64 0, .int .i64 0, .int .i64 0, .int .i64 0, .int .i64 0, .int .i64 0, .int .i64 0, .slice none 0 0] 39)) (w.heap.size + 1) 39 (ouC15 1 ap ag sp A n c 0 0 0 0 0 0 0 none 0 0) := blk_new (by simp)
  obtain ⟨r0, r1, r2, r3, r4, r5, r6, r7, r8, r9, r10, r11, r12⟩ := ou_cells15 hb
  exact bodyPost_ret (v := .agg #[.int .i64 1, .int .i64 ap, .int .i64 ag, .int .i64 sp, .slice A n c, .int .i64 0, .int .i64 0, .int .i64 0, .int .i64 0, .int .i64 0, .int .i64 0, .int .i64 0, .slice none 0 0]) (by simp [results, Try.results43, go_sem, r0, r1, r2, r3, r4, r5, r6, r7, r8, r9, r10, r11, r12]) rfl ⟨rfl, ((Chg.refl (fun _ => False) w).alloc _).alloc _⟩
set_option maxRecDepth 100000 in
set_option maxHeartbeats 4000000 in
theorem sent15_any (k o f t p g i : Int) (A : Option Addr) (n c : Nat) (b : List UInt8) (w : World) (hn : n ≤ 9223372036854775807) (h : BsM15 w A n c b) : Calls Try.prog 45 #[.agg #[.int .i64 k, .int .i64 o, .int .i64 f, .int .i64 t, .int .i64 p, .int .i64 g, .int .i64 i, .slice A n c]] w (HO15 (snt15 k o f t p g i b) w) := by
  have hrt := fun W => tright_any k o f t p g i A n c W hn
  unfold pkC at hrt
  have HN := Lib.hid h.2.1
  have HM := Lib.hid h
  clear h
  have HB0 : Hid (Blk ((w.alloc (.cells #[.int .i64 k, .int .i64 o, .int .i64 f, .int .i64 t, .int .i64 p, .int .i64 g, .int .i64 i, .slice A n c] 37)).alloc (.cells #[.int .i64 0, .int .i64 0, .int .i64 0, .int .i64 0, .slice none 0 0, .int .i64 0, .int .i64 0, .int .i64 0, .int .i64 0, .int .i64 0, .int .i64 0, .int .i64 0, .slice none 0 0] 39)) (w.heap.size) 37 (pkC k o f t p g i A n c)) := Lib.hid (Blk.alloc (blk_new rfl) _)
  have HZ : Hid (Blk ((w.alloc (.cells #[.int .i64 k, .int .i64 o, .int .i64 f, .int .i64 t, .int .i64 p, .int .i64 g, .int .i64 i, .slice A n c] 37)).alloc (.cells #[.int .i64 0, .int .i64 0, .int .i64 0, .int .i64 0, .slice none 0 0, .int .i64 0, .int .i64 0, .int .i64 0, .int .i64 0, .int .i64 0, .int .i64 0, .int .i64 0, .slice none 0 0] 39)) (w.heap.size + 1) 39 (ouC15 0 0 0 0 none 0 0 0 0 0 0 0 0 0 none 0 0)) := Lib.hid (blk_new (by simp))
  have HX := Lib.hid (((Chg.refl (fun _ => False) w).alloc (.cells #[.int .i64 k, .int .i64 o, .int .i64 f, .int .i64 t, .int .i64 p, .int .i64 g, .int .i64 i, .slice A n c] 37)).alloc (.cells #[.int .i64 0, .int .i64 0, .int .i64 0, .int .i64 0, .slice none 0 0, .int .i64 0, .int .i64 0, .int .i64 0, .int .i64 0, .int .i64 0, .int .i64 0, .int .i64 0, .slice none 0 0] 39))
  have HQ : Hid (w.heap.size ≤ w.heap.size + 1) := Lib.hid (by omega)
  cases hr : pkR k o f t p g i n with
  | false =>
    have HV := Lib.hid (show snt15 k o f t p g i b = zOV from snt15_no (by rw [← HN.out]; exact hr))
    rw [hr] at hrt
    have HRT := Lib.hid hrt
    clear hrt hr
    rw [HV.out]
    go_enter Try.func45, Try.ntmps45
    go_upto_region 1 with fail
    generalize (w.alloc (.cells #[.int .i64 k, .int .i64 o, .int .i64 f, .int .i64 t, .int .i64 p, .int .i64 g, .int .i64 i, .slice A n c] 37)).alloc (.cells #[.int .i64 0, .int .i64 0, .int .i64 0, .int .i64 0, .slice none 0 0, .int .i64 0, .int .i64 0, .int .i64 0, .int .i64 0, .int .i64 0, .int .i64 0, .int .i64 0, .slice none 0 0] 39) = w1 at *
    generalize w.heap.size + 1 = Q1 at *
    generalize w.heap.size = Q0 at HB0 ⊢
    obtain ⟨y0, y1, y2, y3, y4, y5, y6, y7⟩ := pk_cells HB0.out
    go_wp2_with fail
    refine (HRT.out _).mono ?_
    rintro e w2 ⟨rfl, hc⟩
    replace HB0 := Lib.hid (HB0.out.chg hc id)
    replace HZ := Lib.hid (HZ.out.chg hc id)
    replace HX := Lib.hid (HX.out.trans hc (fun _ _ e => e))
    clear hc
    clear y0 y1 y2 y3 y4 y5 y6 y7
    obtain ⟨y0, y1, y2, y3, y4, y5, y6, y7⟩ := pk_cells HB0.out
    go_wp2_with fail
    refine (drop15_any _).mono ?_
    rintro e w3 ⟨rfl, hc⟩
    replace HZ := Lib.hid (HZ.out.chg hc id)
    replace HX := Lib.hid (HX.out.trans hc (fun _ _ e => e))
    clear hc
    obtain ⟨x0, x1, x2, x3, x4, x5, x6, x7, x8, x9, x10, x11, x12⟩ := ou_cells15 HZ.out
    obtain ⟨f0, f1, f2, f3, f4, f5, f6, f7, f8, f9, f10, f11, f12⟩ := ou_free15 HZ.out
    obtain ⟨r0, r1, r2, r3, r4, r5, r6, r7, r8, r9, r10, r11, r12, hcs⟩ := ou_put15 HZ.out rfl 0 0 0 0 none 0 0 0 0 0 0 0 0 0 none 0 0
    have RR := Lib.hid (And.intro r0 (And.intro r1 (And.intro r2 (And.intro r3 (And.intro r4 (And.intro r5 (And.intro r6 (And.intro r7 (And.intro r8 (And.intro r9 (And.intro r10 (And.intro r11 r12))))))))))))
    have HF := Lib.hid (fresh_set HX.out hcs HQ.out)
    clear r0 r1 r2 r3 r4 r5 r6 r7 r8 r9 r10 r11 r12 hcs
    go_wp2_with fail
    obtain ⟨r0, r1, r2, r3, r4, r5, r6, r7, r8, r9, r10, r11, r12⟩ := RR.out
    exact bodyPost_ret (v := .agg #[.int .i64 0, .int .i64 0, .int .i64 0, .int .i64 0, .slice none 0 0, .int .i64 0, .int .i64 0, .int .i64 0, .int .i64 0, .int .i64 0, .int .i64 0, .int .i64 0, .slice none 0 0]) (by simp [results, Try.results45, go_sem, r0, r1, r2, r3, r4, r5, r6, r7, r8, r9, r10, r11, r12]) rfl ⟨none, 0, 0, none, 0, 0, rfl, BsM15.nil _, BsM15.nil _, HF.out⟩
  | true =>
    have HV := Lib.hid (show snt15 k o f t p g i b = ⟨2, 0, 0, 0, [], k, o, f, t, p, g, i, b⟩ from snt15_yes (by rw [← HN.out]; exact hr))
    rw [hr] at hrt
    have HRT := Lib.hid hrt
    clear hrt hr
    rw [HV.out]
    go_enter Try.func45, Try.ntmps45
    go_upto_region 1 with fail
    generalize (w.alloc (.cells #[.int .i64 k, .int .i64 o, .int .i64 f, .int .i64 t, .int .i64 p, .int .i64 g, .int .i64 i, .slice A n c] 37)).alloc (.cells #[.int .i64 0, .int .i64 0, .int .i64 0, .int .i64 0, .slice none 0 0, .int .i64 0, .int .i64 0, .int .i64 0, .int .i64 0, .int .i64 0, .int .i64 0, .int .i64 0, .slice none 0 0] 39) = w1 at *
    generalize w.heap.size + 1 = Q1 at *
    generalize w.heap.size = Q0 at HB0 ⊢
    obtain ⟨y0, y1, y2, y3, y4, y5, y6, y7⟩ := pk_cells HB0.out
    go_wp2_with fail
    refine (HRT.out _).mono ?_
    rintro e w2 ⟨rfl, hc⟩
    replace HB0 := Lib.hid (HB0.out.chg hc id)
    replace HZ := Lib.hid (HZ.out.chg hc id)
    replace HX := Lib.hid (HX.out.trans hc (fun _ _ e => e))
    clear hc
    clear y0 y1 y2 y3 y4 y5 y6 y7
    obtain ⟨y0, y1, y2, y3, y4, y5, y6, y7⟩ := pk_cells HB0.out
    obtain ⟨x0, x1, x2, x3, x4, x5, x6, x7, x8, x9, x10, x11, x12⟩ := ou_cells15 HZ.out
    obtain ⟨f0, f1, f2, f3, f4, f5, f6, f7, f8, f9, f10, f11, f12⟩ := ou_free15 HZ.out
    obtain ⟨r0, r1, r2, r3, r4, r5, r6, r7, r8, r9, r10, r11, r12, hcs⟩ := ou_put15 HZ.out rfl 2 0 0 0 none 0 0 k o f t p g i A n c
    have RR := Lib.hid (And.intro r0 (And.intro r1 (And.intro r2 (And.intro r3 (And.intro r4 (And.intro r5 (And.intro r6 (And.intro r7 (And.intro r8 (And.intro r9 (And.intro r10 (And.intro r11 r12))))))))))))
    have HF := Lib.hid (fresh_set HX.out hcs HQ.out)
    clear r0 r1 r2 r3 r4 r5 r6 r7 r8 r9 r10 r11 r12 hcs
    go_wp2_with fail
    obtain ⟨r0, r1, r2, r3, r4, r5, r6, r7, r8, r9, r10, r11, r12⟩ := RR.out
    exact bodyPost_ret (v := .agg #[.int .i64 2, .int .i64 0, .int .i64 0, .int .i64 0, .slice none 0 0, .int .i64 k, .int .i64 o, .int .i64 f, .int .i64 t, .int .i64 p, .int .i64 g, .int .i64 i, .slice A n c]) (by simp [results, Try.results45, go_sem, r0, r1, r2, r3, r4, r5, r6, r7, r8, r9, r10, r11, r12]) rfl ⟨none, 0, 0, A, n, c, rfl, BsM15.nil _, HM.out.chg HF.out, HF.out⟩

end Go.Proofs.Ytacbgelbffmngaa
