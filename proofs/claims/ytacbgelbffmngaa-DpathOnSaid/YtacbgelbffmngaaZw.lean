/-
  Walk: dpath.becomes, of a packet. Conditions: what the table tells of the key; what was captured lies in memory; the packet may be.
-/
import Derived.Test.YtacbgelbffmngaaZu
import Derived.Test.YtacbgelbffmngaaYe
import Derived.Deep.RegionHeld3
import Derived.RegionTactic
import Derived.Laws.EntriesVeiled
namespace Go.Proofs.Ytacbgelbffmngaa
open Go.RowKit
set_option linter.unusedVariables false
set_option linter.unusedSimpArgs false

set_option maxRecDepth 100000 in
set_option maxHeartbeats 8000000 in
theorem becp15_any (tp : Value) (ki km kp ks ko : Int) (oe : Option En) (ak ap ao ag : Int) (hac : acO13 oe = acC ak ap ao ag) (qp : Nat) (k o f t p g i : Int) (A : Option Addr) (n c : Nat) (b : List UInt8) (w : World) (hl : ∀ W, Chg (fun _ => False) w W → Calls Try.prog 39 #[tp, .agg (kyC ki km kp ks ko)] W (LkP13 oe W)) (hr : pkR k o f t p g i n = true) (hqp : Blk w qp 37 (pkC k o f t p g i A n c)) (h : BsM15 w A n c b) : Calls Try.prog 23 #[tp, .agg #[.int .i64 ki, .int .u64 km, .int .i64 kp, .int .i64 ks, .int .i64 ko], .agg #[.func (.func 49) #[] #[], .func (.func 50) #[] #[.pointer (some ⟨qp, 0, none⟩)], .func (.func 52) #[] #[.pointer (some ⟨qp, 0, none⟩)]]] w (HO15 (tu15 k o f t p g i b ak ap ao ag) w) := by
  have hn := (pkR_parts hr).2.2.2.2.2.2.2.1.2
  have tu2 : ∀ ap ao ag : Int, tu15 k o f t p g i b 2 ap ao ag = fwd15 k o f t p g i ao ag b := fun _ _ _ => rfl
  generalize hv : tu15 k o f t p g i b ak ap ao ag = v
  have HV := Lib.hid hv
  clear hv
  have hl2 := hl
  unfold LkP13 at hl2
  rw [hac] at hl2
  generalize oe.isSome = bb at *
  unfold kyC acC at hl2
  have HLK := Lib.hid hl2
  clear hl2 hl hac
  have HB4 := Lib.hid (((hqp.alloc (.cells #[.int .i64 ki, .int .u64 km, .int .i64 kp, .int .i64 ks, .int .i64 ko] 77)).alloc (.cells #[.func (.func 49) #[] #[], .func (.func 50) #[] #[.pointer (some ⟨qp, 0, none⟩)], .func (.func 52) #[] #[.pointer (some ⟨qp, 0, none⟩)]] 80)).alloc (.cells #[.int .i64 0, .int .i64 0, .int .i64 0, .int .i64 0, .slice none 0 0, .int .i64 0, .int .i64 0, .int .i64 0, .int .i64 0, .int .i64 0, .int .i64 0, .int .i64 0, .slice none 0 0] 39))
  have HM := Lib.hid h
  clear h hqp
  have HB0 : Hid (Blk (((w.alloc (.cells #[.int .i64 ki, .int .u64 km, .int .i64 kp, .int .i64 ks, .int .i64 ko] 77)).alloc (.cells #[.func (.func 49) #[] #[], .func (.func 50) #[] #[.pointer (some ⟨qp, 0, none⟩)], .func (.func 52) #[] #[.pointer (some ⟨qp, 0, none⟩)]] 80)).alloc (.cells #[.int .i64 0, .int .i64 0, .int .i64 0, .int .i64 0, .slice none 0 0, .int .i64 0, .int .i64 0, .int .i64 0, .int .i64 0, .int .i64 0, .int .i64 0, .int .i64 0, .slice none 0 0] 39)) (w.heap.size) 77 (kyC ki km kp ks ko)) := Lib.hid (Blk.alloc (Blk.alloc (blk_new rfl) _) _)
  have HB1 : Hid (Blk (((w.alloc (.cells #[.int .i64 ki, .int .u64 km, .int .i64 kp, .int .i64 ks, .int .i64 ko] 77)).alloc (.cells #[.func (.func 49) #[] #[], .func (.func 50) #[] #[.pointer (some ⟨qp, 0, none⟩)], .func (.func 52) #[] #[.pointer (some ⟨qp, 0, none⟩)]] 80)).alloc (.cells #[.int .i64 0, .int .i64 0, .int .i64 0, .int .i64 0, .slice none 0 0, .int .i64 0, .int .i64 0, .int .i64 0, .int .i64 0, .int .i64 0, .int .i64 0, .int .i64 0, .slice none 0 0] 39)) (w.heap.size + 1) 80 (#[.func (.func 49) #[] #[], .func (.func 50) #[] #[.pointer (some ⟨qp, 0, none⟩)], .func (.func 52) #[] #[.pointer (some ⟨qp, 0, none⟩)]])) := Lib.hid (Blk.alloc (blk_new (by simp)) _)
  have HZ : Hid (Blk (((w.alloc (.cells #[.int .i64 ki, .int .u64 km, .int .i64 kp, .int .i64 ks, .int .i64 ko] 77)).alloc (.cells #[.func (.func 49) #[] #[], .func (.func 50) #[] #[.pointer (some ⟨qp, 0, none⟩)], .func (.func 52) #[] #[.pointer (some ⟨qp, 0, none⟩)]] 80)).alloc (.cells #[.int .i64 0, .int .i64 0, .int .i64 0, .int .i64 0, .slice none 0 0, .int .i64 0, .int .i64 0, .int .i64 0, .int .i64 0, .int .i64 0, .int .i64 0, .int .i64 0, .slice none 0 0] 39)) (w.heap.size + 1 + 1) 39 (ouC15 0 0 0 0 none 0 0 0 0 0 0 0 0 0 none 0 0)) := Lib.hid (blk_new (by simp))
  have HX := Lib.hid ((((Chg.refl (fun _ => False) w).alloc (.cells #[.int .i64 ki, .int .u64 km, .int .i64 kp, .int .i64 ks, .int .i64 ko] 77)).alloc (.cells #[.func (.func 49) #[] #[], .func (.func 50) #[] #[.pointer (some ⟨qp, 0, none⟩)], .func (.func 52) #[] #[.pointer (some ⟨qp, 0, none⟩)]] 80)).alloc (.cells #[.int .i64 0, .int .i64 0, .int .i64 0, .int .i64 0, .slice none 0 0, .int .i64 0, .int .i64 0, .int .i64 0, .int .i64 0, .int .i64 0, .int .i64 0, .int .i64 0, .slice none 0 0] 39))
  have HQ : Hid (w.heap.size ≤ w.heap.size + 1 + 1) := Lib.hid (by omega)
  have HN1 : Hid (¬ w.heap.size + 1 = w.heap.size + 1 + 1) := Lib.hid (by omega)
  go_enter Try.func23, Try.ntmps23
  go_upto_region 1 with fail
  generalize ((w.alloc (.cells #[.int .i64 ki, .int .u64 km, .int .i64 kp, .int .i64 ks, .int .i64 ko] 77)).alloc (.cells #[.func (.func 49) #[] #[], .func (.func 50) #[] #[.pointer (some ⟨qp, 0, none⟩)], .func (.func 52) #[] #[.pointer (some ⟨qp, 0, none⟩)]] 80)).alloc (.cells #[.int .i64 0, .int .i64 0, .int .i64 0, .int .i64 0, .slice none 0 0, .int .i64 0, .int .i64 0, .int .i64 0, .int .i64 0, .int .i64 0, .int .i64 0, .int .i64 0, .slice none 0 0] 39) = w1 at *
  generalize w.heap.size + 1 + 1 = Q2 at *
  generalize w.heap.size + 1 = Q1 at *
  generalize w.heap.size = Q0 at HB0 ⊢
  obtain ⟨u0, u1, u2, u3, u4⟩ := ky_cells13 HB0.out
  go_wp2_with fail
  refine (HLK.out _ HX.out).mono ?_
  rintro e w3 ⟨rfl, hc⟩
  have hca := hc.alloc (.cells #[.int .i64 ak, .int .i64 ap, .int .i64 ao, .int .i64 ag] 68)
  have HB3 : Hid (Blk (w3.alloc (.cells #[.int .i64 ak, .int .i64 ap, .int .i64 ao, .int .i64 ag] 68)) w3.heap.size 68 (acC ak ap ao ag)) := Lib.hid (blk_new rfl)
  have HN3 := Lib.hid (show ¬ w3.heap.size = Q2 from by have := (HZ.out.chg hc id).lt; omega)
  replace HZ := Lib.hid (HZ.out.chg hca id)
  replace HB1 := Lib.hid (HB1.out.chg hca id)
  replace HB4 := Lib.hid (HB4.out.chg hca id)
  replace HX := Lib.hid (HX.out.trans hca (fun _ _ e => e))
  clear hc hca u0 u1 u2 u3 u4 HB0
  go_upto_region 2 with fail
  generalize w3.alloc (.cells #[.int .i64 ak, .int .i64 ap, .int .i64 ao, .int .i64 ag] 68) = v3 at *
  generalize w3.heap.size = Q3 at *
  by_cases hx0 : ak < 0
  · have hx1 : ¬ ak = 1 := by omega
    have hx2 : ¬ ak = 2 := by omega
    obtain rfl : v = zOV := by rw [← HV.out]; exact tu15_no hx1 hx2 ..
    obtain ⟨y0, y1, y2, y3⟩ := ac_cells13 HB3.out
    go_wp2_with fail
    refine (drop15_any _).mono ?_
    rintro e w4 ⟨rfl, hc⟩
    replace HZ := Lib.hid (HZ.out.chg hc id)
    replace HX := Lib.hid (HX.out.trans hc (fun _ _ e => e))
    clear hc
    clear y0 y1 y2 y3
    obtain ⟨x0, x1, x2, x3, x4, x5, x6, x7, x8, x9, x10, x11, x12⟩ := ou_cells15 HZ.out
    obtain ⟨f0, f1, f2, f3, f4, f5, f6, f7, f8, f9, f10, f11, f12⟩ := ou_free15 HZ.out
    obtain ⟨r0, r1, r2, r3, r4, r5, r6, r7, r8, r9, r10, r11, r12, hcs⟩ := ou_put15 HZ.out rfl 0 0 0 0 none 0 0 0 0 0 0 0 0 0 none 0 0
    have RR := Lib.hid (And.intro r0 (And.intro r1 (And.intro r2 (And.intro r3 (And.intro r4 (And.intro r5 (And.intro r6 (And.intro r7 (And.intro r8 (And.intro r9 (And.intro r10 (And.intro r11 r12))))))))))))
    have HF := Lib.hid (fresh_set HX.out hcs HQ.out)
    clear r0 r1 r2 r3 r4 r5 r6 r7 r8 r9 r10 r11 r12 hcs
    go_wp2_with fail
    obtain ⟨r0, r1, r2, r3, r4, r5, r6, r7, r8, r9, r10, r11, r12⟩ := RR.out
    exact bodyPost_ret (v := .agg #[.int .i64 0, .int .i64 0, .int .i64 0, .int .i64 0, .slice none 0 0, .int .i64 0, .int .i64 0, .int .i64 0, .int .i64 0, .int .i64 0, .int .i64 0, .int .i64 0, .slice none 0 0]) (by simp [results, Try.results23, go_sem, r0, r1, r2, r3, r4, r5, r6, r7, r8, r9, r10, r11, r12]) rfl ⟨none, 0, 0, none, 0, 0, rfl, BsM15.nil _, BsM15.nil _, HF.out⟩
  by_cases hx3 : 3 ≤ ak
  · have hx1 : ¬ ak = 1 := by omega
    have hx2 : ¬ ak = 2 := by omega
    obtain rfl : v = zOV := by rw [← HV.out]; exact tu15_no hx1 hx2 ..
    obtain ⟨y0, y1, y2, y3⟩ := ac_cells13 HB3.out
    go_wp2_with fail
    refine (drop15_any _).mono ?_
    rintro e w4 ⟨rfl, hc⟩
    replace HZ := Lib.hid (HZ.out.chg hc id)
    replace HX := Lib.hid (HX.out.trans hc (fun _ _ e => e))
    clear hc
    clear y0 y1 y2 y3
    obtain ⟨x0, x1, x2, x3, x4, x5, x6, x7, x8, x9, x10, x11, x12⟩ := ou_cells15 HZ.out
    obtain ⟨f0, f1, f2, f3, f4, f5, f6, f7, f8, f9, f10, f11, f12⟩ := ou_free15 HZ.out
    obtain ⟨r0, r1, r2, r3, r4, r5, r6, r7, r8, r9, r10, r11, r12, hcs⟩ := ou_put15 HZ.out rfl 0 0 0 0 none 0 0 0 0 0 0 0 0 0 none 0 0
    have RR := Lib.hid (And.intro r0 (And.intro r1 (And.intro r2 (And.intro r3 (And.intro r4 (And.intro r5 (And.intro r6 (And.intro r7 (And.intro r8 (And.intro r9 (And.intro r10 (And.intro r11 r12))))))))))))
    have HF := Lib.hid (fresh_set HX.out hcs HQ.out)
    clear r0 r1 r2 r3 r4 r5 r6 r7 r8 r9 r10 r11 r12 hcs
    go_wp2_with fail
    obtain ⟨r0, r1, r2, r3, r4, r5, r6, r7, r8, r9, r10, r11, r12⟩ := RR.out
    exact bodyPost_ret (v := .agg #[.int .i64 0, .int .i64 0, .int .i64 0, .int .i64 0, .slice none 0 0, .int .i64 0, .int .i64 0, .int .i64 0, .int .i64 0, .int .i64 0, .int .i64 0, .int .i64 0, .slice none 0 0]) (by simp [results, Try.results23, go_sem, r0, r1, r2, r3, r4, r5, r6, r7, r8, r9, r10, r11, r12]) rfl ⟨none, 0, 0, none, 0, 0, rfl, BsM15.nil _, BsM15.nil _, HF.out⟩
  have hx4 : ak = 0 ∨ ak = 1 ∨ ak = 2 := by omega
  clear hx0 hx3
  rcases hx4 with rfl | rfl | rfl
  · skip
    obtain rfl : v = zOV := by rw [← HV.out]; exact tu15_no (by decide) (by decide) ..
    obtain ⟨y0, y1, y2, y3⟩ := ac_cells13 HB3.out
    go_wp2_with fail
    clear y0 y1 y2 y3
    have HKEEP : Hid (∀ W : World, Chg (fun k => k = Q2) v3 W → (W.cell? ⟨Q3, 0, none⟩ = some (.int .i64 (0)) ∧ W.cell? ⟨Q3, 1, none⟩ = some (.int .i64 ap) ∧ W.cell? ⟨Q3, 2, none⟩ = some (.int .i64 ao) ∧ W.cell? ⟨Q3, 3, none⟩ = some (.int .i64 ag) ∧ W.cell? ⟨Q1, 0, none⟩ = some (.func (.func 49) #[] #[]) ∧ W.cell? ⟨Q1, 1, none⟩ = some (.func (.func 50) #[] #[.pointer (some ⟨qp, 0, none⟩)]) ∧ W.cell? ⟨Q1, 2, none⟩ = some (.func (.func 52) #[] #[.pointer (some ⟨qp, 0, none⟩)]))) := Lib.hid (fun W hw => by
      obtain ⟨y0, y1, y2, y3⟩ := ac_cells13 (HB3.out.chg hw HN3.out)
      have g0 := Blk.cell (HB1.out.chg hw HN1.out) 0
      have g1 := Blk.cell (HB1.out.chg hw HN1.out) 1
      have g2 := Blk.cell (HB1.out.chg hw HN1.out) 2
      simp only [List.getElem?_toArray, List.getElem?_cons_zero, List.getElem?_cons_succ] at g0 g1 g2
      exact ⟨y0, y1, y2, y3, g0, g1, g2⟩
    )
    have HYA := Lib.hid (Chg.refl (fun k => k = Q2) v3).drew
    replace HX := Lib.hid HX.out.drew
    replace HZ := Lib.hid HZ.out.drew
    replace HB4 := Lib.hid HB4.out.drew
    obtain ⟨y0, y1, y2, y3, g0, g1, g2⟩ := HKEEP.out _ HYA.out
    go_region_held3 (fun w' => w'.cell? ⟨Q3, 0, none⟩ = some (.int .i64 (0)) ∧ w'.cell? ⟨Q3, 1, none⟩ = some (.int .i64 ap) ∧ w'.cell? ⟨Q3, 2, none⟩ = some (.int .i64 ao) ∧ w'.cell? ⟨Q3, 3, none⟩ = some (.int .i64 ag) ∧ w'.cell? ⟨Q1, 0, none⟩ = some (.func (.func 49) #[] #[]) ∧ w'.cell? ⟨Q1, 1, none⟩ = some (.func (.func 50) #[] #[.pointer (some ⟨qp, 0, none⟩)]) ∧ w'.cell? ⟨Q1, 2, none⟩ = some (.func (.func 52) #[] #[.pointer (some ⟨qp, 0, none⟩)]))
      (first | with_reducible exact HKEEP.out _ HYA.out | with_reducible exact HKEEP.out _ HYB.out | with_reducible exact HKEEP.out _ HYC.out | fail)
      (first
        | (go_at_call 49; (with_reducible refine (op1_any 0 ap ao ag _).mono ?_); rintro e w4 ⟨rfl, hc⟩; have HYB := Lib.hid (HYA.out.trans (hc.mono (S' := fun k => k = Q2) (fun _ _ h => h.elim)) (fun _ _ e => e)); replace HZ := Lib.hid (HZ.out.chg hc id); replace HX := Lib.hid (HX.out.trans hc (fun _ _ e => e)); clear hc; obtain ⟨x0, x1, x2, x3, x4, x5, x6, x7, x8, x9, x10, x11, x12⟩ := ou_cells15 HZ.out; obtain ⟨f0, f1, f2, f3, f4, f5, f6, f7, f8, f9, f10, f11, f12⟩ := ou_free15 HZ.out; obtain ⟨r0, r1, r2, r3, r4, r5, r6, r7, r8, r9, r10, r11, r12, hcs⟩ := ou_put15 HZ.out rfl 0 0 0 0 none 0 0 0 0 0 0 0 0 0 none 0 0; have RR := Lib.hid (And.intro r0 (And.intro r1 (And.intro r2 (And.intro r3 (And.intro r4 (And.intro r5 (And.intro r6 (And.intro r7 (And.intro r8 (And.intro r9 (And.intro r10 (And.intro r11 r12)))))))))))); have HF := Lib.hid (fresh_set HX.out hcs HQ.out); have HYC := Lib.hid (HYB.out.trans hcs (fun _ _ e => e)); clear r0 r1 r2 r3 r4 r5 r6 r7 r8 r9 r10 r11 r12 hcs)
        | fail)
    all_goals
      go_wp2_with fail
      obtain ⟨r0, r1, r2, r3, r4, r5, r6, r7, r8, r9, r10, r11, r12⟩ := RR.out
      exact bodyPost_ret (v := .agg #[.int .i64 0, .int .i64 0, .int .i64 0, .int .i64 0, .slice none 0 0, .int .i64 0, .int .i64 0, .int .i64 0, .int .i64 0, .int .i64 0, .int .i64 0, .int .i64 0, .slice none 0 0]) (by simp [results, Try.results23, go_sem, r0, r1, r2, r3, r4, r5, r6, r7, r8, r9, r10, r11, r12]) rfl ⟨none, 0, 0, none, 0, 0, rfl, BsM15.nil _, BsM15.nil _, HF.out⟩
  · skip
    have hcc := (fun (W : World) (hW : Chg (fun _ => False) w W) (hq4 : Blk W qp 37 (pkC k o f t p g i A n c)) => op2_any 1 ap ao ag qp k o f t p g i A n c b W (by omega) hq4 (HM.out.chg hW))
    rw [show dlv15 ap ag g b = v from HV.out] at hcc
    have HCC := Lib.hid hcc
    clear hcc
    obtain ⟨y0, y1, y2, y3⟩ := ac_cells13 HB3.out
    go_wp2_with fail
    clear y0 y1 y2 y3
    have HKEEP : Hid (∀ W : World, Chg (fun k => k = Q2) v3 W → (W.cell? ⟨Q3, 0, none⟩ = some (.int .i64 (1)) ∧ W.cell? ⟨Q3, 1, none⟩ = some (.int .i64 ap) ∧ W.cell? ⟨Q3, 2, none⟩ = some (.int .i64 ao) ∧ W.cell? ⟨Q3, 3, none⟩ = some (.int .i64 ag) ∧ W.cell? ⟨Q1, 0, none⟩ = some (.func (.func 49) #[] #[]) ∧ W.cell? ⟨Q1, 1, none⟩ = some (.func (.func 50) #[] #[.pointer (some ⟨qp, 0, none⟩)]) ∧ W.cell? ⟨Q1, 2, none⟩ = some (.func (.func 52) #[] #[.pointer (some ⟨qp, 0, none⟩)]))) := Lib.hid (fun W hw => by
      obtain ⟨y0, y1, y2, y3⟩ := ac_cells13 (HB3.out.chg hw HN3.out)
      have g0 := Blk.cell (HB1.out.chg hw HN1.out) 0
      have g1 := Blk.cell (HB1.out.chg hw HN1.out) 1
      have g2 := Blk.cell (HB1.out.chg hw HN1.out) 2
      simp only [List.getElem?_toArray, List.getElem?_cons_zero, List.getElem?_cons_succ] at g0 g1 g2
      exact ⟨y0, y1, y2, y3, g0, g1, g2⟩
    )
    have HYA := Lib.hid (Chg.refl (fun k => k = Q2) v3).drew
    replace HX := Lib.hid HX.out.drew
    replace HZ := Lib.hid HZ.out.drew
    replace HB4 := Lib.hid HB4.out.drew
    obtain ⟨y0, y1, y2, y3, g0, g1, g2⟩ := HKEEP.out _ HYA.out
    go_region_held3 (fun w' => w'.cell? ⟨Q3, 0, none⟩ = some (.int .i64 (1)) ∧ w'.cell? ⟨Q3, 1, none⟩ = some (.int .i64 ap) ∧ w'.cell? ⟨Q3, 2, none⟩ = some (.int .i64 ao) ∧ w'.cell? ⟨Q3, 3, none⟩ = some (.int .i64 ag) ∧ w'.cell? ⟨Q1, 0, none⟩ = some (.func (.func 49) #[] #[]) ∧ w'.cell? ⟨Q1, 1, none⟩ = some (.func (.func 50) #[] #[.pointer (some ⟨qp, 0, none⟩)]) ∧ w'.cell? ⟨Q1, 2, none⟩ = some (.func (.func 52) #[] #[.pointer (some ⟨qp, 0, none⟩)]))
      (first | with_reducible exact HKEEP.out _ HYA.out | with_reducible exact HKEEP.out _ HYB.out | with_reducible exact HKEEP.out _ HYC.out | fail)
      (first
        | (go_at_call 50; (with_reducible refine (HCC.out _ HX.out HB4.out).mono ?_); rintro e w4 ⟨A2, n2, c2, A3, n3, c3, rfl, hm2, hm3, hc⟩; have HYB := Lib.hid (HYA.out.trans (hc.mono (S' := fun k => k = Q2) (fun _ _ h => h.elim)) (fun _ _ e => e)); replace HZ := Lib.hid (HZ.out.chg hc id); replace HX := Lib.hid (HX.out.trans hc (fun _ _ e => e)); clear hc; unfold ouC15; have HM2 := Lib.hid hm2; have HM3 := Lib.hid hm3; clear hm2 hm3; obtain ⟨x0, x1, x2, x3, x4, x5, x6, x7, x8, x9, x10, x11, x12⟩ := ou_cells15 HZ.out; obtain ⟨f0, f1, f2, f3, f4, f5, f6, f7, f8, f9, f10, f11, f12⟩ := ou_free15 HZ.out; obtain ⟨r0, r1, r2, r3, r4, r5, r6, r7, r8, r9, r10, r11, r12, hcs⟩ := ou_put15 HZ.out rfl v.kd v.po v.ge v.st A2 n2 c2 v.k v.o v.f v.t v.p v.g v.i A3 n3 c3; have RR := Lib.hid (And.intro r0 (And.intro r1 (And.intro r2 (And.intro r3 (And.intro r4 (And.intro r5 (And.intro r6 (And.intro r7 (And.intro r8 (And.intro r9 (And.intro r10 (And.intro r11 r12)))))))))))); have HF := Lib.hid (fresh_set HX.out hcs HQ.out); replace HM2 := Lib.hid (HM2.out.put HZ.out noU8_ou hcs); replace HM3 := Lib.hid (HM3.out.put HZ.out noU8_ou hcs); have HYC := Lib.hid (HYB.out.trans hcs (fun _ _ e => e)); clear r0 r1 r2 r3 r4 r5 r6 r7 r8 r9 r10 r11 r12 hcs)
        | fail)
    all_goals
      go_wp2_with fail
      obtain ⟨r0, r1, r2, r3, r4, r5, r6, r7, r8, r9, r10, r11, r12⟩ := RR.out
      exact bodyPost_ret (v := .agg #[.int .i64 v.kd, .int .i64 v.po, .int .i64 v.ge, .int .i64 v.st, .slice A2 n2 c2, .int .i64 v.k, .int .i64 v.o, .int .i64 v.f, .int .i64 v.t, .int .i64 v.p, .int .i64 v.g, .int .i64 v.i, .slice A3 n3 c3]) (by simp [results, Try.results23, go_sem, r0, r1, r2, r3, r4, r5, r6, r7, r8, r9, r10, r11, r12]) rfl ⟨A2, n2, c2, A3, n3, c3, rfl, HM2.out, HM3.out, HF.out⟩
  · skip
    have hcc := (fun (W : World) (hW : Chg (fun _ => False) w W) (hq4 : Blk W qp 37 (pkC k o f t p g i A n c)) => op3_any 2 ap ao ag qp k o f t p g i A n c b W hr hq4 (HM.out.chg hW))
    rw [show fwd15 k o f t p g i ao ag b = v from HV.out] at hcc
    have HCC := Lib.hid hcc
    clear hcc
    obtain ⟨y0, y1, y2, y3⟩ := ac_cells13 HB3.out
    go_wp2_with fail
    clear y0 y1 y2 y3
    have HKEEP : Hid (∀ W : World, Chg (fun k => k = Q2) v3 W → (W.cell? ⟨Q3, 0, none⟩ = some (.int .i64 (2)) ∧ W.cell? ⟨Q3, 1, none⟩ = some (.int .i64 ap) ∧ W.cell? ⟨Q3, 2, none⟩ = some (.int .i64 ao) ∧ W.cell? ⟨Q3, 3, none⟩ = some (.int .i64 ag) ∧ W.cell? ⟨Q1, 0, none⟩ = some (.func (.func 49) #[] #[]) ∧ W.cell? ⟨Q1, 1, none⟩ = some (.func (.func 50) #[] #[.pointer (some ⟨qp, 0, none⟩)]) ∧ W.cell? ⟨Q1, 2, none⟩ = some (.func (.func 52) #[] #[.pointer (some ⟨qp, 0, none⟩)]))) := Lib.hid (fun W hw => by
      obtain ⟨y0, y1, y2, y3⟩ := ac_cells13 (HB3.out.chg hw HN3.out)
      have g0 := Blk.cell (HB1.out.chg hw HN1.out) 0
      have g1 := Blk.cell (HB1.out.chg hw HN1.out) 1
      have g2 := Blk.cell (HB1.out.chg hw HN1.out) 2
      simp only [List.getElem?_toArray, List.getElem?_cons_zero, List.getElem?_cons_succ] at g0 g1 g2
      exact ⟨y0, y1, y2, y3, g0, g1, g2⟩
    )
    have HYA := Lib.hid (Chg.refl (fun k => k = Q2) v3).drew
    replace HX := Lib.hid HX.out.drew
    replace HZ := Lib.hid HZ.out.drew
    replace HB4 := Lib.hid HB4.out.drew
    obtain ⟨y0, y1, y2, y3, g0, g1, g2⟩ := HKEEP.out _ HYA.out
    go_region_held3 (fun w' => w'.cell? ⟨Q3, 0, none⟩ = some (.int .i64 (2)) ∧ w'.cell? ⟨Q3, 1, none⟩ = some (.int .i64 ap) ∧ w'.cell? ⟨Q3, 2, none⟩ = some (.int .i64 ao) ∧ w'.cell? ⟨Q3, 3, none⟩ = some (.int .i64 ag) ∧ w'.cell? ⟨Q1, 0, none⟩ = some (.func (.func 49) #[] #[]) ∧ w'.cell? ⟨Q1, 1, none⟩ = some (.func (.func 50) #[] #[.pointer (some ⟨qp, 0, none⟩)]) ∧ w'.cell? ⟨Q1, 2, none⟩ = some (.func (.func 52) #[] #[.pointer (some ⟨qp, 0, none⟩)]))
      (first | with_reducible exact HKEEP.out _ HYA.out | with_reducible exact HKEEP.out _ HYB.out | with_reducible exact HKEEP.out _ HYC.out | fail)
      (first
        | (go_at_call 52; (with_reducible refine (HCC.out _ HX.out HB4.out).mono ?_); rintro e w4 ⟨A2, n2, c2, A3, n3, c3, rfl, hm2, hm3, hc⟩; have HYB := Lib.hid (HYA.out.trans (hc.mono (S' := fun k => k = Q2) (fun _ _ h => h.elim)) (fun _ _ e => e)); replace HZ := Lib.hid (HZ.out.chg hc id); replace HX := Lib.hid (HX.out.trans hc (fun _ _ e => e)); clear hc; unfold ouC15; have HM2 := Lib.hid hm2; have HM3 := Lib.hid hm3; clear hm2 hm3; obtain ⟨x0, x1, x2, x3, x4, x5, x6, x7, x8, x9, x10, x11, x12⟩ := ou_cells15 HZ.out; obtain ⟨f0, f1, f2, f3, f4, f5, f6, f7, f8, f9, f10, f11, f12⟩ := ou_free15 HZ.out; obtain ⟨r0, r1, r2, r3, r4, r5, r6, r7, r8, r9, r10, r11, r12, hcs⟩ := ou_put15 HZ.out rfl v.kd v.po v.ge v.st A2 n2 c2 v.k v.o v.f v.t v.p v.g v.i A3 n3 c3; have RR := Lib.hid (And.intro r0 (And.intro r1 (And.intro r2 (And.intro r3 (And.intro r4 (And.intro r5 (And.intro r6 (And.intro r7 (And.intro r8 (And.intro r9 (And.intro r10 (And.intro r11 r12)))))))))))); have HF := Lib.hid (fresh_set HX.out hcs HQ.out); replace HM2 := Lib.hid (HM2.out.put HZ.out noU8_ou hcs); replace HM3 := Lib.hid (HM3.out.put HZ.out noU8_ou hcs); have HYC := Lib.hid (HYB.out.trans hcs (fun _ _ e => e)); clear r0 r1 r2 r3 r4 r5 r6 r7 r8 r9 r10 r11 r12 hcs)
        | fail)
    all_goals
      go_wp2_with fail
      obtain ⟨r0, r1, r2, r3, r4, r5, r6, r7, r8, r9, r10, r11, r12⟩ := RR.out
      exact bodyPost_ret (v := .agg #[.int .i64 v.kd, .int .i64 v.po, .int .i64 v.ge, .int .i64 v.st, .slice A2 n2 c2, .int .i64 v.k, .int .i64 v.o, .int .i64 v.f, .int .i64 v.t, .int .i64 v.p, .int .i64 v.g, .int .i64 v.i, .slice A3 n3 c3]) (by simp [results, Try.results23, go_sem, r0, r1, r2, r3, r4, r5, r6, r7, r8, r9, r10, r11, r12]) rfl ⟨A2, n2, c2, A3, n3, c3, rfl, HM2.out, HM3.out, HF.out⟩

end Go.Proofs.Ytacbgelbffmngaa
