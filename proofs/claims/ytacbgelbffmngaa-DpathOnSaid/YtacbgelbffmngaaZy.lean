/-
  Walk: dpath.Tunnel. Conditions: the frame is read in memory; what the table tells of the packet's key.
-/
import Derived.Test.YtacbgelbffmngaaZw
import Derived.Deep.RegionHeld3
import Derived.RegionTactic
namespace Go.Proofs.Ytacbgelbffmngaa
open Go.RowKit
set_option linter.unusedVariables false
set_option linter.unusedSimpArgs false

set_option maxRecDepth 100000 in
set_option maxHeartbeats 4000000 in
theorem tunnel15_bad (tp : Value) (k o f t p g i ch : Int) (A : Option Addr) (n c : Nat) (w : World) (hn : n ≤ 9223372036854775807) (hr : pkR k o f t p g i n = false) : Calls Try.prog 15 #[tp, .int .i64 ch, .agg #[.int .i64 k, .int .i64 o, .int .i64 f, .int .i64 t, .int .i64 p, .int .i64 g, .int .i64 i, .slice A n c]] w (HE15 zOV 1 w) := by
  have hrt := fun W => tright_any k o f t p g i A n c W hn
  unfold pkC at hrt
  rw [hr] at hrt
  have HRT := Lib.hid hrt
  clear hrt
  clear hr
  have HB0 : Hid (Blk ((w.alloc (.cells #[.int .i64 k, .int .i64 o, .int .i64 f, .int .i64 t, .int .i64 p, .int .i64 g, .int .i64 i, .slice A n c] 37)).alloc (.cells #[.int .i64 0, .int .i64 0, .int .i64 0, .int .i64 0, .slice none 0 0, .int .i64 0, .int .i64 0, .int .i64 0, .int .i64 0, .int .i64 0, .int .i64 0, .int .i64 0, .slice none 0 0] 39)) (w.heap.size) 37 (pkC k o f t p g i A n c)) := Lib.hid (Blk.alloc (blk_new rfl) _)
  have HZ : Hid (Blk ((w.alloc (.cells #[.int .i64 k, .int .i64 o, .int .i64 f, .int .i64 t, .int .i64 p, .int .i64 g, .int .i64 i, .slice A n c] 37)).alloc (.cells #[.int .i64 0, .int .i64 0, .int .i64 0, .int .i64 0, .slice none 0 0, .int .i64 0, .int .i64 0, .int .i64 0, .int .i64 0, .int .i64 0, .int .i64 0, .int .i64 0, .slice none 0 0] 39)) (w.heap.size + 1) 39 (ouC15 0 0 0 0 none 0 0 0 0 0 0 0 0 0 none 0 0)) := Lib.hid (blk_new (by simp))
  have HX := Lib.hid (((Chg.refl (fun _ => False) w).alloc (.cells #[.int .i64 k, .int .i64 o, .int .i64 f, .int .i64 t, .int .i64 p, .int .i64 g, .int .i64 i, .slice A n c] 37)).alloc (.cells #[.int .i64 0, .int .i64 0, .int .i64 0, .int .i64 0, .slice none 0 0, .int .i64 0, .int .i64 0, .int .i64 0, .int .i64 0, .int .i64 0, .int .i64 0, .int .i64 0, .slice none 0 0] 39))
  have HQ : Hid (w.heap.size ≤ w.heap.size + 1) := Lib.hid (by omega)
  go_enter Try.func15, Try.ntmps15
  go_upto_region 1 with fail
  generalize (w.alloc (.cells #[.int .i64 k, .int .i64 o, .int .i64 f, .int .i64 t, .int .i64 p, .int .i64 g, .int .i64 i, .slice A n c] 37)).alloc (.cells #[.int .i64 0, .int .i64 0, .int .i64 0, .int .i64 0, .slice none 0 0, .int .i64 0, .int .i64 0, .int .i64 0, .int .i64 0, .int .i64 0, .int .i64 0, .int .i64 0, .slice none 0 0] 39) = w1 at *
  generalize w.heap.size + 1 = Q1 at *
  generalize w.heap.size = Q0 at HB0 ⊢
  obtain ⟨y0, y1, y2, y3, y4, y5, y6, y7⟩ := pk_cells HB0.out
  go_wp2_with fail
  refine (HRT.out _).mono ?_
  rintro e w2 ⟨rfl, hc⟩
  replace HZ := Lib.hid (HZ.out.chg hc id)
  replace HB0 := Lib.hid (HB0.out.chg hc id)
  replace HX := Lib.hid (HX.out.trans hc (fun _ _ e => e))
  clear hc
  clear y0 y1 y2 y3 y4 y5 y6 y7
  obtain ⟨y0, y1, y2, y3, y4, y5, y6, y7⟩ := pk_cells HB0.out
  obtain ⟨x0, x1, x2, x3, x4, x5, x6, x7, x8, x9, x10, x11, x12⟩ := ou_cells15 HZ.out
  obtain ⟨f0, f1, f2, f3, f4, f5, f6, f7, f8, f9, f10, f11, f12⟩ := ou_free15 HZ.out
  obtain ⟨r0, r1, r2, r3, r4, r5, r6, r7, r8, r9, r10, r11, r12, hcs⟩ := ou_put15 HZ.out rfl 0 0 0 0 none 0 0 0 0 0 0 0 0 0 none 0 0
  have RR := Lib.hid (And.intro r0 (And.intro r1 (And.intro r2 (And.intro r3 (And.intro r4 (And.intro r5 (And.intro r6 (And.intro r7 (And.intro r8 (And.intro r9 (And.intro r10 (And.intro r11 r12))))))))))))
  have HF := Lib.hid (fresh_set HX.out hcs HQ.out)
  clear r0 r1 r2 r3 r4 r5 r6 r7 r8 r9 r10 r11 r12 hcs
  go_wp2_with fail
  obtain ⟨r0, r1, r2, r3, r4, r5, r6, r7, r8, r9, r10, r11, r12⟩ := RR.out
  exact bodyPost_ret (v := .tuple #[.agg #[.int .i64 0, .int .i64 0, .int .i64 0, .int .i64 0, .slice none 0 0, .int .i64 0, .int .i64 0, .int .i64 0, .int .i64 0, .int .i64 0, .int .i64 0, .int .i64 0, .slice none 0 0], .int .i64 1]) (by simp [results, Try.results15, go_sem, r0, r1, r2, r3, r4, r5, r6, r7, r8, r9, r10, r11, r12]) rfl ⟨none, 0, 0, none, 0, 0, rfl, BsM15.nil _, BsM15.nil _, HF.out⟩
set_option maxRecDepth 100000 in
set_option maxHeartbeats 4000000 in
theorem tunnel15_to (tp : Value) (k o f t p g i ch : Int) (A : Option Addr) (n c : Nat) (w : World) (hn : n ≤ 9223372036854775807) (hr : pkR k o f t p g i n = true) (ht : ¬ t = ch) : Calls Try.prog 15 #[tp, .int .i64 ch, .agg #[.int .i64 k, .int .i64 o, .int .i64 f, .int .i64 t, .int .i64 p, .int .i64 g, .int .i64 i, .slice A n c]] w (HE15 zOV 1 w) := by
  have hrt := fun W => tright_any k o f t p g i A n c W hn
  unfold pkC at hrt
  rw [hr] at hrt
  have HRT := Lib.hid hrt
  clear hrt
  have s1 : (t != ch) = true := by simpa using ht
  have s2 : (t == ch) = false := by simpa using ht
  clear hr ht
  have HB0 : Hid (Blk ((w.alloc (.cells #[.int .i64 k, .int .i64 o, .int .i64 f, .int .i64 t, .int .i64 p, .int .i64 g, .int .i64 i, .slice A n c] 37)).alloc (.cells #[.int .i64 0, .int .i64 0, .int .i64 0, .int .i64 0, .slice none 0 0, .int .i64 0, .int .i64 0, .int .i64 0, .int .i64 0, .int .i64 0, .int .i64 0, .int .i64 0, .slice none 0 0] 39)) (w.heap.size) 37 (pkC k o f t p g i A n c)) := Lib.hid (Blk.alloc (blk_new rfl) _)
  have HZ : Hid (Blk ((w.alloc (.cells #[.int .i64 k, .int .i64 o, .int .i64 f, .int .i64 t, .int .i64 p, .int .i64 g, .int .i64 i, .slice A n c] 37)).alloc (.cells #[.int .i64 0, .int .i64 0, .int .i64 0, .int .i64 0, .slice none 0 0, .int .i64 0, .int .i64 0, .int .i64 0, .int .i64 0, .int .i64 0, .int .i64 0, .int .i64 0, .slice none 0 0] 39)) (w.heap.size + 1) 39 (ouC15 0 0 0 0 none 0 0 0 0 0 0 0 0 0 none 0 0)) := Lib.hid (blk_new (by simp))
  have HX := Lib.hid (((Chg.refl (fun _ => False) w).alloc (.cells #[.int .i64 k, .int .i64 o, .int .i64 f, .int .i64 t, .int .i64 p, .int .i64 g, .int .i64 i, .slice A n c] 37)).alloc (.cells #[.int .i64 0, .int .i64 0, .int .i64 0, .int .i64 0, .slice none 0 0, .int .i64 0, .int .i64 0, .int .i64 0, .int .i64 0, .int .i64 0, .int .i64 0, .int .i64 0, .slice none 0 0] 39))
  have HQ : Hid (w.heap.size ≤ w.heap.size + 1) := Lib.hid (by omega)
  go_enter Try.func15, Try.ntmps15
  go_upto_region 1 with fail
  generalize (w.alloc (.cells #[.int .i64 k, .int .i64 o, .int .i64 f, .int .i64 t, .int .i64 p, .int .i64 g, .int .i64 i, .slice A n c] 37)).alloc (.cells #[.int .i64 0, .int .i64 0, .int .i64 0, .int .i64 0, .slice none 0 0, .int .i64 0, .int .i64 0, .int .i64 0, .int .i64 0, .int .i64 0, .int .i64 0, .int .i64 0, .slice none 0 0] 39) = w1 at *
  generalize w.heap.size + 1 = Q1 at *
  generalize w.heap.size = Q0 at HB0 ⊢
  obtain ⟨y0, y1, y2, y3, y4, y5, y6, y7⟩ := pk_cells HB0.out
  go_wp2_with fail
  refine (HRT.out _).mono ?_
  rintro e w2 ⟨rfl, hc⟩
  replace HZ := Lib.hid (HZ.out.chg hc id)
  replace HB0 := Lib.hid (HB0.out.chg hc id)
  replace HX := Lib.hid (HX.out.trans hc (fun _ _ e => e))
  clear hc
  clear y0 y1 y2 y3 y4 y5 y6 y7
  obtain ⟨y0, y1, y2, y3, y4, y5, y6, y7⟩ := pk_cells HB0.out
  obtain ⟨x0, x1, x2, x3, x4, x5, x6, x7, x8, x9, x10, x11, x12⟩ := ou_cells15 HZ.out
  obtain ⟨f0, f1, f2, f3, f4, f5, f6, f7, f8, f9, f10, f11, f12⟩ := ou_free15 HZ.out
  obtain ⟨r0, r1, r2, r3, r4, r5, r6, r7, r8, r9, r10, r11, r12, hcs⟩ := ou_put15 HZ.out rfl 0 0 0 0 none 0 0 0 0 0 0 0 0 0 none 0 0
  have RR := Lib.hid (And.intro r0 (And.intro r1 (And.intro r2 (And.intro r3 (And.intro r4 (And.intro r5 (And.intro r6 (And.intro r7 (And.intro r8 (And.intro r9 (And.intro r10 (And.intro r11 r12))))))))))))
  have HF := Lib.hid (fresh_set HX.out hcs HQ.out)
  clear r0 r1 r2 r3 r4 r5 r6 r7 r8 r9 r10 r11 r12 hcs
  go_wp2_with fail
  obtain ⟨r0, r1, r2, r3, r4, r5, r6, r7, r8, r9, r10, r11, r12⟩ := RR.out
  exact bodyPost_ret (v := .tuple #[.agg #[.int .i64 0, .int .i64 0, .int .i64 0, .int .i64 0, .slice none 0 0, .int .i64 0, .int .i64 0, .int .i64 0, .int .i64 0, .int .i64 0, .int .i64 0, .int .i64 0, .slice none 0 0], .int .i64 1]) (by simp [results, Try.results15, go_sem, r0, r1, r2, r3, r4, r5, r6, r7, r8, r9, r10, r11, r12]) rfl ⟨none, 0, 0, none, 0, 0, rfl, BsM15.nil _, BsM15.nil _, HF.out⟩
set_option maxRecDepth 100000 in
set_option maxHeartbeats 8000000 in
theorem tunnel15_ok (tp : Value) (oe : Option En) (ak ap ao ag : Int) (hac : acO13 oe = acC ak ap ao ag) (k o f t p g i : Int) (A : Option Addr) (n c : Nat) (w : World) (b : List UInt8) (h : BsM15 w A n c b) (hl : ∀ W, Chg (fun _ => False) w W → Calls Try.prog 39 #[tp, .agg (kyC k 0 p g o)] W (LkP13 oe W)) (hr : pkR k o f t p g i n = true) : Calls Try.prog 15 #[tp, .int .i64 t, .agg #[.int .i64 k, .int .i64 o, .int .i64 f, .int .i64 t, .int .i64 p, .int .i64 g, .int .i64 i, .slice A n c]] w (HE15 (tu15 k o f t p g i b ak ap ao ag) 0 w) := by
  have hn : n ≤ 9223372036854775807 := by have := (pkR_parts hr).2.2.2.2.2.2.2.1.2; omega
  have hrt := fun W => tright_any k o f t p g i A n c W hn
  unfold pkC at hrt
  rw [hr] at hrt
  have HRT := Lib.hid hrt
  clear hrt
  have hbe := fun (W : World) (qp : Nat) (hW : Chg (fun _ => False) w W) (g1 : Blk W qp 37 (pkC k o f t p g i A n c)) (g4 : BsM15 W A n c b) => becp15_any tp k 0 p g o oe ak ap ao ag hac qp k o f t p g i A n c b W (fun W2 h2 => hl W2 (hW.trans h2 (fun _ _ e => e))) hr g1 g4
  generalize tu15 k o f t p g i b ak ap ao ag = v at *
  have HBE := Lib.hid hbe
  have HM0 := Lib.hid h
  clear hl hac hr h hbe
  have HB0 : Hid (Blk ((w.alloc (.cells #[.int .i64 k, .int .i64 o, .int .i64 f, .int .i64 t, .int .i64 p, .int .i64 g, .int .i64 i, .slice A n c] 37)).alloc (.cells #[.int .i64 0, .int .i64 0, .int .i64 0, .int .i64 0, .slice none 0 0, .int .i64 0, .int .i64 0, .int .i64 0, .int .i64 0, .int .i64 0, .int .i64 0, .int .i64 0, .slice none 0 0] 39)) (w.heap.size) 37 (pkC k o f t p g i A n c)) := Lib.hid (Blk.alloc (blk_new rfl) _)
  have HZ : Hid (Blk ((w.alloc (.cells #[.int .i64 k, .int .i64 o, .int .i64 f, .int .i64 t, .int .i64 p, .int .i64 g, .int .i64 i, .slice A n c] 37)).alloc (.cells #[.int .i64 0, .int .i64 0, .int .i64 0, .int .i64 0, .slice none 0 0, .int .i64 0, .int .i64 0, .int .i64 0, .int .i64 0, .int .i64 0, .int .i64 0, .int .i64 0, .slice none 0 0] 39)) (w.heap.size + 1) 39 (ouC15 0 0 0 0 none 0 0 0 0 0 0 0 0 0 none 0 0)) := Lib.hid (blk_new (by simp))
  have HX := Lib.hid (((Chg.refl (fun _ => False) w).alloc (.cells #[.int .i64 k, .int .i64 o, .int .i64 f, .int .i64 t, .int .i64 p, .int .i64 g, .int .i64 i, .slice A n c] 37)).alloc (.cells #[.int .i64 0, .int .i64 0, .int .i64 0, .int .i64 0, .slice none 0 0, .int .i64 0, .int .i64 0, .int .i64 0, .int .i64 0, .int .i64 0, .int .i64 0, .int .i64 0, .slice none 0 0] 39))
  have HQ : Hid (w.heap.size ≤ w.heap.size + 1) := Lib.hid (by omega)
  have HN0 : Hid (¬ w.heap.size = w.heap.size + 1) := Lib.hid (by omega)
  go_enter Try.func15, Try.ntmps15
  go_upto_region 1 with fail
  generalize (w.alloc (.cells #[.int .i64 k, .int .i64 o, .int .i64 f, .int .i64 t, .int .i64 p, .int .i64 g, .int .i64 i, .slice A n c] 37)).alloc (.cells #[.int .i64 0, .int .i64 0, .int .i64 0, .int .i64 0, .slice none 0 0, .int .i64 0, .int .i64 0, .int .i64 0, .int .i64 0, .int .i64 0, .int .i64 0, .int .i64 0, .slice none 0 0] 39) = w1 at *
  generalize w.heap.size + 1 = Q1 at *
  generalize w.heap.size = Q0 at HB0 HN0 ⊢
  obtain ⟨y0, y1, y2, y3, y4, y5, y6, y7⟩ := pk_cells HB0.out
  go_wp2_with fail
  refine (HRT.out _).mono ?_
  rintro e w2 ⟨rfl, hc⟩
  replace HZ := Lib.hid (HZ.out.chg hc id)
  replace HB0 := Lib.hid (HB0.out.chg hc id)
  replace HX := Lib.hid (HX.out.trans hc (fun _ _ e => e))
  clear hc
  clear y0 y1 y2 y3 y4 y5 y6 y7
  obtain ⟨y0, y1, y2, y3, y4, y5, y6, y7⟩ := pk_cells HB0.out
  have hca := (Chg.refl (fun _ => False) w2).alloc (.cells #[.int .i64 k, .int .u64 0, .int .i64 p, .int .i64 g, .int .i64 o] 77)
  have HB2 : Hid (Blk (w2.alloc (.cells #[.int .i64 k, .int .u64 0, .int .i64 p, .int .i64 g, .int .i64 o] 77)) w2.heap.size 77 (kyC k 0 p g o)) := Lib.hid (blk_new rfl)
  have HN2 := Lib.hid (show ¬ w2.heap.size = Q1 from by have := HZ.out.lt; omega)
  replace HZ := Lib.hid (HZ.out.chg hca id)
  replace HB0 := Lib.hid (HB0.out.chg hca id)
  replace HX := Lib.hid (HX.out.trans hca (fun _ _ e => e))
  have HM := Lib.hid (HM0.out.chg HX.out)
  clear hca
  go_wp2_with fail
  clear y0 y1 y2 y3 y4 y5 y6 y7
  generalize w2.alloc (.cells #[.int .i64 k, .int .u64 0, .int .i64 p, .int .i64 g, .int .i64 o] 77) = v2 at *
  generalize w2.heap.size = Q2 at *
  have HKEEP : Hid (∀ W : World, Chg (fun k => k = Q1) v2 W → (W.cell? ⟨Q2, 0, none⟩ = some (.int .i64 k) ∧ W.cell? ⟨Q2, 1, none⟩ = some (.int .u64 0) ∧ W.cell? ⟨Q2, 2, none⟩ = some (.int .i64 p) ∧ W.cell? ⟨Q2, 3, none⟩ = some (.int .i64 g) ∧ W.cell? ⟨Q2, 4, none⟩ = some (.int .i64 o) ∧ W.cell? ⟨Q0, 0, none⟩ = some (.int .i64 k) ∧ W.cell? ⟨Q0, 1, none⟩ = some (.int .i64 o) ∧ W.cell? ⟨Q0, 2, none⟩ = some (.int .i64 f) ∧ W.cell? ⟨Q0, 3, none⟩ = some (.int .i64 t) ∧ W.cell? ⟨Q0, 4, none⟩ = some (.int .i64 p) ∧ W.cell? ⟨Q0, 5, none⟩ = some (.int .i64 g) ∧ W.cell? ⟨Q0, 6, none⟩ = some (.int .i64 i) ∧ W.cell? ⟨Q0, 7, none⟩ = some (.slice A n c))) := Lib.hid (fun W hw => by
    obtain ⟨u0, u1, u2, u3, u4⟩ := ky_cells13 (HB2.out.chg hw HN2.out)
    obtain ⟨y0, y1, y2, y3, y4, y5, y6, y7⟩ := pk_cells (HB0.out.chg hw HN0.out)
    exact ⟨u0, u1, u2, u3, u4, y0, y1, y2, y3, y4, y5, y6, y7⟩
  )
  have HYA := Lib.hid (Chg.refl (fun k => k = Q1) v2).drew
  replace HX := Lib.hid HX.out.drew
  replace HZ := Lib.hid HZ.out.drew
  replace HM := Lib.hid (show BsM15 v2.drew A n c b from HM.out)
  obtain ⟨u0, u1, u2, u3, u4, y0, y1, y2, y3, y4, y5, y6, y7⟩ := HKEEP.out _ HYA.out
  go_region_held3 (fun w' => w'.cell? ⟨Q2, 0, none⟩ = some (.int .i64 k) ∧ w'.cell? ⟨Q2, 1, none⟩ = some (.int .u64 0) ∧ w'.cell? ⟨Q2, 2, none⟩ = some (.int .i64 p) ∧ w'.cell? ⟨Q2, 3, none⟩ = some (.int .i64 g) ∧ w'.cell? ⟨Q2, 4, none⟩ = some (.int .i64 o) ∧ w'.cell? ⟨Q0, 0, none⟩ = some (.int .i64 k) ∧ w'.cell? ⟨Q0, 1, none⟩ = some (.int .i64 o) ∧ w'.cell? ⟨Q0, 2, none⟩ = some (.int .i64 f) ∧ w'.cell? ⟨Q0, 3, none⟩ = some (.int .i64 t) ∧ w'.cell? ⟨Q0, 4, none⟩ = some (.int .i64 p) ∧ w'.cell? ⟨Q0, 5, none⟩ = some (.int .i64 g) ∧ w'.cell? ⟨Q0, 6, none⟩ = some (.int .i64 i) ∧ w'.cell? ⟨Q0, 7, none⟩ = some (.slice A n c))
    (first | with_reducible exact HKEEP.out _ HYA.out | with_reducible exact HKEEP.out _ HYB.out | with_reducible exact HKEEP.out _ HYC.out | with_reducible exact HKEEP.out _ HYD.out | fail)
    (first
      | (go_at_call 30; (with_reducible refine (ofp15_any k o f t p g i A n c _).mono ?_); rintro e w3 ⟨qp, rfl, hqp, hc⟩; have HYB := Lib.hid (HYA.out.trans (hc.mono (S' := fun k => k = Q1) (fun _ _ h => h.elim)) (fun _ _ e => e)); replace HZ := Lib.hid (HZ.out.chg hc id); replace HM := Lib.hid (HM.out.chg hc); replace HX := Lib.hid (HX.out.trans hc (fun _ _ e => e)); clear hc; have HB4 := Lib.hid hqp; clear hqp)
      | (go_at_call 23; (with_reducible refine (HBE.out _ _ HX.out HB4.out HM.out).mono ?_); rintro e w4 ⟨A2, n2, c2, A3, n3, c3, rfl, hm2, hm3, hc⟩; have HYC := Lib.hid (HYB.out.trans (hc.mono (S' := fun k => k = Q1) (fun _ _ h => h.elim)) (fun _ _ e => e)); replace HZ := Lib.hid (HZ.out.chg hc id); replace HX := Lib.hid (HX.out.trans hc (fun _ _ e => e)); clear hc; unfold ouC15; have HM2 := Lib.hid hm2; have HM3 := Lib.hid hm3; clear hm2 hm3; obtain ⟨x0, x1, x2, x3, x4, x5, x6, x7, x8, x9, x10, x11, x12⟩ := ou_cells15 HZ.out; obtain ⟨f0, f1, f2, f3, f4, f5, f6, f7, f8, f9, f10, f11, f12⟩ := ou_free15 HZ.out; obtain ⟨r0, r1, r2, r3, r4, r5, r6, r7, r8, r9, r10, r11, r12, hcs⟩ := ou_put15 HZ.out rfl v.kd v.po v.ge v.st A2 n2 c2 v.k v.o v.f v.t v.p v.g v.i A3 n3 c3; have RR := Lib.hid (And.intro r0 (And.intro r1 (And.intro r2 (And.intro r3 (And.intro r4 (And.intro r5 (And.intro r6 (And.intro r7 (And.intro r8 (And.intro r9 (And.intro r10 (And.intro r11 r12)))))))))))); have HF := Lib.hid (fresh_set HX.out hcs HQ.out); replace HM2 := Lib.hid (HM2.out.put HZ.out noU8_ou hcs); replace HM3 := Lib.hid (HM3.out.put HZ.out noU8_ou hcs); have HYD := Lib.hid (HYC.out.trans hcs (fun _ _ e => e)); clear r0 r1 r2 r3 r4 r5 r6 r7 r8 r9 r10 r11 r12 hcs)
      | fail)
  all_goals
    go_wp2_with fail
    obtain ⟨r0, r1, r2, r3, r4, r5, r6, r7, r8, r9, r10, r11, r12⟩ := RR.out
    exact bodyPost_ret (v := .tuple #[.agg #[.int .i64 v.kd, .int .i64 v.po, .int .i64 v.ge, .int .i64 v.st, .slice A2 n2 c2, .int .i64 v.k, .int .i64 v.o, .int .i64 v.f, .int .i64 v.t, .int .i64 v.p, .int .i64 v.g, .int .i64 v.i, .slice A3 n3 c3], .int .i64 0]) (by simp [results, Try.results15, go_sem, r0, r1, r2, r3, r4, r5, r6, r7, r8, r9, r10, r11, r12]) rfl ⟨A2, n2, c2, A3, n3, c3, rfl, HM2.out, HM3.out, HF.out⟩

end Go.Proofs.Ytacbgelbffmngaa
