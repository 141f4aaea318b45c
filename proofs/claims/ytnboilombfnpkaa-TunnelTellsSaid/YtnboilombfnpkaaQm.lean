/-
  Walk: rutterlaw05.TunnelTells. Conditions: the frames are read in memory, no more of them than there is room.
-/
import Derived.Test.YtnboilombfnpkaaQk
import Derived.Test.YtnboilombfnpkaaQl
import Derived.Deep.RegionHeld3
namespace Go.Proofs.Ytnboilombfnpkaa
open Go.RowKit
set_option linter.unusedVariables false
set_option linter.unusedSimpArgs false

set_option maxHeartbeats 1000000 in
theorem ttells_biga (k o f t p g i k2 o2 f2 t2 p2 g2 i2 a0 a1 : Int) (A A2 : Option Addr) (n n2 c c2 : Nat) (w : World) (hn : n ≤ 9223372036854775807) (hn2 : n2 ≤ 9223372036854775807) (h3 : 3000 < n) :
    Calls Try.prog 3 #[.agg (pkC k o f t p g i A n c), .agg (pkC k2 o2 f2 t2 p2 g2 i2 A2 n2 c2), .agg #[.int .i64 a0, .int .i64 a1]] w fun e w' => e = .returned (.bool true) ∧ Chg (fun _ => False) w w' := by
  have HC0 := Lib.hid ((((Chg.refl (fun _ => False) w).alloc (.cells #[.int .i64 k, .int .i64 o, .int .i64 f, .int .i64 t, .int .i64 p, .int .i64 g, .int .i64 i, .slice A n c] 25)).alloc (.cells #[.int .i64 k2, .int .i64 o2, .int .i64 f2, .int .i64 t2, .int .i64 p2, .int .i64 g2, .int .i64 i2, .slice A2 n2 c2] 25)).alloc (.cells #[.int .i64 a0, .int .i64 a1] 26))
  have hQ0 : Blk (((w.alloc (.cells #[.int .i64 k, .int .i64 o, .int .i64 f, .int .i64 t, .int .i64 p, .int .i64 g, .int .i64 i, .slice A n c] 25)).alloc (.cells #[.int .i64 k2, .int .i64 o2, .int .i64 f2, .int .i64 t2, .int .i64 p2, .int .i64 g2, .int .i64 i2, .slice A2 n2 c2] 25)).alloc (.cells #[.int .i64 a0, .int .i64 a1] 26)) (w.heap.size + 1) 25 (pkC k2 o2 f2 t2 p2 g2 i2 A2 n2 c2) := (blk_new (by simp)).alloc _
  have HQ0 := Lib.hid hQ0
  have hfi := fun W => fits5_any k o f t p g i A n c W hn
  have hfj := fun W => fits5_any k2 o2 f2 t2 p2 g2 i2 A2 n2 c2 W hn2
  rw [show decide (n ≤ 3000) = false by simp; omega] at hfi
  generalize decide (n2 ≤ 3000) = bb at hfj
  unfold pkC at hfi hfj ⊢
  have HFI := Lib.hid hfi
  have HFJ := Lib.hid hfj
  clear hfi hfj hQ0
  go_enter Try.func3, Try.ntmps3
  go_wp2_with fail
  refine (HFI.out _).mono ?_
  rintro e w1 ⟨rfl, hc1⟩
  obtain ⟨y0, y1, y2, y3, y4, y5, y6, y7⟩ := pk_kept HQ0.out hc1
  clear HFI
  go_wp2_with fail
  refine (HFJ.out _).mono ?_
  rintro e w1b ⟨rfl, hc1b⟩
  have HA := Lib.hid (alive5_any w1b)
  clear HFJ y0 y1 y2 y3 y4 y5 y6 y7
  go_wp2_with fail
  refine HA.out.mono ?_
  rintro e w2 ⟨rfl, hc2⟩
  go_wp2_with fail
  go_ret
  exact ⟨rfl, ((HC0.out.trans hc1 (fun _ _ e => e)).trans hc1b (fun _ _ e => e)).trans hc2 (fun _ _ e => e)⟩

set_option maxHeartbeats 1000000 in
theorem ttells_bigb (k o f t p g i k2 o2 f2 t2 p2 g2 i2 a0 a1 : Int) (A A2 : Option Addr) (n n2 c c2 : Nat) (w : World) (hn : n ≤ 9223372036854775807) (hn2 : n2 ≤ 9223372036854775807) (h1 : n ≤ 3000) (h3 : 3000 < n2) :
    Calls Try.prog 3 #[.agg (pkC k o f t p g i A n c), .agg (pkC k2 o2 f2 t2 p2 g2 i2 A2 n2 c2), .agg #[.int .i64 a0, .int .i64 a1]] w fun e w' => e = .returned (.bool true) ∧ Chg (fun _ => False) w w' := by
  have HC0 := Lib.hid ((((Chg.refl (fun _ => False) w).alloc (.cells #[.int .i64 k, .int .i64 o, .int .i64 f, .int .i64 t, .int .i64 p, .int .i64 g, .int .i64 i, .slice A n c] 25)).alloc (.cells #[.int .i64 k2, .int .i64 o2, .int .i64 f2, .int .i64 t2, .int .i64 p2, .int .i64 g2, .int .i64 i2, .slice A2 n2 c2] 25)).alloc (.cells #[.int .i64 a0, .int .i64 a1] 26))
  have hQ0 : Blk (((w.alloc (.cells #[.int .i64 k, .int .i64 o, .int .i64 f, .int .i64 t, .int .i64 p, .int .i64 g, .int .i64 i, .slice A n c] 25)).alloc (.cells #[.int .i64 k2, .int .i64 o2, .int .i64 f2, .int .i64 t2, .int .i64 p2, .int .i64 g2, .int .i64 i2, .slice A2 n2 c2] 25)).alloc (.cells #[.int .i64 a0, .int .i64 a1] 26)) (w.heap.size + 1) 25 (pkC k2 o2 f2 t2 p2 g2 i2 A2 n2 c2) := (blk_new (by simp)).alloc _
  have HQ0 := Lib.hid hQ0
  have hfi := fun W => fits5_any k o f t p g i A n c W hn
  have hfj := fun W => fits5_any k2 o2 f2 t2 p2 g2 i2 A2 n2 c2 W hn2
  rw [show decide (n ≤ 3000) = true by simp; omega] at hfi
  rw [show decide (n2 ≤ 3000) = false by simp; omega] at hfj
  unfold pkC at hfi hfj ⊢
  have HFI := Lib.hid hfi
  have HFJ := Lib.hid hfj
  clear hfi hfj hQ0
  go_enter Try.func3, Try.ntmps3
  go_wp2_with fail
  refine (HFI.out _).mono ?_
  rintro e w1 ⟨rfl, hc1⟩
  obtain ⟨y0, y1, y2, y3, y4, y5, y6, y7⟩ := pk_kept HQ0.out hc1
  clear HFI
  go_wp2_with fail
  refine (HFJ.out _).mono ?_
  rintro e w1b ⟨rfl, hc1b⟩
  have HA := Lib.hid (alive5_any w1b)
  clear HFJ y0 y1 y2 y3 y4 y5 y6 y7
  go_wp2_with fail
  refine HA.out.mono ?_
  rintro e w2 ⟨rfl, hc2⟩
  go_wp2_with fail
  go_ret
  exact ⟨rfl, ((HC0.out.trans hc1 (fun _ _ e => e)).trans hc1b (fun _ _ e => e)).trans hc2 (fun _ _ e => e)⟩

set_option maxRecDepth 100000 in
set_option maxHeartbeats 8000000 in
theorem ttells_any (k o f t p g i k2 o2 f2 t2 p2 g2 i2 a0 a1 : Int) (A A2 : Option Addr) (n n2 c c2 : Nat) (l l2 : List UInt8) (S S2 : Nat → Prop) (w : World) (hl : n = l.length) (h : Rds w S A n (bcs l)) (hz : A = none → c = 0) (hl2 : n2 = l2.length) (h2 : Rds w S2 A2 n2 (bcs l2)) (h3 : n ≤ 3000) (h3' : n2 ≤ 3000) :
    Calls Try.prog 3 #[.agg (pkC k o f t p g i A n c), .agg (pkC k2 o2 f2 t2 p2 g2 i2 A2 n2 c2), .agg #[.int .i64 a0, .int .i64 a1]] w fun e w' => e = .returned (.bool true) ∧ Chg (fun _ => False) w w' := by
  have hn : n ≤ 9223372036854775807 := by omega
  have hn2 : n2 ≤ 9223372036854775807 := by omega
  have hC0 := (((Chg.refl (fun _ => False) w).alloc (.cells #[.int .i64 k, .int .i64 o, .int .i64 f, .int .i64 t, .int .i64 p, .int .i64 g, .int .i64 i, .slice A n c] 25)).alloc (.cells #[.int .i64 k2, .int .i64 o2, .int .i64 f2, .int .i64 t2, .int .i64 p2, .int .i64 g2, .int .i64 i2, .slice A2 n2 c2] 25)).alloc (.cells #[.int .i64 a0, .int .i64 a1] 26)
  have hP0 : Blk (((w.alloc (.cells #[.int .i64 k, .int .i64 o, .int .i64 f, .int .i64 t, .int .i64 p, .int .i64 g, .int .i64 i, .slice A n c] 25)).alloc (.cells #[.int .i64 k2, .int .i64 o2, .int .i64 f2, .int .i64 t2, .int .i64 p2, .int .i64 g2, .int .i64 i2, .slice A2 n2 c2] 25)).alloc (.cells #[.int .i64 a0, .int .i64 a1] 26)) w.heap.size 25 (pkC k o f t p g i A n c) := ((blk_new rfl).alloc _).alloc _
  have hQ0 : Blk (((w.alloc (.cells #[.int .i64 k, .int .i64 o, .int .i64 f, .int .i64 t, .int .i64 p, .int .i64 g, .int .i64 i, .slice A n c] 25)).alloc (.cells #[.int .i64 k2, .int .i64 o2, .int .i64 f2, .int .i64 t2, .int .i64 p2, .int .i64 g2, .int .i64 i2, .slice A2 n2 c2] 25)).alloc (.cells #[.int .i64 a0, .int .i64 a1] 26)) (w.heap.size + 1) 25 (pkC k2 o2 f2 t2 p2 g2 i2 A2 n2 c2) := (blk_new (by simp)).alloc _
  have hA0 : Blk (((w.alloc (.cells #[.int .i64 k, .int .i64 o, .int .i64 f, .int .i64 t, .int .i64 p, .int .i64 g, .int .i64 i, .slice A n c] 25)).alloc (.cells #[.int .i64 k2, .int .i64 o2, .int .i64 f2, .int .i64 t2, .int .i64 p2, .int .i64 g2, .int .i64 i2, .slice A2 n2 c2] 25)).alloc (.cells #[.int .i64 a0, .int .i64 a1] 26)) (w.heap.size + 2) 26 #[.int .i64 a0, .int .i64 a1] := blk_new (by simp)
  have hfi := fun W => fits5_any k o f t p g i A n c W hn
  have hfj := fun W => fits5_any k2 o2 f2 t2 p2 g2 i2 A2 n2 c2 W hn2
  rw [show decide (n ≤ 3000) = true by simp; omega] at hfi
  rw [show decide (n2 ≤ 3000) = true by simp; omega] at hfj
  obtain ⟨k', o', f', t', p', g', i', m, x, _, _, htag, hrag⟩ := agains k o f t p g i a0 a1 A n c l S w hn hl h hz
  have hri := fun W => tright_any k o f t p g i A n c W hn
  have hrr := fun W => rright5_any k o f t p g i A n c W hn
  have HTS := Lib.hid (fun (W : World) (hw : Chg (fun _ => False) w W) => tsame_any k o f t p g i k2 o2 f2 t2 p2 g2 i2 A A2 n n2 c c2 l l2 S S2 W (h.chg hw (fun _ _ => id)) (h2.chg hw (fun _ _ => id)))
  have HRS := Lib.hid (fun (W : World) (hw : Chg (fun _ => False) w W) => rsame5_any k o f t p g i k2 o2 f2 t2 p2 g2 i2 A A2 n n2 c c2 l l2 S S2 W (h.chg hw (fun _ _ => id)) (h2.chg hw (fun _ _ => id)))
  have HC0 := Lib.hid hC0
  have HP0 := Lib.hid hP0
  have HQ0 := Lib.hid hQ0
  have HA0 := Lib.hid hA0
  have HH := Lib.hid h
  have HL := Lib.hid hl
  have HPR : Hid (pkR k o f t p g i n = pkR k o f t p g i n) := rfl
  generalize hpr : pkR k o f t p g i n = r at *
  generalize pkS k o f t p g i l k2 o2 f2 t2 p2 g2 i2 l2 = s at *
  have HPR := Lib.hid hpr
  have HTAG := Lib.hid htag
  have HRAG := Lib.hid hrag
  have HFI := Lib.hid hfi
  have HFJ := Lib.hid hfj
  have HRI := Lib.hid hri
  have HRR := Lib.hid hrr
  unfold pkC at HTAG HRAG HFI HFJ HRI HRR HTS HRS ⊢
  clear hC0 hP0 hQ0 hA0 h hl h2 hl2 hfi hfj htag hrag hri hrr hz hpr
  go_enter Try.func3, Try.ntmps3
  go_wp2_with fail
  refine (HFI.out _).mono ?_
  rintro e w1 ⟨rfl, hc1⟩
  have HC1 := Lib.hid (HC0.out.trans hc1 (fun _ _ e => e))
  have HP1 := Lib.hid (HP0.out.chg hc1 id)
  have HQ1 := Lib.hid (HQ0.out.chg hc1 id)
  have HA1 := Lib.hid (HA0.out.chg hc1 id)
  obtain ⟨y0, y1, y2, y3, y4, y5, y6, y7⟩ := pk_kept HQ0.out hc1
  clear hc1 HFI HC0 HP0 HQ0 HA0
  go_wp2_with fail
  refine (HFJ.out _).mono ?_
  rintro e w2 ⟨rfl, hc2⟩
  have HC2 := Lib.hid (HC1.out.trans hc2 (fun _ _ e => e))
  have HP2 := Lib.hid (HP1.out.chg hc2 id)
  have HQ2 := Lib.hid (HQ1.out.chg hc2 id)
  have HA2 := Lib.hid (HA1.out.chg hc2 id)
  clear y0 y1 y2 y3 y4 y5 y6 y7
  obtain ⟨y0, y1, y2, y3, y4, y5, y6, y7⟩ := pk_cells HP2.out
  obtain ⟨e0, e1⟩ := arr_cells HA2.out (Chg.refl _ _)
  have HT2 := Lib.hid (HTAG.out _ HC2.out)
  clear hc2 HFJ HC1 HP1 HQ1 HA1 HTAG
  go_wp2_with fail
  refine HT2.out.mono ?_
  rintro e w3 ⟨D, dc, rfl, _, hr3, hc3⟩
  generalize hml : m.length = q at *
  have HML := Lib.hid hml
  have hca := hc3.alloc (.cells #[.int .i64 k', .int .i64 o', .int .i64 f', .int .i64 t', .int .i64 p', .int .i64 g', .int .i64 i', .slice D q dc] 25)
  have HC3 := Lib.hid (HC2.out.trans hca (fun _ _ e => e))
  have HP3 := Lib.hid (HP2.out.chg hca id)
  have HQ3 := Lib.hid (HQ2.out.chg hca id)
  have HA3 := Lib.hid (HA2.out.chg hca id)
  have HX3 := Lib.hid (show Blk (w3.alloc (.cells #[.int .i64 k', .int .i64 o', .int .i64 f', .int .i64 t', .int .i64 p', .int .i64 g', .int .i64 i', .slice D q dc] 25)) w3.heap.size 25 (pkC k' o' f' t' p' g' i' D q dc) from blk_new rfl)
  have HR3 := Lib.hid (hr3.alloc (.cells #[.int .i64 k', .int .i64 o', .int .i64 f', .int .i64 t', .int .i64 p', .int .i64 g', .int .i64 i', .slice D q dc] 25))
  have HT3 := Lib.hid (HRAG.out _ HC3.out)
  clear y0 y1 y2 y3 y4 y5 y6 y7 e0 e1
  obtain ⟨y0, y1, y2, y3, y4, y5, y6, y7⟩ := pk_cells HP3.out
  obtain ⟨e0, e1⟩ := arr_cells HA3.out (Chg.refl _ _)
  unfold pkC
  clear hml hr3 hc3 hca HC2 HP2 HQ2 HA2 HT2 HRAG
  go_wp2_with fail
  refine HT3.out.mono ?_
  rintro e w4 ⟨E, ec, he, _, hr4, hc4⟩
  rw [HML.out] at he hr4
  subst he
  have hca := hc4.alloc (.cells #[.int .i64 k', .int .i64 o', .int .i64 f', .int .i64 t', .int .i64 p', .int .i64 g', .int .i64 i', .slice E q ec] 25)
  have HC4 := Lib.hid (HC3.out.trans hca (fun _ _ e => e))
  have HP4 := Lib.hid (HP3.out.chg hca id)
  have HQ4 := Lib.hid (HQ3.out.chg hca id)
  have HX4 := Lib.hid (HX3.out.chg hca id)
  have HR4 := Lib.hid (HR3.out.chg hca (fun _ _ => id))
  have HY4 := Lib.hid (show Blk (w4.alloc (.cells #[.int .i64 k', .int .i64 o', .int .i64 f', .int .i64 t', .int .i64 p', .int .i64 g', .int .i64 i', .slice E q ec] 25)) w4.heap.size 25 (pkC k' o' f' t' p' g' i' E q ec) from blk_new rfl)
  have HZ4 := Lib.hid (hr4.alloc (.cells #[.int .i64 k', .int .i64 o', .int .i64 f', .int .i64 t', .int .i64 p', .int .i64 g', .int .i64 i', .slice E q ec] 25))
  have HSA := Lib.hid (rsame5_any k' o' f' t' p' g' i' k' o' f' t' p' g' i' D E q q dc ec m m _ _ _ HR4.out HZ4.out)
  rw [pkS_refl] at HSA
  clear y0 y1 y2 y3 y4 y5 y6 y7 e0 e1
  obtain ⟨y0, y1, y2, y3, y4, y5, y6, y7⟩ := pk_cells HX4.out
  obtain ⟨z0, z1, z2, z3, z4, z5, z6, z7⟩ := pk_cells HY4.out
  unfold pkC at HSA ⊢
  clear hr4 hc4 hca HC3 HP3 HQ3 HA3 HX3 HR3 HT3
  go_wp2_with fail
  refine HSA.out.mono ?_
  rintro e w5 ⟨rfl, hc5⟩
  have HC5 := Lib.hid (HC4.out.trans hc5 (fun _ _ e => e))
  have HP5 := Lib.hid (HP4.out.chg hc5 id)
  have HQ5 := Lib.hid (HQ4.out.chg hc5 id)
  clear y0 y1 y2 y3 y4 y5 y6 y7 z0 z1 z2 z3 z4 z5 z6 z7 hc5 HC4 HP4 HQ4 HX4 HR4 HY4 HZ4 HSA HML
  obtain ⟨y0, y1, y2, y3, y4, y5, y6, y7⟩ := pk_cells HP5.out
  go_wp2_with fail
  refine (HRR.out _).mono ?_
  rintro e w6 ⟨rfl, hc6⟩
  have HC6 := Lib.hid (HC5.out.trans hc6 (fun _ _ e => e))
  have HP6 := Lib.hid (HP5.out.chg hc6 id)
  have HQ6 := Lib.hid (HQ5.out.chg hc6 id)
  clear y0 y1 y2 y3 y4 y5 y6 y7 hc6 HC5 HP5 HQ5
  have HKEEP := Lib.hid (fun (W : World) (hw : Chg (fun _ => False) w6 W) => (show (W.cell? ⟨w.heap.size, 0, none⟩ = some (.int .i64 k) ∧ W.cell? ⟨w.heap.size, 1, none⟩ = some (.int .i64 o) ∧ W.cell? ⟨w.heap.size, 2, none⟩ = some (.int .i64 f) ∧ W.cell? ⟨w.heap.size, 3, none⟩ = some (.int .i64 t) ∧ W.cell? ⟨w.heap.size, 4, none⟩ = some (.int .i64 p) ∧ W.cell? ⟨w.heap.size, 5, none⟩ = some (.int .i64 g) ∧ W.cell? ⟨w.heap.size, 6, none⟩ = some (.int .i64 i) ∧ W.cell? ⟨w.heap.size, 7, none⟩ = some (.slice A n c)) ∧ (W.cell? ⟨w.heap.size + 1, 0, none⟩ = some (.int .i64 k2) ∧ W.cell? ⟨w.heap.size + 1, 1, none⟩ = some (.int .i64 o2) ∧ W.cell? ⟨w.heap.size + 1, 2, none⟩ = some (.int .i64 f2) ∧ W.cell? ⟨w.heap.size + 1, 3, none⟩ = some (.int .i64 t2) ∧ W.cell? ⟨w.heap.size + 1, 4, none⟩ = some (.int .i64 p2) ∧ W.cell? ⟨w.heap.size + 1, 5, none⟩ = some (.int .i64 g2) ∧ W.cell? ⟨w.heap.size + 1, 6, none⟩ = some (.int .i64 i2) ∧ W.cell? ⟨w.heap.size + 1, 7, none⟩ = some (.slice A2 n2 c2)) from ⟨pk_kept HP6.out hw, pk_kept HQ6.out hw⟩))
  have HT6 := Lib.hid (fun (W : World) (hw : Chg (fun _ => False) w6 W) => HTS.out W (HC6.out.trans hw (fun _ _ e => e)))
  have HS6 := Lib.hid (fun (W : World) (hw : Chg (fun _ => False) w6 W) => HRS.out W (HC6.out.trans hw (fun _ _ e => e)))
  have HX := Lib.hid ((Chg.refl (fun _ => False) w6).drew)
  clear HTS HRS
  go_wp2_with fail
  go_region_held3 (fun w' => (w'.cell? ⟨w.heap.size, 0, none⟩ = some (.int .i64 k) ∧ w'.cell? ⟨w.heap.size, 1, none⟩ = some (.int .i64 o) ∧ w'.cell? ⟨w.heap.size, 2, none⟩ = some (.int .i64 f) ∧ w'.cell? ⟨w.heap.size, 3, none⟩ = some (.int .i64 t) ∧ w'.cell? ⟨w.heap.size, 4, none⟩ = some (.int .i64 p) ∧ w'.cell? ⟨w.heap.size, 5, none⟩ = some (.int .i64 g) ∧ w'.cell? ⟨w.heap.size, 6, none⟩ = some (.int .i64 i) ∧ w'.cell? ⟨w.heap.size, 7, none⟩ = some (.slice A n c)) ∧ (w'.cell? ⟨w.heap.size + 1, 0, none⟩ = some (.int .i64 k2) ∧ w'.cell? ⟨w.heap.size + 1, 1, none⟩ = some (.int .i64 o2) ∧ w'.cell? ⟨w.heap.size + 1, 2, none⟩ = some (.int .i64 f2) ∧ w'.cell? ⟨w.heap.size + 1, 3, none⟩ = some (.int .i64 t2) ∧ w'.cell? ⟨w.heap.size + 1, 4, none⟩ = some (.int .i64 p2) ∧ w'.cell? ⟨w.heap.size + 1, 5, none⟩ = some (.int .i64 g2) ∧ w'.cell? ⟨w.heap.size + 1, 6, none⟩ = some (.int .i64 i2) ∧ w'.cell? ⟨w.heap.size + 1, 7, none⟩ = some (.slice A2 n2 c2)))
    (first | with_reducible exact HKEEP.out _ HX.out | fail)
    (first
      | (go_at_call 12; (with_reducible refine (HRI.out _).mono ?_); rintro e wz ⟨rfl, hcz⟩; have HX := Lib.hid (HX.out.trans hcz (fun _ _ e => e)); clear hcz)
      | (go_at_call 13; (with_reducible refine (HT6.out _ HX.out).mono ?_); rintro e wz ⟨rfl, hcz⟩; have HX := Lib.hid (HX.out.trans hcz (fun _ _ e => e)); clear hcz)
      | (go_at_call 10; (with_reducible refine (HS6.out _ HX.out).mono ?_); rintro e wz ⟨rfl, hcz⟩; have HX := Lib.hid (HX.out.trans hcz (fun _ _ e => e)); clear hcz)
      | fail)
  have HC7 := Lib.hid (HC6.out.trans HX.out (fun _ _ e => e))
  have HP7 := Lib.hid (HP6.out.chg HX.out id)
  have HH7 := Lib.hid (HH.out.chg HC7.out (fun _ _ => id))
  clear HKEEP HT6 HS6 HRI HRR HP6 HQ6 HC6 HX
  obtain ⟨y0, y1, y2, y3, y4, y5, y6, y7⟩ := pk_cells HP7.out
  cases r with
  | false =>
    have HEN := Lib.hid (fun W => tenc_bad k o f t p g i A n c W hn HPR.out)
    unfold pkC at HEN
    clear HH7
    go_wp2_with fail
    refine (HEN.out _).mono ?_
    rintro e w8 ⟨rfl, hc8⟩
    have HA := Lib.hid (alive5_any w8)
    clear HEN y0 y1 y2 y3 y4 y5 y6 y7
    go_wp2_with fail
    refine HA.out.mono ?_
    rintro e w9 ⟨rfl, hc9⟩
    go_wp2_with fail
    go_ret
    exact ⟨rfl, (HC7.out.trans hc8 (fun _ _ e => e)).trans hc9 (fun _ _ e => e)⟩
  | true =>
    have HEN := Lib.hid (tenc_ok k o f t p g i A n c l _ _ HL.out HH7.out HPR.out)
    have hpl : pkR k o f t p g i l.length = true := by rw [← HL.out]; exact HPR.out
    have HDO := Lib.hid (fun (W : World) (e : Ending) (W' : World) (hd : Dec (pkB k o f t p g i l) W e W') => dec_of hpl hd)
    have hBL : (pkB k o f t p g i l).length ≤ 100000 := by have := HL.out; rw [pkB_len]; omega
    have HBY := Lib.hid (fun (W : World) (hw : Chg (fun _ => False) w W) => rbytes5_any k o f t p g i A n c l S W HL.out (HH.out.chg hw (fun _ _ => id)) HPR.out)
    generalize pkB k o f t p g i l = B at *
    unfold pkC at HEN HBY
    clear hpl
    go_wp2_with fail
    refine HEN.out.mono ?_
    rintro e w8 ⟨F, fc, rfl, hown8, hc8⟩
    generalize hbl : B.length = q at *
    have HC8 := Lib.hid (HC7.out.trans hc8 (fun _ _ e => e))
    have HP8 := Lib.hid (HP7.out.chg hc8 id)
    have HH8 := Lib.hid (HH7.out.chg hc8 (fun _ _ => id))
    have HO8 := Lib.hid (own_rds2 hown8)
    have HDE := Lib.hid (tdec_any F q fc B _ w8 hbl.symm (own_rds2 hown8) (own_nil hown8) (by omega))
    clear y0 y1 y2 y3 y4 y5 y6 y7 hown8 hc8 HEN HC7 HP7 HH7 hbl
    go_wp2_with fail
    refine HDE.out.mono ?_
    intro e w9 hd
    obtain ⟨G, gc, he, _, hr9, hc9⟩ := HDO.out _ _ _ hd
    rw [← HL.out] at he hr9
    subst he
    have hca := hc9.alloc (.cells #[.int .i64 k, .int .i64 o, .int .i64 f, .int .i64 t, .int .i64 p, .int .i64 g, .int .i64 i, .slice G n gc] 25)
    have HC9 := Lib.hid (HC8.out.trans hca (fun _ _ e => e))
    have HP9 := Lib.hid (HP8.out.chg hca id)
    have HH9 := Lib.hid (HH8.out.chg hca (fun _ _ => id))
    have HO9 := Lib.hid (HO8.out.chg hca (fun _ _ => id))
    have HZ9 := Lib.hid (show Blk (w9.alloc (.cells #[.int .i64 k, .int .i64 o, .int .i64 f, .int .i64 t, .int .i64 p, .int .i64 g, .int .i64 i, .slice G n gc] 25)) w9.heap.size 25 (pkC k o f t p g i G n gc) from blk_new rfl)
    have HG9 := Lib.hid (hr9.alloc (.cells #[.int .i64 k, .int .i64 o, .int .i64 f, .int .i64 t, .int .i64 p, .int .i64 g, .int .i64 i, .slice G n gc] 25))
    have HSA := Lib.hid (rsame5_any k o f t p g i k o f t p g i A G n n c gc l l _ _ _ HH9.out HG9.out)
    rw [pkS_refl] at HSA
    obtain ⟨y0, y1, y2, y3, y4, y5, y6, y7⟩ := pk_cells HP9.out
    obtain ⟨z0, z1, z2, z3, z4, z5, z6, z7⟩ := pk_cells HZ9.out
    unfold pkC at HSA ⊢
    clear hd hr9 hc9 hca HC8 HP8 HH8 HO8 HDE HDO
    go_wp2_with fail
    refine HSA.out.mono ?_
    rintro e w10 ⟨rfl, hc10⟩
    have HC10 := Lib.hid (HC9.out.trans hc10 (fun _ _ e => e))
    have HP10 := Lib.hid (HP9.out.chg hc10 id)
    have HO10 := Lib.hid (HO9.out.chg hc10 (fun _ _ => id))
    clear y0 y1 y2 y3 y4 y5 y6 y7 z0 z1 z2 z3 z4 z5 z6 z7 hc10 HC9 HP9 HH9 HO9 HZ9 HG9 HSA
    have HKEEP := Lib.hid (fun (W : World) (hw : Chg (fun _ => False) w10 W) => (show (W.cell? ⟨w.heap.size, 0, none⟩ = some (.int .i64 k) ∧ W.cell? ⟨w.heap.size, 1, none⟩ = some (.int .i64 o) ∧ W.cell? ⟨w.heap.size, 2, none⟩ = some (.int .i64 f) ∧ W.cell? ⟨w.heap.size, 3, none⟩ = some (.int .i64 t) ∧ W.cell? ⟨w.heap.size, 4, none⟩ = some (.int .i64 p) ∧ W.cell? ⟨w.heap.size, 5, none⟩ = some (.int .i64 g) ∧ W.cell? ⟨w.heap.size, 6, none⟩ = some (.int .i64 i) ∧ W.cell? ⟨w.heap.size, 7, none⟩ = some (.slice A n c)) ∧ (convert 23 9 (.slice F q fc)).run Try.prog W = .ok (.string ⟨B.toArray⟩) W from ⟨pk_kept HP10.out hw, conv_any (HO10.out.chg hw (fun _ _ => id))⟩))
    have HAL := Lib.hid (fun (W : World) => alive5_any W)
    have s0 := HKEEP.out _ (Chg.refl _ w10).drew
    go_wp2_with fail
    refine wp_region_noPanic ?_
    refine wp_region_held_drew (S := (fun w' => (w'.cell? ⟨w.heap.size, 0, none⟩ = some (.int .i64 k) ∧ w'.cell? ⟨w.heap.size, 1, none⟩ = some (.int .i64 o) ∧ w'.cell? ⟨w.heap.size, 2, none⟩ = some (.int .i64 f) ∧ w'.cell? ⟨w.heap.size, 3, none⟩ = some (.int .i64 t) ∧ w'.cell? ⟨w.heap.size, 4, none⟩ = some (.int .i64 p) ∧ w'.cell? ⟨w.heap.size, 5, none⟩ = some (.int .i64 g) ∧ w'.cell? ⟨w.heap.size, 6, none⟩ = some (.int .i64 i) ∧ w'.cell? ⟨w.heap.size, 7, none⟩ = some (.slice A n c)) ∧ (convert 23 9 (.slice F q fc)).run Try.prog w' = .ok (.string ⟨B.toArray⟩) w')) (by kernel_rfl) s0 (fun hHeld => ?_)
    refine wpAnyH_ready (rs := [0]) (by kernel_rfl) (by simp) ?_
    refine AllReadyH.cons rfl (fun K hK => ?_) AllReadyH.nil
    go_simp
    refine (HAL.out _).mono ?_
    rintro e w11 ⟨rfl, hc11⟩
    have HX := Lib.hid ((Chg.refl (fun _ => False) w10).drew.trans hc11 (fun _ _ e => e))
    have s1 := HKEEP.out _ HX.out
    clear hc11
    go_wp2_with fail
    refine hK.out _ _ s1 (fun hHeld => ?_)
    clear hK K
    try simp only [List.getElem_toArray, List.getElem_cons_succ, List.getElem_cons_zero, Act.put, List.setIfInBounds_toArray, List.set_cons_zero, List.set_cons_succ]
    refine wpAnyH_take (i := 1) (v := ?_) rfl (by kernel_rfl) (by kernel_rfl) (by kernel_rfl) (fun _ _ _ h => h) (Or.inl ⟨by rfl, ?_⟩) (by assumption) ?_
    rotate_left
    · intro w' hSw
      try dsimp only at hSw
      go_simp
      first | done | (with_reducible rfl)
    try simp only [List.getElem_toArray, List.getElem_cons_succ, List.getElem_cons_zero, Act.put, List.setIfInBounds_toArray, List.set_cons_zero, List.set_cons_succ]
    refine wpAnyH_take (i := 2) (v := ?_) rfl (by kernel_rfl) (by kernel_rfl) (by kernel_rfl) (fun _ _ _ h => h) (Or.inl ⟨by rfl, ?_⟩) (by assumption) ?_
    rotate_left
    · intro w' hSw
      try dsimp only at hSw
      go_simp
      first | done | (with_reducible rfl)
    try simp only [List.getElem_toArray, List.getElem_cons_succ, List.getElem_cons_zero, Act.put, List.setIfInBounds_toArray, List.set_cons_zero, List.set_cons_succ]
    refine wpAnyH_take (i := 3) (v := ?_) rfl (by kernel_rfl) (by kernel_rfl) (by kernel_rfl) (fun _ _ _ h => h) (Or.inl ⟨by rfl, ?_⟩) (by assumption) ?_
    rotate_left
    · intro w' hSw
      try dsimp only at hSw
      go_simp
      first | done | (with_reducible rfl)
    try simp only [List.getElem_toArray, List.getElem_cons_succ, List.getElem_cons_zero, Act.put, List.setIfInBounds_toArray, List.set_cons_zero, List.set_cons_succ]
    refine wpAnyH_take (i := 4) (v := ?_) rfl (by kernel_rfl) (by kernel_rfl) (by kernel_rfl) (fun _ _ _ h => h) (Or.inl ⟨by rfl, ?_⟩) (by assumption) ?_
    rotate_left
    · intro w' hSw
      try dsimp only at hSw
      go_simp
      first | done | (with_reducible rfl)
    try simp only [List.getElem_toArray, List.getElem_cons_succ, List.getElem_cons_zero, Act.put, List.setIfInBounds_toArray, List.set_cons_zero, List.set_cons_succ]
    refine wpAnyH_take (i := 5) (v := ?_) rfl (by kernel_rfl) (by kernel_rfl) (by kernel_rfl) (fun _ _ _ h => h) (Or.inl ⟨by rfl, ?_⟩) (by assumption) ?_
    rotate_left
    · intro w' hSw
      try dsimp only at hSw
      go_simp
      first | done | (with_reducible rfl)
    try simp only [List.getElem_toArray, List.getElem_cons_succ, List.getElem_cons_zero, Act.put, List.setIfInBounds_toArray, List.set_cons_zero, List.set_cons_succ]
    refine wpAnyH_take (i := 6) (v := ?_) rfl (by kernel_rfl) (by kernel_rfl) (by kernel_rfl) (fun _ _ _ h => h) (Or.inl ⟨by rfl, ?_⟩) (by assumption) ?_
    rotate_left
    · intro w' hSw
      try dsimp only at hSw
      go_simp
      first | done | (with_reducible rfl)
    try simp only [List.getElem_toArray, List.getElem_cons_succ, List.getElem_cons_zero, Act.put, List.setIfInBounds_toArray, List.set_cons_zero, List.set_cons_succ]
    refine wpAnyH_take (i := 7) (v := ?_) rfl (by kernel_rfl) (by kernel_rfl) (by kernel_rfl) (fun _ _ _ h => h) (Or.inl ⟨by rfl, ?_⟩) (by assumption) ?_
    rotate_left
    · intro w' hSw
      try dsimp only at hSw
      go_simp
      first | done | (with_reducible rfl)
    try simp only [List.getElem_toArray, List.getElem_cons_succ, List.getElem_cons_zero, Act.put, List.setIfInBounds_toArray, List.set_cons_zero, List.set_cons_succ]
    refine wpAnyH_take (i := 8) (v := ?_) rfl (by kernel_rfl) (by kernel_rfl) (by kernel_rfl) (fun _ _ _ h => h) (Or.inl ⟨by rfl, ?_⟩) (by assumption) ?_
    rotate_left
    · intro w' hSw
      try dsimp only at hSw
      go_simp
      first | done | (with_reducible rfl)
    try simp only [List.getElem_toArray, List.getElem_cons_succ, List.getElem_cons_zero, Act.put, List.setIfInBounds_toArray, List.set_cons_zero, List.set_cons_succ]
    refine wpAnyH_ready (rs := [9]) (by kernel_rfl) (by simp) ?_
    refine AllReadyH.cons rfl (fun K hK => ?_) AllReadyH.nil
    go_simp
    refine (HBY.out _ (HC10.out.trans HX.out (fun _ _ e => e))).mono ?_
    rintro e w12 ⟨M, mk, mc, rfl, hmk, hown, hc12⟩
    clear hmk
    have HX := Lib.hid (HX.out.trans hc12 (fun _ _ e => e))
    have s2 := HKEEP.out _ HX.out
    have s6 := conv_any (c := mc) (own_rds2 hown)
    clear hc12 hown
    go_wp2_with fail
    refine hK.out _ _ s2 (fun hHeld => ?_)
    clear hK K
    try simp only [List.getElem_toArray, List.getElem_cons_succ, List.getElem_cons_zero, Act.put, List.setIfInBounds_toArray, List.set_cons_zero, List.set_cons_succ]
    refine wpAnyH_ready (rs := [10]) (by kernel_rfl) (by simp) ?_
    refine AllReadyH.cons rfl (fun K hK => ?_) AllReadyH.nil
    go_simp
    refine hK.out _ _ s2 (fun hHeld => ?_)
    clear hK K
    try simp only [List.getElem_toArray, List.getElem_cons_succ, List.getElem_cons_zero, Act.put, List.setIfInBounds_toArray, List.set_cons_zero, List.set_cons_succ]
    refine wpAnyH_take (i := 11) (v := ?_) rfl (by kernel_rfl) (by kernel_rfl) (by kernel_rfl) (fun _ _ _ h => h) (Or.inl ⟨by rfl, ?_⟩) (by assumption) ?_
    rotate_left
    · intro w' hSw
      try dsimp only at hSw
      go_simp
      first | done | (with_reducible rfl)
    try simp only [List.getElem_toArray, List.getElem_cons_succ, List.getElem_cons_zero, Act.put, List.setIfInBounds_toArray, List.set_cons_zero, List.set_cons_succ]
    refine wpAnyH_take (i := 12) (v := ?_) rfl (by kernel_rfl) (by kernel_rfl) (by kernel_rfl) (fun _ _ _ h => h) (Or.inl ⟨by rfl, ?_⟩) (by assumption) ?_
    rotate_left
    · intro w' hSw
      try dsimp only at hSw
      go_simp
      first | done | (with_reducible rfl)
    try simp only [List.getElem_toArray, List.getElem_cons_succ, List.getElem_cons_zero, Act.put, List.setIfInBounds_toArray, List.set_cons_zero, List.set_cons_succ]
    refine wpAnyH_take (i := 13) (v := ?_) rfl (by kernel_rfl) (by kernel_rfl) (by kernel_rfl) (fun _ _ _ h => h) (Or.inl ⟨by rfl, ?_⟩) (by assumption) ?_
    rotate_left
    · intro w' hSw
      try dsimp only at hSw
      go_simp
      first | done | (with_reducible rfl)
    try simp only [List.getElem_toArray, List.getElem_cons_succ, List.getElem_cons_zero, Act.put, List.setIfInBounds_toArray, List.set_cons_zero, List.set_cons_succ]
    refine wpAnyH_take (i := 14) (v := ?_) rfl (by kernel_rfl) (by kernel_rfl) (by kernel_rfl) (fun _ _ _ h => h) (Or.inl ⟨by rfl, ?_⟩) (by assumption) ?_
    rotate_left
    · intro w' hSw
      try dsimp only at hSw
      go_simp
      first | done | (with_reducible rfl)
    try simp only [List.getElem_toArray, List.getElem_cons_succ, List.getElem_cons_zero, Act.put, List.setIfInBounds_toArray, List.set_cons_zero, List.set_cons_succ]
    refine wpAnyH_take (i := 15) (v := ?_) rfl (by kernel_rfl) (by kernel_rfl) (by kernel_rfl) (fun _ _ _ h => h) (Or.inl ⟨by rfl, ?_⟩) (by assumption) ?_
    rotate_left
    · intro w' hSw
      try dsimp only at hSw
      go_simp
      first | done | (with_reducible rfl)
    try simp only [List.getElem_toArray, List.getElem_cons_succ, List.getElem_cons_zero, Act.put, List.setIfInBounds_toArray, List.set_cons_zero, List.set_cons_succ]
    refine wpAnyH_take (i := 16) (v := ?_) rfl (by kernel_rfl) (by kernel_rfl) (by kernel_rfl) (fun _ _ _ h => h) (Or.inl ⟨by rfl, ?_⟩) (by assumption) ?_
    rotate_left
    · intro w' hSw
      try dsimp only at hSw
      go_simp
      first | done | (with_reducible rfl)
    try simp only [List.getElem_toArray, List.getElem_cons_succ, List.getElem_cons_zero, Act.put, List.setIfInBounds_toArray, List.set_cons_zero, List.set_cons_succ]
    refine wpAnyH_take (i := 17) (v := ?_) rfl (by kernel_rfl) (by kernel_rfl) (by kernel_rfl) (fun _ _ _ h => h) (Or.inl ⟨by rfl, ?_⟩) (by assumption) ?_
    rotate_left
    · intro w' hSw
      try dsimp only at hSw
      go_simp
      first | done | (with_reducible rfl)
    try simp only [List.getElem_toArray, List.getElem_cons_succ, List.getElem_cons_zero, Act.put, List.setIfInBounds_toArray, List.set_cons_zero, List.set_cons_succ]
    refine wpAnyH_take (i := 18) (v := ?_) rfl (by kernel_rfl) (by kernel_rfl) (by kernel_rfl) (fun _ _ _ h => h) (Or.inl ⟨by rfl, ?_⟩) (by assumption) ?_
    rotate_left
    · intro w' hSw
      try dsimp only at hSw
      go_simp
      first | done | (with_reducible rfl)
    try simp only [List.getElem_toArray, List.getElem_cons_succ, List.getElem_cons_zero, Act.put, List.setIfInBounds_toArray, List.set_cons_zero, List.set_cons_succ]
    refine wpAnyH_take (i := 19) (v := ?_) rfl (by kernel_rfl) (by kernel_rfl) (by kernel_rfl) (fun _ _ _ h => h) (Or.inl ⟨by rfl, ?_⟩) (by assumption) ?_
    rotate_left
    · intro w' hSw
      try dsimp only at hSw
      go_simp
      first | done | (with_reducible rfl)
    try simp only [List.getElem_toArray, List.getElem_cons_succ, List.getElem_cons_zero, Act.put, List.setIfInBounds_toArray, List.set_cons_zero, List.set_cons_succ]
    refine wpAnyH_take (i := 20) (v := ?_) rfl (by kernel_rfl) (by kernel_rfl) (by kernel_rfl) (fun _ _ _ h => h) (Or.inl ⟨by rfl, ?_⟩) (by assumption) ?_
    rotate_left
    · intro w' hSw
      try dsimp only at hSw
      go_simp
      first | done | (with_reducible rfl)
    try simp only [List.getElem_toArray, List.getElem_cons_succ, List.getElem_cons_zero, Act.put, List.setIfInBounds_toArray, List.set_cons_zero, List.set_cons_succ]
    refine wpAnyH_done (by kernel_rfl) ?_ _
    refine NoPanic.normal ?_
    go_wp2_with fail
    go_ret
    exact ⟨by simp, HC10.out.trans HX.out (fun _ _ e => e)⟩

end Go.Proofs.Ytnboilombfnpkaa
