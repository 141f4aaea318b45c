/-
  Walk: rutterlaw05.alive: true, whatever the world. No condition.
-/
import Derived.Test.YtnboilombfnpkaaQi
import Derived.Deep.OwnRows
namespace Go.Proofs.Ytnboilombfnpkaa
open Go.RowKit
set_option linter.unusedVariables false

theorem dec_of {k o f t p g i : Int} {l : List UInt8} (h : pkR k o f t p g i l.length = true) {w w' : World} {e : Ending} (hd : Dec (pkB k o f t p g i l) w e w') : Hd k o f t p g i l 0 w e w' := by
  obtain ⟨h0, h1, h2, h3, h4, h5, h6, h7, h8⟩ := dec_back h
  unfold Dec at hd
  rw [dP_yes h0, dP_yes h0, dP_yes h0, dP_yes h0, dP_yes h0, dP_yes h0, dP_yes h0, dM_yes h0, dX_yes h0, h1, h2, h3, h4, h5, h6, h7, h8] at hd
  exact hd
def Z14 : List UInt8 := [0, 0, 0, 0, 0, 0, 0, 0, 0, 0, 0, 0, 0, 0]
set_option maxHeartbeats 4000000 in
theorem alive5_any (w : World) : Calls Try.prog 7 #[] w fun e w' => e = .returned (.bool true) ∧ Chg (fun _ => False) w w' := by
  have hmk : ∀ W : World, (Instr.makeSlice 23 (.int .i64 14) (.int .i64 14)).run Try.prog W = .ok (.slice (some ⟨W.heap.size, 0, none⟩) 14 14) (W.alloc (.cells #[.int .u8 0, .int .u8 0, .int .u8 0, .int .u8 0, .int .u8 0, .int .u8 0, .int .u8 0, .int .u8 0, .int .u8 0, .int .u8 0, .int .u8 0, .int .u8 0, .int .u8 0, .int .u8 0] 5)) := fun W => by
    have e : madeCells #[Value.int .u8 0] 14 = #[.int .u8 0, .int .u8 0, .int .u8 0, .int .u8 0, .int .u8 0, .int .u8 0, .int .u8 0, .int .u8 0, .int .u8 0, .int .u8 0, .int .u8 0, .int .u8 0, .int .u8 0, .int .u8 0] := by kernel_rfl
    rw [← e]
    exact run_make_row' (P := Try.prog) 23 5 (.int .u8 0) 1 Try.underlying23 infoByte rfl .i64 .i64 14 (by decide) (by decide) W
  have hr0 := rds_new1 w 5 #[.int .u8 0, .int .u8 0, .int .u8 0, .int .u8 0, .int .u8 0, .int .u8 0, .int .u8 0, .int .u8 0, .int .u8 0, .int .u8 0, .int .u8 0, .int .u8 0, .int .u8 0, .int .u8 0] (0, 0) w.heap.size rfl (bcs Z14) 14 rfl rfl
  have hr1 := hr0.alloc (.cells #[.int .i64 1, .int .i64 3, .int .i64 3, .int .i64 5, .int .i64 2, .int .i64 258, .int .i64 9, .slice (some ⟨w.heap.size, 0, none⟩) 14 14] 25)
  have hB1 : Blk ((w.alloc (.cells #[.int .u8 0, .int .u8 0, .int .u8 0, .int .u8 0, .int .u8 0, .int .u8 0, .int .u8 0, .int .u8 0, .int .u8 0, .int .u8 0, .int .u8 0, .int .u8 0, .int .u8 0, .int .u8 0] 5)).alloc (.cells #[.int .i64 1, .int .i64 3, .int .i64 3, .int .i64 5, .int .i64 2, .int .i64 258, .int .i64 9, .slice (some ⟨w.heap.size, 0, none⟩) 14 14] 25)) (w.heap.size + 1) 25 (pkC 1 3 3 5 2 258 9 (some ⟨w.heap.size, 0, none⟩) 14 14) := blk_new (by simp)
  have hC1 := ((Chg.refl (fun _ => False) w).alloc (.cells #[.int .u8 0, .int .u8 0, .int .u8 0, .int .u8 0, .int .u8 0, .int .u8 0, .int .u8 0, .int .u8 0, .int .u8 0, .int .u8 0, .int .u8 0, .int .u8 0, .int .u8 0, .int .u8 0] 5)).alloc (.cells #[.int .i64 1, .int .i64 3, .int .i64 3, .int .i64 5, .int .i64 2, .int .i64 258, .int .i64 9, .slice (some ⟨w.heap.size, 0, none⟩) 14 14] 25)
  have HEN := Lib.hid (tenc_ok 1 3 3 5 2 258 9 (some ⟨w.heap.size, 0, none⟩) 14 14 Z14 _ _ rfl hr1 (by decide))
  have HB1 := Lib.hid hB1
  have HC1 := Lib.hid hC1
  have HR1 := Lib.hid hr1
  clear hr0 hr1 hB1 hC1
  unfold pkC at HEN
  go_enter Try.func7, Try.ntmps7
  go_wp2_with fail
  refine HEN.out.mono ?_
  rintro e w2 ⟨A, c, rfl, hown2, hc2⟩
  have hlen : (pkB 1 3 3 5 2 258 9 Z14).length = 33 := rfl
  have ht11 : (pkB 1 3 3 5 2 258 9 Z14).take 11 = [1, 1, 3, 3, 5, 2, 0, 0, 0, 1, 2] := by decide
  have HDO := Lib.hid (fun (w : World) (e : Ending) (w' : World) (hd : Dec (pkB 1 3 3 5 2 258 9 Z14) w e w') => dec_of (k := 1) (o := 3) (f := 3) (t := 5) (p := 2) (g := 258) (i := 9) (l := Z14) (by decide) hd)
  generalize pkB 1 3 3 5 2 258 9 Z14 = B at *
  rw [hlen] at hown2 ⊢
  have hcap := own_cap hown2
  have hc33 : (33 : Int) ≤ (c : Int) := by omega
  have HC2 := Lib.hid (HC1.out.trans hc2 (fun _ _ e => e))
  have HB2 := Lib.hid (HB1.out.chg hc2 id)
  have HR2 := Lib.hid (HR1.out.chg hc2 (fun _ _ => id))
  have HO2 := Lib.hid hown2
  have HT := Lib.hid ht11
  have HDE := Lib.hid (tdec_any A 33 c B _ w2 hlen.symm (own_rds2 hown2) (own_nil hown2) (by decide))
  clear HEN HB1 HC1 HR1 hc2 hown2 hlen ht11 hcap
  go_wp2_with fail
  refine HDE.out.mono ?_
  intro e w3 hd
  obtain ⟨D, dc, rfl, _, hr3, hc3⟩ := HDO.out _ _ _ hd
  have hr3 : Rds w3 _ D 14 (bcs Z14) := hr3
  have hc3a := hc3.alloc (.cells #[.int .i64 1, .int .i64 3, .int .i64 3, .int .i64 5, .int .i64 2, .int .i64 258, .int .i64 9, .slice D 14 dc] 25)
  have HC3 := Lib.hid (HC2.out.trans hc3a (fun _ _ e => e))
  have HB3 := Lib.hid (HB2.out.chg hc3a id)
  have HR3 := Lib.hid (HR2.out.chg hc3a (fun _ _ => id))
  have HO3 := Lib.hid (own_chg HO2.out hc3a (fun _ _ => id))
  have HQ3 := Lib.hid (show Blk (w3.alloc (.cells #[.int .i64 1, .int .i64 3, .int .i64 3, .int .i64 5, .int .i64 2, .int .i64 258, .int .i64 9, .slice D 14 dc] 25)) w3.heap.size 25 (pkC 1 3 3 5 2 258 9 D 14 dc) from blk_new rfl)
  have HQR3 := Lib.hid (hr3.alloc (.cells #[.int .i64 1, .int .i64 3, .int .i64 3, .int .i64 5, .int .i64 2, .int .i64 258, .int .i64 9, .slice D 14 dc] 25))
  have HAG := Lib.hid (tag_ok 1 3 3 5 2 258 9 7 300 (some ⟨w.heap.size, 0, none⟩) 14 14 (w3.alloc (.cells #[.int .i64 1, .int .i64 3, .int .i64 3, .int .i64 5, .int .i64 2, .int .i64 258, .int .i64 9, .slice D 14 dc] 25)) (by decide) Z14 _ rfl HR3.out (fun h => by cases h) (by decide) (by decide) (by decide))
  obtain ⟨y0, y1, y2, y3, y4, y5, y6, y7⟩ := pk_cells HB3.out
  unfold pkC at HAG
  clear hd hr3 hc3 hc3a HDE HDO HC2 HB2 HR2 HO2
  simp only [pkC, show Z14.length = 14 from rfl]
  go_wp2_with fail
  refine HAG.out.mono ?_
  rintro e w4 ⟨E, ec, rfl, hen, hr4, hc4⟩
  have hr4 : Rds w4 _ E 14 (bcs Z14) := hr4
  have hc4a := hc4.alloc (.cells #[.int .i64 2, .int .i64 3, .int .i64 5, .int .i64 7, .int .i64 2, .int .i64 300, .int .i64 9, .slice E 14 ec] 25)
  have HC4 := Lib.hid (HC3.out.trans hc4a (fun _ _ e => e))
  have HB4 := Lib.hid (HB3.out.chg hc4a id)
  have HR4 := Lib.hid (HR3.out.chg hc4a (fun _ _ => id))
  have HO4 := Lib.hid (own_chg HO3.out hc4a (fun _ _ => id))
  have HQ4 := Lib.hid (HQ3.out.chg hc4a id)
  have HQR4 := Lib.hid (HQR3.out.chg hc4a (fun _ _ => id))
  have HX4 := Lib.hid (show Blk (w4.alloc (.cells #[.int .i64 2, .int .i64 3, .int .i64 5, .int .i64 7, .int .i64 2, .int .i64 300, .int .i64 9, .slice E 14 ec] 25)) w4.heap.size 25 (pkC 2 3 5 7 2 300 9 E 14 ec) from blk_new rfl)
  have HAG := Lib.hid (tag_state 2 3 5 7 2 300 9 8 300 E 14 ec (w4.alloc (.cells #[.int .i64 2, .int .i64 3, .int .i64 5, .int .i64 7, .int .i64 2, .int .i64 300, .int .i64 9, .slice E 14 ec] 25)) (by decide) (by decide) rfl)
  clear y0 y1 y2 y3 y4 y5 y6 y7 hr4 hen hc4 hc4a HC3 HB3 HR3 HO3 HQ3 HQR3
  unfold pkC at HAG
  simp only [pkC, show Z14.length = 14 from rfl]
  go_wp2_with fail
  refine HAG.out.mono ?_
  rintro e w5 ⟨rfl, hc5⟩
  have hc5a := hc5.alloc (.cells #[.int .i64 0, .int .i64 0, .int .i64 0, .int .i64 0, .int .i64 0, .int .i64 0, .int .i64 0, .slice none 0 0] 25)
  have HC5 := Lib.hid (HC4.out.trans hc5a (fun _ _ e => e))
  have HB5 := Lib.hid (HB4.out.chg hc5a id)
  have HR5 := Lib.hid (HR4.out.chg hc5a (fun _ _ => id))
  have HO5 := Lib.hid (own_chg HO4.out hc5a (fun _ _ => id))
  have HQ5 := Lib.hid (HQ4.out.chg hc5a id)
  have HQR5 := Lib.hid (HQR4.out.chg hc5a (fun _ _ => id))
  have HX5 := Lib.hid (HX4.out.chg hc5a id)
  have HAG := Lib.hid (tag_gen 1 3 3 5 2 258 9 3 300 (some ⟨w.heap.size, 0, none⟩) 14 14 (w5.alloc (.cells #[.int .i64 0, .int .i64 0, .int .i64 0, .int .i64 0, .int .i64 0, .int .i64 0, .int .i64 0, .slice none 0 0] 25)) (by decide) (by decide) (by decide) (by decide))
  obtain ⟨y0, y1, y2, y3, y4, y5, y6, y7⟩ := pk_cells HB5.out
  clear hc5 hc5a HC4 HB4 HR4 HO4 HQ4 HQR4 HX4
  unfold pkC at HAG
  unfold zeroP pkC
  go_wp2_with fail
  refine HAG.out.mono ?_
  rintro e w6 ⟨rfl, hc6⟩
  have hc6a := hc6.alloc (.cells #[.int .i64 0, .int .i64 0, .int .i64 0, .int .i64 0, .int .i64 0, .int .i64 0, .int .i64 0, .slice none 0 0] 25)
  have HC6 := Lib.hid (HC5.out.trans hc6a (fun _ _ e => e))
  have HB6 := Lib.hid (HB5.out.chg hc6a id)
  have HR6 := Lib.hid (HR5.out.chg hc6a (fun _ _ => id))
  have HQ6 := Lib.hid (HQ5.out.chg hc6a id)
  have HQR6 := Lib.hid (HQR5.out.chg hc6a (fun _ _ => id))
  have HX6 := Lib.hid (HX5.out.chg hc6a id)
  have ho6 := own_chg HO5.out hc6a (fun _ _ => id)
  have hr11 := (own_rds2 ho6).take 11 (by decide)
  rw [← bcs_take, HT.out] at hr11
  have s1 := conv_any (c := c) hr11
  have HSA := Lib.hid (tsame_any 1 3 3 5 2 258 9 1 3 3 5 2 258 9 (some ⟨w.heap.size, 0, none⟩) D 14 14 14 dc Z14 Z14 _ _ _ HR6.out HQR6.out)
  rw [pkS_refl] at HSA
  clear y0 y1 y2 y3 y4 y5 y6 y7
  obtain ⟨y0, y1, y2, y3, y4, y5, y6, y7⟩ := pk_cells HB6.out
  obtain ⟨z0, z1, z2, z3, z4, z5, z6, z7⟩ := pk_cells HQ6.out
  clear hc6 hc6a ho6 hr11 HC5 HB5 HR5 HO5 HQ5 HQR5 HX5 HR6 HQR6 HT
  unfold pkC at HSA
  unfold zeroP pkC
  go_wp2_with fail
  refine HSA.out.mono ?_
  rintro e w7 ⟨rfl, hc7⟩
  have HC7 := Lib.hid (HC6.out.trans hc7 (fun _ _ e => e))
  clear y0 y1 y2 y3 y4 y5 y6 y7 z0 z1 z2 z3 z4 z5 z6 z7
  obtain ⟨y0, y1, y2, y3, y4, y5, y6, y7⟩ := pk_kept HX6.out hc7
  clear hc7 HC6 HB6 HQ6 HX6
  go_wp2_with fail
  go_ret
  exact ⟨rfl, HC7.out⟩

end Go.Proofs.Ytnboilombfnpkaa
