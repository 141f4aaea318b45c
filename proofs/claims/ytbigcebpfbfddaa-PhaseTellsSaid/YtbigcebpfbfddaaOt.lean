/-
  Walk: rutterlaw09.PhaseTells. Conditions: the act's kind is a byte, its version an int.
-/
import Derived.Test.YtbigcebpfbfddaaOq
import Derived.Test.YtbigcebpfbfddaaOs
import Derived.Test.YtbigcebpfbfddaaOk
namespace Go.Proofs.Ytbigcebpfbfddaa
open Go.RowKit
set_option linter.unusedVariables false

theorem rvE_refl (po ma ow ta ol ge ph ve si : Int) : rvE po ma ow ta ol ge ph ve si po ma ow ta ol ge ph ve si = true := by simp [rvE]
set_option maxRecDepth 100000 in
set_option maxHeartbeats 4000000 in
theorem ptells_any (po ma ow ta ol ge ph ve si k who now mac vr port : Int) (w : World) (hk : 0 ≤ k ∧ k ≤ 255) (hvr : -9223372036854775808 ≤ vr ∧ vr ≤ 9223372036854775807) : Calls Try.prog 3 #[.agg #[.int .i64 po, .int .u64 ma, .int .i64 ow, .int .i64 ta, .int .i64 ol, .int .i64 ge, .int .i64 ph, .int .i64 ve, .int .i64 si], .agg #[.int .u8 k, .int .i64 who, .int .i64 now, .int .u64 mac, .int .i64 vr], .int .i64 port] w fun e w' => e = .returned (.bool true) ∧ Chg (fun _ => False) w w' := by
  have hd1 := fun W => do9_any po ma ow ta ol ge ph ve si k who now mac vr W hk hvr
  have hd2 := fun W => want9_any po ma ow ta ol ge ph ve si k who now mac vr W hk hvr
  obtain ⟨z0, z1, z2, z3, z4, z5, z6, z7, z8, ze, hz⟩ := num9 (r := do9 ⟨po, ma, ow, ta, ol, ge, ph, ve, si⟩ k who now mac vr)
  rw [hz] at hd1 hd2
  have HD0 : Hid (∀ W, Calls _ _ _ W (HR9 z0 z1 z2 z3 z4 z5 z6 z7 z8 ze W)) := Lib.hid hd1
  have HD1 : Hid (∀ W, Calls _ _ _ W (HR9 z0 z1 z2 z3 z4 z5 z6 z7 z8 ze W)) := Lib.hid hd2
  clear hd1 hd2 hz
  have hd1 := fun W => pnew_any port mac who now W
  have hd2 := fun W => rnew_any port mac who now W
  obtain ⟨q0, q1, q2, q3, q4, q5, q6, q7, q8, qe, hz⟩ := num9 (r := new9 port mac who now)
  rw [hz] at hd1 hd2
  have HD2 : Hid (∀ W, Calls _ _ _ W (HR9 q0 q1 q2 q3 q4 q5 q6 q7 q8 qe W)) := Lib.hid hd1
  have HD3 : Hid (∀ W, Calls _ _ _ W (HR9 q0 q1 q2 q3 q4 q5 q6 q7 q8 qe W)) := Lib.hid hd2
  clear hd1 hd2 hz
  have heq1 := fun W => eqRow W z0 z1 z2 z3 z4 z5 z6 z7 z8 z0 z1 z2 z3 z4 z5 z6 z7 z8
  rw [rvE_refl] at heq1
  have heq2 := fun W => eqRow W q0 q1 q2 q3 q4 q5 q6 q7 q8 q0 q1 q2 q3 q4 q5 q6 q7 q8
  rw [rvE_refl] at heq2
  have HE := Lib.hid (And.intro heq1 heq2)
  clear heq1 heq2
  have HQ0 : Blk ((w.alloc (.cells #[.int .i64 po, .int .u64 ma, .int .i64 ow, .int .i64 ta, .int .i64 ol, .int .i64 ge, .int .i64 ph, .int .i64 ve, .int .i64 si] 25)).alloc (.cells #[.int .u8 k, .int .i64 who, .int .i64 now, .int .u64 mac, .int .i64 vr] 27)) w.heap.size 25 (rvC po ma ow ta ol ge ph ve si) := Blk.alloc (blk_new rfl) _
  replace HQ0 := Lib.hid HQ0
  have HA0 : Blk ((w.alloc (.cells #[.int .i64 po, .int .u64 ma, .int .i64 ow, .int .i64 ta, .int .i64 ol, .int .i64 ge, .int .i64 ph, .int .i64 ve, .int .i64 si] 25)).alloc (.cells #[.int .u8 k, .int .i64 who, .int .i64 now, .int .u64 mac, .int .i64 vr] 27)) (w.heap.size + 1) 27 #[.int .u8 k, .int .i64 who, .int .i64 now, .int .u64 mac, .int .i64 vr] := blk_new (by simp)
  replace HA0 := Lib.hid HA0
  have HX0 := Lib.hid (((Chg.refl (fun _ => False) w).alloc (.cells #[.int .i64 po, .int .u64 ma, .int .i64 ow, .int .i64 ta, .int .i64 ol, .int .i64 ge, .int .i64 ph, .int .i64 ve, .int .i64 si] 25)).alloc (.cells #[.int .u8 k, .int .i64 who, .int .i64 now, .int .u64 mac, .int .i64 vr] 27))
  go_enter Try.func3, Try.ntmps3
  go_upto_region 1 with fail
  generalize ((w.alloc (.cells #[.int .i64 po, .int .u64 ma, .int .i64 ow, .int .i64 ta, .int .i64 ol, .int .i64 ge, .int .i64 ph, .int .i64 ve, .int .i64 si] 25)).alloc (.cells #[.int .u8 k, .int .i64 who, .int .i64 now, .int .u64 mac, .int .i64 vr] 27)) = v at *
  obtain ⟨y0, y1, y2, y3, y4, y5, y6, y7, y8⟩ := rv_cells HQ0.out
  have a0 := HA0.out.cell 0
  have a1 := HA0.out.cell 1
  have a2 := HA0.out.cell 2
  have a3 := HA0.out.cell 3
  have a4 := HA0.out.cell 4
  simp only [List.getElem?_toArray, List.getElem?_cons_zero, List.getElem?_cons_succ] at a0 a1 a2 a3 a4
  go_wp2_with fail
  refine (HD0.out _).mono ?_
  rintro e w0 ⟨rfl, hc⟩
  replace HX0 := Lib.hid (HX0.out.trans hc (fun _ _ e => e))
  replace HQ0 := Lib.hid (HQ0.out.chg hc id)
  replace HA0 := Lib.hid (HA0.out.chg hc id)
  clear hc a0 a1 a2 a3 a4 y0 y1 y2 y3 y4 y5 y6 y7 y8
  go_upto_region 2 with fail
  have B0 := Lib.hid (Blk.new w0 25 #[.int .i64 z0, .int .u64 z1, .int .i64 z2, .int .i64 z3, .int .i64 z4, .int .i64 z5, .int .i64 z6, .int .i64 z7, .int .i64 z8])
  replace HX0 := Lib.hid (HX0.out.alloc (.cells #[.int .i64 z0, .int .u64 z1, .int .i64 z2, .int .i64 z3, .int .i64 z4, .int .i64 z5, .int .i64 z6, .int .i64 z7, .int .i64 z8] 25))
  replace HQ0 := Lib.hid (HQ0.out.alloc (.cells #[.int .i64 z0, .int .u64 z1, .int .i64 z2, .int .i64 z3, .int .i64 z4, .int .i64 z5, .int .i64 z6, .int .i64 z7, .int .i64 z8] 25))
  replace HA0 := Lib.hid (HA0.out.alloc (.cells #[.int .i64 z0, .int .u64 z1, .int .i64 z2, .int .i64 z3, .int .i64 z4, .int .i64 z5, .int .i64 z6, .int .i64 z7, .int .i64 z8] 25))
  generalize w0.heap.size = g0 at *
  generalize w0.alloc (.cells #[.int .i64 z0, .int .u64 z1, .int .i64 z2, .int .i64 z3, .int .i64 z4, .int .i64 z5, .int .i64 z6, .int .i64 z7, .int .i64 z8] 25) = v0 at *
  replace B0 : Hid (Blk _ g0 25 (rvC z0 z1 z2 z3 z4 z5 z6 z7 z8)) := B0
  obtain ⟨y0, y1, y2, y3, y4, y5, y6, y7, y8⟩ := rv_cells HQ0.out
  have a0 := HA0.out.cell 0
  have a1 := HA0.out.cell 1
  have a2 := HA0.out.cell 2
  have a3 := HA0.out.cell 3
  have a4 := HA0.out.cell 4
  simp only [List.getElem?_toArray, List.getElem?_cons_zero, List.getElem?_cons_succ] at a0 a1 a2 a3 a4
  go_wp2_with fail
  refine (HD1.out _).mono ?_
  rintro e w1 ⟨rfl, hc⟩
  replace HX0 := Lib.hid (HX0.out.trans hc (fun _ _ e => e))
  replace HQ0 := Lib.hid (HQ0.out.chg hc id)
  replace HA0 := Lib.hid (HA0.out.chg hc id)
  replace B0 := Lib.hid (B0.out.chg hc id)
  clear hc a0 a1 a2 a3 a4 y0 y1 y2 y3 y4 y5 y6 y7 y8
  go_upto_region 3 with fail
  have B1 := Lib.hid (Blk.new w1 25 #[.int .i64 z0, .int .u64 z1, .int .i64 z2, .int .i64 z3, .int .i64 z4, .int .i64 z5, .int .i64 z6, .int .i64 z7, .int .i64 z8])
  replace HX0 := Lib.hid (HX0.out.alloc (.cells #[.int .i64 z0, .int .u64 z1, .int .i64 z2, .int .i64 z3, .int .i64 z4, .int .i64 z5, .int .i64 z6, .int .i64 z7, .int .i64 z8] 25))
  replace HQ0 := Lib.hid (HQ0.out.alloc (.cells #[.int .i64 z0, .int .u64 z1, .int .i64 z2, .int .i64 z3, .int .i64 z4, .int .i64 z5, .int .i64 z6, .int .i64 z7, .int .i64 z8] 25))
  replace HA0 := Lib.hid (HA0.out.alloc (.cells #[.int .i64 z0, .int .u64 z1, .int .i64 z2, .int .i64 z3, .int .i64 z4, .int .i64 z5, .int .i64 z6, .int .i64 z7, .int .i64 z8] 25))
  replace B0 := Lib.hid (B0.out.alloc (.cells #[.int .i64 z0, .int .u64 z1, .int .i64 z2, .int .i64 z3, .int .i64 z4, .int .i64 z5, .int .i64 z6, .int .i64 z7, .int .i64 z8] 25))
  generalize w1.heap.size = g1 at *
  generalize w1.alloc (.cells #[.int .i64 z0, .int .u64 z1, .int .i64 z2, .int .i64 z3, .int .i64 z4, .int .i64 z5, .int .i64 z6, .int .i64 z7, .int .i64 z8] 25) = v1 at *
  replace B1 : Hid (Blk _ g1 25 (rvC z0 z1 z2 z3 z4 z5 z6 z7 z8)) := B1
  have a0 := HA0.out.cell 0
  have a1 := HA0.out.cell 1
  have a2 := HA0.out.cell 2
  have a3 := HA0.out.cell 3
  have a4 := HA0.out.cell 4
  simp only [List.getElem?_toArray, List.getElem?_cons_zero, List.getElem?_cons_succ] at a0 a1 a2 a3 a4
  go_wp2_with fail
  refine (HD2.out _).mono ?_
  rintro e w2 ⟨rfl, hc⟩
  replace HX0 := Lib.hid (HX0.out.trans hc (fun _ _ e => e))
  replace HQ0 := Lib.hid (HQ0.out.chg hc id)
  replace HA0 := Lib.hid (HA0.out.chg hc id)
  replace B0 := Lib.hid (B0.out.chg hc id)
  replace B1 := Lib.hid (B1.out.chg hc id)
  clear hc a0 a1 a2 a3 a4
  go_upto_region 4 with fail
  have B2 := Lib.hid (Blk.new w2 25 #[.int .i64 q0, .int .u64 q1, .int .i64 q2, .int .i64 q3, .int .i64 q4, .int .i64 q5, .int .i64 q6, .int .i64 q7, .int .i64 q8])
  replace HX0 := Lib.hid (HX0.out.alloc (.cells #[.int .i64 q0, .int .u64 q1, .int .i64 q2, .int .i64 q3, .int .i64 q4, .int .i64 q5, .int .i64 q6, .int .i64 q7, .int .i64 q8] 25))
  replace HQ0 := Lib.hid (HQ0.out.alloc (.cells #[.int .i64 q0, .int .u64 q1, .int .i64 q2, .int .i64 q3, .int .i64 q4, .int .i64 q5, .int .i64 q6, .int .i64 q7, .int .i64 q8] 25))
  replace HA0 := Lib.hid (HA0.out.alloc (.cells #[.int .i64 q0, .int .u64 q1, .int .i64 q2, .int .i64 q3, .int .i64 q4, .int .i64 q5, .int .i64 q6, .int .i64 q7, .int .i64 q8] 25))
  replace B0 := Lib.hid (B0.out.alloc (.cells #[.int .i64 q0, .int .u64 q1, .int .i64 q2, .int .i64 q3, .int .i64 q4, .int .i64 q5, .int .i64 q6, .int .i64 q7, .int .i64 q8] 25))
  replace B1 := Lib.hid (B1.out.alloc (.cells #[.int .i64 q0, .int .u64 q1, .int .i64 q2, .int .i64 q3, .int .i64 q4, .int .i64 q5, .int .i64 q6, .int .i64 q7, .int .i64 q8] 25))
  generalize w2.heap.size = g2 at *
  generalize w2.alloc (.cells #[.int .i64 q0, .int .u64 q1, .int .i64 q2, .int .i64 q3, .int .i64 q4, .int .i64 q5, .int .i64 q6, .int .i64 q7, .int .i64 q8] 25) = v2 at *
  replace B2 : Hid (Blk _ g2 25 (rvC q0 q1 q2 q3 q4 q5 q6 q7 q8)) := B2
  have a0 := HA0.out.cell 0
  have a1 := HA0.out.cell 1
  have a2 := HA0.out.cell 2
  have a3 := HA0.out.cell 3
  have a4 := HA0.out.cell 4
  simp only [List.getElem?_toArray, List.getElem?_cons_zero, List.getElem?_cons_succ] at a0 a1 a2 a3 a4
  go_wp2_with fail
  refine (HD3.out _).mono ?_
  rintro e w3 ⟨rfl, hc⟩
  replace HX0 := Lib.hid (HX0.out.trans hc (fun _ _ e => e))
  replace HQ0 := Lib.hid (HQ0.out.chg hc id)
  replace HA0 := Lib.hid (HA0.out.chg hc id)
  replace B0 := Lib.hid (B0.out.chg hc id)
  replace B1 := Lib.hid (B1.out.chg hc id)
  replace B2 := Lib.hid (B2.out.chg hc id)
  clear hc a0 a1 a2 a3 a4
  go_upto_region 5 with fail
  have B3 := Lib.hid (Blk.new w3 25 #[.int .i64 q0, .int .u64 q1, .int .i64 q2, .int .i64 q3, .int .i64 q4, .int .i64 q5, .int .i64 q6, .int .i64 q7, .int .i64 q8])
  replace HX0 := Lib.hid (HX0.out.alloc (.cells #[.int .i64 q0, .int .u64 q1, .int .i64 q2, .int .i64 q3, .int .i64 q4, .int .i64 q5, .int .i64 q6, .int .i64 q7, .int .i64 q8] 25))
  replace HQ0 := Lib.hid (HQ0.out.alloc (.cells #[.int .i64 q0, .int .u64 q1, .int .i64 q2, .int .i64 q3, .int .i64 q4, .int .i64 q5, .int .i64 q6, .int .i64 q7, .int .i64 q8] 25))
  replace HA0 := Lib.hid (HA0.out.alloc (.cells #[.int .i64 q0, .int .u64 q1, .int .i64 q2, .int .i64 q3, .int .i64 q4, .int .i64 q5, .int .i64 q6, .int .i64 q7, .int .i64 q8] 25))
  replace B0 := Lib.hid (B0.out.alloc (.cells #[.int .i64 q0, .int .u64 q1, .int .i64 q2, .int .i64 q3, .int .i64 q4, .int .i64 q5, .int .i64 q6, .int .i64 q7, .int .i64 q8] 25))
  replace B1 := Lib.hid (B1.out.alloc (.cells #[.int .i64 q0, .int .u64 q1, .int .i64 q2, .int .i64 q3, .int .i64 q4, .int .i64 q5, .int .i64 q6, .int .i64 q7, .int .i64 q8] 25))
  replace B2 := Lib.hid (B2.out.alloc (.cells #[.int .i64 q0, .int .u64 q1, .int .i64 q2, .int .i64 q3, .int .i64 q4, .int .i64 q5, .int .i64 q6, .int .i64 q7, .int .i64 q8] 25))
  generalize w3.heap.size = g3 at *
  generalize w3.alloc (.cells #[.int .i64 q0, .int .u64 q1, .int .i64 q2, .int .i64 q3, .int .i64 q4, .int .i64 q5, .int .i64 q6, .int .i64 q7, .int .i64 q8] 25) = v3 at *
  replace B3 : Hid (Blk _ g3 25 (rvC q0 q1 q2 q3 q4 q5 q6 q7 q8)) := B3
  clear HQ0 HA0
  go_wp2_with fail
  refine (alive9_any _).mono ?_
  rintro e w5 ⟨rfl, hc⟩
  replace HX0 := Lib.hid (HX0.out.trans hc (fun _ _ e => e))
  replace B0 := Lib.hid (B0.out.chg hc id)
  replace B1 := Lib.hid (B1.out.chg hc id)
  replace B2 := Lib.hid (B2.out.chg hc id)
  replace B3 := Lib.hid (B3.out.chg hc id)
  obtain ⟨b00, b01, b02, b03, b04, b05, b06, b07, b08⟩ := rv_cells B0.out
  obtain ⟨b10, b11, b12, b13, b14, b15, b16, b17, b18⟩ := rv_cells B1.out
  obtain ⟨b20, b21, b22, b23, b24, b25, b26, b27, b28⟩ := rv_cells B2.out
  obtain ⟨b30, b31, b32, b33, b34, b35, b36, b37, b38⟩ := rv_cells B3.out
  clear hc B0 B1 B2 B3
  obtain ⟨heq1, heq2⟩ := HE.out
  have te1 : (ze == ze) = true := by simp
  have te2 : (qe == qe) = true := by simp
  go_wp2_with fail
  go_ret
  exact ⟨rfl, HX0.out⟩

end Go.Proofs.Ytbigcebpfbfddaa
