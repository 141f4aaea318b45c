/-
  Walk: rutterlaw02.alive: true, whatever the world. No condition.
-/
import Derived.Test.YtgpicmeiegbgcaaFf
import Derived.Test.YtgpicmeiegbgcaaFp
import Derived.Lib.SlBytesConst
namespace Go.Proofs.Ytgpicmeiegbgcaa
open Go.RowKit
set_option linter.unusedVariables false

set_option maxHeartbeats 2000000 in
theorem alive2_any (w : World) : Calls Try.prog 6 #[] w fun e w' => e = .returned (.bool true) ∧ Chg (fun _ => False) w w' := by
  have kc := fun (w : World) (C : Array Value) (n c : Nat) => Lib.run_convert_bytes_const (P := Try.prog) w 23 5 C n c Try.underlying23 Try.underlying5
  go_enter Try.func6, Try.ntmps6
  go_wp2_with fail
  have hr0 := rds_new1 w 5 #[.int .u8 120] (1, 2) w.heap.size rfl (bcs [120]) 1 rfl rfl
  have hr1 := hr0.alloc (.cells #[.int .u64 1099511627776, .int .u64 258, .int .i64 2054, .slice (some ⟨w.heap.size, 0, none⟩) 1 1] 25)
  have hf1 : Blk ((w.alloc (.cells #[.int .u8 120] 5 (1, 2))).alloc (.cells #[.int .u64 1099511627776, .int .u64 258, .int .i64 2054, .slice (some ⟨w.heap.size, 0, none⟩) 1 1] 25)) (w.heap.size + 1) _ _ := blk_new (by simp)
  have hC1 := ((Chg.refl (fun _ => False) w).alloc (.cells #[.int .u8 120] 5 (1, 2))).alloc (.cells #[.int .u64 1099511627776, .int .u64 258, .int .i64 2054, .slice (some ⟨w.heap.size, 0, none⟩) 1 1] 25)
  have hen := encode_ok 1099511627776 258 2054 (some ⟨w.heap.size, 0, none⟩) 1 1 [120] _ _ rfl hr1 (by decide) (by decide) (by decide)
  have eB : frameB 1099511627776 258 2054 [120] = [1, 0, 0, 0, 0, 0, 0, 0, 0, 0, 1, 2, 8, 6, 120] := by decide
  rw [eB] at hen
  have HR1 := Lib.hid hr1
  have HF1 := Lib.hid hf1
  have HC1 := Lib.hid hC1
  have HEN := Lib.hid hen
  clear hr0 hr1 hf1 hC1 hen eB
  refine HEN.out.mono ?_
  rintro e w2 ⟨A, k, c, rfl, hk, hcn, hr2, hc2⟩
  have hr2 := hr2
  have hk15 : k = 15 := hk
  subst hk15
  have hde := decode_ok A 15 c _ _ w2 rfl hr2 (by decide) (by decide)
  have hf2 := HF1.out.chg hc2 id
  have hC2 := HC1.out.trans hc2 (fun _ _ e => e)
  have hl2 := HR1.out.chg hc2 (fun _ _ => id)
  have HDE := Lib.hid hde
  have HF2 := Lib.hid hf2
  have HC2 := Lib.hid hC2
  have HR2 := Lib.hid hr2
  have HL2 := Lib.hid hl2
  clear hk hcn hr2 hc2 hde hf2 hC2 hl2 HEN HR1 HF1 HC1
  go_wp2_with fail
  refine HDE.out.mono ?_
  rintro e w3 ⟨D, m, dc, rfl, hm, hr3, hc3⟩
  have hm1 : m = 1 := hm
  subst hm1
  have e1 : fD [1, 0, 0, 0, 0, 0, 0, 0, 0, 0, 1, 2, 8, 6, 120] = 1099511627776 := by decide
  have e2 : fS [1, 0, 0, 0, 0, 0, 0, 0, 0, 0, 1, 2, 8, 6, 120] = 258 := by decide
  have e3 : fT [1, 0, 0, 0, 0, 0, 0, 0, 0, 0, 1, 2, 8, 6, 120] = 2054 := by decide
  have e4 : List.drop 14 ([1, 0, 0, 0, 0, 0, 0, 0, 0, 0, 1, 2, 8, 6, 120] : List UInt8) = [120] := by decide
  rw [e4] at hr3
  simp only [e1, e2, e3]
  have hC3 := HC2.out.trans hc3 (fun _ _ e => e)
  have hf3 := (HF2.out.chg hc3 id).alloc (.cells #[.int .u64 1099511627776, .int .u64 258, .int .i64 2054, .slice D 1 dc] 25)
  have hg3 : Blk (w3.alloc (.cells #[.int .u64 1099511627776, .int .u64 258, .int .i64 2054, .slice D 1 dc] 25)) w3.heap.size _ _ := Blk.new _ _ _
  have s1 := conv_any (c := c) ((HR2.out.chg hc3 (fun _ _ => id)).alloc (.cells #[.int .u64 1099511627776, .int .u64 258, .int .i64 2054, .slice D 1 dc] 25))
  have hC4 := hC3.alloc (.cells #[.int .u64 1099511627776, .int .u64 258, .int .i64 2054, .slice D 1 dc] 25)
  have hsa := same_any 1099511627776 258 2054 1099511627776 258 2054 (some ⟨w.heap.size, 0, none⟩) D 1 1 1 dc [120] [120] _ _ _ ((HL2.out.chg hc3 (fun _ _ => id)).alloc (.cells #[.int .u64 1099511627776, .int .u64 258, .int .i64 2054, .slice D 1 dc] 25)) (hr3.alloc (.cells #[.int .u64 1099511627776, .int .u64 258, .int .i64 2054, .slice D 1 dc] 25))
  have e5 : sameB 1099511627776 258 2054 [120] 1099511627776 258 2054 [120] = true := by decide
  rw [e5] at hsa
  have x0 := hf3.cell 0
  have x1 := hf3.cell 1
  have x2 := hf3.cell 2
  have x3 := hf3.cell 3
  simp only [List.getElem?_toArray, List.getElem?_cons_zero, List.getElem?_cons_succ] at x0 x1 x2 x3
  have HF3 := Lib.hid hf3
  have HC4 := Lib.hid hC4
  have HSA := Lib.hid hsa
  clear e1 e2 e3 e4 e5 hm hr3 hc3 hC3 hf3 hg3 hC4 hsa HDE HF2 HC2 HR2 HL2
  go_wp2_with fail
  refine HSA.out.mono ?_
  rintro e w4 ⟨rfl, hc4⟩
  have hC5 := HC4.out.trans hc4 (fun _ _ e => e)
  have hf4 := HF3.out.chg hc4 id
  clear x0 x1 x2 x3
  have x0 := hf4.cell 0
  have x1 := hf4.cell 1
  have x2 := hf4.cell 2
  have x3 := hf4.cell 3
  simp only [List.getElem?_toArray, List.getElem?_cons_zero, List.getElem?_cons_succ] at x0 x1 x2 x3
  have hri := right_any 1099511627776 258 2054 (some ⟨w.heap.size, 0, none⟩) 1 1 w4 (by decide) (by decide) (by decide)
  have e6 : rightB 1099511627776 258 2054 1 = true := by decide
  rw [e6] at hri
  have HC5 := Lib.hid hC5
  have HRI := Lib.hid hri
  have HF4 := Lib.hid hf4
  clear hC5 hri hf4 hc4 e6 HSA HC4 HF3
  go_wp2_with fail
  refine HRI.out.mono ?_
  rintro e w5 ⟨rfl, hc5⟩
  have hC6 := HC5.out.trans hc5 (fun _ _ e => e)
  have hf5 := HF4.out.chg hc5 id
  clear x0 x1 x2 x3
  have x0 := hf5.cell 0
  have x1 := hf5.cell 1
  simp only [List.getElem?_toArray, List.getElem?_cons_zero, List.getElem?_cons_succ] at x0 x1
  have hma1 := many_any 1099511627776 w5 (by decide) (by decide)
  have hma2 := many_any 258 w5 (by decide) (by decide)
  have e7 : manyB 1099511627776 = true := by decide
  have e8 : manyB 258 = false := by decide
  rw [e7] at hma1
  rw [e8] at hma2
  have hmc := mac_any 3 w5
  have e9 : macI 3 = 2199023255555 := by decide
  rw [e9] at hmc
  have HC6 := Lib.hid hC6
  have HM1 := Lib.hid hma1
  have HM2 := Lib.hid hma2
  have HMC := Lib.hid hmc
  clear hC6 hf5 hc5 e7 e8 e9 hma1 hma2 hmc HRI HC5 HF4
  go_wp2_with fail
  refine HM1.out.mono ?_
  rintro e w6 ⟨rfl, rfl⟩
  go_wp2_with fail
  refine HM2.out.mono ?_
  rintro e w6 ⟨rfl, rfl⟩
  go_wp2_with fail
  refine HMC.out.mono ?_
  rintro e w6 ⟨rfl, hc6⟩
  go_wp2_with fail
  go_ret
  exact ⟨rfl, HC6.out.trans hc6 (fun _ _ e => e)⟩

end Go.Proofs.Ytgpicmeiegbgcaa
