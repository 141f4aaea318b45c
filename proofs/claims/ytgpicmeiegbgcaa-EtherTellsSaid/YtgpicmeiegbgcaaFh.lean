/-
  Walk: rutterlaw02.EtherBytes. Conditions: the argument is read in memory.
-/
import Derived.Test.YtgpicmeiegbgcaaFg
namespace Go.Proofs.Ytgpicmeiegbgcaa
open Go.RowKit
set_option linter.unusedVariables false

set_option maxHeartbeats 2000000 in
theorem ebytes_any (A : Option Addr) (n c : Nat) (b : List UInt8) (w : World) (hn : n = b.length) (h : Rds w (fun _ => True) A n (bcs b)) (hnc : n ≤ c) (hcm : c ≤ maxLen) :
    Calls Try.prog 4 #[.slice A n c] w fun e w' => e = .returned (.bool true) ∧ Chg (fun _ => False) w w' := by
  have hn63 : n ≤ 9223372036854775807 := by unfold maxLen at hcm; omega
  by_cases hbig : 3000 < n
  · have HAL := Lib.hid (alive2_any w)
    clear hn h hcm
    go_enter Try.func4, Try.ntmps4
    go_wp2_with fail
    refine HAL.out.mono ?_
    rintro e w' ⟨rfl, hc⟩
    go_wp2_with fail
    go_ret
    exact ⟨rfl, hc⟩
  · by_cases hbad : n < 14 ∨ 1514 < n
    · have HDE := Lib.hid (decode_bad A n c w hbad hn63)
      have HPA := Lib.hid (fun W : World => parse_bad A n c W hbad hn63)
      clear hn h hcm hbad
      unfold zeroF at HDE HPA
      go_enter Try.func4, Try.ntmps4
      go_wp2_with fail
      refine HDE.out.mono ?_
      rintro e w1 ⟨rfl, hc1⟩
      have hC1 := hc1.alloc (.cells #[.int .u64 0, .int .u64 0, .int .i64 0, .slice none 0 0] 25)
      have hf1 : Blk (w1.alloc (.cells #[.int .u64 0, .int .u64 0, .int .i64 0, .slice none 0 0] 25)) w1.heap.size _ _ := Blk.new _ _ _
      have HC1 := Lib.hid hC1
      have HF1 := Lib.hid hf1
      clear hc1 hC1 hf1 HDE
      go_wp2_with fail
      refine (HPA.out _).mono ?_
      rintro e w2 ⟨rfl, hc2⟩
      have hC2 := (HC1.out.trans hc2 (fun _ _ e => e)).alloc (.cells #[.int .u64 0, .int .u64 0, .int .i64 0, .slice none 0 0] 25)
      have hf2 := (HF1.out.chg hc2 id).alloc (.cells #[.int .u64 0, .int .u64 0, .int .i64 0, .slice none 0 0] 25)
      have x0 := hf2.cell 0
      have x1 := hf2.cell 1
      have x2 := hf2.cell 2
      have x3 := hf2.cell 3
      simp only [List.getElem?_toArray, List.getElem?_cons_zero, List.getElem?_cons_succ] at x0 x1 x2 x3
      have hsa := rsame_any 0 0 0 0 0 0 none none 0 0 0 0 [] [] _ _ (w2.alloc (.cells #[.int .u64 0, .int .u64 0, .int .i64 0, .slice none 0 0] 25)) (Rds.nil _ (fun _ => False) _) (Rds.nil _ (fun _ => False) _)
      have e5 : sameB 0 0 0 [] 0 0 0 [] = true := by decide
      rw [e5] at hsa
      have HC2 := Lib.hid hC2
      have HSA := Lib.hid hsa
      clear hc2 hC2 hf2 hsa e5 HPA HC1 HF1
      go_wp2_with fail
      refine HSA.out.mono ?_
      rintro e w3 ⟨rfl, hc3⟩
      have HC3 := Lib.hid (HC2.out.trans hc3 (fun _ _ e => e))
      have HAL := Lib.hid (alive2_any w3)
      clear hc3 HSA HC2 x0 x1 x2 x3
      go_wp2_with fail
      refine HAL.out.mono ?_
      rintro e w4 ⟨rfl, hc4⟩
      go_wp2_with fail
      go_ret
      exact ⟨rfl, HC3.out.trans hc4 (fun _ _ e => e)⟩
    · have h14 : 14 ≤ n := by omega
      have h15 : n ≤ 1514 := by omega
      have hd := fD_lt b (by omega)
      have hs := fS_lt b (by omega)
      have ht := fT_lt b (by omega)
      have HDE := Lib.hid (decode_ok A n c b _ w hn h h14 h15)
      have HPA := Lib.hid (fun (W : World) (hc : Chg (fun _ => False) w W) => parse_ok A n c b _ W hn (h.chg hc (fun _ _ => id)) h14 h15 hnc hcm)
      have HRI := Lib.hid (right_fr b (by omega) (by omega))
      have HFO := Lib.hid (frame_of b (by omega))
      have HCV := Lib.hid (fun (W : World) (hc : Chg (fun _ => False) w W) => conv_any (c := c) (h.chg hc (fun _ _ => id)))
      have HL := Lib.hid (show (b.drop 14).length ≤ 1500 by rw [List.length_drop]; omega)
      clear hn h hcm hbad
      go_enter Try.func4, Try.ntmps4
      go_wp2_with fail
      refine HDE.out.mono ?_
      rintro e w1 ⟨D, k, dc, rfl, hk, hr1, hc1⟩
      generalize hqd : fD b = d at *
      generalize hqs : fS b = s at *
      generalize hqt : fT b = t at *
      generalize hql : b.drop 14 = l at *
      have HQ := Lib.hid (And.intro hqd (And.intro hqs (And.intro hqt hql)))
      have HK := Lib.hid hk
      clear hqd hqs hqt hql hk
      have hC1 := hc1.alloc (.cells #[.int .u64 d, .int .u64 s, .int .i64 t, .slice D k dc] 25)
      have hf1 : Blk (w1.alloc (.cells #[.int .u64 d, .int .u64 s, .int .i64 t, .slice D k dc] 25)) w1.heap.size _ _ := Blk.new _ _ _
      have hr1 := hr1.alloc (.cells #[.int .u64 d, .int .u64 s, .int .i64 t, .slice D k dc] 25)
      have hpa := HPA.out _ hC1
      have HC1 := Lib.hid hC1
      have HF1 := Lib.hid hf1
      have HR1 := Lib.hid hr1
      have HP1 := Lib.hid hpa
      clear hc1 hC1 hf1 HDE hr1 HPA hpa
      go_wp2_with fail
      refine HP1.out.mono ?_
      rintro e w2 ⟨D2, k2, dc2, rfl, hk2, hr2, hc2⟩
      obtain ⟨q1, q2, q3, q4⟩ := HQ.out
      rw [q1, q2, q3]
      rw [q4] at hk2 hr2
      clear q1 q2 q3 q4
      have HK2 := Lib.hid hk2
      clear hk2
      have hC2 := (HC1.out.trans hc2 (fun _ _ e => e)).alloc (.cells #[.int .u64 d, .int .u64 s, .int .i64 t, .slice D2 k2 dc2] 25)
      have hf2 := (HF1.out.chg hc2 id).alloc (.cells #[.int .u64 d, .int .u64 s, .int .i64 t, .slice D2 k2 dc2] 25)
      have hr1 := (HR1.out.chg hc2 (fun _ _ => id)).alloc (.cells #[.int .u64 d, .int .u64 s, .int .i64 t, .slice D2 k2 dc2] 25)
      have hr2 := hr2.alloc (.cells #[.int .u64 d, .int .u64 s, .int .i64 t, .slice D2 k2 dc2] 25)
      have x0 := hf2.cell 0
      have x1 := hf2.cell 1
      have x2 := hf2.cell 2
      have x3 := hf2.cell 3
      simp only [List.getElem?_toArray, List.getElem?_cons_zero, List.getElem?_cons_succ] at x0 x1 x2 x3
      have hsa := rsame_any d s t d s t D D2 k k2 dc dc2 l l _ _ _ hr1 hr2
      have e5 : sameB d s t l d s t l = true := by simp [sameB]
      rw [e5] at hsa
      have HC2 := Lib.hid hC2
      have HF2 := Lib.hid hf2
      have HR2 := Lib.hid hr1
      have HSA := Lib.hid hsa
      clear hc2 hC2 hf2 hsa e5 HP1 HC1 HF1 HR1 hr1 hr2
      go_wp2_with fail
      refine HSA.out.mono ?_
      rintro e w3 ⟨rfl, hc3⟩
      have hf3 := HF2.out.chg hc3 id
      clear x0 x1 x2 x3
      have x0 := hf3.cell 0
      have x1 := hf3.cell 1
      have x2 := hf3.cell 2
      have x3 := hf3.cell 3
      simp only [List.getElem?_toArray, List.getElem?_cons_zero, List.getElem?_cons_succ] at x0 x1 x2 x3
      have hri := HRI.out
      rw [← HK.out] at hri
      have hen := encode_ok d s t D k dc l _ w3 HK.out (HR2.out.chg hc3 (fun _ _ => id)) hd.1 hs.1 hri
      have hfo := HFO.out
      rw [hfo] at hen
      have HC3 := Lib.hid (HC2.out.trans hc3 (fun _ _ e => e))
      have HEN := Lib.hid hen
      clear hc3 HSA HC2 HF2 HR2 hf3 hri hen hfo
      go_wp2_with fail
      refine HEN.out.mono ?_
      rintro e w4 ⟨E, m, ec, rfl, hm, _, hr4, hc4⟩
      have HC4 := Lib.hid (HC3.out.trans hc4 (fun _ _ e => e))
      have HAL := Lib.hid (alive2_any w4)
      have HR4 := Lib.hid hr4
      have HM := Lib.hid hm
      clear hc4 hr4 hm HC3 HEN x0 x1 x2 x3
      go_wp2_with fail
      refine HAL.out.mono ?_
      rintro e w5 ⟨rfl, hc5⟩
      have s1 := conv_any (c := ec) (HR4.out.chg hc5 (fun _ _ => id))
      have hC5 := HC4.out.trans hc5 (fun _ _ e => e)
      have s2 := HCV.out _ hC5
      have HC5 := Lib.hid hC5
      clear hc5 hC5 HC4 HAL HR4
      go_wp2_with fail
      go_ret
      refine ⟨?_, HC5.out⟩
      simp

end Go.Proofs.Ytgpicmeiegbgcaa
