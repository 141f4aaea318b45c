/-
  Walks: flow.isFor, goesTo, Fits, the document's Fits. No condition.
-/
import Derived.Test.YtacbgelbffmngaaYa
import Derived.Deep.LoopGhost
import Derived.Lib.SmallJoins
import Derived.Deep.Cut
import Derived.Deep.DeepCutAuto
namespace Go.Proofs.Ytacbgelbffmngaa
open Go.RowKit
set_option linter.unusedVariables false
set_option linter.unusedSimpArgs false

set_option maxRecDepth 100000 in
set_option maxHeartbeats 2000000 in
theorem fisfor13_any (pr ins ma po fr up no ak ap ao ag ki : Int) (w : World) : Calls Try.prog 66 #[.agg (enC pr ins ma po fr up no ak ap ao ag), .int .i64 ki] w fun e w' => e = .returned (.bool (inB13 ins ki)) ∧ Chg (fun _ => False) w w' := by
  have HB0 : Hid (Blk (w.alloc (.cells #[.int .i64 pr, .int .i64 ins, .int .u64 ma, .int .i64 po, .int .i64 fr, .int .i64 up, .int .i64 no, .int .i64 ak, .int .i64 ap, .int .i64 ao, .int .i64 ag] 70)) w.heap.size 70 (enC pr ins ma po fr up no ak ap ao ag)) := Lib.hid (blk_new rfl)
  have HC0 := Lib.hid ((Chg.refl (fun _ => False) w).alloc (.cells #[.int .i64 pr, .int .i64 ins, .int .u64 ma, .int .i64 po, .int .i64 fr, .int .i64 up, .int .i64 no, .int .i64 ak, .int .i64 ap, .int .i64 ao, .int .i64 ag] 70))
  obtain ⟨y0, y1, y2, y3, y4, y5, y6, y7, y8, y9, y10⟩ := en_cells13 HB0.out
  unfold enC
  by_cases h0 : ki = 0
  · subst h0
    rw [inB13_0]
    go_enter Try.func66, Try.ntmps66
    go_upto_region 1 with fail
    generalize w.alloc (.cells #[.int .i64 pr, .int .i64 ins, .int .u64 ma, .int .i64 po, .int .i64 fr, .int .i64 up, .int .i64 no, .int .i64 ak, .int .i64 ap, .int .i64 ao, .int .i64 ag] 70) = w1 at *
    generalize w.heap.size = q at *
    go_wp2_with fail
    go_ret
    exact ⟨ret_b13 (eq13_0 ins), HC0.out⟩
  by_cases h1 : ki = 1
  · subst h1
    rw [inB13_1]
    go_enter Try.func66, Try.ntmps66
    go_upto_region 1 with fail
    generalize w.alloc (.cells #[.int .i64 pr, .int .i64 ins, .int .u64 ma, .int .i64 po, .int .i64 fr, .int .i64 up, .int .i64 no, .int .i64 ak, .int .i64 ap, .int .i64 ao, .int .i64 ag] 70) = w1 at *
    generalize w.heap.size = q at *
    go_wp2_with fail
    go_ret
    exact ⟨ret_b13 (eq13_1 ins), HC0.out⟩
  by_cases h2 : ki = 2
  · subst h2
    rw [inB13_2]
    go_enter Try.func66, Try.ntmps66
    go_upto_region 1 with fail
    generalize w.alloc (.cells #[.int .i64 pr, .int .i64 ins, .int .u64 ma, .int .i64 po, .int .i64 fr, .int .i64 up, .int .i64 no, .int .i64 ak, .int .i64 ap, .int .i64 ao, .int .i64 ag] 70) = w1 at *
    generalize w.heap.size = q at *
    go_wp2_with fail
    go_ret
    exact ⟨ret_b13 (eq13_2 ins), HC0.out⟩
  rw [inB13_no ins ki h0 h1 h2]
  by_cases h3 : 0 ≤ ki
  · have h4 : ¬ ki ≤ 2 := by omega
    go_enter Try.func66, Try.ntmps66
    go_upto_region 1 with fail
    generalize w.alloc (.cells #[.int .i64 pr, .int .i64 ins, .int .u64 ma, .int .i64 po, .int .i64 fr, .int .i64 up, .int .i64 no, .int .i64 ak, .int .i64 ap, .int .i64 ao, .int .i64 ag] 70) = w1 at *
    generalize w.heap.size = q at *
    go_wp2_with fail
    go_ret
    exact ⟨rfl, HC0.out⟩
  · have h4 : ki < 0 := by omega
    go_enter Try.func66, Try.ntmps66
    go_upto_region 1 with fail
    generalize w.alloc (.cells #[.int .i64 pr, .int .i64 ins, .int .u64 ma, .int .i64 po, .int .i64 fr, .int .i64 up, .int .i64 no, .int .i64 ak, .int .i64 ap, .int .i64 ao, .int .i64 ag] 70) = w1 at *
    generalize w.heap.size = q at *
    go_wp2_with fail
    go_ret
    exact ⟨rfl, HC0.out⟩
set_option maxRecDepth 100000 in
set_option maxHeartbeats 2000000 in
theorem fgoes13_any (pr ins ma po fr up no ak ap ao ag ki km kp ks ko : Int) (w : World) : Calls Try.prog 67 #[.agg (enC pr ins ma po fr up no ak ap ao ag), .agg (kyC ki km kp ks ko)] w fun e w' => e = .returned (.bool (toB13 ma po ki km kp)) ∧ Chg (fun _ => False) w w' := by
  have HB0 : Hid (Blk ((w.alloc (.cells #[.int .i64 pr, .int .i64 ins, .int .u64 ma, .int .i64 po, .int .i64 fr, .int .i64 up, .int .i64 no, .int .i64 ak, .int .i64 ap, .int .i64 ao, .int .i64 ag] 70)).alloc (.cells #[.int .i64 ki, .int .u64 km, .int .i64 kp, .int .i64 ks, .int .i64 ko] 77)) w.heap.size 70 (enC pr ins ma po fr up no ak ap ao ag)) := Lib.hid (Blk.alloc (blk_new rfl) _)
  have HB1 : Hid (Blk ((w.alloc (.cells #[.int .i64 pr, .int .i64 ins, .int .u64 ma, .int .i64 po, .int .i64 fr, .int .i64 up, .int .i64 no, .int .i64 ak, .int .i64 ap, .int .i64 ao, .int .i64 ag] 70)).alloc (.cells #[.int .i64 ki, .int .u64 km, .int .i64 kp, .int .i64 ks, .int .i64 ko] 77)) (w.heap.size + 1) 77 (kyC ki km kp ks ko)) := Lib.hid (blk_new (by simp))
  have HC0 := Lib.hid (((Chg.refl (fun _ => False) w).alloc (.cells #[.int .i64 pr, .int .i64 ins, .int .u64 ma, .int .i64 po, .int .i64 fr, .int .i64 up, .int .i64 no, .int .i64 ak, .int .i64 ap, .int .i64 ao, .int .i64 ag] 70)).alloc (.cells #[.int .i64 ki, .int .u64 km, .int .i64 kp, .int .i64 ks, .int .i64 ko] 77))
  obtain ⟨y0, y1, y2, y3, y4, y5, y6, y7, y8, y9, y10⟩ := en_cells13 HB0.out
  obtain ⟨u0, u1, u2, u3, u4⟩ := ky_cells13 HB1.out
  unfold enC kyC
  by_cases h0 : ki = 0
  · skip
    have t0 : (ki == 0) = true := by simp [h0]
    have HH := Lib.hid h0
    clear h0
    go_enter Try.func67, Try.ntmps67
    go_upto_region 1 with fail
    generalize (w.alloc (.cells #[.int .i64 pr, .int .i64 ins, .int .u64 ma, .int .i64 po, .int .i64 fr, .int .i64 up, .int .i64 no, .int .i64 ak, .int .i64 ap, .int .i64 ao, .int .i64 ag] 70)).alloc (.cells #[.int .i64 ki, .int .u64 km, .int .i64 kp, .int .i64 ks, .int .i64 ko] 77) = w1 at *
    generalize w.heap.size = q at *
    go_wp2_with fail
    go_ret
    exact ⟨ret_b13 (by simp [toB13, HH.out]), HC0.out⟩
  · skip
    have t0 : (ki == 0) = false := by simp [h0]
    have HH := Lib.hid h0
    clear h0
    go_enter Try.func67, Try.ntmps67
    go_upto_region 1 with fail
    generalize (w.alloc (.cells #[.int .i64 pr, .int .i64 ins, .int .u64 ma, .int .i64 po, .int .i64 fr, .int .i64 up, .int .i64 no, .int .i64 ak, .int .i64 ap, .int .i64 ao, .int .i64 ag] 70)).alloc (.cells #[.int .i64 ki, .int .u64 km, .int .i64 kp, .int .i64 ks, .int .i64 ko] 77) = w1 at *
    generalize w.heap.size = q at *
    go_wp2_with fail
    go_ret
    exact ⟨ret_b13 (by simp [toB13, HH.out]), HC0.out⟩
set_option maxRecDepth 100000 in
set_option maxHeartbeats 4000000 in
theorem ffits13_any (pr ins ma po fr up no ak ap ao ag ki km kp ks ko : Int) (w : World) : Calls Try.prog 62 #[.agg (enC pr ins ma po fr up no ak ap ao ag), .agg (kyC ki km kp ks ko)] w fun e w' => e = .returned (.bool (fB13 ins ma po fr up no ki km kp ks ko)) ∧ Chg (fun _ => False) w w' := by
  have HB0 : Hid (Blk ((w.alloc (.cells #[.int .i64 pr, .int .i64 ins, .int .u64 ma, .int .i64 po, .int .i64 fr, .int .i64 up, .int .i64 no, .int .i64 ak, .int .i64 ap, .int .i64 ao, .int .i64 ag] 70)).alloc (.cells #[.int .i64 ki, .int .u64 km, .int .i64 kp, .int .i64 ks, .int .i64 ko] 77)) w.heap.size 70 (enC pr ins ma po fr up no ak ap ao ag)) := Lib.hid (Blk.alloc (blk_new rfl) _)
  have HB1 : Hid (Blk ((w.alloc (.cells #[.int .i64 pr, .int .i64 ins, .int .u64 ma, .int .i64 po, .int .i64 fr, .int .i64 up, .int .i64 no, .int .i64 ak, .int .i64 ap, .int .i64 ao, .int .i64 ag] 70)).alloc (.cells #[.int .i64 ki, .int .u64 km, .int .i64 kp, .int .i64 ks, .int .i64 ko] 77)) (w.heap.size + 1) 77 (kyC ki km kp ks ko)) := Lib.hid (blk_new (by simp))
  have HC0 := Lib.hid (((Chg.refl (fun _ => False) w).alloc (.cells #[.int .i64 pr, .int .i64 ins, .int .u64 ma, .int .i64 po, .int .i64 fr, .int .i64 up, .int .i64 no, .int .i64 ak, .int .i64 ap, .int .i64 ao, .int .i64 ag] 70)).alloc (.cells #[.int .i64 ki, .int .u64 km, .int .i64 kp, .int .i64 ks, .int .i64 ko] 77))
  obtain ⟨y0, y1, y2, y3, y4, y5, y6, y7, y8, y9, y10⟩ := en_cells13 HB0.out
  obtain ⟨u0, u1, u2, u3, u4⟩ := ky_cells13 HB1.out
  unfold enC kyC
  have his := fun W => fisfor13_any pr ins ma po fr up no ak ap ao ag ki W
  have hgo := fun W => fgoes13_any pr ins ma po fr up no ak ap ao ag ki km kp ks ko W
  unfold enC at his
  unfold enC kyC at hgo
  generalize hi : inB13 ins ki = bi at *
  generalize ht : toB13 ma po ki km kp = bt at *
  have HI := Lib.hid hi
  have HT := Lib.hid ht
  clear hi ht
  cases bi with
  | false =>
    have HIS := Lib.hid his
    clear his
    go_enter Try.func62, Try.ntmps62
    go_upto_region 1 with fail
    generalize (w.alloc (.cells #[.int .i64 pr, .int .i64 ins, .int .u64 ma, .int .i64 po, .int .i64 fr, .int .i64 up, .int .i64 no, .int .i64 ak, .int .i64 ap, .int .i64 ao, .int .i64 ag] 70)).alloc (.cells #[.int .i64 ki, .int .u64 km, .int .i64 kp, .int .i64 ks, .int .i64 ko] 77) = w1 at *
    generalize w.heap.size = q at *
    go_wp2_with fail
    refine (HIS.out _).mono ?_
    rintro e w2 ⟨rfl, hc⟩
    have HX := Lib.hid (hc)
    clear hc y0 y1 y2 y3 y4 y5 y6 y7 y8 y9 y10 u0 u1 u2 u3 u4
    obtain ⟨y0, y1, y2, y3, y4, y5, y6, y7, y8, y9, y10⟩ := en_cells13 (HB0.out.chg HX.out id)
    obtain ⟨u0, u1, u2, u3, u4⟩ := ky_cells13 (HB1.out.chg HX.out id)
    go_wp2_with fail
    go_ret
    exact ⟨ret_b13 (by unfold fB13; rw [HI.out]; simp), HC0.out.trans HX.out (fun _ _ e => e)⟩
  | true =>
    cases bt with
    | false =>
      have HGO := Lib.hid hgo
      clear hgo
      have HIS := Lib.hid his
      clear his
      go_enter Try.func62, Try.ntmps62
      go_upto_region 1 with fail
      generalize (w.alloc (.cells #[.int .i64 pr, .int .i64 ins, .int .u64 ma, .int .i64 po, .int .i64 fr, .int .i64 up, .int .i64 no, .int .i64 ak, .int .i64 ap, .int .i64 ao, .int .i64 ag] 70)).alloc (.cells #[.int .i64 ki, .int .u64 km, .int .i64 kp, .int .i64 ks, .int .i64 ko] 77) = w1 at *
      generalize w.heap.size = q at *
      go_wp2_with fail
      refine (HIS.out _).mono ?_
      rintro e w2 ⟨rfl, hc⟩
      have HX := Lib.hid (hc)
      clear hc y0 y1 y2 y3 y4 y5 y6 y7 y8 y9 y10 u0 u1 u2 u3 u4
      obtain ⟨y0, y1, y2, y3, y4, y5, y6, y7, y8, y9, y10⟩ := en_cells13 (HB0.out.chg HX.out id)
      obtain ⟨u0, u1, u2, u3, u4⟩ := ky_cells13 (HB1.out.chg HX.out id)
      go_wp2_with fail
      refine (HGO.out _).mono ?_
      rintro e w3 ⟨rfl, hc⟩
      replace HX := Lib.hid (HX.out.trans hc (fun _ _ e => e))
      clear hc y0 y1 y2 y3 y4 y5 y6 y7 y8 y9 y10 u0 u1 u2 u3 u4
      obtain ⟨y0, y1, y2, y3, y4, y5, y6, y7, y8, y9, y10⟩ := en_cells13 (HB0.out.chg HX.out id)
      obtain ⟨u0, u1, u2, u3, u4⟩ := ky_cells13 (HB1.out.chg HX.out id)
      go_wp2_with fail
      go_ret
      exact ⟨ret_b13 (by unfold fB13; rw [HI.out, HT.out]; simp), HC0.out.trans HX.out (fun _ _ e => e)⟩
    | true =>
      have HGO := Lib.hid hgo
      clear hgo
      by_cases h1 : fr ≤ ks
      · by_cases h2 : ks ≤ up
        · have HF1 := Lib.hid (show decide (fr ≤ ks) = true from by simp [h1])
          have HF2 := Lib.hid (show decide (ks ≤ up) = true from by simp [h2])
          have HIS := Lib.hid his
          clear his
          go_enter Try.func62, Try.ntmps62
          go_upto_region 1 with fail
          generalize (w.alloc (.cells #[.int .i64 pr, .int .i64 ins, .int .u64 ma, .int .i64 po, .int .i64 fr, .int .i64 up, .int .i64 no, .int .i64 ak, .int .i64 ap, .int .i64 ao, .int .i64 ag] 70)).alloc (.cells #[.int .i64 ki, .int .u64 km, .int .i64 kp, .int .i64 ks, .int .i64 ko] 77) = w1 at *
          generalize w.heap.size = q at *
          go_wp2_with fail
          refine (HIS.out _).mono ?_
          rintro e w2 ⟨rfl, hc⟩
          have HX := Lib.hid (hc)
          clear hc y0 y1 y2 y3 y4 y5 y6 y7 y8 y9 y10 u0 u1 u2 u3 u4
          obtain ⟨y0, y1, y2, y3, y4, y5, y6, y7, y8, y9, y10⟩ := en_cells13 (HB0.out.chg HX.out id)
          obtain ⟨u0, u1, u2, u3, u4⟩ := ky_cells13 (HB1.out.chg HX.out id)
          go_wp2_with fail
          refine (HGO.out _).mono ?_
          rintro e w3 ⟨rfl, hc⟩
          replace HX := Lib.hid (HX.out.trans hc (fun _ _ e => e))
          clear hc y0 y1 y2 y3 y4 y5 y6 y7 y8 y9 y10 u0 u1 u2 u3 u4
          obtain ⟨y0, y1, y2, y3, y4, y5, y6, y7, y8, y9, y10⟩ := en_cells13 (HB0.out.chg HX.out id)
          obtain ⟨u0, u1, u2, u3, u4⟩ := ky_cells13 (HB1.out.chg HX.out id)
          go_wp2_with fail
          go_ret
          exact ⟨ret_b13 (by unfold fB13; rw [HI.out, HT.out, HF1.out, HF2.out]; simp), HC0.out.trans HX.out (fun _ _ e => e)⟩
        · have HF1 := Lib.hid (show decide (fr ≤ ks) = true from by simp [h1])
          have HF2 := Lib.hid (show decide (ks ≤ up) = false from by simp; omega)
          have HIS := Lib.hid his
          clear his
          go_enter Try.func62, Try.ntmps62
          go_upto_region 1 with fail
          generalize (w.alloc (.cells #[.int .i64 pr, .int .i64 ins, .int .u64 ma, .int .i64 po, .int .i64 fr, .int .i64 up, .int .i64 no, .int .i64 ak, .int .i64 ap, .int .i64 ao, .int .i64 ag] 70)).alloc (.cells #[.int .i64 ki, .int .u64 km, .int .i64 kp, .int .i64 ks, .int .i64 ko] 77) = w1 at *
          generalize w.heap.size = q at *
          go_wp2_with fail
          refine (HIS.out _).mono ?_
          rintro e w2 ⟨rfl, hc⟩
          have HX := Lib.hid (hc)
          clear hc y0 y1 y2 y3 y4 y5 y6 y7 y8 y9 y10 u0 u1 u2 u3 u4
          obtain ⟨y0, y1, y2, y3, y4, y5, y6, y7, y8, y9, y10⟩ := en_cells13 (HB0.out.chg HX.out id)
          obtain ⟨u0, u1, u2, u3, u4⟩ := ky_cells13 (HB1.out.chg HX.out id)
          go_wp2_with fail
          refine (HGO.out _).mono ?_
          rintro e w3 ⟨rfl, hc⟩
          replace HX := Lib.hid (HX.out.trans hc (fun _ _ e => e))
          clear hc y0 y1 y2 y3 y4 y5 y6 y7 y8 y9 y10 u0 u1 u2 u3 u4
          obtain ⟨y0, y1, y2, y3, y4, y5, y6, y7, y8, y9, y10⟩ := en_cells13 (HB0.out.chg HX.out id)
          obtain ⟨u0, u1, u2, u3, u4⟩ := ky_cells13 (HB1.out.chg HX.out id)
          go_wp2_with fail
          go_ret
          exact ⟨ret_b13 (by unfold fB13; rw [HI.out, HT.out, HF1.out, HF2.out]; simp), HC0.out.trans HX.out (fun _ _ e => e)⟩
      · have HF1 := Lib.hid (show decide (fr ≤ ks) = false from by simp; omega)
        have HIS := Lib.hid his
        clear his
        go_enter Try.func62, Try.ntmps62
        go_upto_region 1 with fail
        generalize (w.alloc (.cells #[.int .i64 pr, .int .i64 ins, .int .u64 ma, .int .i64 po, .int .i64 fr, .int .i64 up, .int .i64 no, .int .i64 ak, .int .i64 ap, .int .i64 ao, .int .i64 ag] 70)).alloc (.cells #[.int .i64 ki, .int .u64 km, .int .i64 kp, .int .i64 ks, .int .i64 ko] 77) = w1 at *
        generalize w.heap.size = q at *
        go_wp2_with fail
        refine (HIS.out _).mono ?_
        rintro e w2 ⟨rfl, hc⟩
        have HX := Lib.hid (hc)
        clear hc y0 y1 y2 y3 y4 y5 y6 y7 y8 y9 y10 u0 u1 u2 u3 u4
        obtain ⟨y0, y1, y2, y3, y4, y5, y6, y7, y8, y9, y10⟩ := en_cells13 (HB0.out.chg HX.out id)
        obtain ⟨u0, u1, u2, u3, u4⟩ := ky_cells13 (HB1.out.chg HX.out id)
        go_wp2_with fail
        refine (HGO.out _).mono ?_
        rintro e w3 ⟨rfl, hc⟩
        replace HX := Lib.hid (HX.out.trans hc (fun _ _ e => e))
        clear hc y0 y1 y2 y3 y4 y5 y6 y7 y8 y9 y10 u0 u1 u2 u3 u4
        obtain ⟨y0, y1, y2, y3, y4, y5, y6, y7, y8, y9, y10⟩ := en_cells13 (HB0.out.chg HX.out id)
        obtain ⟨u0, u1, u2, u3, u4⟩ := ky_cells13 (HB1.out.chg HX.out id)
        go_wp2_with fail
        go_ret
        exact ⟨ret_b13 (by unfold fB13; rw [HI.out, HT.out, HF1.out]; simp), HC0.out.trans HX.out (fun _ _ e => e)⟩

end Go.Proofs.Ytacbgelbffmngaa
