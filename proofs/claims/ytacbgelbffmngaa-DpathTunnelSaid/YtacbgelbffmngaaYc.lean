/-
  Walk: the document's Fits. No condition.
-/
import Derived.Test.YtacbgelbffmngaaYb
namespace Go.Proofs.Ytacbgelbffmngaa
open Go.RowKit
set_option linter.unusedVariables false
set_option linter.unusedSimpArgs false

set_option maxRecDepth 100000 in
set_option maxHeartbeats 8000000 in
theorem rfits13_any (pr ins ma po fr up no ak ap ao ag ki km kp ks ko : Int) (w : World) : Calls Try.prog 46 #[.agg (enC pr ins ma po fr up no ak ap ao ag), .agg (kyC ki km kp ks ko)] w fun e w' => e = .returned (.bool (fB13 ins ma po fr up no ki km kp ks ko)) ∧ Chg (fun _ => False) w w' := by
  have HB0 : Hid (Blk ((w.alloc (.cells #[.int .i64 pr, .int .i64 ins, .int .u64 ma, .int .i64 po, .int .i64 fr, .int .i64 up, .int .i64 no, .int .i64 ak, .int .i64 ap, .int .i64 ao, .int .i64 ag] 89)).alloc (.cells #[.int .i64 ki, .int .u64 km, .int .i64 kp, .int .i64 ks, .int .i64 ko] 85)) w.heap.size 89 (enC pr ins ma po fr up no ak ap ao ag)) := Lib.hid (Blk.alloc (blk_new rfl) _)
  have HB1 : Hid (Blk ((w.alloc (.cells #[.int .i64 pr, .int .i64 ins, .int .u64 ma, .int .i64 po, .int .i64 fr, .int .i64 up, .int .i64 no, .int .i64 ak, .int .i64 ap, .int .i64 ao, .int .i64 ag] 89)).alloc (.cells #[.int .i64 ki, .int .u64 km, .int .i64 kp, .int .i64 ks, .int .i64 ko] 85)) (w.heap.size + 1) 85 (kyC ki km kp ks ko)) := Lib.hid (blk_new (by simp))
  have HC0 := Lib.hid (((Chg.refl (fun _ => False) w).alloc (.cells #[.int .i64 pr, .int .i64 ins, .int .u64 ma, .int .i64 po, .int .i64 fr, .int .i64 up, .int .i64 no, .int .i64 ak, .int .i64 ap, .int .i64 ao, .int .i64 ag] 89)).alloc (.cells #[.int .i64 ki, .int .u64 km, .int .i64 kp, .int .i64 ks, .int .i64 ko] 85))
  obtain ⟨y0, y1, y2, y3, y4, y5, y6, y7, y8, y9, y10⟩ := en_cells13 HB0.out
  obtain ⟨u0, u1, u2, u3, u4⟩ := ky_cells13 HB1.out
  unfold enC kyC
  generalize hi : inB13 ins ki = bi
  generalize ht : toB13 ma po ki km kp = bt
  by_cases h0 : ki = 0
  · subst h0
    rw [inB13_0] at hi
    have hb := and13_0 ins
    have ht2 : toB13 ma po 0 km kp = (ma == km) := by simp [toB13]
    rw [ht2] at ht
    rw [hi] at hb
    have HI0 := Lib.hid (show inB13 ins 0 = bi from by rw [inB13_0]; exact hi)
    have HT0 := Lib.hid (show toB13 ma po 0 km kp = bt from by rw [ht2]; exact ht)
    clear hi ht2
    have HI := HI0
    have HT := HT0
    clear HI0 HT0
    cases bi with
    | false =>
      cases bt with
      | false =>
        go_enter Try.func46, Try.ntmps46
        go_upto_region 1 with fail
        generalize (w.alloc (.cells #[.int .i64 pr, .int .i64 ins, .int .u64 ma, .int .i64 po, .int .i64 fr, .int .i64 up, .int .i64 no, .int .i64 ak, .int .i64 ap, .int .i64 ao, .int .i64 ag] 89)).alloc (.cells #[.int .i64 0, .int .u64 km, .int .i64 kp, .int .i64 ks, .int .i64 ko] 85) = w1 at *
        generalize w.heap.size = q at *
        go_wp2_with fail
        go_ret
        exact ⟨ret_b13 (by unfold fB13; rw [HI.out, HT.out]; first | (simp; done) | (simp; rw [bne_comm])), HC0.out⟩
      | true =>
        go_enter Try.func46, Try.ntmps46
        go_upto_region 1 with fail
        generalize (w.alloc (.cells #[.int .i64 pr, .int .i64 ins, .int .u64 ma, .int .i64 po, .int .i64 fr, .int .i64 up, .int .i64 no, .int .i64 ak, .int .i64 ap, .int .i64 ao, .int .i64 ag] 89)).alloc (.cells #[.int .i64 0, .int .u64 km, .int .i64 kp, .int .i64 ks, .int .i64 ko] 85) = w1 at *
        generalize w.heap.size = q at *
        go_wp2_with fail
        go_ret
        exact ⟨ret_b13 (by unfold fB13; rw [HI.out, HT.out]; first | (simp; done) | (simp; rw [bne_comm])), HC0.out⟩
    | true =>
      cases bt with
      | false =>
        go_enter Try.func46, Try.ntmps46
        go_upto_region 1 with fail
        generalize (w.alloc (.cells #[.int .i64 pr, .int .i64 ins, .int .u64 ma, .int .i64 po, .int .i64 fr, .int .i64 up, .int .i64 no, .int .i64 ak, .int .i64 ap, .int .i64 ao, .int .i64 ag] 89)).alloc (.cells #[.int .i64 0, .int .u64 km, .int .i64 kp, .int .i64 ks, .int .i64 ko] 85) = w1 at *
        generalize w.heap.size = q at *
        go_wp2_with fail
        go_ret
        exact ⟨ret_b13 (by unfold fB13; rw [HI.out, HT.out]; first | (simp; done) | (simp; rw [bne_comm])), HC0.out⟩
      | true =>
        by_cases h1 : fr ≤ ks
        · by_cases h2 : ks ≤ up
          · have HF1 := Lib.hid (show decide (fr ≤ ks) = true from by simp [h1])
            have HF2 := Lib.hid (show decide (ks ≤ up) = true from by simp [h2])
            go_enter Try.func46, Try.ntmps46
            go_upto_region 1 with fail
            generalize (w.alloc (.cells #[.int .i64 pr, .int .i64 ins, .int .u64 ma, .int .i64 po, .int .i64 fr, .int .i64 up, .int .i64 no, .int .i64 ak, .int .i64 ap, .int .i64 ao, .int .i64 ag] 89)).alloc (.cells #[.int .i64 0, .int .u64 km, .int .i64 kp, .int .i64 ks, .int .i64 ko] 85) = w1 at *
            generalize w.heap.size = q at *
            go_wp2_with fail
            go_ret
            exact ⟨ret_b13 (by unfold fB13; rw [HI.out, HT.out, HF1.out, HF2.out]; first | (simp; done) | (simp; rw [bne_comm])), HC0.out⟩
          · have HF1 := Lib.hid (show decide (fr ≤ ks) = true from by simp [h1])
            have HF2 := Lib.hid (show decide (ks ≤ up) = false from by simp; omega)
            go_enter Try.func46, Try.ntmps46
            go_upto_region 1 with fail
            generalize (w.alloc (.cells #[.int .i64 pr, .int .i64 ins, .int .u64 ma, .int .i64 po, .int .i64 fr, .int .i64 up, .int .i64 no, .int .i64 ak, .int .i64 ap, .int .i64 ao, .int .i64 ag] 89)).alloc (.cells #[.int .i64 0, .int .u64 km, .int .i64 kp, .int .i64 ks, .int .i64 ko] 85) = w1 at *
            generalize w.heap.size = q at *
            go_wp2_with fail
            go_ret
            exact ⟨ret_b13 (by unfold fB13; rw [HI.out, HT.out, HF1.out, HF2.out]; first | (simp; done) | (simp; rw [bne_comm])), HC0.out⟩
        · have HF1 := Lib.hid (show decide (fr ≤ ks) = false from by simp; omega)
          go_enter Try.func46, Try.ntmps46
          go_upto_region 1 with fail
          generalize (w.alloc (.cells #[.int .i64 pr, .int .i64 ins, .int .u64 ma, .int .i64 po, .int .i64 fr, .int .i64 up, .int .i64 no, .int .i64 ak, .int .i64 ap, .int .i64 ao, .int .i64 ag] 89)).alloc (.cells #[.int .i64 0, .int .u64 km, .int .i64 kp, .int .i64 ks, .int .i64 ko] 85) = w1 at *
          generalize w.heap.size = q at *
          go_wp2_with fail
          go_ret
          exact ⟨ret_b13 (by unfold fB13; rw [HI.out, HT.out, HF1.out]; first | (simp; done) | (simp; rw [bne_comm])), HC0.out⟩
  by_cases h1 : ki = 1
  · subst h1
    rw [inB13_1] at hi
    have hb := and13_2 ins
    have ht2 : toB13 ma po 1 km kp = (po == kp) := by simp [toB13]
    rw [ht2] at ht
    rw [hi] at hb
    have HI0 := Lib.hid (show inB13 ins 1 = bi from by rw [inB13_1]; exact hi)
    have HT0 := Lib.hid (show toB13 ma po 1 km kp = bt from by rw [ht2]; exact ht)
    clear hi ht2
    have HI := HI0
    have HT := HT0
    clear HI0 HT0
    cases bi with
    | false =>
      cases bt with
      | false =>
        go_enter Try.func46, Try.ntmps46
        go_upto_region 1 with fail
        generalize (w.alloc (.cells #[.int .i64 pr, .int .i64 ins, .int .u64 ma, .int .i64 po, .int .i64 fr, .int .i64 up, .int .i64 no, .int .i64 ak, .int .i64 ap, .int .i64 ao, .int .i64 ag] 89)).alloc (.cells #[.int .i64 1, .int .u64 km, .int .i64 kp, .int .i64 ks, .int .i64 ko] 85) = w1 at *
        generalize w.heap.size = q at *
        go_wp2_with fail
        go_ret
        exact ⟨ret_b13 (by unfold fB13; rw [HI.out, HT.out]; first | (simp; done) | (simp; rw [bne_comm])), HC0.out⟩
      | true =>
        go_enter Try.func46, Try.ntmps46
        go_upto_region 1 with fail
        generalize (w.alloc (.cells #[.int .i64 pr, .int .i64 ins, .int .u64 ma, .int .i64 po, .int .i64 fr, .int .i64 up, .int .i64 no, .int .i64 ak, .int .i64 ap, .int .i64 ao, .int .i64 ag] 89)).alloc (.cells #[.int .i64 1, .int .u64 km, .int .i64 kp, .int .i64 ks, .int .i64 ko] 85) = w1 at *
        generalize w.heap.size = q at *
        go_wp2_with fail
        go_ret
        exact ⟨ret_b13 (by unfold fB13; rw [HI.out, HT.out]; first | (simp; done) | (simp; rw [bne_comm])), HC0.out⟩
    | true =>
      cases bt with
      | false =>
        go_enter Try.func46, Try.ntmps46
        go_upto_region 1 with fail
        generalize (w.alloc (.cells #[.int .i64 pr, .int .i64 ins, .int .u64 ma, .int .i64 po, .int .i64 fr, .int .i64 up, .int .i64 no, .int .i64 ak, .int .i64 ap, .int .i64 ao, .int .i64 ag] 89)).alloc (.cells #[.int .i64 1, .int .u64 km, .int .i64 kp, .int .i64 ks, .int .i64 ko] 85) = w1 at *
        generalize w.heap.size = q at *
        go_wp2_with fail
        go_ret
        exact ⟨ret_b13 (by unfold fB13; rw [HI.out, HT.out]; first | (simp; done) | (simp; rw [bne_comm])), HC0.out⟩
      | true =>
        by_cases h1 : fr ≤ ks
        · by_cases h2 : ks ≤ up
          · have HF1 := Lib.hid (show decide (fr ≤ ks) = true from by simp [h1])
            have HF2 := Lib.hid (show decide (ks ≤ up) = true from by simp [h2])
            go_enter Try.func46, Try.ntmps46
            go_upto_region 1 with fail
            generalize (w.alloc (.cells #[.int .i64 pr, .int .i64 ins, .int .u64 ma, .int .i64 po, .int .i64 fr, .int .i64 up, .int .i64 no, .int .i64 ak, .int .i64 ap, .int .i64 ao, .int .i64 ag] 89)).alloc (.cells #[.int .i64 1, .int .u64 km, .int .i64 kp, .int .i64 ks, .int .i64 ko] 85) = w1 at *
            generalize w.heap.size = q at *
            go_wp2_with fail
            go_ret
            exact ⟨ret_b13 (by unfold fB13; rw [HI.out, HT.out, HF1.out, HF2.out]; first | (simp; done) | (simp; rw [bne_comm])), HC0.out⟩
          · have HF1 := Lib.hid (show decide (fr ≤ ks) = true from by simp [h1])
            have HF2 := Lib.hid (show decide (ks ≤ up) = false from by simp; omega)
            go_enter Try.func46, Try.ntmps46
            go_upto_region 1 with fail
            generalize (w.alloc (.cells #[.int .i64 pr, .int .i64 ins, .int .u64 ma, .int .i64 po, .int .i64 fr, .int .i64 up, .int .i64 no, .int .i64 ak, .int .i64 ap, .int .i64 ao, .int .i64 ag] 89)).alloc (.cells #[.int .i64 1, .int .u64 km, .int .i64 kp, .int .i64 ks, .int .i64 ko] 85) = w1 at *
            generalize w.heap.size = q at *
            go_wp2_with fail
            go_ret
            exact ⟨ret_b13 (by unfold fB13; rw [HI.out, HT.out, HF1.out, HF2.out]; first | (simp; done) | (simp; rw [bne_comm])), HC0.out⟩
        · have HF1 := Lib.hid (show decide (fr ≤ ks) = false from by simp; omega)
          go_enter Try.func46, Try.ntmps46
          go_upto_region 1 with fail
          generalize (w.alloc (.cells #[.int .i64 pr, .int .i64 ins, .int .u64 ma, .int .i64 po, .int .i64 fr, .int .i64 up, .int .i64 no, .int .i64 ak, .int .i64 ap, .int .i64 ao, .int .i64 ag] 89)).alloc (.cells #[.int .i64 1, .int .u64 km, .int .i64 kp, .int .i64 ks, .int .i64 ko] 85) = w1 at *
          generalize w.heap.size = q at *
          go_wp2_with fail
          go_ret
          exact ⟨ret_b13 (by unfold fB13; rw [HI.out, HT.out, HF1.out]; first | (simp; done) | (simp; rw [bne_comm])), HC0.out⟩
  by_cases h2 : ki = 2
  · subst h2
    rw [inB13_2] at hi
    have hb := and13_4 ins
    have ht2 : toB13 ma po 2 km kp = (po == kp) := by simp [toB13]
    rw [ht2] at ht
    rw [hi] at hb
    have HI0 := Lib.hid (show inB13 ins 2 = bi from by rw [inB13_2]; exact hi)
    have HT0 := Lib.hid (show toB13 ma po 2 km kp = bt from by rw [ht2]; exact ht)
    clear hi ht2
    have HI := HI0
    have HT := HT0
    clear HI0 HT0
    cases bi with
    | false =>
      cases bt with
      | false =>
        go_enter Try.func46, Try.ntmps46
        go_upto_region 1 with fail
        generalize (w.alloc (.cells #[.int .i64 pr, .int .i64 ins, .int .u64 ma, .int .i64 po, .int .i64 fr, .int .i64 up, .int .i64 no, .int .i64 ak, .int .i64 ap, .int .i64 ao, .int .i64 ag] 89)).alloc (.cells #[.int .i64 2, .int .u64 km, .int .i64 kp, .int .i64 ks, .int .i64 ko] 85) = w1 at *
        generalize w.heap.size = q at *
        go_wp2_with fail
        go_ret
        exact ⟨ret_b13 (by unfold fB13; rw [HI.out, HT.out]; first | (simp; done) | (simp; rw [bne_comm])), HC0.out⟩
      | true =>
        go_enter Try.func46, Try.ntmps46
        go_upto_region 1 with fail
        generalize (w.alloc (.cells #[.int .i64 pr, .int .i64 ins, .int .u64 ma, .int .i64 po, .int .i64 fr, .int .i64 up, .int .i64 no, .int .i64 ak, .int .i64 ap, .int .i64 ao, .int .i64 ag] 89)).alloc (.cells #[.int .i64 2, .int .u64 km, .int .i64 kp, .int .i64 ks, .int .i64 ko] 85) = w1 at *
        generalize w.heap.size = q at *
        go_wp2_with fail
        go_ret
        exact ⟨ret_b13 (by unfold fB13; rw [HI.out, HT.out]; first | (simp; done) | (simp; rw [bne_comm])), HC0.out⟩
    | true =>
      cases bt with
      | false =>
        go_enter Try.func46, Try.ntmps46
        go_upto_region 1 with fail
        generalize (w.alloc (.cells #[.int .i64 pr, .int .i64 ins, .int .u64 ma, .int .i64 po, .int .i64 fr, .int .i64 up, .int .i64 no, .int .i64 ak, .int .i64 ap, .int .i64 ao, .int .i64 ag] 89)).alloc (.cells #[.int .i64 2, .int .u64 km, .int .i64 kp, .int .i64 ks, .int .i64 ko] 85) = w1 at *
        generalize w.heap.size = q at *
        go_wp2_with fail
        go_ret
        exact ⟨ret_b13 (by unfold fB13; rw [HI.out, HT.out]; first | (simp; done) | (simp; rw [bne_comm])), HC0.out⟩
      | true =>
        by_cases h1 : fr ≤ ks
        · by_cases h2 : ks ≤ up
          · have HF1 := Lib.hid (show decide (fr ≤ ks) = true from by simp [h1])
            have HF2 := Lib.hid (show decide (ks ≤ up) = true from by simp [h2])
            go_enter Try.func46, Try.ntmps46
            go_upto_region 1 with fail
            generalize (w.alloc (.cells #[.int .i64 pr, .int .i64 ins, .int .u64 ma, .int .i64 po, .int .i64 fr, .int .i64 up, .int .i64 no, .int .i64 ak, .int .i64 ap, .int .i64 ao, .int .i64 ag] 89)).alloc (.cells #[.int .i64 2, .int .u64 km, .int .i64 kp, .int .i64 ks, .int .i64 ko] 85) = w1 at *
            generalize w.heap.size = q at *
            go_wp2_with fail
            go_ret
            exact ⟨ret_b13 (by unfold fB13; rw [HI.out, HT.out, HF1.out, HF2.out]; first | (simp; done) | (simp; rw [bne_comm])), HC0.out⟩
          · have HF1 := Lib.hid (show decide (fr ≤ ks) = true from by simp [h1])
            have HF2 := Lib.hid (show decide (ks ≤ up) = false from by simp; omega)
            go_enter Try.func46, Try.ntmps46
            go_upto_region 1 with fail
            generalize (w.alloc (.cells #[.int .i64 pr, .int .i64 ins, .int .u64 ma, .int .i64 po, .int .i64 fr, .int .i64 up, .int .i64 no, .int .i64 ak, .int .i64 ap, .int .i64 ao, .int .i64 ag] 89)).alloc (.cells #[.int .i64 2, .int .u64 km, .int .i64 kp, .int .i64 ks, .int .i64 ko] 85) = w1 at *
            generalize w.heap.size = q at *
            go_wp2_with fail
            go_ret
            exact ⟨ret_b13 (by unfold fB13; rw [HI.out, HT.out, HF1.out, HF2.out]; first | (simp; done) | (simp; rw [bne_comm])), HC0.out⟩
        · have HF1 := Lib.hid (show decide (fr ≤ ks) = false from by simp; omega)
          go_enter Try.func46, Try.ntmps46
          go_upto_region 1 with fail
          generalize (w.alloc (.cells #[.int .i64 pr, .int .i64 ins, .int .u64 ma, .int .i64 po, .int .i64 fr, .int .i64 up, .int .i64 no, .int .i64 ak, .int .i64 ap, .int .i64 ao, .int .i64 ag] 89)).alloc (.cells #[.int .i64 2, .int .u64 km, .int .i64 kp, .int .i64 ks, .int .i64 ko] 85) = w1 at *
          generalize w.heap.size = q at *
          go_wp2_with fail
          go_ret
          exact ⟨ret_b13 (by unfold fB13; rw [HI.out, HT.out, HF1.out]; first | (simp; done) | (simp; rw [bne_comm])), HC0.out⟩
  have t0 : (ki == 0) = false := by simp [h0]
  have t1 : (ki == 1) = false := by simp [h1]
  have t2 : (ki == 2) = false := by simp [h2]
  have t3 : (ki != 0) = true := by simp [h0]
  rw [inB13_no ins ki h0 h1 h2] at hi
  subst hi
  have HI := Lib.hid (inB13_no ins ki h0 h1 h2)
  have HT := Lib.hid ht
  have ht2 : toB13 ma po ki km kp = (po == kp) := by simp [toB13, h0]
  rw [ht2] at ht
  clear ht2 h0 h1 h2
  cases bt with
  | false =>
    go_enter Try.func46, Try.ntmps46
    go_upto_region 1 with fail
    generalize (w.alloc (.cells #[.int .i64 pr, .int .i64 ins, .int .u64 ma, .int .i64 po, .int .i64 fr, .int .i64 up, .int .i64 no, .int .i64 ak, .int .i64 ap, .int .i64 ao, .int .i64 ag] 89)).alloc (.cells #[.int .i64 ki, .int .u64 km, .int .i64 kp, .int .i64 ks, .int .i64 ko] 85) = w1 at *
    generalize w.heap.size = q at *
    go_wp2_with fail
    go_ret
    exact ⟨ret_b13 (by unfold fB13; rw [HI.out, HT.out]; first | (simp; done) | (simp; rw [bne_comm])), HC0.out⟩
  | true =>
    go_enter Try.func46, Try.ntmps46
    go_upto_region 1 with fail
    generalize (w.alloc (.cells #[.int .i64 pr, .int .i64 ins, .int .u64 ma, .int .i64 po, .int .i64 fr, .int .i64 up, .int .i64 no, .int .i64 ak, .int .i64 ap, .int .i64 ao, .int .i64 ag] 89)).alloc (.cells #[.int .i64 ki, .int .u64 km, .int .i64 kp, .int .i64 ks, .int .i64 ko] 85) = w1 at *
    generalize w.heap.size = q at *
    go_wp2_with fail
    go_ret
    exact ⟨ret_b13 (by unfold fB13; rw [HI.out, HT.out]; first | (simp; done) | (simp; rw [bne_comm])), HC0.out⟩

end Go.Proofs.Ytacbgelbffmngaa
