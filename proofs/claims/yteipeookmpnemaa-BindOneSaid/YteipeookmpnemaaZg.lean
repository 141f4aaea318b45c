/-
  Walks: rutterlaw14.Key, the document's Asked. No condition.
-/
import Derived.Test.YteipeookmpnemaaZb
namespace Go.Proofs.Yteipeookmpnemaa
open Go.RowKit
set_option linter.unusedVariables false
set_option linter.unusedSimpArgs false

set_option maxRecDepth 100000 in
set_option maxHeartbeats 800000 in
theorem lkey14_any (ki km kp ks ko : Int) (w : World) : Calls Try.prog 10 #[.agg (kyC ki km kp ks ko)] w fun e w' => e = .returned (.agg (kyC ki km kp ks ko)) ∧ Chg (fun _ => False) w w' := by
  unfold kyC
  go_enter Try.func10, Try.ntmps10
  go_wp2_with fail
  have hb : Blk ((w.alloc (.cells #[.int .i64 ki, .int .u64 km, .int .i64 kp, .int .i64 ks, .int .i64 ko] 27)).alloc (.cells #[.int .i64 ki, .int .u64 km, .int .i64 kp, .int .i64 ks, .int .i64 ko] 35)) (w.heap.size + 1) 35 (kyC ki km kp ks ko) := blk_new (by simp)
  obtain ⟨r0, r1, r2, r3, r4⟩ := ky_cells13 hb
  exact bodyPost_ret (v := .agg #[.int .i64 ki, .int .u64 km, .int .i64 kp, .int .i64 ks, .int .i64 ko]) (by simp [results, Try.results10, go_sem, r0, r1, r2, r3, r4]) rfl ⟨rfl, ((Chg.refl (fun _ => False) w).alloc _).alloc _⟩
set_option maxRecDepth 100000 in
set_option maxHeartbeats 4000000 in
theorem rasked14_any (ki km kp ks ko : Int) (w : World) : Calls Try.prog 12 #[.agg (kyC ki km kp ks ko)] w fun e w' => e = .returned (.bool (as14 ki ks ko)) ∧ Chg (fun _ => False) w w' := by
  have HB0 : Hid (Blk (w.alloc (.cells #[.int .i64 ki, .int .u64 km, .int .i64 kp, .int .i64 ks, .int .i64 ko] 35)) w.heap.size 35 (kyC ki km kp ks ko)) := Lib.hid (blk_new rfl)
  have HX := Lib.hid ((Chg.refl (fun _ => False) w).alloc (.cells #[.int .i64 ki, .int .u64 km, .int .i64 kp, .int .i64 ks, .int .i64 ko] 35))
  obtain ⟨u0, u1, u2, u3, u4⟩ := ky_cells13 HB0.out
  unfold kyC
  by_cases h0 : ki = 0
  · skip
    have t0 : (ki == 0) = true := by simp [h0]
    have t1 : (ki == 1) = false := by simp [h0]
    have t2 : (ki == 2) = false := by simp [h0]
    by_cases hs0 : ks = 0
    · skip
      have ts : (ks == 0) = true := by simp [hs0]
      by_cases ho : ko = -1
      · skip
        have tko : (ko == -1) = true := by simp [ho]
        have HV := Lib.hid (show as14 ki ks ko = true from by simp [as14, h0, hs0, ho])
        clear h0 hs0 ho
        go_enter Try.func12, Try.ntmps12
        go_upto_region 1 with fail
        generalize w.alloc (.cells #[.int .i64 ki, .int .u64 km, .int .i64 kp, .int .i64 ks, .int .i64 ko] 35) = w1 at *
        generalize w.heap.size = Q0 at *
        go_wp2_with fail
        go_ret
        exact ⟨ret_b13 HV.out.symm, HX.out⟩
      · skip
        have tko : (ko == -1) = false := by simp [ho]
        have HV := Lib.hid (show as14 ki ks ko = false from by simp [as14, h0, hs0, ho])
        clear h0 hs0 ho
        go_enter Try.func12, Try.ntmps12
        go_upto_region 1 with fail
        generalize w.alloc (.cells #[.int .i64 ki, .int .u64 km, .int .i64 kp, .int .i64 ks, .int .i64 ko] 35) = w1 at *
        generalize w.heap.size = Q0 at *
        go_wp2_with fail
        go_ret
        exact ⟨ret_b13 HV.out.symm, HX.out⟩
    · skip
      have ts : (ks == 0) = false := by simp [hs0]
      have HV := Lib.hid (show as14 ki ks ko = false from by simp [as14, h0, hs0])
      clear h0 hs0
      go_enter Try.func12, Try.ntmps12
      go_upto_region 1 with fail
      generalize w.alloc (.cells #[.int .i64 ki, .int .u64 km, .int .i64 kp, .int .i64 ks, .int .i64 ko] 35) = w1 at *
      generalize w.heap.size = Q0 at *
      go_wp2_with fail
      go_ret
      exact ⟨ret_b13 HV.out.symm, HX.out⟩
  · skip
    by_cases h1 : ki = 1
    · skip
      have t0 : (ki == 0) = false := by simp [h1]
      have t1 : (ki == 1) = true := by simp [h1]
      clear h0
      by_cases ha : 0 ≤ ko
      · skip
        by_cases hb : ko ≤ 15
        · skip
          by_cases hs : 0 ≤ ks
          · skip
            have HV := Lib.hid (show as14 ki ks ko = true from by simp [as14, h1, ha, hb, hs])
            clear h1
            go_enter Try.func12, Try.ntmps12
            go_upto_region 1 with fail
            generalize w.alloc (.cells #[.int .i64 ki, .int .u64 km, .int .i64 kp, .int .i64 ks, .int .i64 ko] 35) = w1 at *
            generalize w.heap.size = Q0 at *
            go_wp2_with fail
            go_ret
            exact ⟨ret_b13 HV.out.symm, HX.out⟩
          · skip
            have HV := Lib.hid (show as14 ki ks ko = false from by simp [as14, h1, ha, hb, hs])
            clear h1
            go_enter Try.func12, Try.ntmps12
            go_upto_region 1 with fail
            generalize w.alloc (.cells #[.int .i64 ki, .int .u64 km, .int .i64 kp, .int .i64 ks, .int .i64 ko] 35) = w1 at *
            generalize w.heap.size = Q0 at *
            go_wp2_with fail
            go_ret
            exact ⟨ret_b13 HV.out.symm, HX.out⟩
        · skip
          have HV := Lib.hid (show as14 ki ks ko = false from by simp [as14, h1, ha, hb])
          clear h1
          go_enter Try.func12, Try.ntmps12
          go_upto_region 1 with fail
          generalize w.alloc (.cells #[.int .i64 ki, .int .u64 km, .int .i64 kp, .int .i64 ks, .int .i64 ko] 35) = w1 at *
          generalize w.heap.size = Q0 at *
          go_wp2_with fail
          go_ret
          exact ⟨ret_b13 HV.out.symm, HX.out⟩
      · skip
        have HV := Lib.hid (show as14 ki ks ko = false from by simp [as14, h1, ha])
        clear h1
        go_enter Try.func12, Try.ntmps12
        go_upto_region 1 with fail
        generalize w.alloc (.cells #[.int .i64 ki, .int .u64 km, .int .i64 kp, .int .i64 ks, .int .i64 ko] 35) = w1 at *
        generalize w.heap.size = Q0 at *
        go_wp2_with fail
        go_ret
        exact ⟨ret_b13 HV.out.symm, HX.out⟩
    · skip
      by_cases h2 : ki = 2
      · skip
        have t0 : (ki == 0) = false := by simp [h2]
        have t1 : (ki == 1) = false := by simp [h2]
        have t2 : (ki == 2) = true := by simp [h2]
        clear h0 h1
        by_cases ha : 0 ≤ ko
        · skip
          by_cases hb : ko ≤ 15
          · skip
            by_cases hs : 0 ≤ ks
            · skip
              have HV := Lib.hid (show as14 ki ks ko = true from by simp [as14, h2, ha, hb, hs])
              clear h2
              go_enter Try.func12, Try.ntmps12
              go_upto_region 1 with fail
              generalize w.alloc (.cells #[.int .i64 ki, .int .u64 km, .int .i64 kp, .int .i64 ks, .int .i64 ko] 35) = w1 at *
              generalize w.heap.size = Q0 at *
              go_wp2_with fail
              go_ret
              exact ⟨ret_b13 HV.out.symm, HX.out⟩
            · skip
              have HV := Lib.hid (show as14 ki ks ko = false from by simp [as14, h2, ha, hb, hs])
              clear h2
              go_enter Try.func12, Try.ntmps12
              go_upto_region 1 with fail
              generalize w.alloc (.cells #[.int .i64 ki, .int .u64 km, .int .i64 kp, .int .i64 ks, .int .i64 ko] 35) = w1 at *
              generalize w.heap.size = Q0 at *
              go_wp2_with fail
              go_ret
              exact ⟨ret_b13 HV.out.symm, HX.out⟩
          · skip
            have HV := Lib.hid (show as14 ki ks ko = false from by simp [as14, h2, ha, hb])
            clear h2
            go_enter Try.func12, Try.ntmps12
            go_upto_region 1 with fail
            generalize w.alloc (.cells #[.int .i64 ki, .int .u64 km, .int .i64 kp, .int .i64 ks, .int .i64 ko] 35) = w1 at *
            generalize w.heap.size = Q0 at *
            go_wp2_with fail
            go_ret
            exact ⟨ret_b13 HV.out.symm, HX.out⟩
        · skip
          have HV := Lib.hid (show as14 ki ks ko = false from by simp [as14, h2, ha])
          clear h2
          go_enter Try.func12, Try.ntmps12
          go_upto_region 1 with fail
          generalize w.alloc (.cells #[.int .i64 ki, .int .u64 km, .int .i64 kp, .int .i64 ks, .int .i64 ko] 35) = w1 at *
          generalize w.heap.size = Q0 at *
          go_wp2_with fail
          go_ret
          exact ⟨ret_b13 HV.out.symm, HX.out⟩
      · skip
        have t0 : (ki == 0) = false := by simp [h0]
        have t1 : (ki == 1) = false := by simp [h1]
        have t2 : (ki == 2) = false := by simp [h2]
        have HV := Lib.hid (show as14 ki ks ko = false from by simp [as14, h0, h1, h2])
        clear h0 h1 h2
        go_enter Try.func12, Try.ntmps12
        go_upto_region 1 with fail
        generalize w.alloc (.cells #[.int .i64 ki, .int .u64 km, .int .i64 kp, .int .i64 ks, .int .i64 ko] 35) = w1 at *
        generalize w.heap.size = Q0 at *
        go_wp2_with fail
        go_ret
        exact ⟨ret_b13 HV.out.symm, HX.out⟩

end Go.Proofs.Yteipeookmpnemaa
