/-
  Walks: track.lives, timely, alike; the document's time, Alike, In. Flows compared. No condition.
-/
import Derived.Test.YtclikcbgeolngaaTb
import Derived.Test.YtclikcbgeolngaaUc
import Derived.Test.YtclikcbgeolngaaKb
import Derived.Deep.RegionHeld3
import Derived.RegionTactic
import Derived.BigQuiet
namespace Go.Proofs.Ytclikcbgeolngaa
open Go.RowKit
set_option linter.unusedVariables false
set_option linter.unusedSimpArgs false

theorem stFl : Try.prog.underlying 35 = some (.struct (Try.prog.fieldsOf 35)) := by kernel_rfl
theorem hpFl : Try.prog.stoodInHeld 35 = false := by kernel_rfl
theorem eqFl12 (W : World) (p s d sp dp p2 s2 d2 sp2 dp2 : Int) : (binOp .eql 35 (.agg #[.int .i64 p, .int .u32 s, .int .u32 d, .int .i64 sp, .int .i64 dp]) (.agg #[.int .i64 p2, .int .u32 s2, .int .u32 d2, .int .i64 sp2, .int .i64 dp2])).run Try.prog W = .ok (.bool (flE p s d sp dp p2 s2 d2 sp2 dp2)) W := by
  rw [run_eql_struct, show (10000 : Nat) = 9999 + 1 from rfl, run_equalIn_agg W 9999 35 _ _ stFl hpFl]
  unfold flE
  go_simp
  by_cases h0 : p = p2
  case neg => simp [h0]
  subst h0
  by_cases h1 : s = s2
  case neg => simp [h1]
  subst h1
  by_cases h2 : d = d2
  case neg => simp [h2]
  subst h2
  by_cases h3 : sp = sp2
  case neg => simp [h3]
  subst h3
  by_cases h4 : dp = dp2
  case neg => simp [h4]
  subst h4
  simp
theorem eqRc12 (W : World) (p s d sp dp un p2 s2 d2 sp2 dp2 un2 : Int) : (binOp .eql 48 (.agg #[.int .i64 p, .int .u32 s, .int .u32 d, .int .i64 sp, .int .i64 dp, .int .i64 un]) (.agg #[.int .i64 p2, .int .u32 s2, .int .u32 d2, .int .i64 sp2, .int .i64 dp2, .int .i64 un2])).run Try.prog W = .ok (.bool (rcE p s d sp dp un p2 s2 d2 sp2 dp2 un2)) W := by
  rw [run_eql_struct, show (10000 : Nat) = 9999 + 1 from rfl, run_equalIn_agg W 9999 48 _ _ stRec hpRec]
  unfold rcE
  go_simp
  by_cases h0 : p = p2
  case neg => simp [h0]
  subst h0
  by_cases h1 : s = s2
  case neg => simp [h1]
  subst h1
  by_cases h2 : d = d2
  case neg => simp [h2]
  subst h2
  by_cases h3 : sp = sp2
  case neg => simp [h3]
  subst h3
  by_cases h4 : dp = dp2
  case neg => simp [h4]
  subst h4
  by_cases h5 : un = un2
  case neg => simp [h5]
  subst h5
  simp
set_option maxRecDepth 100000 in
set_option maxHeartbeats 400000 in
theorem tlives_any (p s d sp dp un t : Int) (w : World) : Calls Try.prog 25 #[.agg (rcC p s d sp dp un), .int .i64 t] w fun e w' => e = .returned (.bool (decide (t < un))) ∧ Chg (fun _ => False) w w' := by
  unfold rcC
  have HX := Lib.hid ((Chg.refl (fun _ => False) w).alloc (.cells #[.int .i64 p, .int .u32 s, .int .u32 d, .int .i64 sp, .int .i64 dp, .int .i64 un] 48))
  go_enter Try.func25, Try.ntmps25
  go_wp2_with fail
  go_ret
  exact ⟨rfl, HX.out⟩
set_option maxRecDepth 100000 in
set_option maxHeartbeats 400000 in
theorem ttimely_any (t : Int) (w : World) : Calls Try.prog 19 #[.int .i64 t] w fun e w' => e = .returned (.bool (tmB t)) ∧ w = w' := by
  by_cases h : 0 ≤ t
  · have HR := Lib.hid (show tmB t = decide (t ≤ 1099511627776) by simp [tmB, h])
    go_enter Try.func19, Try.ntmps19
    go_wp2_with fail
    go_ret
    exact ⟨ret_b HR.out.symm, rfl⟩
  · have HR := Lib.hid (show tmB t = false by simp [tmB, h])
    go_enter Try.func19, Try.ntmps19
    go_wp2_with fail
    go_ret
    exact ⟨ret_b HR.out.symm, rfl⟩
set_option maxRecDepth 100000 in
set_option maxHeartbeats 400000 in
theorem rin12_any (x lo hi : Int) (w : World) : Calls Try.prog 33 #[.int .i64 x, .int .i64 lo, .int .i64 hi] w fun e w' => e = .returned (.bool (decide (lo ≤ x) && decide (x ≤ hi))) ∧ w = w' := by
  by_cases h : lo ≤ x
  · have HR := Lib.hid (show (decide (lo ≤ x) && decide (x ≤ hi)) = decide (x ≤ hi) by simp [h])
    go_enter Try.func33, Try.ntmps33
    go_wp2_with fail
    go_ret
    exact ⟨ret_b HR.out.symm, rfl⟩
  · have HR := Lib.hid (show (decide (lo ≤ x) && decide (x ≤ hi)) = false by simp [h])
    go_enter Try.func33, Try.ntmps33
    go_wp2_with fail
    go_ret
    exact ⟨ret_b HR.out.symm, rfl⟩
set_option maxRecDepth 100000 in
set_option maxHeartbeats 400000 in
theorem rtime12_any (t : Int) (w : World) : Calls Try.prog 23 #[.int .i64 t] w fun e w' => e = .returned (.bool (tmB t)) ∧ w = w' := by
  go_enter Try.func23, Try.ntmps23
  go_wp2_with fail
  refine (rin12_any t 0 1099511627776 w).mono ?_
  rintro e w1 ⟨rfl, rfl⟩
  go_wp2_with fail
  go_ret
  exact ⟨rfl, rfl⟩
set_option maxRecDepth 100000 in
set_option maxHeartbeats 4000000 in
theorem talike_any (p s d sp dp p2 s2 d2 sp2 dp2 : Int) (w : World) : Calls Try.prog 28 #[.agg (flC p s d sp dp), .agg (flC p2 s2 d2 sp2 dp2)] w fun e w' => e = .returned (.bool (alB p s d sp dp p2 s2 d2 sp2 dp2)) ∧ Chg (fun _ => False) w w' := by
  have HQ0 : Blk ((w.alloc (.cells #[.int .i64 p, .int .u32 s, .int .u32 d, .int .i64 sp, .int .i64 dp] 35)).alloc (.cells #[.int .i64 p2, .int .u32 s2, .int .u32 d2, .int .i64 sp2, .int .i64 dp2] 35)) w.heap.size 35 (flC p s d sp dp) := Blk.alloc (blk_new rfl) _
  replace HQ0 := Lib.hid HQ0
  have HQ1 : Blk ((w.alloc (.cells #[.int .i64 p, .int .u32 s, .int .u32 d, .int .i64 sp, .int .i64 dp] 35)).alloc (.cells #[.int .i64 p2, .int .u32 s2, .int .u32 d2, .int .i64 sp2, .int .i64 dp2] 35)) (w.heap.size + 1) 35 (flC p2 s2 d2 sp2 dp2) := blk_new (by simp)
  replace HQ1 := Lib.hid HQ1
  have HX0 := Lib.hid (((Chg.refl (fun _ => False) w).alloc (.cells #[.int .i64 p, .int .u32 s, .int .u32 d, .int .i64 sp, .int .i64 dp] 35)).alloc (.cells #[.int .i64 p2, .int .u32 s2, .int .u32 d2, .int .i64 sp2, .int .i64 dp2] 35))
  have he := fun W => eqFl12 W p s d sp dp p2 s2 d2 sp2 dp2
  have he2 := fun W => eqFl12 W p s d sp dp p2 d2 s2 dp2 sp2
  unfold alB
  cases hb : flE p s d sp dp p2 s2 d2 sp2 dp2 with
  | true =>
    rw [hb] at he
    clear hb he2
    unfold flC
    go_enter Try.func28, Try.ntmps28
    go_wp2_with fail
    generalize ((w.alloc (.cells #[.int .i64 p, .int .u32 s, .int .u32 d, .int .i64 sp, .int .i64 dp] 35)).alloc (.cells #[.int .i64 p2, .int .u32 s2, .int .u32 d2, .int .i64 sp2, .int .i64 dp2] 35)) = w1 at *
    have HKEEP : Hid (∀ n, (w1.drewN n).cell? ⟨w.heap.size, 0, none⟩ = some (.int .i64 p) ∧ (w1.drewN n).cell? ⟨w.heap.size, 1, none⟩ = some (.int .u32 s) ∧ (w1.drewN n).cell? ⟨w.heap.size, 2, none⟩ = some (.int .u32 d) ∧ (w1.drewN n).cell? ⟨w.heap.size, 3, none⟩ = some (.int .i64 sp) ∧ (w1.drewN n).cell? ⟨w.heap.size, 4, none⟩ = some (.int .i64 dp) ∧ (w1.drewN n).cell? ⟨w.heap.size + 1, 0, none⟩ = some (.int .i64 p2) ∧ (w1.drewN n).cell? ⟨w.heap.size + 1, 1, none⟩ = some (.int .u32 s2) ∧ (w1.drewN n).cell? ⟨w.heap.size + 1, 2, none⟩ = some (.int .u32 d2) ∧ (w1.drewN n).cell? ⟨w.heap.size + 1, 3, none⟩ = some (.int .i64 sp2) ∧ (w1.drewN n).cell? ⟨w.heap.size + 1, 4, none⟩ = some (.int .i64 dp2)) := Lib.hid (fun n => by
      obtain ⟨x0, x1, x2, x3, x4⟩ := fl_cells (HQ0.out.drewN n)
      obtain ⟨z0, z1, z2, z3, z4⟩ := fl_cells (HQ1.out.drewN n)
      exact ⟨x0, x1, x2, x3, x4, z0, z1, z2, z3, z4⟩)
    obtain ⟨y0, y1, y2, y3, y4⟩ := fl_cells HQ0.out
    obtain ⟨u0, u1, u2, u3, u4⟩ := fl_cells HQ1.out
    go_quiet (fail)
    have HX1 := Lib.hid (HX0.out.drewN nq)
    go_wp2_with fail
    go_ret
    exact ⟨rfl, HX1.out⟩
  | false =>
    rw [hb] at he
    generalize hb2 : flE p s d sp dp p2 d2 s2 dp2 sp2 = b2 at *
    clear hb hb2
    unfold flC
    go_enter Try.func28, Try.ntmps28
    go_wp2_with fail
    generalize ((w.alloc (.cells #[.int .i64 p, .int .u32 s, .int .u32 d, .int .i64 sp, .int .i64 dp] 35)).alloc (.cells #[.int .i64 p2, .int .u32 s2, .int .u32 d2, .int .i64 sp2, .int .i64 dp2] 35)) = w1 at *
    have HKEEP : Hid (∀ W : World, Chg (fun _ => False) w1 W → (W.cell? ⟨w.heap.size, 0, none⟩ = some (.int .i64 p) ∧ W.cell? ⟨w.heap.size, 1, none⟩ = some (.int .u32 s) ∧ W.cell? ⟨w.heap.size, 2, none⟩ = some (.int .u32 d) ∧ W.cell? ⟨w.heap.size, 3, none⟩ = some (.int .i64 sp) ∧ W.cell? ⟨w.heap.size, 4, none⟩ = some (.int .i64 dp) ∧ W.cell? ⟨w.heap.size + 1, 0, none⟩ = some (.int .i64 p2) ∧ W.cell? ⟨w.heap.size + 1, 1, none⟩ = some (.int .u32 s2) ∧ W.cell? ⟨w.heap.size + 1, 2, none⟩ = some (.int .u32 d2) ∧ W.cell? ⟨w.heap.size + 1, 3, none⟩ = some (.int .i64 sp2) ∧ W.cell? ⟨w.heap.size + 1, 4, none⟩ = some (.int .i64 dp2))) := Lib.hid (fun W hw => by
      obtain ⟨x0, x1, x2, x3, x4⟩ := fl_cells (HQ0.out.chg hw id)
      obtain ⟨z0, z1, z2, z3, z4⟩ := fl_cells (HQ1.out.chg hw id)
      exact ⟨x0, x1, x2, x3, x4, z0, z1, z2, z3, z4⟩)
    have HXA := Lib.hid (Chg.refl (fun _ => False) w1).drew
    have HNA := Lib.hid (iback_any p2 s2 d2 sp2 dp2 w1.drew)
    unfold flC at HNA
    obtain ⟨y0, y1, y2, y3, y4, u0, u1, u2, u3, u4⟩ := HKEEP.out _ HXA.out
    go_region_held3 (fun w' => w'.cell? ⟨w.heap.size, 0, none⟩ = some (.int .i64 p) ∧ w'.cell? ⟨w.heap.size, 1, none⟩ = some (.int .u32 s) ∧ w'.cell? ⟨w.heap.size, 2, none⟩ = some (.int .u32 d) ∧ w'.cell? ⟨w.heap.size, 3, none⟩ = some (.int .i64 sp) ∧ w'.cell? ⟨w.heap.size, 4, none⟩ = some (.int .i64 dp) ∧ w'.cell? ⟨w.heap.size + 1, 0, none⟩ = some (.int .i64 p2) ∧ w'.cell? ⟨w.heap.size + 1, 1, none⟩ = some (.int .u32 s2) ∧ w'.cell? ⟨w.heap.size + 1, 2, none⟩ = some (.int .u32 d2) ∧ w'.cell? ⟨w.heap.size + 1, 3, none⟩ = some (.int .i64 sp2) ∧ w'.cell? ⟨w.heap.size + 1, 4, none⟩ = some (.int .i64 dp2))
      (first | with_reducible exact HKEEP.out _ HXA.out | with_reducible exact HKEEP.out _ HXB.out | fail)
      (first
        | (go_at_call 35; (with_reducible refine (HNA.out).mono ?_); rintro e wz ⟨rfl, hc⟩; have HXB := Lib.hid (HXA.out.trans hc (fun _ _ e => e)); clear hc)
        | fail)
    all_goals
      go_wp2_with fail
      go_ret
      exact ⟨rfl, HX0.out.trans HXB.out (fun _ _ e => e)⟩
set_option maxRecDepth 100000 in
set_option maxHeartbeats 4000000 in
theorem ralike_any (p s d sp dp p2 s2 d2 sp2 dp2 : Int) (w : World) : Calls Try.prog 29 #[.agg (flC p s d sp dp), .agg (flC p2 s2 d2 sp2 dp2)] w fun e w' => e = .returned (.bool (alB p s d sp dp p2 s2 d2 sp2 dp2)) ∧ Chg (fun _ => False) w w' := by
  have HQ0 : Blk ((w.alloc (.cells #[.int .i64 p, .int .u32 s, .int .u32 d, .int .i64 sp, .int .i64 dp] 35)).alloc (.cells #[.int .i64 p2, .int .u32 s2, .int .u32 d2, .int .i64 sp2, .int .i64 dp2] 35)) w.heap.size 35 (flC p s d sp dp) := Blk.alloc (blk_new rfl) _
  replace HQ0 := Lib.hid HQ0
  have HQ1 : Blk ((w.alloc (.cells #[.int .i64 p, .int .u32 s, .int .u32 d, .int .i64 sp, .int .i64 dp] 35)).alloc (.cells #[.int .i64 p2, .int .u32 s2, .int .u32 d2, .int .i64 sp2, .int .i64 dp2] 35)) (w.heap.size + 1) 35 (flC p2 s2 d2 sp2 dp2) := blk_new (by simp)
  replace HQ1 := Lib.hid HQ1
  have HX0 := Lib.hid (((Chg.refl (fun _ => False) w).alloc (.cells #[.int .i64 p, .int .u32 s, .int .u32 d, .int .i64 sp, .int .i64 dp] 35)).alloc (.cells #[.int .i64 p2, .int .u32 s2, .int .u32 d2, .int .i64 sp2, .int .i64 dp2] 35))
  have he := fun W => eqFl12 W p s d sp dp p2 s2 d2 sp2 dp2
  have he2 := fun W => eqFl12 W p s d sp dp p2 d2 s2 dp2 sp2
  unfold alB
  cases hb : flE p s d sp dp p2 s2 d2 sp2 dp2 with
  | true =>
    rw [hb] at he
    clear hb he2
    unfold flC
    go_enter Try.func29, Try.ntmps29
    go_wp2_with fail
    generalize ((w.alloc (.cells #[.int .i64 p, .int .u32 s, .int .u32 d, .int .i64 sp, .int .i64 dp] 35)).alloc (.cells #[.int .i64 p2, .int .u32 s2, .int .u32 d2, .int .i64 sp2, .int .i64 dp2] 35)) = w1 at *
    have HKEEP : Hid (∀ n, (w1.drewN n).cell? ⟨w.heap.size, 0, none⟩ = some (.int .i64 p) ∧ (w1.drewN n).cell? ⟨w.heap.size, 1, none⟩ = some (.int .u32 s) ∧ (w1.drewN n).cell? ⟨w.heap.size, 2, none⟩ = some (.int .u32 d) ∧ (w1.drewN n).cell? ⟨w.heap.size, 3, none⟩ = some (.int .i64 sp) ∧ (w1.drewN n).cell? ⟨w.heap.size, 4, none⟩ = some (.int .i64 dp) ∧ (w1.drewN n).cell? ⟨w.heap.size + 1, 0, none⟩ = some (.int .i64 p2) ∧ (w1.drewN n).cell? ⟨w.heap.size + 1, 1, none⟩ = some (.int .u32 s2) ∧ (w1.drewN n).cell? ⟨w.heap.size + 1, 2, none⟩ = some (.int .u32 d2) ∧ (w1.drewN n).cell? ⟨w.heap.size + 1, 3, none⟩ = some (.int .i64 sp2) ∧ (w1.drewN n).cell? ⟨w.heap.size + 1, 4, none⟩ = some (.int .i64 dp2)) := Lib.hid (fun n => by
      obtain ⟨x0, x1, x2, x3, x4⟩ := fl_cells (HQ0.out.drewN n)
      obtain ⟨z0, z1, z2, z3, z4⟩ := fl_cells (HQ1.out.drewN n)
      exact ⟨x0, x1, x2, x3, x4, z0, z1, z2, z3, z4⟩)
    obtain ⟨y0, y1, y2, y3, y4⟩ := fl_cells HQ0.out
    obtain ⟨u0, u1, u2, u3, u4⟩ := fl_cells HQ1.out
    go_quiet (fail)
    have HX1 := Lib.hid (HX0.out.drewN nq)
    go_wp2_with fail
    go_ret
    exact ⟨rfl, HX1.out⟩
  | false =>
    rw [hb] at he
    generalize hb2 : flE p s d sp dp p2 d2 s2 dp2 sp2 = b2 at *
    clear hb hb2
    unfold flC
    go_enter Try.func29, Try.ntmps29
    go_wp2_with fail
    generalize ((w.alloc (.cells #[.int .i64 p, .int .u32 s, .int .u32 d, .int .i64 sp, .int .i64 dp] 35)).alloc (.cells #[.int .i64 p2, .int .u32 s2, .int .u32 d2, .int .i64 sp2, .int .i64 dp2] 35)) = w1 at *
    have HKEEP : Hid (∀ W : World, Chg (fun _ => False) w1 W → (W.cell? ⟨w.heap.size, 0, none⟩ = some (.int .i64 p) ∧ W.cell? ⟨w.heap.size, 1, none⟩ = some (.int .u32 s) ∧ W.cell? ⟨w.heap.size, 2, none⟩ = some (.int .u32 d) ∧ W.cell? ⟨w.heap.size, 3, none⟩ = some (.int .i64 sp) ∧ W.cell? ⟨w.heap.size, 4, none⟩ = some (.int .i64 dp) ∧ W.cell? ⟨w.heap.size + 1, 0, none⟩ = some (.int .i64 p2) ∧ W.cell? ⟨w.heap.size + 1, 1, none⟩ = some (.int .u32 s2) ∧ W.cell? ⟨w.heap.size + 1, 2, none⟩ = some (.int .u32 d2) ∧ W.cell? ⟨w.heap.size + 1, 3, none⟩ = some (.int .i64 sp2) ∧ W.cell? ⟨w.heap.size + 1, 4, none⟩ = some (.int .i64 dp2))) := Lib.hid (fun W hw => by
      obtain ⟨x0, x1, x2, x3, x4⟩ := fl_cells (HQ0.out.chg hw id)
      obtain ⟨z0, z1, z2, z3, z4⟩ := fl_cells (HQ1.out.chg hw id)
      exact ⟨x0, x1, x2, x3, x4, z0, z1, z2, z3, z4⟩)
    have HXA := Lib.hid (Chg.refl (fun _ => False) w1).drew
    have HNA := Lib.hid (rback4_any p2 s2 d2 sp2 dp2 w1.drew)
    unfold flC at HNA
    obtain ⟨y0, y1, y2, y3, y4, u0, u1, u2, u3, u4⟩ := HKEEP.out _ HXA.out
    go_region_held3 (fun w' => w'.cell? ⟨w.heap.size, 0, none⟩ = some (.int .i64 p) ∧ w'.cell? ⟨w.heap.size, 1, none⟩ = some (.int .u32 s) ∧ w'.cell? ⟨w.heap.size, 2, none⟩ = some (.int .u32 d) ∧ w'.cell? ⟨w.heap.size, 3, none⟩ = some (.int .i64 sp) ∧ w'.cell? ⟨w.heap.size, 4, none⟩ = some (.int .i64 dp) ∧ w'.cell? ⟨w.heap.size + 1, 0, none⟩ = some (.int .i64 p2) ∧ w'.cell? ⟨w.heap.size + 1, 1, none⟩ = some (.int .u32 s2) ∧ w'.cell? ⟨w.heap.size + 1, 2, none⟩ = some (.int .u32 d2) ∧ w'.cell? ⟨w.heap.size + 1, 3, none⟩ = some (.int .i64 sp2) ∧ w'.cell? ⟨w.heap.size + 1, 4, none⟩ = some (.int .i64 dp2))
      (first | with_reducible exact HKEEP.out _ HXA.out | with_reducible exact HKEEP.out _ HXB.out | fail)
      (first
        | (go_at_call 17; (with_reducible refine (HNA.out).mono ?_); rintro e wz ⟨rfl, hc⟩; have HXB := Lib.hid (HXA.out.trans hc (fun _ _ e => e)); clear hc)
        | fail)
    all_goals
      go_wp2_with fail
      go_ret
      exact ⟨rfl, HX0.out.trans HXB.out (fun _ _ e => e)⟩

end Go.Proofs.Ytclikcbgeolngaa
