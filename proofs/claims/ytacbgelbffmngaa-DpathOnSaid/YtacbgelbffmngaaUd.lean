/-
  Walks: rutterref05.In, rutterref06.chassis, who, Row, record, Right. Conditions: the records are read in memory.
-/
import Derived.Test.YtacbgelbffmngaaUc
import Derived.Deep.DeepCutAuto
namespace Go.Proofs.Ytacbgelbffmngaa
open Go.RowKit
set_option linter.unusedVariables false

theorem wi_one (lo hi x : Int) : withinB lo hi [x] = (decide (lo ≤ x) && decide (x ≤ hi)) := by simp [withinB]
theorem wi_cons (lo hi x : Int) (l : List Int) : withinB lo hi (x :: l) = (withinB lo hi [x] && withinB lo hi l) := by simp [withinB]
theorem wi_nob (x : Int) : withinB (-1) (-1) [x] = (x == -1) := by
  rw [wi_one]
  by_cases h : x = -1
  · subst h; rfl
  · have h1 : (x == -1) = false := by simpa using h
    rw [h1]
    by_cases h2 : -1 ≤ x
    · have : ¬ x ≤ -1 := by omega
      simp [this]
    · simp [h2]
set_option maxRecDepth 100000 in
set_option maxHeartbeats 400000 in
theorem in6_any (x lo hi : Int) (w : World) : Calls Try.prog 54 #[.int .i64 x, .int .i64 lo, .int .i64 hi] w fun e w' => e = .returned (.bool (withinB lo hi [x])) ∧ w = w' := by
  by_cases h : lo ≤ x
  · have hR := Lib.hid (show withinB lo hi [x] = decide (x ≤ hi) by rw [wi_one]; simp [h])
    go_enter Try.func54, Try.ntmps54
    go_wp2_with fail
    go_ret
    exact ⟨ret_b hR.out.symm, rfl⟩
  · have hR := Lib.hid (show withinB lo hi [x] = false by rw [wi_one]; simp [h])
    go_enter Try.func54, Try.ntmps54
    go_wp2_with fail
    go_ret
    exact ⟨ret_b hR.out.symm, rfl⟩

set_option maxRecDepth 100000 in
set_option maxHeartbeats 400000 in
theorem rchassis_any (x : Int) (w : World) : Calls Try.prog 63 #[.int .i64 x] w fun e w' => e = .returned (.bool (withinB 0 15 [x])) ∧ w = w' := by
  have HI := Lib.hid (in6_any x 0 15 w)
  go_enter Try.func63, Try.ntmps63
  go_wp2_with fail
  refine HI.out.mono ?_
  rintro e w' ⟨rfl, rfl⟩
  go_wp2_with fail
  go_ret
  exact ⟨rfl, rfl⟩

def whoB (ph ow ta ol : Int) (b1 b2 b3 : Bool) : Bool :=
  if ph = 0 then b1 && (ta == -1 && ol == -1)
  else if ph = 1 then b1 && (b2 && (ol == -1 && ow != ta))
  else if ph = 2 then b1 && (b3 && (ta == -1 && ow != ol))
  else if ph = 3 then ow == -1 && (ta == -1 && ol == -1)
  else false
theorem held_who (ph ow ta ol : Int) : heldB ph ow ta ol = whoB ph ow ta ol (withinB 0 15 [ow]) (withinB 0 15 [ta]) (withinB 0 15 [ol]) := by
  unfold heldB whoB
  rw [wi_cons (-1) (-1) ow, wi_cons (-1) (-1) ta, wi_cons 0 15 ow [ta], wi_cons 0 15 ow [ol], wi_nob, wi_nob, wi_nob]
  unfold bne
  generalize withinB 0 15 [ow] = b1
  generalize withinB 0 15 [ta] = b2
  generalize withinB 0 15 [ol] = b3
  generalize (ta == -1) = b4
  generalize (ol == -1) = b5
  generalize (ow == -1) = b6
  split
  · rfl
  · split
    · cases b1 <;> cases b2 <;> cases b5 <;> simp
    · split
      · cases b1 <;> cases b3 <;> cases b4 <;> simp
      · rfl

set_option maxRecDepth 100000 in
set_option maxHeartbeats 4000000 in
theorem who_any (po ma ow ta ol ge ph ve si : Int) (w : World) : Calls Try.prog 55 #[.agg (rvC po ma ow ta ol ge ph ve si)] w fun e w' => e = .returned (.bool (heldB ph ow ta ol)) ∧ Chg (fun _ => False) w w' := by
  have HC0 := Lib.hid ((Chg.refl (fun _ => False) w).alloc (.cells #[.int .i64 po, .int .u64 ma, .int .i64 ow, .int .i64 ta, .int .i64 ol, .int .i64 ge, .int .i64 ph, .int .i64 ve, .int .i64 si] 65))
  rw [held_who]
  have q1 := fun W => rchassis_any ow W
  have q2 := fun W => rchassis_any ta W
  have q3 := fun W => rchassis_any ol W
  generalize withinB 0 15 [ow] = b1 at *
  generalize withinB 0 15 [ta] = b2 at *
  generalize withinB 0 15 [ol] = b3 at *
  have H1 := Lib.hid q1
  have H2 := Lib.hid q2
  have H3 := Lib.hid q3
  clear q1 q2 q3
  unfold rvC
  by_cases h0 : ph = 0
  case pos =>
    subst h0
    cases b1 with
    | false =>
      have hR := Lib.hid (show whoB 0 ow ta ol false b2 b3 = false by simp [whoB])
      go_enter Try.func55, Try.ntmps55
      go_wp2_with fail
      refine (H1.out _).mono ?_
      rintro e w' ⟨rfl, rfl⟩
      go_wp2_with fail
      refine (H2.out _).mono ?_
      rintro e w' ⟨rfl, rfl⟩
      go_wp2_with fail
      refine (H3.out _).mono ?_
      rintro e w' ⟨rfl, rfl⟩
      go_wp2_with fail
      go_ret
      exact ⟨ret_b hR.out.symm, HC0.out⟩
    | true =>
      by_cases hq1 : ta = -1
      case neg =>
        have tq : (ta == -1) = false := by simpa using hq1
        have hR := Lib.hid (show whoB 0 ow ta ol true b2 b3 = false by simp [whoB, tq])
        clear hq1
        go_enter Try.func55, Try.ntmps55
        go_wp2_with fail
        refine (H1.out _).mono ?_
        rintro e w' ⟨rfl, rfl⟩
        go_wp2_with fail
        refine (H2.out _).mono ?_
        rintro e w' ⟨rfl, rfl⟩
        go_wp2_with fail
        refine (H3.out _).mono ?_
        rintro e w' ⟨rfl, rfl⟩
        go_wp2_with fail
        go_ret
        exact ⟨ret_b hR.out.symm, HC0.out⟩
      subst hq1
      have hR := Lib.hid (show whoB 0 ow (-1) ol true b2 b3 = (ol == -1) by simp [whoB])
      go_enter Try.func55, Try.ntmps55
      go_wp2_with fail
      refine (H1.out _).mono ?_
      rintro e w' ⟨rfl, rfl⟩
      go_wp2_with fail
      refine (H2.out _).mono ?_
      rintro e w' ⟨rfl, rfl⟩
      go_wp2_with fail
      refine (H3.out _).mono ?_
      rintro e w' ⟨rfl, rfl⟩
      go_wp2_with fail
      go_ret
      exact ⟨ret_b hR.out.symm, HC0.out⟩
  by_cases h1 : ph = 1
  case pos =>
    subst h1
    cases b1 with
    | false =>
      have hR := Lib.hid (show whoB 1 ow ta ol false b2 b3 = false by simp [whoB])
      go_enter Try.func55, Try.ntmps55
      go_wp2_with fail
      refine (H1.out _).mono ?_
      rintro e w' ⟨rfl, rfl⟩
      go_wp2_with fail
      refine (H2.out _).mono ?_
      rintro e w' ⟨rfl, rfl⟩
      go_wp2_with fail
      refine (H3.out _).mono ?_
      rintro e w' ⟨rfl, rfl⟩
      go_wp2_with fail
      go_ret
      exact ⟨ret_b hR.out.symm, HC0.out⟩
    | true =>
      cases b2 with
      | false =>
        have hR := Lib.hid (show whoB 1 ow ta ol true false b3 = false by simp [whoB])
        go_enter Try.func55, Try.ntmps55
        go_wp2_with fail
        refine (H1.out _).mono ?_
        rintro e w' ⟨rfl, rfl⟩
        go_wp2_with fail
        refine (H2.out _).mono ?_
        rintro e w' ⟨rfl, rfl⟩
        go_wp2_with fail
        refine (H3.out _).mono ?_
        rintro e w' ⟨rfl, rfl⟩
        go_wp2_with fail
        go_ret
        exact ⟨ret_b hR.out.symm, HC0.out⟩
      | true =>
        by_cases hq2 : ol = -1
        case neg =>
          have tq : (ol == -1) = false := by simpa using hq2
          have hR := Lib.hid (show whoB 1 ow ta ol true true b3 = false by simp [whoB, tq])
          clear hq2
          go_enter Try.func55, Try.ntmps55
          go_wp2_with fail
          refine (H1.out _).mono ?_
          rintro e w' ⟨rfl, rfl⟩
          go_wp2_with fail
          refine (H2.out _).mono ?_
          rintro e w' ⟨rfl, rfl⟩
          go_wp2_with fail
          refine (H3.out _).mono ?_
          rintro e w' ⟨rfl, rfl⟩
          go_wp2_with fail
          go_ret
          exact ⟨ret_b hR.out.symm, HC0.out⟩
        subst hq2
        have hR := Lib.hid (show whoB 1 ow ta (-1) true true b3 = (ow != ta) by simp [whoB])
        go_enter Try.func55, Try.ntmps55
        go_wp2_with fail
        refine (H1.out _).mono ?_
        rintro e w' ⟨rfl, rfl⟩
        go_wp2_with fail
        refine (H2.out _).mono ?_
        rintro e w' ⟨rfl, rfl⟩
        go_wp2_with fail
        refine (H3.out _).mono ?_
        rintro e w' ⟨rfl, rfl⟩
        go_wp2_with fail
        go_ret
        exact ⟨ret_b hR.out.symm, HC0.out⟩
  by_cases h2 : ph = 2
  case pos =>
    subst h2
    cases b1 with
    | false =>
      have hR := Lib.hid (show whoB 2 ow ta ol false b2 b3 = false by simp [whoB])
      go_enter Try.func55, Try.ntmps55
      go_wp2_with fail
      refine (H1.out _).mono ?_
      rintro e w' ⟨rfl, rfl⟩
      go_wp2_with fail
      refine (H2.out _).mono ?_
      rintro e w' ⟨rfl, rfl⟩
      go_wp2_with fail
      refine (H3.out _).mono ?_
      rintro e w' ⟨rfl, rfl⟩
      go_wp2_with fail
      go_ret
      exact ⟨ret_b hR.out.symm, HC0.out⟩
    | true =>
      cases b3 with
      | false =>
        have hR := Lib.hid (show whoB 2 ow ta ol true b2 false = false by simp [whoB])
        go_enter Try.func55, Try.ntmps55
        go_wp2_with fail
        refine (H1.out _).mono ?_
        rintro e w' ⟨rfl, rfl⟩
        go_wp2_with fail
        refine (H2.out _).mono ?_
        rintro e w' ⟨rfl, rfl⟩
        go_wp2_with fail
        refine (H3.out _).mono ?_
        rintro e w' ⟨rfl, rfl⟩
        go_wp2_with fail
        go_ret
        exact ⟨ret_b hR.out.symm, HC0.out⟩
      | true =>
        by_cases hq2 : ta = -1
        case neg =>
          have tq : (ta == -1) = false := by simpa using hq2
          have hR := Lib.hid (show whoB 2 ow ta ol true b2 true = false by simp [whoB, tq])
          clear hq2
          go_enter Try.func55, Try.ntmps55
          go_wp2_with fail
          refine (H1.out _).mono ?_
          rintro e w' ⟨rfl, rfl⟩
          go_wp2_with fail
          refine (H2.out _).mono ?_
          rintro e w' ⟨rfl, rfl⟩
          go_wp2_with fail
          refine (H3.out _).mono ?_
          rintro e w' ⟨rfl, rfl⟩
          go_wp2_with fail
          go_ret
          exact ⟨ret_b hR.out.symm, HC0.out⟩
        subst hq2
        have hR := Lib.hid (show whoB 2 ow (-1) ol true b2 true = (ow != ol) by simp [whoB])
        go_enter Try.func55, Try.ntmps55
        go_wp2_with fail
        refine (H1.out _).mono ?_
        rintro e w' ⟨rfl, rfl⟩
        go_wp2_with fail
        refine (H2.out _).mono ?_
        rintro e w' ⟨rfl, rfl⟩
        go_wp2_with fail
        refine (H3.out _).mono ?_
        rintro e w' ⟨rfl, rfl⟩
        go_wp2_with fail
        go_ret
        exact ⟨ret_b hR.out.symm, HC0.out⟩
  by_cases h3 : ph = 3
  case pos =>
    subst h3
    by_cases hq0 : ow = -1
    case neg =>
      have tq : (ow == -1) = false := by simpa using hq0
      have hR := Lib.hid (show whoB 3 ow ta ol b1 b2 b3 = false by simp [whoB, tq])
      clear hq0
      go_enter Try.func55, Try.ntmps55
      go_wp2_with fail
      refine (H1.out _).mono ?_
      rintro e w' ⟨rfl, rfl⟩
      go_wp2_with fail
      refine (H2.out _).mono ?_
      rintro e w' ⟨rfl, rfl⟩
      go_wp2_with fail
      refine (H3.out _).mono ?_
      rintro e w' ⟨rfl, rfl⟩
      go_wp2_with fail
      go_ret
      exact ⟨ret_b hR.out.symm, HC0.out⟩
    subst hq0
    by_cases hq1 : ta = -1
    case neg =>
      have tq : (ta == -1) = false := by simpa using hq1
      have hR := Lib.hid (show whoB 3 (-1) ta ol b1 b2 b3 = false by simp [whoB, tq])
      clear hq1
      go_enter Try.func55, Try.ntmps55
      go_wp2_with fail
      refine (H1.out _).mono ?_
      rintro e w' ⟨rfl, rfl⟩
      go_wp2_with fail
      refine (H2.out _).mono ?_
      rintro e w' ⟨rfl, rfl⟩
      go_wp2_with fail
      refine (H3.out _).mono ?_
      rintro e w' ⟨rfl, rfl⟩
      go_wp2_with fail
      go_ret
      exact ⟨ret_b hR.out.symm, HC0.out⟩
    subst hq1
    have hR := Lib.hid (show whoB 3 (-1) (-1) ol b1 b2 b3 = (ol == -1) by simp [whoB])
    go_enter Try.func55, Try.ntmps55
    go_wp2_with fail
    refine (H1.out _).mono ?_
    rintro e w' ⟨rfl, rfl⟩
    go_wp2_with fail
    refine (H2.out _).mono ?_
    rintro e w' ⟨rfl, rfl⟩
    go_wp2_with fail
    refine (H3.out _).mono ?_
    rintro e w' ⟨rfl, rfl⟩
    go_wp2_with fail
    go_ret
    exact ⟨ret_b hR.out.symm, HC0.out⟩
  have t0 : (ph == 0) = false := by simpa using h0
  have t1 : (ph == 1) = false := by simpa using h1
  have t2 : (ph == 2) = false := by simpa using h2
  have t3 : (ph == 3) = false := by simpa using h3
  have hR := Lib.hid (show whoB ph ow ta ol b1 b2 b3 = false by unfold whoB; rw [if_neg h0, if_neg h1, if_neg h2, if_neg h3])
  clear h0 h1 h2 h3
  go_enter Try.func55, Try.ntmps55
  go_wp2_with fail
  refine (H1.out _).mono ?_
  rintro e w' ⟨rfl, rfl⟩
  go_wp2_with fail
  refine (H2.out _).mono ?_
  rintro e w' ⟨rfl, rfl⟩
  go_wp2_with fail
  refine (H3.out _).mono ?_
  rintro e w' ⟨rfl, rfl⟩
  go_wp2_with fail
  go_ret
  exact ⟨ret_b hR.out.symm, HC0.out⟩

theorem rw_three (po ma ow ta ol ge ph ve si : Int) : rwR po ma ow ta ol ge ph ve si = (heldB ph ow ta ol && ((withinB 0 31 [po] && (withinB 1 4294967296 [ge] && (withinB 1 1099511627776 [ve] && withinB 0 1099511627776 [si]))) && decide (ma ≤ 281474976710655))) := by
  unfold rwR namedB
  generalize heldB ph ow ta ol = x1
  generalize withinB 0 31 [po] = x2
  generalize withinB 1 4294967296 [ge] = x3
  generalize withinB 1 1099511627776 [ve] = x4
  generalize withinB 0 1099511627776 [si] = x5
  generalize decide (ma ≤ 281474976710655) = x6
  ac_rfl
set_option maxRecDepth 100000 in
set_option maxHeartbeats 4000000 in
theorem rrow_any (po ma ow ta ol ge ph ve si : Int) (w : World) : Calls Try.prog 33 #[.agg (rvC po ma ow ta ol ge ph ve si)] w fun e w' => e = .returned (.bool (rwR po ma ow ta ol ge ph ve si)) ∧ Chg (fun _ => False) w w' := by
  have HX := Lib.hid (Chg.refl (fun _ => False) (w.alloc (.cells #[.int .i64 po, .int .u64 ma, .int .i64 ow, .int .i64 ta, .int .i64 ol, .int .i64 ge, .int .i64 ph, .int .i64 ve, .int .i64 si] 65)))
  have HB0 : Hid (Blk (w.alloc (.cells #[.int .i64 po, .int .u64 ma, .int .i64 ow, .int .i64 ta, .int .i64 ol, .int .i64 ge, .int .i64 ph, .int .i64 ve, .int .i64 si] 65)) w.heap.size 65 (rvC po ma ow ta ol ge ph ve si)) := Lib.hid (blk_new rfl)
  have HC0 := Lib.hid ((Chg.refl (fun _ => False) w).alloc (.cells #[.int .i64 po, .int .u64 ma, .int .i64 ow, .int .i64 ta, .int .i64 ol, .int .i64 ge, .int .i64 ph, .int .i64 ve, .int .i64 si] 65))
  have hw := fun W => who_any po ma ow ta ol ge ph ve si W
  have q1 := fun W => in6_any po 0 31 W
  have q2 := fun W => in6_any ge 1 4294967296 W
  have q3 := fun W => in6_any ve 1 1099511627776 W
  have q4 := fun W => in6_any si 0 1099511627776 W
  rw [rw_three]
  generalize heldB ph ow ta ol = b0 at *
  have hu : ∀ x1 x2 x3 x4 : Bool, (x1 && (x2 && (x3 && x4))) = (x1 && (x2 && (x3 && x4))) := fun _ _ _ _ => rfl
  replace hu := hu (withinB 0 31 [po]) (withinB 1 4294967296 [ge]) (withinB 1 1099511627776 [ve]) (withinB 0 1099511627776 [si])
  generalize hu1 : (withinB 0 31 [po] && (withinB 1 4294967296 [ge] && (withinB 1 1099511627776 [ve] && withinB 0 1099511627776 [si]))) = u at *
  clear hu
  have hu2 := hu1.symm
  clear hu1
  generalize withinB 0 31 [po] = b1 at *
  generalize withinB 1 4294967296 [ge] = b2 at *
  generalize withinB 1 1099511627776 [ve] = b3 at *
  generalize withinB 0 1099511627776 [si] = b4 at *
  have HU := Lib.hid hu2
  unfold rvC at hw ⊢
  have HW := Lib.hid hw
  have H1 := Lib.hid q1
  have H2 := Lib.hid q2
  have H3 := Lib.hid q3
  have H4 := Lib.hid q4
  clear hw q1 q2 q3 q4 hu2
  go_enter Try.func33, Try.ntmps33
  go_wp2_with fail
  refine (HW.out _).mono ?_
  rintro e w1 ⟨rfl, hc1⟩
  have HX := Lib.hid (HX.out.trans hc1 (fun _ _ e => e))
  clear hc1
  obtain ⟨y0, y1, y2, y3, y4, y5, y6, y7, y8⟩ := rv_kept HB0.out HX.out
  go_upto_region 2 with fail
  go_cut [4] (fun s4 wx => s4 = .bool u ∧ wx = w1)
  case first =>
    cases b1 with
    | false =>
      go_wp2_with fail
      refine (H1.out _).mono ?_
      rintro e w' ⟨rfl, rfl⟩
      go_wp2_with fail
      go_meet
      exact ⟨by rw [HU.out]; rfl, rfl⟩
    | true =>
      cases b2 with
      | false =>
        go_wp2_with fail
        refine (H1.out _).mono ?_
        rintro e w' ⟨rfl, rfl⟩
        go_wp2_with fail
        refine (H2.out _).mono ?_
        rintro e w' ⟨rfl, rfl⟩
        go_wp2_with fail
        go_meet
        exact ⟨by rw [HU.out]; rfl, rfl⟩
      | true =>
        cases b3 with
        | false =>
          go_wp2_with fail
          refine (H1.out _).mono ?_
          rintro e w' ⟨rfl, rfl⟩
          go_wp2_with fail
          refine (H2.out _).mono ?_
          rintro e w' ⟨rfl, rfl⟩
          go_wp2_with fail
          refine (H3.out _).mono ?_
          rintro e w' ⟨rfl, rfl⟩
          go_wp2_with fail
          go_meet
          exact ⟨by rw [HU.out]; rfl, rfl⟩
        | true =>
          go_wp2_with fail
          refine (H1.out _).mono ?_
          rintro e w' ⟨rfl, rfl⟩
          go_wp2_with fail
          refine (H2.out _).mono ?_
          rintro e w' ⟨rfl, rfl⟩
          go_wp2_with fail
          refine (H3.out _).mono ?_
          rintro e w' ⟨rfl, rfl⟩
          go_wp2_with fail
          refine (H4.out _).mono ?_
          rintro e w' ⟨rfl, rfl⟩
          go_wp2_with fail
          go_meet
          exact ⟨by rw [HU.out]; rfl, rfl⟩
  obtain ⟨rfl, rfl⟩ := hcut
  cases b0 with
  | false =>
    go_wp2_with fail
    go_ret
    exact ⟨rfl, HC0.out.trans HX.out (fun _ _ e => e)⟩
  | true =>
    cases u with
    | false =>
      go_wp2_with fail
      go_ret
      exact ⟨rfl, HC0.out.trans HX.out (fun _ _ e => e)⟩
    | true =>
      go_wp2_with fail
      go_ret
      exact ⟨ret_b (by simp), HC0.out.trans HX.out (fun _ _ e => e)⟩

theorem ms_bad (kd po ma ow ta ol ge ph ve si pt vr : Int) {l : List Rc} (h : l.all rcR = false) : msR kd po ma ow ta ol ge ph ve si pt vr l = false := by
  have h0 : (l.length == 0) = false := by
    cases l with
    | nil => cases h
    | cons x r => rfl
  unfold msR keptB
  rw [h0, h]
  simp
end Go.Proofs.Ytacbgelbffmngaa
