/-
  Walks: rutterref05.In, Right. Conditions: none but the number of bytes.
-/
import Derived.Test.YtacbgelbffmngaaQa
import Derived.Deep.DeepCutAuto
namespace Go.Proofs.Ytacbgelbffmngaa
open Go.RowKit
set_option linter.unusedVariables false

def inB (x lo hi : Int) : Bool := decide (lo ≤ x) && decide (x ≤ hi)
set_option maxRecDepth 100000 in
set_option maxHeartbeats 400000 in
theorem in_any (x lo hi : Int) (w : World) : Calls Try.prog 54 #[.int .i64 x, .int .i64 lo, .int .i64 hi] w fun e w' => e = .returned (.bool (inB x lo hi)) ∧ w = w' := by
  by_cases h : lo ≤ x
  · have hR := Lib.hid (show inB x lo hi = decide (x ≤ hi) by unfold inB; simp [h])
    go_enter Try.func54, Try.ntmps54
    go_wp2_with fail
    go_ret
    exact ⟨ret_b hR.out.symm, rfl⟩
  · have hR := Lib.hid (show inB x lo hi = false by unfold inB; simp [h])
    go_enter Try.func54, Try.ntmps54
    go_wp2_with fail
    go_ret
    exact ⟨ret_b hR.out.symm, rfl⟩

def whoB5 (o f t : Int) : Bool := inB o 0 15 && (inB f 0 15 && (inB t 0 15 && (f != t)))
def restB (p g i : Int) (n : Nat) : Bool := inB p 0 31 && (inB g 1 4294967296 && (inB i 0 1099511627776 && inB (n : Int) 14 1514))
def kindB (k o f t : Int) : Bool := (k == 1 && f == o) || (k == 2 && (f != o && t != o))
theorem pkR_three (k o f t p g i : Int) (n : Nat) : pkR k o f t p g i n = (whoB5 o f t && (restB p g i n && kindB k o f t)) := by
  have e1 : withinB 0 15 [o, f, t] = (inB o 0 15 && (inB f 0 15 && (inB t 0 15 && true))) := rfl
  have e2 : withinB 0 31 [p] = (inB p 0 31 && true) := rfl
  have e3 : withinB 1 4294967296 [g] = (inB g 1 4294967296 && true) := rfl
  have e4 : withinB 0 1099511627776 [i] = (inB i 0 1099511627776 && true) := rfl
  have e5 : withinB 14 1514 [(n : Int)] = (inB (n : Int) 14 1514 && true) := rfl
  have e6 : goB k o f t = ((f != t) && kindB k o f t) := rfl
  unfold pkR
  rw [e1, e2, e3, e4, e5, e6]
  unfold whoB5 restB
  simp only [Bool.and_true]
  generalize kindB k o f t = x1
  generalize (f != t) = x2
  generalize inB o 0 15 = x3
  generalize inB f 0 15 = x4
  generalize inB t 0 15 = x5
  generalize inB p 0 31 = x6
  generalize inB g 1 4294967296 = x7
  generalize inB i 0 1099511627776 = x8
  generalize inB (n : Int) 14 1514 = x9
  ac_rfl
set_option maxRecDepth 100000 in
set_option maxHeartbeats 2000000 in
theorem rright5_any (k o f t p g i : Int) (A : Option Addr) (n c : Nat) (w : World) (hn : n ≤ 9223372036854775807) :
    Calls Try.prog 31 #[.agg (pkC k o f t p g i A n c)] w fun e w' => e = .returned (.bool (pkR k o f t p g i n)) ∧ Chg (fun _ => False) w w' := by
  have HC0 := Lib.hid ((Chg.refl (fun _ => False) w).alloc (.cells #[.int .i64 k, .int .i64 o, .int .i64 f, .int .i64 t, .int .i64 p, .int .i64 g, .int .i64 i, .slice A n c] 37))
  have hio := fun W => in_any o 0 15 W
  have hif := fun W => in_any f 0 15 W
  have hit := fun W => in_any t 0 15 W
  have hip := fun W => in_any p 0 31 W
  have hig := fun W => in_any g 1 4294967296 W
  have hii := fun W => in_any i 0 1099511627776 W
  have hin := fun W => in_any (n : Int) 14 1514 W
  have hw1 : whoB5 o f t = (inB o 0 15 && (inB f 0 15 && (inB t 0 15 && (f != t)))) := rfl
  have hw2 : restB p g i n = (inB p 0 31 && (inB g 1 4294967296 && (inB i 0 1099511627776 && inB (n : Int) 14 1514))) := rfl
  have hw3 : kindB k o f t = ((k == 1 && f == o) || (k == 2 && (f != o && t != o))) := rfl
  generalize inB o 0 15 = b1 at hio hw1
  generalize inB f 0 15 = b2 at hif hw1
  generalize inB t 0 15 = b3 at hit hw1
  generalize inB p 0 31 = b4 at hip hw2
  generalize inB g 1 4294967296 = b5 at hig hw2
  generalize inB i 0 1099511627776 = b6 at hii hw2
  generalize inB (n : Int) 14 1514 = b7 at hin hw2
  rw [pkR_three]
  generalize whoB5 o f t = u1 at *
  generalize restB p g i n = u2 at *
  generalize kindB k o f t = u3 at *
  have HIO := Lib.hid hio
  have HIF := Lib.hid hif
  have HIT := Lib.hid hit
  have HIP := Lib.hid hip
  have HIG := Lib.hid hig
  have HII := Lib.hid hii
  have HIN := Lib.hid hin
  have HW1 := Lib.hid hw1
  have HW2 := Lib.hid hw2
  have HW3 := Lib.hid hw3
  clear hio hif hit hip hig hii hin hw1 hw2 hw3
  unfold pkC at *
  go_enter Try.func31, Try.ntmps31
  go_upto_region 1 with fail
  go_cut [3] (fun s3 wx => s3 = .bool u1 ∧ wx = w.alloc (.cells #[.int .i64 k, .int .i64 o, .int .i64 f, .int .i64 t, .int .i64 p, .int .i64 g, .int .i64 i, .slice A n c] 37))
  case first =>
    cases b1 with
    | false =>
      go_wp2_with fail
      refine (HIO.out _).mono ?_
      rintro e w' ⟨rfl, rfl⟩
      go_wp2_with fail
      go_meet
      exact ⟨by rw [HW1.out]; rfl, rfl⟩
    | true =>
      cases b2 with
      | false =>
        go_wp2_with fail
        refine (HIO.out _).mono ?_
        rintro e w' ⟨rfl, rfl⟩
        go_wp2_with fail
        refine (HIF.out _).mono ?_
        rintro e w' ⟨rfl, rfl⟩
        go_wp2_with fail
        go_meet
        exact ⟨by rw [HW1.out]; rfl, rfl⟩
      | true =>
        cases b3 with
        | false =>
          go_wp2_with fail
          refine (HIO.out _).mono ?_
          rintro e w' ⟨rfl, rfl⟩
          go_wp2_with fail
          refine (HIF.out _).mono ?_
          rintro e w' ⟨rfl, rfl⟩
          go_wp2_with fail
          refine (HIT.out _).mono ?_
          rintro e w' ⟨rfl, rfl⟩
          go_wp2_with fail
          go_meet
          exact ⟨by rw [HW1.out]; rfl, rfl⟩
        | true =>
          go_wp2_with fail
          refine (HIO.out _).mono ?_
          rintro e w' ⟨rfl, rfl⟩
          go_wp2_with fail
          refine (HIF.out _).mono ?_
          rintro e w' ⟨rfl, rfl⟩
          go_wp2_with fail
          refine (HIT.out _).mono ?_
          rintro e w' ⟨rfl, rfl⟩
          go_wp2_with fail
          go_meet
          exact ⟨by rw [HW1.out]; rfl, rfl⟩
  obtain ⟨rfl, rfl⟩ := hcut
  clear HIO HIF HIT HW1
  go_upto_region 2 with fail
  go_cut [4] (fun s4 wx => s4 = .bool u2 ∧ wx = w.alloc (.cells #[.int .i64 k, .int .i64 o, .int .i64 f, .int .i64 t, .int .i64 p, .int .i64 g, .int .i64 i, .slice A n c] 37))
  case first =>
    cases b4 with
    | false =>
      go_wp2_with fail
      refine (HIP.out _).mono ?_
      rintro e w' ⟨rfl, rfl⟩
      go_wp2_with fail
      go_meet
      exact ⟨by rw [HW2.out]; rfl, rfl⟩
    | true =>
      cases b5 with
      | false =>
        go_wp2_with fail
        refine (HIP.out _).mono ?_
        rintro e w' ⟨rfl, rfl⟩
        go_wp2_with fail
        refine (HIG.out _).mono ?_
        rintro e w' ⟨rfl, rfl⟩
        go_wp2_with fail
        go_meet
        exact ⟨by rw [HW2.out]; rfl, rfl⟩
      | true =>
        cases b6 with
        | false =>
          go_wp2_with fail
          refine (HIP.out _).mono ?_
          rintro e w' ⟨rfl, rfl⟩
          go_wp2_with fail
          refine (HIG.out _).mono ?_
          rintro e w' ⟨rfl, rfl⟩
          go_wp2_with fail
          refine (HII.out _).mono ?_
          rintro e w' ⟨rfl, rfl⟩
          go_wp2_with fail
          go_meet
          exact ⟨by rw [HW2.out]; rfl, rfl⟩
        | true =>
          go_wp2_with fail
          refine (HIP.out _).mono ?_
          rintro e w' ⟨rfl, rfl⟩
          go_wp2_with fail
          refine (HIG.out _).mono ?_
          rintro e w' ⟨rfl, rfl⟩
          go_wp2_with fail
          refine (HII.out _).mono ?_
          rintro e w' ⟨rfl, rfl⟩
          go_wp2_with fail
          refine (HIN.out _).mono ?_
          rintro e w' ⟨rfl, rfl⟩
          go_wp2_with fail
          go_meet
          exact ⟨by rw [HW2.out]; rfl, rfl⟩
  obtain ⟨rfl, rfl⟩ := hcut
  clear HIP HIG HII HIN HW2
  go_upto_region 3 with fail
  go_cut [5] (fun s5 wx => s5 = .bool u3 ∧ wx = w.alloc (.cells #[.int .i64 k, .int .i64 o, .int .i64 f, .int .i64 t, .int .i64 p, .int .i64 g, .int .i64 i, .slice A n c] 37))
  case first =>
    by_cases h2 : k = 1
    · subst h2
      by_cases h3 : f = o
      · subst h3
        have hR := Lib.hid (show u3 = true by rw [HW3.out]; simp)
        go_wp2_with fail
        go_meet
        exact ⟨congrArg Value.bool hR.out.symm, rfl⟩
      · have t3 : (f == o) = false := by simpa using h3
        have hR := Lib.hid (show u3 = false by rw [HW3.out]; simp [t3])
        clear h3
        go_wp2_with fail
        go_meet
        exact ⟨congrArg Value.bool hR.out.symm, rfl⟩
    · have t2 : (k == 1) = false := by simpa using h2
      by_cases h3 : k = 2
      · subst h3
        by_cases h4 : f = o
        · subst h4
          have hR := Lib.hid (show u3 = false by rw [HW3.out]; simp)
          clear h2
          go_wp2_with fail
          go_meet
          exact ⟨congrArg Value.bool hR.out.symm, rfl⟩
        · have t4 : (f == o) = false := by simpa using h4
          have s4 : (f != o) = true := by simpa using h4
          have hR := Lib.hid (show u3 = (t != o) by rw [HW3.out, s4]; simp)
          clear h2 h4
          go_wp2_with fail
          go_meet
          exact ⟨congrArg Value.bool hR.out.symm, rfl⟩
      · have t3 : (k == 2) = false := by simpa using h3
        have hR := Lib.hid (show u3 = false by rw [HW3.out, t2, t3]; rfl)
        clear h2 h3
        go_wp2_with fail
        go_meet
        exact ⟨congrArg Value.bool hR.out.symm, rfl⟩
  obtain ⟨rfl, rfl⟩ := hcut
  clear HW3
  cases u1 with
  | false =>
    go_wp2_with fail
    go_ret
    exact ⟨rfl, HC0.out⟩
  | true =>
    cases u2 with
    | false =>
      go_wp2_with fail
      go_ret
      exact ⟨rfl, HC0.out⟩
    | true =>
      go_wp2_with fail
      go_ret
      exact ⟨ret_b (by simp), HC0.out⟩

set_option maxRecDepth 100000 in
set_option maxHeartbeats 400000 in
theorem fits5_any (k o f t p g i : Int) (A : Option Addr) (n c : Nat) (w : World) (hn : n ≤ 9223372036854775807) :
    Calls Try.prog 14 #[.agg (pkC k o f t p g i A n c)] w fun e w' => e = .returned (.bool (decide (n ≤ 3000))) ∧ Chg (fun _ => False) w w' := by
  have hC := (Chg.refl (fun _ => False) w).alloc (.cells #[.int .i64 k, .int .i64 o, .int .i64 f, .int .i64 t, .int .i64 p, .int .i64 g, .int .i64 i, .slice A n c] 37)
  unfold pkC
  go_enter Try.func14, Try.ntmps14
  go_wp2_with fail
  go_ret
  exact ⟨ret_b (by simp; try omega), hC⟩

end Go.Proofs.Ytacbgelbffmngaa
