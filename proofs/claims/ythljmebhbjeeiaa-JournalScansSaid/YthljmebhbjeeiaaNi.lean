/-
  Walk: rutterlaw08.JournalScans. Condition: the arguments are read in memory.
-/
import Derived.Test.YthljmebhbjeeiaaNh
namespace Go.Proofs.Ythljmebhbjeeiaa
open Go.RowKit
set_option linter.unusedVariables false
set_option linter.unusedSimpArgs false

set_option maxHeartbeats 1000000 in
theorem scans8_big (A B : Option Addr) (n m c d : Nat) (W : World) (h : 3000 < n ∨ 3000 < m) (hn : n ≤ 9223372036854775807) (hm : m ≤ 9223372036854775807) :
    Calls Try.prog 4 #[.slice A n c, .slice B m d] W fun e w' => e = .returned (.bool true) ∧ Chg (fun _ => False) W w' := by
  have HAL := Lib.hid (alive8_any W)
  by_cases h1 : 3000 < n
  · clear h
    go_enter Try.func4, Try.ntmps4
    go_wp2_with fail
    refine HAL.out.mono ?_
    rintro e w1 ⟨rfl, hc⟩
    go_wp2_with fail
    go_ret
    exact ⟨rfl, hc⟩
  · have h2 : 3000 < m := by omega
    clear h
    go_enter Try.func4, Try.ntmps4
    go_wp2_with fail
    refine HAL.out.mono ?_
    rintro e w1 ⟨rfl, hc⟩
    go_wp2_with fail
    go_ret
    exact ⟨rfl, hc⟩

set_option maxRecDepth 100000 in
set_option maxHeartbeats 4000000 in
theorem scans8_any (A B : Option Addr) (n m c d : Nat) (b x : List UInt8) (S S2 : Nat → Prop) (W : World) (hn : n = b.length) (hr : Rds W S A n (bcs b)) (hz : A = none → c = 0) (hnc : n ≤ c) (hcm : c ≤ maxLen) (h30 : n ≤ 3000)
    (hm : m = x.length) (hr2 : Rds W S2 B m (bcs x)) (h31 : m ≤ 3000) :
    Calls Try.prog 4 #[.slice A n c, .slice B m d] W fun e w' => e = .returned (.bool true) ∧ Chg (fun _ => False) W w' := by
  have HAL := Lib.hid alive8_any
  have HS := Lib.hid (jscan_any A n c b S W hn hr hz (by omega))
  have HR := Lib.hid hr.old
  have HR2 := Lib.hid hr2.old
  have HN := Lib.hid hn
  have HM := Lib.hid hm
  have HCM := Lib.hid hcm
  have n1 : ¬ 3000 < n := by omega
  have n2 : ¬ 3000 < m := by omega
  clear hn hr hr2 hm hz hcm
  go_enter Try.func4, Try.ntmps4
  go_wp2_with fail
  refine HS.out.mono ?_
  rintro e w1 ⟨A1, m1, c1, vs1, rfl, hm1, hown1, hbl1, hc1⟩
  have HL1 := Lib.hid (ll_own hown1 hbl1)
  have HC1 := Lib.hid hc1
  have HM1 := Lib.hid hm1
  clear hown1 hbl1 hc1 hm1 HS
  have HS := Lib.hid (rscan_any A n c b _ w1 HN.out (HR.out.chg HC1.out (fun _ _ => id)) hnc HCM.out (by omega))
  go_wp2_with fail
  refine HS.out.mono ?_
  rintro e w2 ⟨A2, m2, c2, vs2, rfl, hm2, hown2, hbl2, hc2⟩
  have HL2 := Lib.hid (ll_own hown2 hbl2)
  have HC2 := Lib.hid (HC1.out.trans hc2 (fun _ _ e => e))
  have hmm : m1 = m2 := by rw [HM1.out, hm2]
  subst hmm
  have hml : m1 ≤ 9223372036854775807 := by
    have h1 := used_le b
    have h2 : ∀ l : List (List UInt8), l.length ≤ (recs8 l).length := fun l => by
      induction l with
      | nil => exact Nat.zero_le _
      | cons x l ih => rw [recs_cons, List.length_append, recB_len, List.length_cons]; omega
    have h3 := h2 (scan8 b)
    have h4 := HM1.out
    have h5 := HN.out
    unfold used8 at h1
    omega
  have HSA := Lib.hid (same8_eq A1 A2 m1 c1 c2 (scan8 b) _ _ w2 (HL1.out.new hc2) HL2.out hml)
  clear hown2 hbl2 hc2 hm2 HS HM1 HL1 HL2 hml HCM HC1
  go_wp2_with fail
  refine HSA.out.mono ?_
  rintro e w3 ⟨rfl, hc3⟩
  have HC3 := Lib.hid (HC2.out.trans hc3 (fun _ _ e => e))
  clear hc3 HSA HC2
  by_cases hb : m = 0 ∨ 200 < m
  · have HE := Lib.hid (jenc_bad B m d w3 hb (by omega))
    have HE2 := Lib.hid (renc_bad B m d w3 hb (by omega))
    clear hb
    go_wp2_with fail
    refine HE.out.mono ?_
    rintro e w4 ⟨rfl, rfl⟩
    go_wp2_with fail
    refine HE2.out.mono ?_
    rintro e w4 ⟨rfl, rfl⟩
    clear HE HE2
    go_wp2_with fail
    refine (HAL.out _).mono ?_
    rintro e w4 ⟨rfl, hc4⟩
    have HC4 := Lib.hid (HC3.out.trans hc4 (fun _ _ e => e))
    have k1 : (convert 35 9 (.slice none 0 0)).run Try.prog w4 = .ok (.string ⟨([] : List UInt8).toArray⟩) w4 := conv8 (Rds.nil w4 (fun _ => True) none)
    have HS1 := Lib.hid (sum_any B m d x _ w4 HM.out (HR2.out.chg HC4.out (fun _ _ => id)) (by omega))
    have HS2 := Lib.hid (rsum_any B m d x _ w4 HM.out (HR2.out.chg HC4.out (fun _ _ => id)) (by omega))
    clear hc4
    go_wp2_with fail
    refine HS1.out.mono ?_
    rintro e w5 ⟨rfl, rfl⟩
    go_wp2_with fail
    refine HS2.out.mono ?_
    rintro e w5 ⟨rfl, rfl⟩
    go_wp2_with fail
    go_ret
    exact ⟨by simp, HC4.out⟩
  · have HBK : Hid (Bok x) := Lib.hid ⟨by have := HM.out; omega, by have := HM.out; omega⟩
    have HE := Lib.hid (jenc_ok B m d x _ w3 HM.out (HR2.out.chg HC3.out (fun _ _ => id)) HBK.out)
    clear hb
    go_wp2_with fail
    refine HE.out.mono ?_
    rintro e w4 ⟨X, xc, rfl, hown4, hc4⟩
    have HC4 := Lib.hid (HC3.out.trans hc4 (fun _ _ e => e))
    have HX := Lib.hid (own_rds hown4)
    have HE2 := Lib.hid (renc_ok B m d x _ w4 HM.out (HR2.out.chg HC4.out (fun _ _ => id)) HBK.out)
    clear HE hown4 hc4 HC3
    go_wp2_with fail
    refine HE2.out.mono ?_
    rintro e w5 ⟨Y, yc, rfl, hown5, hc5⟩
    have HC5 := Lib.hid (HC4.out.trans hc5 (fun _ _ e => e))
    have HX5 := Lib.hid (HX.out.chg hc5 (fun _ _ => id))
    have HY5 := Lib.hid (own_rds hown5)
    clear HE2 hown5 hc5 HC4 HX
    go_wp2_with fail
    refine (HAL.out _).mono ?_
    rintro e w6 ⟨rfl, hc6⟩
    have HC6 := Lib.hid (HC5.out.trans hc6 (fun _ _ e => e))
    have k1 := conv8 (c := xc) (HX5.out.chg hc6 (S' := fun _ => False) (fun _ _ => id))
    have k2 := conv8 (c := yc) (HY5.out.chg hc6 (S' := fun _ => False) (fun _ _ => id))
    have HS1 := Lib.hid (sum_any B m d x _ w6 HM.out (HR2.out.chg HC6.out (fun _ _ => id)) (by omega))
    have HS2 := Lib.hid (rsum_any B m d x _ w6 HM.out (HR2.out.chg HC6.out (fun _ _ => id)) (by omega))
    clear hc6 HC5 HX5 HY5
    go_wp2_with fail
    refine HS1.out.mono ?_
    rintro e w7 ⟨rfl, rfl⟩
    go_wp2_with fail
    refine HS2.out.mono ?_
    rintro e w7 ⟨rfl, rfl⟩
    go_wp2_with fail
    go_ret
    exact ⟨by simp, HC6.out⟩

end Go.Proofs.Ythljmebhbjeeiaa
