/-
  Walk: rutterlaw21.AuditTells. Condition: the events are read in memory.
-/
import Derived.Test.YtmfgbonlhoffaaaDm
import Derived.Test.YtmfgbonlhoffaaaDl
namespace Go.Proofs.Ytmfgbonlhoffaaa
open Go.RowKit
set_option linter.unusedVariables false
set_option linter.unusedSimpArgs false
set_option maxRecDepth 100000 in
set_option maxHeartbeats 4000000 in
theorem tells21_any {w : World} {L : Option Addr} {m lc : Nat} {l : List Ev} (h : EvR w L m l) (hmm : m ≤ 9223372036854775807) (id : Int) : Calls Try.prog 3 #[.slice L m lc, .int .i64 id] w (SayB true w) := by
  have HH := Lib.hid h
  have HAL := Lib.hid (fun W => alive21_any W)
  by_cases hm : 80 < m
  · go_enter Try.func3, Try.ntmps3
    go_wp2_with fail
    refine (HAL.out _).mono ?_
    rintro e w2 ⟨rfl, hc⟩
    go_wp2_with fail
    go_ret
    exact ⟨rfl, hc⟩
  · replace hm : m ≤ 80 := by omega
    have hm2 : ¬ 80 < m := by omega
    have HM := Lib.hid hm
    have H := Lib.hid (Chg.refl (fun _ => False) w)
    go_enter Try.func3, Try.ntmps3
    go_wp2_with fail
    refine (look21_any HH.out HM.out).mono ?_
    rintro e w2 ⟨i, f, rfl, hl, hc⟩
    have HK := Lib.hid hl
    replace H := Lib.hid hc
    clear hl hc
    go_wp2_with fail
    refine (of21_any (HH.out.chg H.out) HM.out).mono ?_
    rintro e w3 ⟨E, d, rfl, hr, hc⟩
    have HR := Lib.hid hr
    replace H := Lib.hid (H.out.trans hc (fun _ _ e => e))
    clear hr hc
    go_wp2_with fail
    refine (rlook21_any HR.out HM.out).mono ?_
    rintro e w4 ⟨i2, f2, rfl, hl, hc⟩
    obtain ⟨rfl, rfl⟩ := HK.out.one hl
    replace H := Lib.hid (H.out.trans hc (fun _ _ e => e))
    clear hl hc
    go_wp2_with fail
    refine (visits21_any (HH.out.chg H.out) HM.out id).mono ?_
    rintro e w5 ⟨A, n, c, rfl, hv, hn, hc⟩
    have HV := Lib.hid hv
    have HN := Lib.hid hn
    replace H := Lib.hid (H.out.trans hc (fun _ _ e => e))
    clear hv hc hn
    go_wp2_with fail
    refine (of21_any (HH.out.chg H.out) HM.out).mono ?_
    rintro e w6 ⟨E2, d2, rfl, hr, hc⟩
    have HR2 := Lib.hid hr
    replace H := Lib.hid (H.out.trans hc (fun _ _ e => e))
    replace HV := Lib.hid (HV.out.chg hc (fun _ _ => (fun e => e)))
    clear hr hc
    go_wp2_with fail
    refine (rvisits21_any HR2.out HM.out id).mono ?_
    rintro e w7 ⟨A2, n2, c2, rfl, hv, hn, hc⟩
    have HV2 := Lib.hid hv
    replace H := Lib.hid (H.out.trans hc (fun _ _ e => e))
    replace HV := Lib.hid (HV.out.chg hc (fun _ _ => (fun e => e)))
    clear hv hc hn
    go_wp2_with fail
    refine (ints21_any A A2 n n2 c c2 _ _ _ _ _ HV.out HV2.out (by have := HN.out; omega)).mono ?_
    rintro e w8 ⟨b, rfl, hb, hc⟩
    obtain rfl := hb rfl
    replace H := Lib.hid (H.out.trans hc (fun _ _ e => e))
    clear hc
    go_wp2_with fail
    refine (HAL.out _).mono ?_
    rintro e w9 ⟨rfl, hc⟩
    replace H := Lib.hid (H.out.trans hc (fun _ _ e => e))
    go_wp2_with fail
    go_ret
    exact ⟨rfl, H.out⟩

end Go.Proofs.Ytmfgbonlhoffaaa
