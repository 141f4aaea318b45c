/-
  Walk: rutterlaw07.DiskSafe. Conditions: the arguments are read in memory.
-/
import Derived.Test.YtmgnnpdogmmopaaLh
namespace Go.Proofs.Ytmgnnpdogmmopaa
open Go.RowKit
set_option linter.unusedVariables false
set_option linter.unusedSimpArgs false

theorem dx_da {W w : World} {p q r : Nat} (h : DX W p q r w) : ∃ bs s, DA W p bs s r w ∧ s ≤ bs.length ∧ bs.length ≤ r := by
  obtain ⟨bs, s, o1, o2, h, h1, h2⟩ := h
  exact ⟨bs, s, ⟨h.chg, h.lo1, o1, h.f1, fun k hk => (h.ol1 k hk).1⟩, h1, h2⟩

set_option maxRecDepth 100000 in
set_option maxHeartbeats 8000000 in
theorem safe7_any (keep : Int) (L : Option Addr) (m lc : Nat) (l : List At7) (W : World) (hl : AR7 W (fun k => k < W.heap.size) L m l) (hmc : m ≤ 9223372036854775807) :
    Calls Try.prog 4 #[.slice L m lc, .int .i64 keep] W fun e w' => e = .returned (.bool true) ∧ Chg (fun _ => False) W w' := by
  have HF := Lib.hid (fits7_any L m lc l W _ hl hmc)
  have HAL := Lib.hid alive7_any
  go_enter Try.func4, Try.ntmps4
  go_wp2_with fail
  refine HF.out.mono ?_
  rintro e w0 ⟨b, rfl, hb, rfl⟩
  clear HF
  cases b with
  | false =>
    clear hb
    go_wp2_with fail
    refine (HAL.out _).mono ?_
    rintro e w1 ⟨rfl, hc⟩
    go_wp2_with fail
    go_ret
    exact ⟨rfl, hc⟩
  | true =>
    have HS := Lib.hid (hb rfl)
    clear hb
    have HN := Lib.hid (new7_ok 2500 W (by decide))
    go_wp2_with fail
    refine HN.out.mono ?_
    rintro e w1 ⟨rfl, hf1, hsz, hc1⟩
    have HD0 := Lib.hid (dx_start hf1 hsz hc1)
    clear HN hf1 hsz hc1
    have HL := Lib.hid hl
    clear hl
    go_wp2_with fail
    go_loopg [9] m (fun g i wr => ∃ j : Nat, g = m - j ∧ j ≤ m ∧ i = .int .i64 (j : Int) ∧ Hid (DX W W.heap.size w1.heap.size 2500 wr))
    case atStart => exact ⟨0, rfl, Nat.zero_le _, rfl, HD0⟩
    case round =>
      obtain ⟨j, rfl, hj, rfl, HD⟩ := hrel
      by_cases hlt : j < m
      · obtain ⟨_, _, _, _, hdf, -⟩ := HD.out
        have HC := Lib.hid hdf.chg
        clear hdf
        have hll := HL.out.1
        obtain ⟨ad, rfl, -⟩ := HL.out.2 (by omega)
        have hx : l[j]? = some (l[j]'(by omega)) := List.getElem?_eq_getElem (by omega)
        obtain ⟨-, -, -, hk, hq, -, hrb⟩ := HL.out.at hx
        obtain ⟨z0, z1, z2, -⟩ := (HL.out.chg HC.out (S' := fun _ => False) (fun _ _ => id)).at hx
        have hq3 := HS.out j _ hx
        generalize l[j] = x at *
        have HST := Lib.hid (step7_any x.k x.n x.BA x.bq x.bc x.b W.heap.size w1.heap.size 2500 W wr HD.out (by decide) hk hq (by omega) hrb)
        clear hx hk hq hrb hq3 hll HC
        go_wp2_with fail
        refine HST.out.mono ?_
        rintro e w2 ⟨rfl, hd2⟩
        have HD2 := Lib.hid hd2
        clear hd2 HST HD
        go_wp2_with fail
        go_roundg (m - (j + 1))
        case measure => omega
        case rel => exact ⟨j + 1, rfl, by omega, by go_num, HD2⟩
      · obtain ⟨bs, s, hda, hs, hb⟩ := dx_da HD.out
        have HBY := Lib.hid (da_bytes hda hb (by decide))
        obtain ⟨hC, hlo, o, hf, hol⟩ := hda
        have hlt := hf.lt
        have HLT := Lib.hid hlt
        have HFI := Lib.hid hf
        have HC := Lib.hid hC
        have HLO := Lib.hid hlo
        have HOL := Lib.hid hol
        clear hC hlo hf hol hlt HD HS HD0 HL
        go_wp2_with fail
        refine HBY.out.mono ?_
        rintro e w2 ⟨A1, c1, rfl, hr1, hc1, hm1, hg⟩
        have hf2 := HFI.out.chg hg id (fun _ _ => id)
        have hC2 := HC.out.trans hg (fun _ _ e => e)
        have HSF := Lib.hid (dsafe_any _ o bs s 2500 w2 hf2)
        have hN1 : s ≤ crN bs s keep := Nat.le_add_right _ _
        have hN2 : crN bs s keep ≤ bs.length := by unfold crN; omega
        have hN3 : keep ≤ 0 → crN bs s keep = s := fun h => by unfold crN; omega
        have hlen : (bs.take (crN bs s keep)).length = crN bs s keep := by rw [List.length_take]; omega
        have HCR := Lib.hid (dcrash_any _ o bs s 2500 keep w2 hf2 hs hb (by decide))
        have HC2 := Lib.hid hC2
        have HR1 := Lib.hid hr1
        generalize crN bs s keep = N at *
        have HN3 := Lib.hid hN3
        have HLEN := Lib.hid hlen
        clear hr1 hg HBY hf2 hC2 hN3 hlen HC
        go_wp2_with fail
        refine HSF.out.mono ?_
        rintro e w3 ⟨rfl, rfl⟩
        clear HSF
        go_wp2_with fail
        refine HCR.out.mono ?_
        rintro e w4 ⟨rfl, hf4, hm4⟩
        have HA4 := Lib.hid (da_set HC2.out HLO.out HOL.out hf4 hm4)
        have HR4 := Lib.hid (HR1.out.chg hm4.1 (fun k hk e => by
          have h1 := HLT.out.1
          rcases e with e | e
          · omega
          · have := HLT.out.2 k e
            omega))
        have HBY := Lib.hid (da_bytes HA4.out (by have := HLEN.out; omega) (by decide))
        rw [HLEN.out] at HBY
        clear hf4 hm4 HCR HR1 HC2 HFI HLO HOL HLT
        go_wp2_with fail
        refine HBY.out.mono ?_
        rintro e w5 ⟨A2, c2, rfl, hr5, hc5, hm5, hg5⟩
        have htk := HR4.out.take N hN2
        rw [← bcs_take7] at htk
        have HKEEP := Lib.hid (fun (w' : World) (hw : Chg (fun _ => False) w5 w') => (show ((convert 30 9 (.slice A2 N c2)).run Try.prog w' = .ok (.string ⟨(bs.take N).toArray⟩) w' ∧ (convert 30 9 (.slice A1 N c1)).run Try.prog w' = .ok (.string ⟨(bs.take N).toArray⟩) w') from
          ⟨conv7 (hr5.chg hw (fun _ _ => id)), conv7 (htk.chg (hg5.trans hw (fun _ _ e => e)) (fun _ _ => id))⟩))
        have HA5 := Lib.hid (HA4.out.new hg5)
        have HSF := Lib.hid (fun (w' : World) (hw : Chg (fun _ => False) w5 w') => da_safe (HA5.out.new hw))
        have HX := Lib.hid (Chg.refl (fun _ => False) w5).drew
        have hcap : N ≤ c1 := by omega
        have e1 : IntKind.i64.wrap ((bs.length : Int) - (N : Int)) = (bs.length : Int) - (N : Int) := IntWalk.i64_in _ (by omega)
        have n1 : ¬ bs.length < s := by omega
        have n2 : ¬ N < s := by omega
        have n3 : ¬ bs.length < N := by omega
        clear hr5 htk hg5 HBY HR4 HA4
        go_wp2_with fail
        go_region_held3 (fun w' => (convert 30 9 (.slice A2 N c2)).run Try.prog w' = .ok (.string ⟨(bs.take N).toArray⟩) w' ∧ (convert 30 9 (.slice A1 N c1)).run Try.prog w' = .ok (.string ⟨(bs.take N).toArray⟩) w')
          (first | with_reducible exact HKEEP.out _ HX.out | fail)
          (first
            | (go_at_call 13; (with_reducible refine (HSF.out _ HX.out).mono ?_); rintro e wz ⟨rfl, rfl⟩)
            | fail)
        have HXX := Lib.hid (HA5.out.1.trans HX.out (fun _ _ e => e))
        clear HKEEP HSF HA5 HX n1 n2 n3 HLEN hcap
        by_cases hk : 0 < keep
        · go_wp2_with fail
          refine (HAL.out _).mono ?_
          rintro e w6 ⟨rfl, hc6⟩
          go_wp2_with fail
          go_ret
          exact ⟨rfl, HXX.out.trans hc6 (fun _ _ e => e)⟩
        · have hNs : N = s := HN3.out (by omega)
          subst hNs
          go_wp2_with fail
          refine (HAL.out _).mono ?_
          rintro e w6 ⟨rfl, hc6⟩
          go_wp2_with fail
          go_ret
          exact ⟨rfl, HXX.out.trans hc6 (fun _ _ e => e)⟩

end Go.Proofs.Ytmgnnpdogmmopaa
