/-
  ModelPlays: the walk. Conditions: the acts lie in memory.
-/
import Derived.Test.YtimgnogacanifaaGreatBt
import Derived.Test.YtimgnogacanifaaGreatMC
import Derived.Deep.LoopGhost
namespace Go.Proofs.YtimgnogacanifaaGreat
open Go.RowKit
set_option linter.unusedVariables false
set_option linter.unusedSimpArgs false

set_option maxRecDepth 100000 in
set_option maxHeartbeats 16000000 in
theorem plays20_any (span : Int) (L : Option Addr) (m lc : Nat) (l : List At20) (w : World) (h : AR20 w L m l) (hmc : m ≤ 9223372036854775807) : Calls Tryz.prog 3 #[.int .i64 span, .slice L m lc] w fun e w' => e = .returned (.bool true) ∧ Chg (fun _ => False) w w' := by
  have HL := Lib.hid h
  have HLN := Lib.hid h.1
  clear h
  by_cases hbig : 150 < m
  · go_enter Tryz.func3, Tryz.ntmps3
    go_wp2_with fail
    refine (alive20_any w).mono ?_
    rintro e w1 ⟨rfl, hc⟩
    have HC := Lib.hid hc
    clear hc
    go_wp2_with fail
    go_ret
    exact ⟨rfl, HC.out⟩
  · have hm150 : m ≤ 150 := by omega
    by_cases hs : 1 ≤ span ∧ span ≤ 2147483648
    · have hs1 : ¬ span < 1 := by omega
      have hs2 : ¬ 2147483648 < span := by omega
      go_enter Tryz.func3, Tryz.ntmps3
      go_wp2_with fail
      refine (new20_any span hs w).mono ?_
      rintro e w1 ⟨p, ps, bc, br, rfl, hm, hc⟩
      have HM0 := Lib.hid hm
      have HX0 := Lib.hid hc
      clear hm hc
      go_wp2_with fail
      refine (begin20_any span w1).mono ?_
      rintro e w2 ⟨q, qs, rfl, hd, hc⟩
      have HX := Lib.hid (HX0.out.trans hc (fun _ _ e => e))
      have HT : Hid (T20 w.heap.size w2 p ps bc br q qs ⟨fun _ => false, fun _ => none, span, 0⟩) := Lib.hid ⟨HM0.out.keep hc, hd.low HX0.out.size, WF.start, hs⟩
      clear hd hc HM0 HX0
      go_wp2_with fail
      go_loopg [5, 7, 8, 9, 10, 11, 12, 13, 14] m (fun g s5 s7 i s9 s10 s11 s12 s13 s14 wr => ∃ (j p ps bc br q qs : Nat) (x : MV20), g = m - j ∧ j ≤ m ∧ i = .int .i64 (j : Int) ∧ s5 = .pointer (some ⟨p, 0, none⟩) ∧ s7 = .pointer (some ⟨q, 0, none⟩) ∧ Hid (T20 w.heap.size wr p ps bc br q qs x) ∧ Hid (Chg (fun _ => False) w wr))
      case atStart => exact ⟨0, p, ps, bc, br, q, qs, _, rfl, Nat.zero_le _, rfl, rfl, rfl, HT, HX⟩
      case round =>
        clear HT HX
        obtain ⟨j, p, ps, bc, br, q, qs, x, rfl, hj, rfl, rfl, rfl, HT, HX⟩ := hrel
        by_cases hlt : j < m
        · have hh := HL.out.chg HX.out (fun _ _ => id)
          obtain ⟨ad, rfl, hadb, -⟩ := hh.2 (by omega)
          have hjl : j < l.length := by have := HLN.out; omega
          have hx : l[j]? = some l[j] := List.getElem?_eq_getElem hjl
          generalize l[j] = a at *
          obtain ⟨hcel, hk⟩ := hh.at hx
          have HLX := Lib.hid hx
          obtain ⟨k, op, po, ch, ma, who, ver, now⟩ := a
          change 0 ≤ k ∧ k ≤ 255 at hk
          clear hh hjl hx
          obtain ⟨z0, z1, z2, z3, z4, z5, z6, z7⟩ := hcel
          have HZ : Hid (∀ W : World, Chg (fun _ => False) w W → (W.cell? (ad.add (j * 8)) = some (.int .u8 k) ∧ W.cell? ⟨(ad.add (j * 8)).block, (ad.add (j * 8)).off + 1, none⟩ = some (.int .i64 op) ∧ W.cell? ⟨(ad.add (j * 8)).block, (ad.add (j * 8)).off + 2, none⟩ = some (.int .i64 po) ∧ W.cell? ⟨(ad.add (j * 8)).block, (ad.add (j * 8)).off + 3, none⟩ = some (.int .i64 ch) ∧ W.cell? ⟨(ad.add (j * 8)).block, (ad.add (j * 8)).off + 4, none⟩ = some (.int .u64 ma) ∧ W.cell? ⟨(ad.add (j * 8)).block, (ad.add (j * 8)).off + 5, none⟩ = some (.int .i64 who) ∧ W.cell? ⟨(ad.add (j * 8)).block, (ad.add (j * 8)).off + 6, none⟩ = some (.int .i64 ver) ∧ W.cell? ⟨(ad.add (j * 8)).block, (ad.add (j * 8)).off + 7, none⟩ = some (.int .i64 now))) := Lib.hid (fun W hW => ((HL.out.chg hW (fun _ _ => id)).at HLX.out).1)
          by_cases h12 : k % 13 = 12
          · have t12 : (k % 13 == 12) = true := by simpa using h12
            have HLT := Lib.hid (And.intro HT.out.mm.lt HT.out.dm.lt)
            have HBW := Lib.hid HX.out.size
            go_wp2_with fail
            refine (clone20_any HT.out.mm HT.out.ok.1).mono ?_
            rintro e w3 ⟨p2, ps2, bc2, br2, rfl, hm2, hc⟩
            have HB2 := Lib.hid hc.size
            have HM2 := Lib.hid hm2
            replace HT := Lib.hid (HT.out.keep hc)
            replace HX := Lib.hid (HX.out.trans hc (fun _ _ e => e))
            clear z0 z1 z2 z3 z4 z5 z6 z7 hc hm2
            go_wp2_with fail
            refine (rmclone20_any HT.out.dm).mono ?_
            rintro e w4 ⟨q2, qs2, rfl, hd2, hc⟩
            have HD2 := Lib.hid hd2
            replace HM2 := Lib.hid (HM2.out.keep hc)
            replace HT := Lib.hid (HT.out.keep hc)
            replace HX := Lib.hid (HX.out.trans hc (fun _ _ e => e))
            clear hc hd2
            obtain ⟨z0, z1, z2, z3, z4, z5, z6, z7⟩ := HZ.out _ HX.out
            go_wp2_with fail
            refine (do20_any HT.out.mm HT.out.ok.1 op po ch ma).mono ?_
            rintro e w5 ⟨br3, rfl, hm, hc⟩
            have HD := Lib.hid (HT.out.code hc)
            have HM := Lib.hid hm
            have HO2 := Lib.hid (HT.out.ok.do_ op po ch ma)
            replace HM2 := Lib.hid (HM2.out.far hc (by have := HLT.out; omega))
            replace HD2 := Lib.hid (HD2.out.chg hc (fun e => by have h1 := HT.out.mm; have h2 := HD2.out.bq; have h3 := HLT.out; have h4 := HB2.out; unfold Mv20 at e; omega) (fun e => by have h2 := HD2.out.bs; have h3 := HLT.out; have h4 := HB2.out; unfold Mv20 at e; omega))
            replace HX := Lib.hid (HX.out.trans hc (fun k hk e => by have := HT.out.mm.mv k e; omega))
            clear hc hm z0 z1 z2 z3 z4 z5 z6 z7
            obtain ⟨z0, z1, z2, z3, z4, z5, z6, z7⟩ := HZ.out _ HX.out
            go_wp2_with fail
            refine (rmdo20_any HD.out HT.out.ok.1 op po ch ma).mono ?_
            rintro e w6 ⟨qs3, rfl, hm, hc, hq3⟩
            have HQ3 : Hid (qs3 ≠ q2 ∧ qs3 ≠ qs2) := Lib.hid (by have h1 := HD2.out.lt; have h2 := HD2.out.bq; have h3 := HD2.out.bs; have h4 := HLT.out; have h5 := HB2.out; omega)
            replace HM := Lib.hid (HM.out.doc HD.out hc)
            replace HM2 := Lib.hid (HM2.out.doc HD.out hc)
            replace HD2 := Lib.hid (HD2.out.far hc (by have h3 := HLT.out; have h4 := HB2.out; omega))
            replace HX := Lib.hid (HX.out.trans hc (fun k hk e => by have h1 := HD.out.bq; have h2 := HD.out.bs; omega))
            replace HD := Lib.hid hm
            clear hc hm z0 z1 z2 z3 z4 z5 z6 z7
            have HOX := Lib.hid HT.out.ok
            clear HT
            rw [show doM20 ⟨x.C, x.R, x.sp, x.no⟩ op po ch ma = doM20 x op po ch ma from rfl] at HM HD
            generalize (doM20 x op po ch ma).2.2 = y at *
            go_wp2_with fail
            refine (same20_any HM2.out HD2.out HOX.out.1).mono ?_
            rintro e w7 ⟨rfl, hc⟩
            replace HM := Lib.hid (HM.out.keep hc)
            replace HM2 := Lib.hid (HM2.out.keep hc)
            replace HD := Lib.hid (HD.out.keep hc)
            replace HD2 := Lib.hid (HD2.out.keep hc)
            replace HX := Lib.hid (HX.out.trans hc (fun _ _ e => e))
            clear hc
            obtain ⟨z0, z1, z2, z3, z4, z5, z6, z7⟩ := HZ.out _ HX.out
            go_wp2_with fail
            refine (tick20_any HM.out HO2.out.1 HO2.out.2 now).mono ?_
            rintro e w8 ⟨br4, rfl, hm, hc⟩
            have HT3 : Hid (T20 w.heap.size _ p ps bc br3 q qs3 y) := Lib.hid ⟨HM.out, HD.out, HO2.out⟩
            replace HD := Lib.hid (HT3.out.code hc)
            replace HM2 := Lib.hid (HM2.out.far hc (by have := HLT.out; omega))
            replace HD2 := Lib.hid (HD2.out.chg hc (fun e => by have h2 := HD2.out.bq; have h3 := HLT.out; have h4 := HB2.out; unfold Mv20 at e; omega) (fun e => by have h2 := HD2.out.bs; have h3 := HLT.out; have h4 := HB2.out; unfold Mv20 at e; omega))
            replace HX := Lib.hid (HX.out.trans hc (fun k hk e => by have := HM.out.mv k e; omega))
            replace HM := Lib.hid hm
            clear hc hm z0 z1 z2 z3 z4 z5 z6 z7 HT3
            obtain ⟨z0, z1, z2, z3, z4, z5, z6, z7⟩ := HZ.out _ HX.out
            go_wp2_with fail
            refine (rmtick20_any HD.out HO2.out.1 HO2.out.2 now).mono ?_
            rintro e w9 ⟨qs4, rfl, hm, hc, -⟩
            replace HM := Lib.hid (HM.out.doc HD.out hc)
            replace HM2 := Lib.hid (HM2.out.doc HD.out hc)
            replace HD2 := Lib.hid (HD2.out.chg hc (fun e => by have h1 := HQ3.out; have h2 := HD2.out.bq; have h4 := HLT.out; have h5 := HB2.out; omega) (fun e => by have h1 := HQ3.out; have h2 := HD2.out.bs; have h4 := HLT.out; have h5 := HB2.out; omega))
            replace HX := Lib.hid (HX.out.trans hc (fun k hk e => by have h1 := HD.out.bq; have h2 := HD.out.bs; omega))
            replace HD := Lib.hid hm
            clear hc hm z0 z1 z2 z3 z4 z5 z6 z7
            have HO3 := Lib.hid (HO2.out.tick now)
            rw [show tickM20 ⟨y.C, y.R, y.sp, y.no⟩ now = tickM20 y now from rfl] at HM HD
            generalize (tickM20 y now).2 = y2 at *
            go_wp2_with fail
            refine (same20_any HM.out HD.out HO3.out.1).mono ?_
            rintro e wa ⟨rfl, hc⟩
            replace HM2 := Lib.hid (HM2.out.keep hc)
            replace HD2 := Lib.hid (HD2.out.keep hc)
            replace HX := Lib.hid (HX.out.trans hc (fun _ _ e => e))
            clear hc HM HD
            go_wp2_with fail
            refine (same20_any HM2.out HD2.out HOX.out.1).mono ?_
            rintro e wb ⟨rfl, hc⟩
            have HT4 : Hid (T20 w.heap.size wb p2 ps2 bc2 br2 q2 qs2 x) := Lib.hid ⟨(HM2.out.keep hc).low (by have := HBW.out; omega), (HD2.out.keep hc).low (by have h1 := HBW.out; have h2 := HB2.out; omega), HOX.out⟩
            replace HX := Lib.hid (HX.out.trans hc (fun _ _ e => e))
            clear hc HM2 HD2
            go_wp2_with fail
            go_roundg (m - (j + 1))
            case measure => omega
            case rel => exact ⟨j + 1, p2, ps2, bc2, br2, q2, qs2, x, rfl, by omega, by go_num, rfl, rfl, HT4, HX⟩
          · have t12 : (k % 13 == 12) = false := by simpa using h12
            have HS := Lib.hid (step20_any HT.out k op po ch ma who ver now hk)
            go_wp2_with fail
            refine HS.out.mono ?_
            rintro e w3 ⟨br', qs', rfl, ht, hc⟩
            have HT2 := Lib.hid ht
            replace HX := Lib.hid (HX.out.trans hc (fun k hk e => by omega))
            clear z0 z1 z2 z3 z4 z5 z6 z7 hc ht HS HT
            go_wp2_with fail
            refine (same20_any HT2.out.mm HT2.out.dm HT2.out.ok.1).mono ?_
            rintro e w4 ⟨rfl, hc⟩
            replace HT2 := Lib.hid (HT2.out.keep hc)
            replace HX := Lib.hid (HX.out.trans hc (fun _ _ e => e))
            clear hc
            go_wp2_with fail
            go_roundg (m - (j + 1))
            case measure => omega
            case rel => exact ⟨j + 1, p, ps, bc, br', q, qs', _, rfl, by omega, by go_num, rfl, rfl, HT2, HX⟩
        · have : j = m := by omega
          subst this
          clear HT
          go_wp2_with fail
          refine (alive20_any wr).mono ?_
          rintro e w3 ⟨rfl, hc⟩
          replace HX := Lib.hid (HX.out.trans hc (fun _ _ e => e))
          clear hc
          go_wp2_with fail
          refine (none20_any w3).mono ?_
          rintro e w4 ⟨rfl, hc⟩
          replace HX := Lib.hid (HX.out.trans hc (fun _ _ e => e))
          clear hc
          go_wp2_with fail
          go_ret
          exact ⟨rfl, HX.out⟩
    · by_cases hs1 : span < 1
      · go_enter Tryz.func3, Tryz.ntmps3
        go_wp2_with fail
        refine (new20_none span hs w).mono ?_
        rintro e w1 ⟨rfl, rfl⟩
        go_wp2_with fail
        refine (alive20_any w).mono ?_
        rintro e w1 ⟨rfl, hc⟩
        have HC := Lib.hid hc
        clear hc
        go_wp2_with fail
        go_ret
        exact ⟨rfl, HC.out⟩
      · have hs2 : 2147483648 < span := by omega
        go_enter Tryz.func3, Tryz.ntmps3
        go_wp2_with fail
        refine (new20_none span hs w).mono ?_
        rintro e w1 ⟨rfl, rfl⟩
        go_wp2_with fail
        refine (alive20_any w).mono ?_
        rintro e w1 ⟨rfl, hc⟩
        have HC := Lib.hid hc
        clear hc
        go_wp2_with fail
        go_ret
        exact ⟨rfl, HC.out⟩

end Go.Proofs.YtimgnogacanifaaGreat
