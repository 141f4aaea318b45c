/-
  Walk: rutterlaw12.TrackBoth. Condition: the acts lie in memory.
-/
import Derived.Test.YtclikcbgeolngaaTn
import Derived.Test.YtclikcbgeolngaaTp
namespace Go.Proofs.Ytclikcbgeolngaa
open Go.RowKit
set_option linter.unusedVariables false
set_option linter.unusedSimpArgs false

set_option maxRecDepth 100000 in
set_option maxHeartbeats 32000000 in
theorem both12_any (lf : Int) (hlf : 0 ≤ lf ∧ lf ≤ 65535) (L : Option Addr) (m lc : Nat) (l : List At12) (x : At12) (w : World) (hnow : -9223372036854775808 ≤ x.now ∧ x.now ≤ 9223372036854775807) (h : AR12 w (fun k => k < w.heap.size) L m l) (hmc : m ≤ 9223372036854775807) : Calls Try.prog 4 #[.int .u16 lf, .slice L m lc, .agg x.cs] w fun e w' => e = .returned (.bool true) ∧ Chg (fun _ => False) w w' := by
  have HAL := Lib.hid (fun W => alive12_any W)
  have hc1 := (Chg.refl (fun _ => False) w).alloc (.cells #[.int .u8 x.k, .int .i64 x.pr, .int .u32 x.sr, .int .u32 x.ds, .int .i64 x.sp, .int .i64 x.dp, .int .i64 x.now, .slice x.A x.n x.c] 37)
  have hc2 := hc1.alloc (.cells #[.int .i64 x.pr, .int .u32 x.sr, .int .u32 x.ds, .int .i64 x.sp, .int .i64 x.dp] 35)
  have HB1 : Hid (Blk (w.alloc (.cells #[.int .u8 x.k, .int .i64 x.pr, .int .u32 x.sr, .int .u32 x.ds, .int .i64 x.sp, .int .i64 x.dp, .int .i64 x.now, .slice x.A x.n x.c] 37)) w.heap.size 37 x.cs) := Lib.hid (blk_new rfl)
  have HF2 : Hid (Blk ((w.alloc (.cells #[.int .u8 x.k, .int .i64 x.pr, .int .u32 x.sr, .int .u32 x.ds, .int .i64 x.sp, .int .i64 x.dp, .int .i64 x.now, .slice x.A x.n x.c] 37)).alloc (.cells #[.int .i64 x.pr, .int .u32 x.sr, .int .u32 x.ds, .int .i64 x.sp, .int .i64 x.dp] 35)) (w.heap.size + 1) 35 (flC x.pr x.sr x.ds x.sp x.dp)) := Lib.hid (blk_new (by simp))
  have HC2 := Lib.hid hc2
  have HB2 := Lib.hid (HB1.out.alloc (.cells #[.int .i64 x.pr, .int .u32 x.sr, .int .u32 x.ds, .int .i64 x.sp, .int .i64 x.dp] 35))
  have HA2 := Lib.hid (h.chg hc2 (fun _ _ => id))
  have HL := Lib.hid h.1
  have HLF := Lib.hid (show 0 ≤ lf + 1 ∧ lf + 1 ≤ 2147483648 by omega)
  have HSZ := Lib.hid (show w.heap.size + 1 < ((w.alloc (.cells #[.int .u8 x.k, .int .i64 x.pr, .int .u32 x.sr, .int .u32 x.ds, .int .i64 x.sp, .int .i64 x.dp, .int .i64 x.now, .slice x.A x.n x.c] 37)).alloc (.cells #[.int .i64 x.pr, .int .u32 x.sr, .int .u32 x.ds, .int .i64 x.sp, .int .i64 x.dp] 35)).heap.size by simp)
  have hcv : IntKind.i64.wrap lf = lf := IntWalk.i64_in _ (by omega)
  have hcw : IntKind.i64.wrap (lf + 1) = lf + 1 := IntWalk.i64_in _ (by omega)
  clear h hc1 hc2
  unfold At12.cs
  go_enter Try.func4, Try.ntmps4
  go_upto_region 1 with fail
  obtain ⟨y0, y1, y2, y3, y4, y5, y6, y7⟩ := act_cells12 HB1.out
  go_upto_region 2 with fail
  generalize ((w.alloc (.cells #[.int .u8 x.k, .int .i64 x.pr, .int .u32 x.sr, .int .u32 x.ds, .int .i64 x.sp, .int .i64 x.dp, .int .i64 x.now, .slice x.A x.n x.c] 37)).alloc (.cells #[.int .i64 x.pr, .int .u32 x.sr, .int .u32 x.ds, .int .i64 x.sp, .int .i64 x.dp] 35)) = w2 at *
  generalize w.heap.size + 1 = F at *
  clear y0 y1 y2 y3 y4 y5 y6 y7
  obtain ⟨y0, y1, y2, y3, y4, y5, y6, y7⟩ := act_cells12 HB2.out
  have HFT := Lib.hid (fits12_any L m lc l w2 _ HA2.out hmc)
  go_wp2_with fail
  clear y0 y1 y2 y3 y4 y5 y6 y7
  refine HFT.out.mono ?_
  rintro e w3 ⟨bb, rfl, hb, rfl⟩
  have HB := Lib.hid hb
  clear hb HFT
  have HNW := Lib.hid (tnew_ok (lf + 1) (by omega) (by omega) w2)
  go_wp2_with fail
  refine HNW.out.mono ?_
  rintro e w3 ⟨rfl, hw⟩
  have HT3 : Hid (TN 51 w3 w2.heap.size none (lf + 1) []) := Lib.hid (by rw [hw]; exact TN.made)
  have HC3 : Hid (Chg (fun _ => False) w2 w3) := Lib.hid (by rw [hw]; exact (Chg.refl _ w2).alloc _)
  have HZ3 := Lib.hid HT3.out.lt.1
  clear hw HNW
  go_wp2_with fail
  refine (tnew_ok 1 (by decide) (by decide) w3).mono ?_
  rintro e w4 ⟨rfl, hw⟩
  have HU4 : Hid (TN 51 w4 w3.heap.size none 1 []) := Lib.hid (by rw [hw]; exact TN.made)
  have hc4 : Chg (fun _ => False) w3 w4 := by rw [hw]; exact (Chg.refl _ w3).alloc _
  have HT4 := Lib.hid (HT3.out.new hc4)
  have HC4 := Lib.hid (HC3.out.trans hc4 (fun _ _ e => e))
  have HPW := Lib.hid (show w.heap.size ≤ w2.heap.size ∧ F < w2.heap.size from ⟨HC2.out.size, HSZ.out⟩)
  have HTW4 := Lib.hid (show Two12 w2.heap.size w2.heap.size none w3.heap.size none from ⟨by have := HZ3.out; omega, by simp, by simp, (fun k hk => nomatch hk), Nat.le_refl _, Nat.le_of_lt HZ3.out, (fun k hk => nomatch hk), (fun k hk => nomatch hk)⟩)
  clear hw hc4
  generalize w3.heap.size = U at *
  cases bb with
  | false =>
    go_wp2_with fail
    refine (HAL.out _).mono ?_
    rintro e wa ⟨rfl, hc⟩
    have HCA := Lib.hid hc
    clear hc
    go_wp2_with fail
    go_ret
    exact ⟨rfl, (HC2.out.trans HC4.out (fun _ _ e => e)).trans HCA.out (fun _ _ e => e)⟩
  | true =>
    have HN := Lib.hid (HB.out rfl)
    clear HB
    go_wp2_with fail
    generalize hP : w2.heap.size = P at HT4 HTW4 HPW ⊢
    have HPB := Lib.hid hP
    clear HT3 HC3 HZ3 hP
    go_loopg [14] m (fun g i wr => ∃ (j : Nat) (o1 : Option Nat) (l1 : List Rc), g = m - j ∧ j ≤ m ∧ i = .int .i64 (j : Int) ∧ Hid (TN 51 wr P o1 (lf + 1) l1) ∧ Hid (TN 51 wr U none 1 []) ∧ Hid (Two12 P P o1 U none) ∧ Hid (l1.length ≤ 16) ∧ Hid (WF12 l1) ∧ Hid (Chg (fun k => P ≤ k) w2 wr))
    case atStart => exact ⟨0, none, [], rfl, Nat.zero_le _, rfl, HT4, HU4, HTW4, Lib.hid (by decide), Lib.hid (fun x hx => nomatch hx), Lib.hid (HC4.out.mono (fun _ _ e => e.elim))⟩
    case round =>
      clear HT4 HU4 HTW4 HC4
      obtain ⟨j, o1, l1, rfl, hj, rfl, HT, HU, HTW, H16, HWF, HCW⟩ := hrel
      by_cases hlt : j < m
      · have hh := HA2.out.chg HCW.out (fun k hk => by have := HPW.out; omega)
        obtain ⟨ad, rfl, -⟩ := hh.2 (by omega)
        have hjl : j < l.length := by have := HL.out; omega
        have hx : l[j]? = some l[j] := List.getElem?_eq_getElem hjl
        generalize l[j] = y at *
        obtain ⟨⟨z0, z1, z2, z3, z4, z5, z6, z7⟩, his⟩ := hh.at hx
        have HX := Lib.hid his
        have HXN := Lib.hid (HN.out.2 j y hx)
        have HRC := Lib.hid his.2.2.2
        have HKEEP : Hid (∀ W : World, Chg (fun k => P ≤ k) w2 W → (W.cell? (ad.add (j * 8)) = some (.int .u8 y.k) ∧ W.cell? ⟨(ad.add (j * 8)).block, (ad.add (j * 8)).off + 1, none⟩ = some (.int .i64 y.pr) ∧ W.cell? ⟨(ad.add (j * 8)).block, (ad.add (j * 8)).off + 2, none⟩ = some (.int .u32 y.sr) ∧ W.cell? ⟨(ad.add (j * 8)).block, (ad.add (j * 8)).off + 3, none⟩ = some (.int .u32 y.ds) ∧ W.cell? ⟨(ad.add (j * 8)).block, (ad.add (j * 8)).off + 4, none⟩ = some (.int .i64 y.sp) ∧ W.cell? ⟨(ad.add (j * 8)).block, (ad.add (j * 8)).off + 5, none⟩ = some (.int .i64 y.dp) ∧ W.cell? ⟨(ad.add (j * 8)).block, (ad.add (j * 8)).off + 6, none⟩ = some (.int .i64 y.now) ∧ W.cell? ⟨(ad.add (j * 8)).block, (ad.add (j * 8)).off + 7, none⟩ = some (.slice y.A y.n y.c))) := Lib.hid (fun W hw => ((HA2.out.chg hw (fun k hk => by have := HPW.out; omega)).at hx).1)
        clear hx hh hjl
        have hk := his.1
        clear his
        by_cases hkd : y.k % 6 < 4
        · have HKEEP : Hid (∀ W : World, Chg (fun k => P ≤ k) w2 W → (W.cell? ⟨(ad.add (j * 8)).block, (ad.add (j * 8)).off + 1, none⟩ = some (.int .i64 y.pr) ∧ W.cell? ⟨(ad.add (j * 8)).block, (ad.add (j * 8)).off + 2, none⟩ = some (.int .u32 y.sr) ∧ W.cell? ⟨(ad.add (j * 8)).block, (ad.add (j * 8)).off + 3, none⟩ = some (.int .u32 y.ds) ∧ W.cell? ⟨(ad.add (j * 8)).block, (ad.add (j * 8)).off + 4, none⟩ = some (.int .i64 y.sp) ∧ W.cell? ⟨(ad.add (j * 8)).block, (ad.add (j * 8)).off + 5, none⟩ = some (.int .i64 y.dp) ∧ W.cell? ⟨(ad.add (j * 8)).block, (ad.add (j * 8)).off + 6, none⟩ = some (.int .i64 y.now))) := Lib.hid (fun W hw => by
            obtain ⟨a0, a1, a2, a3, a4, a5, a6, a7⟩ := HKEEP.out W hw
            exact ⟨a1, a2, a3, a4, a5, a6⟩)
          go_wp2_with fail
          have HXA := Lib.hid (HCW.out.drew)
          have hmc := (show Calls _ _ _ wr.drew _ from tnote_any HT.out.drew H16.out HLF.out y.pr y.sr y.ds y.sp y.dp y.now)
          try unfold flC at hmc
          have HMC := Lib.hid hmc
          clear hmc
          clear z0 z1 z2 z3 z4 z5 z6 z7 hk
          obtain ⟨y1, y2, y3, y4, y5, y6⟩ := HKEEP.out _ HXA.out
          go_region_held3 (fun w' => w'.cell? ⟨(ad.add (j * 8)).block, (ad.add (j * 8)).off + 1, none⟩ = some (.int .i64 y.pr) ∧ w'.cell? ⟨(ad.add (j * 8)).block, (ad.add (j * 8)).off + 2, none⟩ = some (.int .u32 y.sr) ∧ w'.cell? ⟨(ad.add (j * 8)).block, (ad.add (j * 8)).off + 3, none⟩ = some (.int .u32 y.ds) ∧ w'.cell? ⟨(ad.add (j * 8)).block, (ad.add (j * 8)).off + 4, none⟩ = some (.int .i64 y.sp) ∧ w'.cell? ⟨(ad.add (j * 8)).block, (ad.add (j * 8)).off + 5, none⟩ = some (.int .i64 y.dp) ∧ w'.cell? ⟨(ad.add (j * 8)).block, (ad.add (j * 8)).off + 6, none⟩ = some (.int .i64 y.now))
            (first | with_reducible exact HKEEP.out _ HXA.out | with_reducible exact HKEEP.out _ HXB.out | fail)
            (first
              | (go_at_call 8; (with_reducible refine HMC.out.mono ?_); rintro e w5 ⟨rfl, o1b, hT, hM⟩; have HT5 := Lib.hid hT; have HM5 := Lib.hid hM; have HXB := Lib.hid (Mvd.above HXA.out hM (Nat.le_refl _) HTW.out.e); clear hT hM)
              | fail)
          all_goals
            have hlu := HU.out.lt
            have hpw := HT.out.lt.1
            go_wp2_with fail
            go_roundg (m - (j + 1))
            case measure => omega
            case rel => exact ⟨j + 1, o1b, noL (lf + 1) y.now l1 y.pr y.sr y.ds y.sp y.dp, rfl, by omega, by go_num, HT5, Lib.hid (HU.out.drew.by HM5.out (fun e => HTW.out.pq e.symm) HTW.out.a HTW.out.b (fun k h1 h2 => HTW.out.c k h2 h1)), Lib.hid (HTW.out.left HM5.out hlu.1 hlu.2 (Nat.le_of_lt hpw)), Lib.hid (noL_len H16.out), Lib.hid (HWF.out.note _ _ _ _ _ _ _), HXB⟩
        · have HKEEP : Hid (∀ W : World, Chg (fun k => P ≤ k) w2 W → (W.cell? ⟨(ad.add (j * 8)).block, (ad.add (j * 8)).off + 6, none⟩ = some (.int .i64 y.now) ∧ W.cell? ⟨(ad.add (j * 8)).block, (ad.add (j * 8)).off + 7, none⟩ = some (.slice y.A y.n y.c))) := Lib.hid (fun W hw => by
            obtain ⟨a0, a1, a2, a3, a4, a5, a6, a7⟩ := HKEEP.out W hw
            exact ⟨a6, a7⟩)
          go_wp2_with fail
          have HXA := Lib.hid (HCW.out.drew)
          have hmc := (show Calls _ _ _ wr.drew _ from timport_any HT.out.drew H16.out y.now y.A y.n y.c y.l _ (HRC.out.chg (Chg.refl (fun _ => False) wr).drew (fun _ _ => id)) (fun k hk e => e.elim (fun e => by have := HPW.out; omega) (fun e => by have := HTW.out.e k e; have := HPW.out; omega)) (by have := HXN.out; omega))
          try unfold flC at hmc
          have HMC := Lib.hid hmc
          clear hmc
          clear z0 z1 z2 z3 z4 z5 z6 z7 hk
          obtain ⟨y6, y7⟩ := HKEEP.out _ HXA.out
          go_region_held3 (fun w' => w'.cell? ⟨(ad.add (j * 8)).block, (ad.add (j * 8)).off + 6, none⟩ = some (.int .i64 y.now) ∧ w'.cell? ⟨(ad.add (j * 8)).block, (ad.add (j * 8)).off + 7, none⟩ = some (.slice y.A y.n y.c))
            (first | with_reducible exact HKEEP.out _ HXA.out | with_reducible exact HKEEP.out _ HXB.out | fail)
            (first
              | (go_at_call 10; (with_reducible refine HMC.out.mono ?_); rintro e w5 ⟨rfl, o1b, hT, hM⟩; have HT5 := Lib.hid hT; have HM5 := Lib.hid hM; have HXB := Lib.hid (Mvd.above HXA.out hM (Nat.le_refl _) HTW.out.e); clear hT hM)
              | fail)
          all_goals
            have hlu := HU.out.lt
            have hpw := HT.out.lt.1
            go_wp2_with fail
            go_roundg (m - (j + 1))
            case measure => omega
            case rel => exact ⟨j + 1, o1b, imL y.now l1 y.l, rfl, by omega, by go_num, HT5, Lib.hid (HU.out.drew.by HM5.out (fun e => HTW.out.pq e.symm) HTW.out.a HTW.out.b (fun k h1 h2 => HTW.out.c k h2 h1)), Lib.hid (HTW.out.left HM5.out hlu.1 hlu.2 (Nat.le_of_lt hpw)), Lib.hid (imL_len H16.out), Lib.hid (HWF.out.imp _ _), HXB⟩
      · have hjm : j = m := by omega
        subst hjm
        have hfp : F < P := HPW.out.2
        have HF3 := Lib.hid (HF2.out.chg HCW.out (by omega))
        have HFO := Lib.hid (show ¬ (F = P ∨ o1 = some F) from fun e => e.elim (fun e => by omega) (fun e => by have := HTW.out.e F e; omega))
        obtain ⟨v0, v1, v2, v3, v4⟩ := fl_cells HF3.out
        have hnt := tnote_any HT.out H16.out HLF.out x.pr x.sr x.ds x.sp x.dp x.now
        unfold flC at hnt
        have HWF5 := Lib.hid (HWF.out.note (lf + 1) x.now x.pr x.sr x.ds x.sp x.dp)
        have H165 := Lib.hid (noL_len (life := lf + 1) (t := x.now) (p := x.pr) (s := x.sr) (d := x.ds) (sp := x.sp) (dp := x.dp) H16.out)
        have HMADE := Lib.hid (fun e => note_made (life := lf + 1) (t := x.now) (l := l1) (p := x.pr) (s := x.sr) (d := x.ds) (sp := x.sp) (dp := x.dp) e)
        generalize noL (lf + 1) x.now l1 x.pr x.sr x.ds x.sp x.dp = l5 at *
        generalize hna : noA (lf + 1) x.now l1 x.pr x.sr x.ds x.sp x.dp = na at *
        have HNT := Lib.hid hnt
        clear hnt
        by_cases hna0 : na = 0
        case neg =>
          have tn : (na == 0) = false := by simpa using hna0
          have tn2 : (na != 0) = true := by simpa using hna0
          go_wp2_with fail
          refine HNT.out.mono ?_
          rintro e w5 ⟨rfl, o5, hT, hM⟩
          have HC5 := Lib.hid (Mvd.above HCW.out hM (Nat.le_refl _) HTW.out.e)
          clear hT hM
          go_wp2_with fail
          refine (HAL.out _).mono ?_
          rintro e wa ⟨rfl, hc⟩
          have HCA := Lib.hid hc
          clear hc
          go_wp2_with fail
          go_ret
          exact ⟨rfl, HC2.out.trans ((HC5.out.trans HCA.out (fun _ _ e => e.elim)).mono (S' := fun _ => False) (fun k hk e => by have := HPB.out; omega)) (fun _ _ e => e)⟩
        case pos =>
          subst hna0
          obtain ⟨hnw, hhs⟩ := HMADE.out rfl
          have HHS := Lib.hid hhs
          have HNOW := Lib.hid hnw
          clear hhs HMADE
          go_wp2_with fail
          refine HNT.out.mono ?_
          rintro e w5 ⟨rfl, o5, hT, hM⟩
          have hlu := HU.out.lt
          have HT5 := Lib.hid hT
          have HU5 := Lib.hid (HU.out.by hM (fun e => HTW.out.pq e.symm) HTW.out.a HTW.out.b (fun k h1 h2 => HTW.out.c k h2 h1))
          have HF5 := Lib.hid (HF3.out.chg hM.1 HFO.out)
          have HC5 := Lib.hid (Mvd.above HCW.out hM (Nat.le_refl _) HTW.out.e)
          have HPU := Lib.hid (show P ≤ U from HTW.out.q)
          clear hT hM hlu v0 v1 v2 v3 v4 HNT
          obtain ⟨v0, v1, v2, v3, v4⟩ := fl_cells HF5.out
          have hwn : IntKind.i64.wrap (x.now + lf) = x.now + lf := IntWalk.i64_in _ (by omega)
          obtain ⟨la, hla, hla2⟩ : ∃ la, (if 1099511627775 < x.now + lf then (1099511627775 : Int) else x.now + lf) = la ∧ Hid (la ≤ x.now + lf ∧ la ≤ 1099511627775) := ⟨_, rfl, Lib.hid (by constructor <;> split <;> omega)⟩
          go_upto_region 19 with fail
          clear hla
          have hk1 := fun W (hw : Chg (fun _ => False) w5 W) (hv : x.now ≤ la) => tknown_any (HT5.out.new hw) x.pr x.sr x.ds x.sp x.dp la
          have hk2 := fun W (hw : Chg (fun _ => False) w5 W) (hv : x.now ≤ la) => tknown_any (HT5.out.new hw) x.pr x.ds x.sr x.dp x.sp x.now
          have hkk1 : kn12 la l5 x.pr x.sr x.ds x.sp x.dp = true := HHS.out.known (by have := hla2.out; omega)
          have hkk2 : x.now ≤ la → kn12 x.now l5 x.pr x.ds x.sr x.dp x.sp = true := fun hv => HHS.out.back (by have := hla2.out; omega)
          have hbk := fun W => rback4_any x.pr x.sr x.ds x.sp x.dp W
          unfold flC at hk1 hk2 hbk
          have HBK := Lib.hid hbk
          clear hbk
          go_cut [118] (fun s118 wx => s118 = .bool false ∧ Hid (Chg (fun _ => False) w5 wx))
          case first =>
            by_cases hnl : x.now ≤ la
            · have HK1 := Lib.hid (fun W hw => hk1 W hw hnl)
              have HK2 := Lib.hid (fun W hw => hk2 W hw hnl)
              have hkk3 := hkk2 hnl
              clear hk1 hk2 hkk2
              rw [hkk1] at HK1
              rw [hkk3] at HK2
              clear hkk1 hkk3
              go_wp2_with fail
              refine (HK1.out _ (Chg.refl _ _)).mono ?_
              rintro e wb ⟨rfl, hc⟩
              have HXB := Lib.hid hc
              have HFB := Lib.hid (HF5.out.chg hc id)
              clear hc v0 v1 v2 v3 v4
              obtain ⟨v0, v1, v2, v3, v4⟩ := fl_cells HFB.out
              go_wp2_with fail
              refine (HBK.out _).mono ?_
              rintro e wd ⟨rfl, hc⟩
              have HXD := Lib.hid (HXB.out.trans hc (fun _ _ e => e))
              clear hc
              go_wp2_with fail
              refine (HK2.out _ HXD.out).mono ?_
              rintro e we ⟨rfl, hc⟩
              have HXE := Lib.hid (HXD.out.trans hc (fun _ _ e => e))
              clear hc
              go_wp2_with fail
              go_meet
              exact ⟨rfl, HXE⟩
            · clear hk1 hk2 hkk1 hkk2
              go_wp2_with fail
              go_meet
              exact ⟨rfl, Lib.hid (Chg.refl _ _)⟩
          obtain ⟨rfl, HXW⟩ := hcut
          clear hk1 hk2 hkk1 hkk2 hla2 v0 v1 v2 v3 v4
          have HT6 := Lib.hid (HT5.out.new HXW.out)
          have HU6 := Lib.hid (HU5.out.new HXW.out)
          have HC6 := Lib.hid (HC5.out.trans HXW.out (fun _ _ e => e.elim))
          have HTR := Lib.hid (trecords_any HT6.out H165.out x.now)
          have HTK := Lib.hid (told_known HNOW.out HWF5.out H165.out)
          have HRL := Lib.hid (ex12_len (t := x.now) H165.out)
          have HUL := Lib.hid HU6.out.lt.1
          generalize ex12 x.now l5 = R at *
          go_wp2_with fail
          refine HTR.out.mono ?_
          rintro e w7 ⟨E, k, d, rfl, hk, hown, hc⟩
          have HU7 := Lib.hid (HU6.out.new hc)
          have HC7 := Lib.hid (HC6.out.trans hc (fun _ _ e => e.elim))
          have HKL := Lib.hid hk
          have hk16 : k ≤ 16 := by rw [hk]; exact HRL.out
          have HOW := Lib.hid hown
          have hRR := own_rcr hown hk
          have HAP := Lib.hid (show ∀ b, E.map (·.block) = some b → ¬ (b = U ∨ (none : Option Nat) = some b) from fun b hb e => e.elim (fun e => by have := (own_low hown hb).1; have := HUL.out; omega) (fun e => by cases e))
          have him := timport_any HU7.out (by decide) x.now E k d R _ hRR HAP.out (by omega)
          rw [show imA x.now [] R = k from by rw [HTK.out.1]; exact hk.symm] at him
          have HIM := Lib.hid him
          have HTK2 := Lib.hid HTK.out.2
          clear him hRR hk hown hc HTR HTK
          generalize imL x.now [] R = l7 at *
          go_wp2_with fail
          refine HIM.out.mono ?_
          rintro e w8 ⟨rfl, o8, hT, hM⟩
          have HU8 := Lib.hid hT
          have HRR := Lib.hid (own_rcr (own_chg HOW.out hM.1 HAP.out) HKL.out)
          have HC8 := Lib.hid (Mvd.above HC7.out hM HPU.out (fun k hk => nomatch hk))
          clear hT hM HIM
          go_wp2_with fail
          go_loopg [17, 18] k (fun g i s18 wr => ∃ (j : Nat), g = k - j ∧ j ≤ k ∧ i = .int .i64 (j : Int) ∧ Hid (Chg (fun _ => False) w8 wr))
          case atStart => exact ⟨0, rfl, Nat.zero_le _, rfl, Lib.hid (Chg.refl _ _)⟩
          case round =>
            obtain ⟨j, rfl, hj, rfl, HX⟩ := hrel
            by_cases hlt : j < k
            · have hh := HRR.out.chg HX.out (fun _ _ => id)
              obtain ⟨ad, rfl, -⟩ := hh.2 (by omega)
              have hjl : j < R.length := by have := HKL.out; omega
              have hx : R[j]? = some R[j] := List.getElem?_eq_getElem hjl
              generalize R[j] = r at *
              obtain ⟨z0, z1, z2, z3, z4, z5⟩ := hh.at hx
              obtain ⟨hr1, hr2, hr3⟩ := HTK2.out r (List.mem_of_getElem? hx)
              have HXB : Hid (Blk (wr.alloc (.cells #[.int .i64 r.pr, .int .u32 r.sr, .int .u32 r.ds, .int .i64 r.sp, .int .i64 r.dp, .int .i64 r.un] 48)) wr.heap.size 48 (rcC r.pr r.sr r.ds r.sp r.dp r.un)) := Lib.hid (blk_new rfl)
              have HC0 := Lib.hid (HX.out.alloc (.cells #[.int .i64 r.pr, .int .u32 r.sr, .int .u32 r.ds, .int .i64 r.sp, .int .i64 r.dp, .int .i64 r.un] 48))
              have hwu : IntKind.i64.wrap (r.un - 1) = r.un - 1 := IntWalk.i64_in _ (by have := HNOW.out; omega)
              have hk1 := fun W (hw : Chg (fun _ => False) w8 W) => tknown_any (HU8.out.new hw) r.pr r.sr r.ds r.sp r.dp (r.un - 1)
              have hk2 := fun W (hw : Chg (fun _ => False) w8 W) => tknown_any (HU8.out.new hw) r.pr r.ds r.sr r.dp r.sp x.now
              rw [hr3.known (by omega)] at hk1
              rw [hr3.back hr1] at hk2
              have hbk := fun W => rback4_any r.pr r.sr r.ds r.sp r.dp W
              unfold flC at hk1 hk2 hbk
              have HK1 := Lib.hid hk1
              have HK2 := Lib.hid hk2
              have HBK := Lib.hid hbk
              clear hk1 hk2 hbk hr1 hr2 hr3 hx hh hjl
              obtain ⟨x0, x1, x2, x3, x4, x5⟩ := rc_cells HXB.out
              go_wp2_with fail
              refine (HK1.out _ HC0.out).mono ?_
              rintro e wb ⟨rfl, hc⟩
              have HXC := Lib.hid (HC0.out.trans hc (fun _ _ e => e))
              have HBB := Lib.hid (HXB.out.chg hc id)
              clear hc x0 x1 x2 x3 x4 x5
              obtain ⟨x0, x1, x2, x3, x4, x5⟩ := rc_cells HBB.out
              go_wp2_with fail
              refine (HBK.out _).mono ?_
              rintro e wd ⟨rfl, hc⟩
              have HXD := Lib.hid (HXC.out.trans hc (fun _ _ e => e))
              clear hc
              go_wp2_with fail
              refine (HK2.out _ HXD.out).mono ?_
              rintro e we ⟨rfl, hc⟩
              have HXE := Lib.hid (HXD.out.trans hc (fun _ _ e => e))
              clear hc
              go_wp2_with fail
              go_roundg (k - (j + 1))
              case measure => omega
              case rel => exact ⟨j + 1, rfl, by omega, by go_num, HXE⟩
            · have hjk : j = k := by omega
              subst hjk
              go_wp2_with fail
              refine (HAL.out _).mono ?_
              rintro e wa ⟨rfl, hc⟩
              have HCA := Lib.hid hc
              clear hc
              go_wp2_with fail
              go_ret
              exact ⟨rfl, HC2.out.trans ((((HC8.out.trans HX.out (fun _ _ e => e.elim)).trans HCA.out (fun _ _ e => e.elim))).mono (S' := fun _ => False) (fun k hk e => by have := HPB.out; omega)) (fun _ _ e => e)⟩

end Go.Proofs.Ytclikcbgeolngaa
