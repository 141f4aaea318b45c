/-
  Walk: rutterlaw12.TrackPlays. Condition: the acts lie in memory.
-/
import Derived.Test.YtclikcbgeolngaaTm
namespace Go.Proofs.Ytclikcbgeolngaa
open Go.RowKit
set_option linter.unusedVariables false
set_option linter.unusedSimpArgs false

theorem act_cells12 {W : World} {v : Nat} {x : At12} (h : Blk W v 37 x.cs) : W.cell? ⟨v, 0, none⟩ = some (.int .u8 x.k) ∧ W.cell? ⟨v, 1, none⟩ = some (.int .i64 x.pr) ∧ W.cell? ⟨v, 2, none⟩ = some (.int .u32 x.sr) ∧ W.cell? ⟨v, 3, none⟩ = some (.int .u32 x.ds) ∧ W.cell? ⟨v, 4, none⟩ = some (.int .i64 x.sp) ∧ W.cell? ⟨v, 5, none⟩ = some (.int .i64 x.dp) ∧ W.cell? ⟨v, 6, none⟩ = some (.int .i64 x.now) ∧ W.cell? ⟨v, 7, none⟩ = some (.slice x.A x.n x.c) := by
  have h0 := h.cell 0
  have h1 := h.cell 1
  have h2 := h.cell 2
  have h3 := h.cell 3
  have h4 := h.cell 4
  have h5 := h.cell 5
  have h6 := h.cell 6
  have h7 := h.cell 7
  simp only [At12.cs, List.getElem?_toArray, List.getElem?_cons_zero, List.getElem?_cons_succ] at h0 h1 h2 h3 h4 h5 h6 h7
  exact ⟨h0, h1, h2, h3, h4, h5, h6, h7⟩
set_option maxRecDepth 100000 in
set_option maxHeartbeats 16000000 in
theorem plays12_any (life look : Int) (L : Option Addr) (m lc : Nat) (l : List At12) (w : World) (h : AR12 w (fun k => k < w.heap.size) L m l) (hmc : m ≤ 9223372036854775807) : Calls Try.prog 3 #[.int .i64 life, .slice L m lc, .int .i64 look] w fun e w' => e = .returned (.bool true) ∧ Chg (fun _ => False) w w' := by
  have HA := Lib.hid h
  have HL := Lib.hid h.1
  have HF := Lib.hid (fits12_any L m lc l w _ h hmc)
  have HAL := Lib.hid (fun W => alive12_any W)
  clear h
  go_enter Try.func3, Try.ntmps3
  go_wp2_with fail
  refine HF.out.mono ?_
  rintro e w1 ⟨b, rfl, hb, rfl⟩
  have HB := Lib.hid hb
  clear hb
  cases b with
  | false =>
    go_wp2_with fail
    refine (HAL.out _).mono ?_
    rintro e wa ⟨rfl, hc⟩
    have HCA := Lib.hid hc
    clear hc
    go_wp2_with fail
    go_ret
    exact ⟨rfl, HCA.out⟩
  | true =>
    have HN := Lib.hid (HB.out rfl)
    clear HB
    have hlf : (life < 1 ∨ ¬ life < 1 ∧ 2147483648 < life) ∨ (1 ≤ life ∧ life ≤ 2147483648) := by omega
    rcases hlf with (hlf | ⟨hlf, hlf2⟩) | ⟨hl1, hl2⟩
    · have HNW := Lib.hid (tnew_bad life (.inl hlf) w)
      go_wp2_with fail
      refine HNW.out.mono ?_
      rintro e w2 ⟨rfl, rfl⟩
      go_wp2_with fail
      refine (HAL.out _).mono ?_
      rintro e wa ⟨rfl, hc⟩
      have HCA := Lib.hid hc
      clear hc
      go_wp2_with fail
      go_ret
      exact ⟨rfl, HCA.out⟩
    · have HNW := Lib.hid (tnew_bad life (.inr hlf2) w)
      go_wp2_with fail
      refine HNW.out.mono ?_
      rintro e w2 ⟨rfl, rfl⟩
      go_wp2_with fail
      refine (HAL.out _).mono ?_
      rintro e wa ⟨rfl, hc⟩
      have HCA := Lib.hid hc
      clear hc
      go_wp2_with fail
      go_ret
      exact ⟨rfl, HCA.out⟩
    · have HNW := Lib.hid (tnew_ok life hl1 hl2 w)
      have hlf : ¬ life < 1 := by omega
      have hlf2 : ¬ 2147483648 < life := by omega
      have HLF := Lib.hid (show 0 ≤ life ∧ life ≤ 2147483648 by omega)
      clear hl1 hl2
      go_wp2_with fail
      refine HNW.out.mono ?_
      rintro e w2 ⟨rfl, hw⟩
      have HT2 : Hid (TN 51 w2 w.heap.size none life []) := Lib.hid (by rw [hw]; exact TN.made)
      have HC2 : Hid (Chg (fun _ => False) w w2) := Lib.hid (by rw [hw]; exact (Chg.refl _ w).alloc _)
      have HP2 := Lib.hid HT2.out.lt.1
      clear hw HNW
      have HT3 := Lib.hid (HT2.out.new ((Chg.refl (fun _ => False) w2).alloc (.cells #[.int .i64 life, .slice none 0 0] 32)))
      have HQ3 : Hid (TN 32 (w2.alloc (.cells #[.int .i64 life, .slice none 0 0] 32)) w2.heap.size none life []) := Lib.hid TN.made
      have HC3 := Lib.hid ((HC2.out.alloc (.cells #[.int .i64 life, .slice none 0 0] 32)).mono (S' := fun k => w.heap.size ≤ k) (fun _ _ e => e.elim))
      have HTW := Lib.hid (show Two12 w.heap.size w.heap.size none w2.heap.size none from ⟨by have := HP2.out; omega, by simp, by simp, (fun k hk => nomatch hk), Nat.le_refl _, Nat.le_of_lt HP2.out, (fun k hk => nomatch hk), (fun k hk => nomatch hk)⟩)
      have HBB := Lib.hid (Nat.le_refl w.heap.size)
      go_wp2_with fail
      generalize w2.alloc (.cells #[.int .i64 life, .slice none 0 0] 32) = w3 at *
      generalize w2.heap.size = Q at *
      generalize hP : w.heap.size = P at HT3 HQ3 HTW ⊢
      have HPB := Lib.hid hP
      clear HT2 HC2 HP2 hP HBB
      go_loopg [11, 12, 13, 14, 15, 16] m (fun g i s12 s13 s14 s15 s16 wr => ∃ (j : Nat) (o1 o2 : Option Nat) (l1 : List Rc), g = m - j ∧ j ≤ m ∧ i = .int .i64 (j : Int) ∧ Hid (TN 51 wr P o1 life l1) ∧ Hid (TN 32 wr Q o2 life l1) ∧ Hid (Two12 w.heap.size P o1 Q o2) ∧ Hid (l1.length ≤ 16) ∧ Hid (Chg (fun k => w.heap.size ≤ k) w wr))
      case atStart => exact ⟨0, none, none, [], rfl, Nat.zero_le _, rfl, HT3, HQ3, Lib.hid (by rw [HPB.out]; exact HTW.out), Lib.hid (by decide), HC3⟩
      case round =>
        clear HT3 HQ3 HC3 HTW
        obtain ⟨j, o1, o2, l1, rfl, hj, rfl, HTP, HTQ, HTW0, H16, HCW0⟩ := hrel
        by_cases hlt : j < m
        · have hh := HA.out.chg HCW0.out (fun k hk => by omega)
          obtain ⟨ad, rfl, -⟩ := hh.2 (by omega)
          have hjl : j < l.length := by have := HL.out; omega
          have hx : l[j]? = some l[j] := List.getElem?_eq_getElem hjl
          generalize l[j] = x at *
          obtain ⟨⟨z0, z1, z2, z3, z4, z5, z6, z7⟩, his⟩ := hh.at hx
          have HX := Lib.hid his
          have HXN := Lib.hid (HN.out.2 j x hx)
          have HV := Lib.hid (show wr.heap.size ≠ P ∧ o1 ≠ some wr.heap.size ∧ wr.heap.size ≠ Q ∧ o2 ≠ some wr.heap.size from by
            have h1 := HTP.out.lt
            have h2 := HTQ.out.lt
            exact ⟨by omega, fun e => by have := h1.2 _ e; omega, by omega, fun e => by have := h2.2 _ e; omega⟩)
          have HV0 := Lib.hid (show wr.heap.size ≠ P ∧ wr.heap.size ≠ Q from ⟨HV.out.1, HV.out.2.2.1⟩)
          clear hx hh hjl his
          have hca := (Chg.refl (fun _ => False) wr).alloc (.cells #[.int .u8 x.k, .int .i64 x.pr, .int .u32 x.sr, .int .u32 x.ds, .int .i64 x.sp, .int .i64 x.dp, .int .i64 x.now, .slice x.A x.n x.c] 37)
          have HBX0 : Hid (Blk (wr.alloc (.cells #[.int .u8 x.k, .int .i64 x.pr, .int .u32 x.sr, .int .u32 x.ds, .int .i64 x.sp, .int .i64 x.dp, .int .i64 x.now, .slice x.A x.n x.c] 37)) wr.heap.size 37 x.cs) := Lib.hid (blk_new rfl)
          replace HTP := Lib.hid (HTP.out.new hca)
          replace HTQ := Lib.hid (HTQ.out.new hca)
          replace HCW0 := Lib.hid (HCW0.out.trans hca (fun _ _ e => e.elim))
          have HRC := Lib.hid (HX.out.2.2.2.chg hca (fun _ _ => id))
          have HBW := Lib.hid HCW0.out.size
          have HVL := Lib.hid (show wr.heap.size < (wr.alloc (.cells #[.int .u8 x.k, .int .i64 x.pr, .int .u32 x.sr, .int .u32 x.ds, .int .i64 x.sp, .int .i64 x.dp, .int .i64 x.now, .slice x.A x.n x.c] 37)).heap.size by simp)
          clear hca
          go_upto_region 14 with fail
          generalize wr.alloc (.cells #[.int .u8 x.k, .int .i64 x.pr, .int .u32 x.sr, .int .u32 x.ds, .int .i64 x.sp, .int .i64 x.dp, .int .i64 x.now, .slice x.A x.n x.c] 37) = wa at *
          generalize wr.heap.size = v at *
          clear z0 z1 z2 z3 z4 z5 z6 z7
          obtain ⟨y0, y1, y2, y3, y4, y5, y6, y7⟩ := act_cells12 HBX0.out
          have hv2 : ∀ (o1b : Option Nat) (W W' : World), Mvd P o1 o1b W W' → v < W.heap.size → o1b ≠ some v := fun o1b W W' hM hW e => by
            rcases hM.2 with e2 | e2 | ⟨k, e2, hk⟩
            · exact HV.out.2.1 (by rw [← e2, e])
            · rw [e2] at e; cases e
            · rw [e2] at e
              injection e with e
              omega
          clear hv2
          have hk := HX.out.1
          by_cases hkd : x.k % 6 < 4
          · skip
            have HMC := Lib.hid (tnote_any HTP.out H16.out HLF.out x.pr x.sr x.ds x.sp x.dp x.now)
            go_wp2_with fail
            clear hk
            refine HMC.out.mono ?_
            rintro e w5 ⟨rfl, o1b, hT, hM⟩
            have hlq := HTQ.out.lt
            have HTA5 := Lib.hid hT
            have HTB5 := Lib.hid (HTQ.out.by hM (fun e => HTW0.out.pq e.symm) HTW0.out.a HTW0.out.b (fun k h1 h2 => HTW0.out.c k h2 h1))
            have HTW5 := Lib.hid (HTW0.out.left hM hlq.1 hlq.2 HBW.out)
            have HBX5 := Lib.hid (HBX0.out.chg hM.1 (fun e => e.elim HV.out.1 HV.out.2.1))
            have HCW5 := Lib.hid (Mvd.above HCW0.out hM HTW0.out.p HTW0.out.e)
            have HRC5 := Lib.hid (HRC.out.chg hM.1 (fun k hk e => e.elim (fun e => by have := HTW0.out.p; omega) (fun e => by have := HTW0.out.e k e; omega)))
            have HLP := Lib.hid HTA5.out.lt
            have HBW5 := Lib.hid (Nat.le_trans HBW.out hM.1.size)
            clear hT hM HMC hlq y0 y1 y2 y3 y4 y5 y6 y7
            obtain ⟨y0, y1, y2, y3, y4, y5, y6, y7⟩ := act_cells12 HBX5.out
            have HMC := Lib.hid (rtnote_any HTB5.out H16.out HLF.out x.pr x.sr x.ds x.sp x.dp x.now)
            go_wp2_with fail
            refine HMC.out.mono ?_
            rintro e w6 ⟨rfl, o2b, hT, hM⟩
            have HTB := Lib.hid hT
            have HTA := Lib.hid (HTA5.out.by hM HTW5.out.pq HTW5.out.b HTW5.out.a (fun k h1 h2 => HTW5.out.c k h1 h2))
            have HTW := Lib.hid (HTW5.out.right hM HLP.out.1 HLP.out.2 HBW5.out)
            have HBX := Lib.hid (HBX5.out.chg hM.1 (fun e => e.elim HV.out.2.2.1 HV.out.2.2.2))
            have HCW := Lib.hid (Mvd.above HCW5.out hM HTW5.out.q HTW5.out.f)
            have H16b := Lib.hid (show (noL life x.now l1 x.pr x.sr x.ds x.sp x.dp).length ≤ 16 from noL_len H16.out)
            clear hT hM HMC y0 y1 y2 y3 y4 y5 y6 y7
            generalize (noL life x.now l1 x.pr x.sr x.ds x.sp x.dp) = l2 at *
            have HTR := Lib.hid (trecords_any HTA.out H16b.out look)
            go_wp2_with fail
            refine HTR.out.mono ?_
            rintro e w7 ⟨E, k, d, rfl, hk, hown, hc⟩
            have HTA7 := Lib.hid (HTA.out.new hc)
            have HTB7 := Lib.hid (HTB.out.new hc)
            have HBX7 := Lib.hid (HBX.out.chg hc id)
            have HCW7 := Lib.hid (HCW.out.trans hc (fun _ _ e => e.elim))
            have HR7 := Lib.hid (own_rcr hown hk)
            have hk16 : k ≤ 16 := by rw [hk]; exact ex12_len H16b.out
            clear hk hown hc HTR
            have HTR := Lib.hid (rtrecords_any HTB7.out H16b.out look)
            go_wp2_with fail
            refine HTR.out.mono ?_
            rintro e w8 ⟨E2, k2, d2, rfl, hk, hown, hc⟩
            have HTA8 := Lib.hid (HTA7.out.new hc)
            have HTB8 := Lib.hid (HTB7.out.new hc)
            have HBX8 := Lib.hid (HBX7.out.chg hc id)
            have HCW8 := Lib.hid (HCW7.out.trans hc (fun _ _ e => e.elim))
            have hk216 : k2 ≤ 16 := by rw [hk]; exact ex12_len H16b.out
            have hrr := rrecords_any E E2 k k2 d d2 _ _ _ _ w8 (HR7.out.chg hc (fun _ _ => id)) (own_rcr hown hk) (by omega) (by omega)
            rw [rsE_refl] at hrr
            have HRR := Lib.hid hrr
            clear hk hown hc HTR hrr
            go_wp2_with fail
            refine HRR.out.mono ?_
            rintro e w9 ⟨rfl, hc⟩
            have HTA9 := Lib.hid (HTA8.out.new hc)
            have HTB9 := Lib.hid (HTB8.out.new hc)
            have HBX9 := Lib.hid (HBX8.out.chg hc id)
            have HCW9 := Lib.hid (HCW8.out.trans hc (fun _ _ e => e.elim))
            clear hc HRR
            go_wp2_with fail
            have hkn := fun W (hw : Chg (fun _ => False) w9 W) => tknown_any (HTA9.out.new hw) x.pr x.sr x.ds x.sp x.dp look
            have hrk := fun W (hw : Chg (fun _ => False) w9 W) => rtknown_any (HTB9.out.new hw) H16b.out x.pr x.sr x.ds x.sp x.dp look
            generalize kn12 look l2 x.pr x.sr x.ds x.sp x.dp = bb at *
            unfold flC at hkn hrk
            have HKN := Lib.hid hkn
            have HRK := Lib.hid hrk
            clear hkn hrk
            have HKEEP : Hid (∀ W : World, Chg (fun _ => False) w9 W → (W.cell? ⟨v, 1, none⟩ = some (.int .i64 x.pr) ∧ W.cell? ⟨v, 2, none⟩ = some (.int .u32 x.sr) ∧ W.cell? ⟨v, 3, none⟩ = some (.int .u32 x.ds) ∧ W.cell? ⟨v, 4, none⟩ = some (.int .i64 x.sp) ∧ W.cell? ⟨v, 5, none⟩ = some (.int .i64 x.dp))) := Lib.hid (fun W hw => by
              obtain ⟨a0, a1, a2, a3, a4, a5, a6, a7⟩ := act_cells12 (HBX9.out.chg hw id)
              exact ⟨a1, a2, a3, a4, a5⟩)
            have HXA := Lib.hid (Chg.refl (fun _ => False) w9).drew
            obtain ⟨y1, y2, y3, y4, y5⟩ := HKEEP.out _ HXA.out
            cases bb with
            | true =>
              go_region_held3 (fun w' => w'.cell? ⟨v, 1, none⟩ = some (.int .i64 x.pr) ∧ w'.cell? ⟨v, 2, none⟩ = some (.int .u32 x.sr) ∧ w'.cell? ⟨v, 3, none⟩ = some (.int .u32 x.ds) ∧ w'.cell? ⟨v, 4, none⟩ = some (.int .i64 x.sp) ∧ w'.cell? ⟨v, 5, none⟩ = some (.int .i64 x.dp))
                (first | with_reducible exact HKEEP.out _ HXA.out | with_reducible exact HKEEP.out _ HXB.out | with_reducible exact HKEEP.out _ HXC.out | fail)
                (first
                  | (go_at_call 15; (with_reducible refine (HKN.out _ HXA.out).mono ?_); rintro e wb ⟨rfl, hc⟩; have HXB := Lib.hid (HXA.out.trans hc (fun _ _ e => e)); clear hc)
                  | (go_at_call 16; (with_reducible refine (HRK.out _ HXB.out).mono ?_); rintro e wc ⟨rfl, hc⟩; have HXC := Lib.hid (HXB.out.trans hc (fun _ _ e => e)); clear hc)
                  | fail)
              all_goals
                go_wp2_with fail
                go_roundg (m - (j + 1))
                case measure => omega
                case rel => exact ⟨j + 1, _, _, l2, rfl, by omega, by go_num, Lib.hid (HTA9.out.new HXC.out), Lib.hid (HTB9.out.new HXC.out), HTW, H16b, Lib.hid (HCW9.out.trans HXC.out (fun _ _ e => e.elim))⟩
            | false =>
              go_region_held3 (fun w' => w'.cell? ⟨v, 1, none⟩ = some (.int .i64 x.pr) ∧ w'.cell? ⟨v, 2, none⟩ = some (.int .u32 x.sr) ∧ w'.cell? ⟨v, 3, none⟩ = some (.int .u32 x.ds) ∧ w'.cell? ⟨v, 4, none⟩ = some (.int .i64 x.sp) ∧ w'.cell? ⟨v, 5, none⟩ = some (.int .i64 x.dp))
                (first | with_reducible exact HKEEP.out _ HXA.out | with_reducible exact HKEEP.out _ HXB.out | with_reducible exact HKEEP.out _ HXC.out | fail)
                (first
                  | (go_at_call 15; (with_reducible refine (HKN.out _ HXA.out).mono ?_); rintro e wb ⟨rfl, hc⟩; have HXB := Lib.hid (HXA.out.trans hc (fun _ _ e => e)); clear hc)
                  | (go_at_call 16; (with_reducible refine (HRK.out _ HXB.out).mono ?_); rintro e wc ⟨rfl, hc⟩; have HXC := Lib.hid (HXB.out.trans hc (fun _ _ e => e)); clear hc)
                  | fail)
              all_goals
                go_wp2_with fail
                go_roundg (m - (j + 1))
                case measure => omega
                case rel => exact ⟨j + 1, _, _, l2, rfl, by omega, by go_num, Lib.hid (HTA9.out.new HXC.out), Lib.hid (HTB9.out.new HXC.out), HTW, H16b, Lib.hid (HCW9.out.trans HXC.out (fun _ _ e => e.elim))⟩
          · skip
            have HMC := Lib.hid (timport_any HTP.out H16.out x.now x.A x.n x.c x.l _ HRC.out (fun k hk e => e.elim (fun e => by have := HTW0.out.p; omega) (fun e => by have := HTW0.out.e k e; omega)) (by have := HXN.out; omega))
            go_wp2_with fail
            clear hk
            refine HMC.out.mono ?_
            rintro e w5 ⟨rfl, o1b, hT, hM⟩
            have hlq := HTQ.out.lt
            have HTA5 := Lib.hid hT
            have HTB5 := Lib.hid (HTQ.out.by hM (fun e => HTW0.out.pq e.symm) HTW0.out.a HTW0.out.b (fun k h1 h2 => HTW0.out.c k h2 h1))
            have HTW5 := Lib.hid (HTW0.out.left hM hlq.1 hlq.2 HBW.out)
            have HBX5 := Lib.hid (HBX0.out.chg hM.1 (fun e => e.elim HV.out.1 HV.out.2.1))
            have HCW5 := Lib.hid (Mvd.above HCW0.out hM HTW0.out.p HTW0.out.e)
            have HRC5 := Lib.hid (HRC.out.chg hM.1 (fun k hk e => e.elim (fun e => by have := HTW0.out.p; omega) (fun e => by have := HTW0.out.e k e; omega)))
            have HLP := Lib.hid HTA5.out.lt
            have HBW5 := Lib.hid (Nat.le_trans HBW.out hM.1.size)
            clear hT hM HMC hlq y0 y1 y2 y3 y4 y5 y6 y7
            obtain ⟨y0, y1, y2, y3, y4, y5, y6, y7⟩ := act_cells12 HBX5.out
            have HMC := Lib.hid (rtimport_any HTB5.out H16.out x.now x.A x.n x.c x.l _ HRC5.out (fun k hk e => e.elim (fun e => by have := HTW5.out.q; omega) (fun e => by have := HTW5.out.f k e; omega)) (by have := HXN.out; omega))
            go_wp2_with fail
            refine HMC.out.mono ?_
            rintro e w6 ⟨rfl, o2b, hT, hM⟩
            have HTB := Lib.hid hT
            have HTA := Lib.hid (HTA5.out.by hM HTW5.out.pq HTW5.out.b HTW5.out.a (fun k h1 h2 => HTW5.out.c k h1 h2))
            have HTW := Lib.hid (HTW5.out.right hM HLP.out.1 HLP.out.2 HBW5.out)
            have HBX := Lib.hid (HBX5.out.chg hM.1 (fun e => e.elim HV.out.2.2.1 HV.out.2.2.2))
            have HCW := Lib.hid (Mvd.above HCW5.out hM HTW5.out.q HTW5.out.f)
            have H16b := Lib.hid (show (imL x.now l1 x.l).length ≤ 16 from imL_len H16.out)
            clear hT hM HMC y0 y1 y2 y3 y4 y5 y6 y7
            generalize (imL x.now l1 x.l) = l2 at *
            have HTR := Lib.hid (trecords_any HTA.out H16b.out look)
            go_wp2_with fail
            refine HTR.out.mono ?_
            rintro e w7 ⟨E, k, d, rfl, hk, hown, hc⟩
            have HTA7 := Lib.hid (HTA.out.new hc)
            have HTB7 := Lib.hid (HTB.out.new hc)
            have HBX7 := Lib.hid (HBX.out.chg hc id)
            have HCW7 := Lib.hid (HCW.out.trans hc (fun _ _ e => e.elim))
            have HR7 := Lib.hid (own_rcr hown hk)
            have hk16 : k ≤ 16 := by rw [hk]; exact ex12_len H16b.out
            clear hk hown hc HTR
            have HTR := Lib.hid (rtrecords_any HTB7.out H16b.out look)
            go_wp2_with fail
            refine HTR.out.mono ?_
            rintro e w8 ⟨E2, k2, d2, rfl, hk, hown, hc⟩
            have HTA8 := Lib.hid (HTA7.out.new hc)
            have HTB8 := Lib.hid (HTB7.out.new hc)
            have HBX8 := Lib.hid (HBX7.out.chg hc id)
            have HCW8 := Lib.hid (HCW7.out.trans hc (fun _ _ e => e.elim))
            have hk216 : k2 ≤ 16 := by rw [hk]; exact ex12_len H16b.out
            have hrr := rrecords_any E E2 k k2 d d2 _ _ _ _ w8 (HR7.out.chg hc (fun _ _ => id)) (own_rcr hown hk) (by omega) (by omega)
            rw [rsE_refl] at hrr
            have HRR := Lib.hid hrr
            clear hk hown hc HTR hrr
            go_wp2_with fail
            refine HRR.out.mono ?_
            rintro e w9 ⟨rfl, hc⟩
            have HTA9 := Lib.hid (HTA8.out.new hc)
            have HTB9 := Lib.hid (HTB8.out.new hc)
            have HBX9 := Lib.hid (HBX8.out.chg hc id)
            have HCW9 := Lib.hid (HCW8.out.trans hc (fun _ _ e => e.elim))
            clear hc HRR
            go_wp2_with fail
            have hkn := fun W (hw : Chg (fun _ => False) w9 W) => tknown_any (HTA9.out.new hw) x.pr x.sr x.ds x.sp x.dp look
            have hrk := fun W (hw : Chg (fun _ => False) w9 W) => rtknown_any (HTB9.out.new hw) H16b.out x.pr x.sr x.ds x.sp x.dp look
            generalize kn12 look l2 x.pr x.sr x.ds x.sp x.dp = bb at *
            unfold flC at hkn hrk
            have HKN := Lib.hid hkn
            have HRK := Lib.hid hrk
            clear hkn hrk
            have HKEEP : Hid (∀ W : World, Chg (fun _ => False) w9 W → (W.cell? ⟨v, 1, none⟩ = some (.int .i64 x.pr) ∧ W.cell? ⟨v, 2, none⟩ = some (.int .u32 x.sr) ∧ W.cell? ⟨v, 3, none⟩ = some (.int .u32 x.ds) ∧ W.cell? ⟨v, 4, none⟩ = some (.int .i64 x.sp) ∧ W.cell? ⟨v, 5, none⟩ = some (.int .i64 x.dp))) := Lib.hid (fun W hw => by
              obtain ⟨a0, a1, a2, a3, a4, a5, a6, a7⟩ := act_cells12 (HBX9.out.chg hw id)
              exact ⟨a1, a2, a3, a4, a5⟩)
            have HXA := Lib.hid (Chg.refl (fun _ => False) w9).drew
            obtain ⟨y1, y2, y3, y4, y5⟩ := HKEEP.out _ HXA.out
            cases bb with
            | true =>
              go_region_held3 (fun w' => w'.cell? ⟨v, 1, none⟩ = some (.int .i64 x.pr) ∧ w'.cell? ⟨v, 2, none⟩ = some (.int .u32 x.sr) ∧ w'.cell? ⟨v, 3, none⟩ = some (.int .u32 x.ds) ∧ w'.cell? ⟨v, 4, none⟩ = some (.int .i64 x.sp) ∧ w'.cell? ⟨v, 5, none⟩ = some (.int .i64 x.dp))
                (first | with_reducible exact HKEEP.out _ HXA.out | with_reducible exact HKEEP.out _ HXB.out | with_reducible exact HKEEP.out _ HXC.out | fail)
                (first
                  | (go_at_call 15; (with_reducible refine (HKN.out _ HXA.out).mono ?_); rintro e wb ⟨rfl, hc⟩; have HXB := Lib.hid (HXA.out.trans hc (fun _ _ e => e)); clear hc)
                  | (go_at_call 16; (with_reducible refine (HRK.out _ HXB.out).mono ?_); rintro e wc ⟨rfl, hc⟩; have HXC := Lib.hid (HXB.out.trans hc (fun _ _ e => e)); clear hc)
                  | fail)
              all_goals
                go_wp2_with fail
                go_roundg (m - (j + 1))
                case measure => omega
                case rel => exact ⟨j + 1, _, _, l2, rfl, by omega, by go_num, Lib.hid (HTA9.out.new HXC.out), Lib.hid (HTB9.out.new HXC.out), HTW, H16b, Lib.hid (HCW9.out.trans HXC.out (fun _ _ e => e.elim))⟩
            | false =>
              go_region_held3 (fun w' => w'.cell? ⟨v, 1, none⟩ = some (.int .i64 x.pr) ∧ w'.cell? ⟨v, 2, none⟩ = some (.int .u32 x.sr) ∧ w'.cell? ⟨v, 3, none⟩ = some (.int .u32 x.ds) ∧ w'.cell? ⟨v, 4, none⟩ = some (.int .i64 x.sp) ∧ w'.cell? ⟨v, 5, none⟩ = some (.int .i64 x.dp))
                (first | with_reducible exact HKEEP.out _ HXA.out | with_reducible exact HKEEP.out _ HXB.out | with_reducible exact HKEEP.out _ HXC.out | fail)
                (first
                  | (go_at_call 15; (with_reducible refine (HKN.out _ HXA.out).mono ?_); rintro e wb ⟨rfl, hc⟩; have HXB := Lib.hid (HXA.out.trans hc (fun _ _ e => e)); clear hc)
                  | (go_at_call 16; (with_reducible refine (HRK.out _ HXB.out).mono ?_); rintro e wc ⟨rfl, hc⟩; have HXC := Lib.hid (HXB.out.trans hc (fun _ _ e => e)); clear hc)
                  | fail)
              all_goals
                go_wp2_with fail
                go_roundg (m - (j + 1))
                case measure => omega
                case rel => exact ⟨j + 1, _, _, l2, rfl, by omega, by go_num, Lib.hid (HTA9.out.new HXC.out), Lib.hid (HTB9.out.new HXC.out), HTW, H16b, Lib.hid (HCW9.out.trans HXC.out (fun _ _ e => e.elim))⟩
        · have hjm : j = m := by omega
          subst hjm
          go_wp2_with fail
          refine (HAL.out _).mono ?_
          rintro e wa ⟨rfl, hc⟩
          have HCA := Lib.hid hc
          clear hc
          go_wp2_with fail
          refine (tnote_nil 6 0 0 0 0 0 wa).mono ?_
          rintro e wb ⟨rfl, hc⟩
          have HCB := Lib.hid (HCA.out.trans hc (fun _ _ e => e))
          clear hc
          go_wp2_with fail
          refine (timport_nil 0 none 0 0 wb).mono ?_
          rintro e wc ⟨rfl, rfl⟩
          go_wp2_with fail
          refine (trecords_nil 0 wb).mono ?_
          rintro e wc ⟨rfl, rfl⟩
          go_wp2_with fail
          refine (tknown_nil 0 0 0 0 0 0 wb).mono ?_
          rintro e wc ⟨rfl, hc⟩
          have HCC := Lib.hid (HCB.out.trans hc (fun _ _ e => e))
          clear hc
          go_wp2_with fail
          go_ret
          exact ⟨rfl, (HCW0.out.trans HCC.out (fun _ _ e => e.elim)).mono (fun k hk e => by omega)⟩

end Go.Proofs.Ytclikcbgeolngaa
