/-
  Walk: rutterlaw10.StoreWhole. Conditions: the acts lie in memory.
-/
import Derived.Test.YtbajcdmcjmkieaaPy
namespace Go.Proofs.Ytbajcdmcjmkieaa
open Go.RowKit
set_option linter.unusedVariables false
set_option linter.unusedSimpArgs false

set_option maxRecDepth 20000 in
set_option maxHeartbeats 4000000 in
theorem whole10_any (L : Option Addr) (m lc : Nat) (l : List At10) (w : World) (h : AR10 w (fun k => k < w.heap.size) L m l) (hmc : m ≤ 9223372036854775807) : Calls Try.prog 4 #[.slice L m lc] w fun e w' => e = .returned (.bool true) ∧ Chg (fun _ => False) w w' := by
  have HL := Lib.hid h
  have HLN := Lib.hid h.1
  clear h
  go_enter Try.func4, Try.ntmps4
  go_wp2_with fail
  refine (fits10_any L m lc l w _ HL.out hmc).mono ?_
  rintro e w1' ⟨b, rfl, hfit, rfl⟩
  have HFI := Lib.hid hfit
  clear hfit
  cases b with
  | false =>
    go_wp2_with fail
    refine (alive10_any w).mono ?_
    rintro e w2 ⟨rfl, hc⟩
    have HX2 := Lib.hid hc
    clear hc
    go_wp2_with fail
    go_ret
    exact ⟨rfl, HX2.out⟩
  | true =>
    replace HFI := Lib.hid (HFI.out rfl)
    go_wp2_with fail
    refine (snew_any w).mono ?_
    rintro e w2 ⟨rfl, hcs, hc⟩
    have HS : Hid (CS w.heap.size w2 (w.heap.size + 1 + 1) w.heap.size (w.heap.size + 1) (fun _ => false) (fun _ => none)) := Lib.hid hcs
    have HX3 := Lib.hid hc
    have HL3 := Lib.hid (HL.out.chg hc (fun _ _ => id))
    clear hc hcs HL
    generalize w.heap.size + 1 + 1 = p at *
    go_wp2_with fail
    go_loopg [5, 6, 7, 8, 9, 10, 11, 12, 13, 14] m (fun g i s6 s7 s8 s9 s10 s11 s12 s13 s14 wr => ∃ (j br : Nat) (C : Int → Bool) (R : Int → Option RV), g = m - j ∧ j ≤ m ∧ i = .int .i64 (j : Int) ∧ Hid (CS w.heap.size wr p w.heap.size br C R) ∧ Hid (WF C R) ∧ Hid (Chg (fun k => w.heap.size ≤ k) w2 wr))
    case atStart => exact ⟨0, _, _, _, rfl, Nat.zero_le _, rfl, HS, Lib.hid WF.start, Lib.hid (Chg.refl _ _)⟩
    case round =>
      clear HS
      obtain ⟨j, br, C, R, rfl, hj, rfl, HS, HW0, HX0⟩ := hrel
      by_cases hlt : j < m
      · have hbp : w.heap.size ≤ p ∧ p < wr.heap.size ∧ w.heap.size < wr.heap.size := ⟨HS.out.bp, HS.out.blk.lt, HS.out.ch.lt⟩
        go_wp2_with fail
        refine (srows_any HS.out).mono ?_
        rintro e w4 ⟨A1, n1, c1, rfl, hn1, hown1, hc⟩
        replace HX0 := Lib.hid (HX0.out.trans hc (fun _ _ e => e.elim))
        replace HS := Lib.hid (HS.out.keep hc)
        have HO1 := Lib.hid (own_sr rv_size hown1 hn1)
        have HN1 := Lib.hid hn1
        have hn32 : n1 ≤ 32 := by have := rows_len R; omega
        have hsz4 := hc.size
        clear hc hown1 hn1
        go_wp2_with fail
        refine (schas_any HS.out).mono ?_
        rintro e w5 ⟨A2, n2, c2, rfl, hn2, hr2, hc⟩
        replace HX0 := Lib.hid (HX0.out.trans hc (fun _ _ e => e.elim))
        replace HS := Lib.hid (HS.out.keep hc)
        replace HO1 := Lib.hid (HO1.out.chg hc (fun _ _ => id))
        have HO2 := Lib.hid hr2
        clear hc hr2 hn2
        have hh := HL3.out.chg HX0.out (fun k hk => by omega)
        obtain ⟨ad, rfl, -⟩ := hh.2 (by omega)
        have hjl : j < l.length := by have := HLN.out; omega
        have hx : l[j]? = some l[j] := List.getElem?_eq_getElem hjl
        generalize l[j] = x at *
        obtain ⟨z0, z1, z2, hkk, hnn, hsr⟩ := hh.at hx
        have HSR := Lib.hid hsr
        clear hx hh hjl hsr
        by_cases h1 : x.k % 8 < 2
        case pos =>
          go_wp2_with fail
          refine (sadd_any HS.out x.who).mono ?_
          rintro e w6 ⟨rfl, hcs, hc⟩
          replace HX0 := Lib.hid (HX0.out.trans hc (fun k _ e => by omega))
          replace HO1 := Lib.hid (HO1.out.chg hc (fun k hk e => by omega))
          replace HO2 := Lib.hid (HO2.out.chg hc (fun k hk e => by omega))
          replace HS := Lib.hid hcs
          clear hc hcs z0 z1 z2
          have HLW := Lib.hid (law_add HW0.out x.who)
          generalize addP C x.who = v at *
          generalize addK C x.who = C2 at *
          clear HSR hkk hnn h1
          obtain ⟨hw2, hst, hmo⟩ := HLW.out
          have HW2 := Lib.hid hw2
          have HST := Lib.hid hst
          have HMO := Lib.hid hmo
          clear hw2 hst hmo HLW
          go_wp2_with fail
          refine (srows_any HS.out).mono ?_
          rintro e w7 ⟨A3, n3, c3, rfl, hn3, hown3, hc⟩
          replace HX0 := Lib.hid (HX0.out.trans hc (fun _ _ e => e.elim))
          replace HS := Lib.hid (HS.out.keep hc)
          replace HO1 := Lib.hid (HO1.out.chg hc (fun _ _ => id))
          replace HO2 := Lib.hid (HO2.out.chg hc (fun _ _ => id))
          have HSA := Lib.hid (same10_any A3 A1 n3 n1 c3 c1 (rowsP R) (rowsP R) _ _ w7 (own_sr rv_size hown3 hn3) HO1.out (by have := rows_len R; omega))
          clear hc hown3 hn3
          go_wp2_with fail
          refine HSA.out.mono ?_
          rintro e w8 ⟨b8, rfl, hb8, hc⟩
          replace HX0 := Lib.hid (HX0.out.trans hc (fun _ _ e => e.elim))
          replace HS := Lib.hid (HS.out.keep hc)
          replace HO1 := Lib.hid (HO1.out.chg hc (fun _ _ => id))
          replace HO2 := Lib.hid (HO2.out.chg hc (fun _ _ => id))
          have HB8 := Lib.hid hb8
          clear hc hb8 HSA
          go_wp2_with fail
          refine (schas_any HS.out).mono ?_
          rintro e w9 ⟨A4, n4, c4, rfl, hn4, hr4, hc⟩
          replace HX0 := Lib.hid (HX0.out.trans hc (fun _ _ e => e.elim))
          replace HS := Lib.hid (HS.out.keep hc)
          replace HO1 := Lib.hid (HO1.out.chg hc (fun _ _ => id))
          replace HO2 := Lib.hid (HO2.out.chg hc (fun _ _ => id))
          have HSA := Lib.hid (ints10_any A4 A2 n4 n2 c4 c2 (chasP C2) (chasP C) _ _ w9 hr4 HO2.out (by have := chas_len C2; omega))
          clear hc hr4 hn4
          go_wp2_with fail
          refine HSA.out.mono ?_
          rintro e w10 ⟨b10, rfl, hb10, hc⟩
          replace HX0 := Lib.hid (HX0.out.trans hc (fun _ _ e => e.elim))
          replace HS := Lib.hid (HS.out.keep hc)
          replace HO1 := Lib.hid (HO1.out.chg hc (fun _ _ => id))
          have HB10 := Lib.hid hb10
          clear hc hb10 HSA HO2
          go_wp2_with fail
          refine (sound10_any HS.out HW2.out).mono ?_
          rintro e w11 ⟨rfl, hc⟩
          replace HX0 := Lib.hid (HX0.out.trans hc (fun _ _ e => e.elim))
          replace HS := Lib.hid (HS.out.keep hc)
          replace HO1 := Lib.hid (HO1.out.chg hc (fun _ _ => id))
          clear hc
          go_upto_region 19 with fail
          go_cut [91] (fun s91 wx => s91 = .bool false ∧ wx = w11)
          case first =>
            by_cases hv : v = 0
            · subst hv
              go_wp2_with fail
              go_meet
              exact ⟨rfl, rfl⟩
            · have tv : (v == 0) = false := by simpa using hv
              have sv : (v != 0) = true := by simpa using hv
              obtain ⟨e1, e2⟩ := HST.out hv
              obtain rfl : true = b8 := (HB8.out (by first | trivial | rw [e2])).symm
              obtain rfl : true = b10 := (HB10.out (by first | trivial | rw [e1])).symm
              clear hv e1 e2
              go_wp2_with fail
              go_meet
              exact ⟨rfl, rfl⟩
          case rest =>
            obtain ⟨rfl, hwc⟩ := hcut
            subst hwc
            clear HB8 HB10 HST
            go_wp2_with fail
            go_loopg [12, 13, 14] n1 (fun g k s13 s14 wr2 => ∃ (i : Nat), g = n1 - i ∧ i ≤ n1 ∧ k = .int .i64 (i : Int) ∧ Hid (Chg (fun _ => False) wc wr2))
            case atStart => exact ⟨0, rfl, Nat.zero_le _, rfl, Lib.hid (Chg.refl _ _)⟩
            case round =>
              obtain ⟨i, rfl, hi, rfl, HX2⟩ := hrel
              by_cases hlt2 : i < n1
              · have hh := HO1.out.chg HX2.out (fun _ _ => id)
                obtain ⟨ad, rfl, -⟩ := hh.2 (by omega)
                have hil : i < (rowsP R).length := by have := HN1.out; omega
                have hy : (rowsP R)[i]? = some (rowsP R)[i] := List.getElem?_eq_getElem hil
                generalize (rowsP R)[i] = y at *
                obtain ⟨r, hr, hve⟩ := HMO.out _ _ (HW0.out.rows_at hy).1
                obtain ⟨qo, qa, qw, qt, ql, qg, qp, qv, qs, rfl⟩ := rv_letters y
                obtain ⟨a0, a1, a2, a3, a4, a5, a6, a7, a8, rfl⟩ := rv_letters r
                obtain ⟨z0, z1, z2, z3, z4, z5, z6, z7, z8⟩ := sr_at9 hh hy
                replace hr : R qo = some ⟨a0, a1, a2, a3, a4, a5, a6, a7, a8⟩ := hr
                replace hve : qv ≤ a7 := hve
                have HY := Lib.hid hy
                have hrow := srow_any (HS.out.keep HX2.out) qo
                rw [hr] at hrow
                have HRW : Hid (Calls _ _ _ _ (HB9 a0 a1 a2 a3 a4 a5 a6 a7 a8 true wr)) := Lib.hid hrow
                clear hr hrow hh hy hil
                go_wp2_with fail
                refine HRW.out.mono ?_
                rintro e w12 ⟨rfl, hc⟩
                replace HX2 := Lib.hid (HX2.out.trans hc (fun _ _ e => e))
                clear hc HRW z0 z1 z2 z3 z4 z5 z6 z7 z8
                go_upto_region 25 with fail
                have HN : Blk (w12.alloc (.cells #[.int .i64 a0, .int .u64 a1, .int .i64 a2, .int .i64 a3, .int .i64 a4, .int .i64 a5, .int .i64 a6, .int .i64 a7, .int .i64 a8] 33)) w12.heap.size 33 (rvC a0 a1 a2 a3 a4 a5 a6 a7 a8) := blk_new rfl
                replace HN := Lib.hid HN
                replace HX2 := Lib.hid (HX2.out.alloc (.cells #[.int .i64 a0, .int .u64 a1, .int .i64 a2, .int .i64 a3, .int .i64 a4, .int .i64 a5, .int .i64 a6, .int .i64 a7, .int .i64 a8] 33))
                generalize (w12.alloc (.cells #[.int .i64 a0, .int .u64 a1, .int .i64 a2, .int .i64 a3, .int .i64 a4, .int .i64 a5, .int .i64 a6, .int .i64 a7, .int .i64 a8] 33)) = w13 at *
                generalize w12.heap.size = qq at *
                obtain ⟨z0, z1, z2, z3, z4, z5, z6, z7, z8⟩ := sr_at9 (HO1.out.chg HX2.out.drew (fun _ _ => id)) HY.out
                obtain ⟨y0, y1, y2, y3, y4, y5, y6, y7, y8⟩ := rv_cells HN.out.drew
                go_wp2_with fail
                go_region
                clear z0 z1 z2 z3 z4 z5 z6 z7 z8 y0 y1 y2 y3 y4 y5 y6 y7 y8
                replace HX2 := Lib.hid HX2.out.drew
                generalize World.drew w13 = w14 at *
                go_wp2_with fail
                go_roundg (n1 - (i + 1))
                case measure => omega
                case rel => exact ⟨i + 1, rfl, by omega, by go_num, HX2⟩
              · have : i = n1 := by omega
                subst this
                go_wp2_with fail
                go_roundg (m - (j + 1))
                case measure => omega
                case rel => exact ⟨j + 1, br, C2, R, rfl, by omega, by go_num, Lib.hid (HS.out.keep HX2.out), HW2, Lib.hid (HX0.out.trans HX2.out (fun _ _ e => e.elim))⟩

        case neg =>
          by_cases h2 : x.k % 8 = 2
          case pos =>
            have t2 : (x.k % 8 == 2) = true := by simpa using h2
            go_wp2_with fail
            refine (srem_any HS.out x.who).mono ?_
            rintro e w6 ⟨rfl, hcs, hc⟩
            replace HX0 := Lib.hid (HX0.out.trans hc (fun k _ e => by omega))
            replace HO1 := Lib.hid (HO1.out.chg hc (fun k hk e => by omega))
            replace HO2 := Lib.hid (HO2.out.chg hc (fun k hk e => by omega))
            replace HS := Lib.hid hcs
            clear hc hcs z0 z1 z2
            have HLW := Lib.hid (law_rem HW0.out x.who)
            generalize remP C R x.who = v at *
            generalize remK C R x.who = C2 at *
            clear HSR hkk hnn h1 h2 t2
            obtain ⟨hw2, hst, hmo⟩ := HLW.out
            have HW2 := Lib.hid hw2
            have HST := Lib.hid hst
            have HMO := Lib.hid hmo
            clear hw2 hst hmo HLW
            go_wp2_with fail
            refine (srows_any HS.out).mono ?_
            rintro e w7 ⟨A3, n3, c3, rfl, hn3, hown3, hc⟩
            replace HX0 := Lib.hid (HX0.out.trans hc (fun _ _ e => e.elim))
            replace HS := Lib.hid (HS.out.keep hc)
            replace HO1 := Lib.hid (HO1.out.chg hc (fun _ _ => id))
            replace HO2 := Lib.hid (HO2.out.chg hc (fun _ _ => id))
            have HSA := Lib.hid (same10_any A3 A1 n3 n1 c3 c1 (rowsP R) (rowsP R) _ _ w7 (own_sr rv_size hown3 hn3) HO1.out (by have := rows_len R; omega))
            clear hc hown3 hn3
            go_wp2_with fail
            refine HSA.out.mono ?_
            rintro e w8 ⟨b8, rfl, hb8, hc⟩
            replace HX0 := Lib.hid (HX0.out.trans hc (fun _ _ e => e.elim))
            replace HS := Lib.hid (HS.out.keep hc)
            replace HO1 := Lib.hid (HO1.out.chg hc (fun _ _ => id))
            replace HO2 := Lib.hid (HO2.out.chg hc (fun _ _ => id))
            have HB8 := Lib.hid hb8
            clear hc hb8 HSA
            go_wp2_with fail
            refine (schas_any HS.out).mono ?_
            rintro e w9 ⟨A4, n4, c4, rfl, hn4, hr4, hc⟩
            replace HX0 := Lib.hid (HX0.out.trans hc (fun _ _ e => e.elim))
            replace HS := Lib.hid (HS.out.keep hc)
            replace HO1 := Lib.hid (HO1.out.chg hc (fun _ _ => id))
            replace HO2 := Lib.hid (HO2.out.chg hc (fun _ _ => id))
            have HSA := Lib.hid (ints10_any A4 A2 n4 n2 c4 c2 (chasP C2) (chasP C) _ _ w9 hr4 HO2.out (by have := chas_len C2; omega))
            clear hc hr4 hn4
            go_wp2_with fail
            refine HSA.out.mono ?_
            rintro e w10 ⟨b10, rfl, hb10, hc⟩
            replace HX0 := Lib.hid (HX0.out.trans hc (fun _ _ e => e.elim))
            replace HS := Lib.hid (HS.out.keep hc)
            replace HO1 := Lib.hid (HO1.out.chg hc (fun _ _ => id))
            have HB10 := Lib.hid hb10
            clear hc hb10 HSA HO2
            go_wp2_with fail
            refine (sound10_any HS.out HW2.out).mono ?_
            rintro e w11 ⟨rfl, hc⟩
            replace HX0 := Lib.hid (HX0.out.trans hc (fun _ _ e => e.elim))
            replace HS := Lib.hid (HS.out.keep hc)
            replace HO1 := Lib.hid (HO1.out.chg hc (fun _ _ => id))
            clear hc
            go_upto_region 19 with fail
            go_cut [91] (fun s91 wx => s91 = .bool false ∧ wx = w11)
            case first =>
              by_cases hv : v = 0
              · subst hv
                go_wp2_with fail
                go_meet
                exact ⟨rfl, rfl⟩
              · have tv : (v == 0) = false := by simpa using hv
                have sv : (v != 0) = true := by simpa using hv
                obtain ⟨e1, e2⟩ := HST.out hv
                obtain rfl : true = b8 := (HB8.out (by first | trivial | rw [e2])).symm
                obtain rfl : true = b10 := (HB10.out (by first | trivial | rw [e1])).symm
                clear hv e1 e2
                go_wp2_with fail
                go_meet
                exact ⟨rfl, rfl⟩
            case rest =>
              obtain ⟨rfl, hwc⟩ := hcut
              subst hwc
              clear HB8 HB10 HST
              go_wp2_with fail
              go_loopg [12, 13, 14] n1 (fun g k s13 s14 wr2 => ∃ (i : Nat), g = n1 - i ∧ i ≤ n1 ∧ k = .int .i64 (i : Int) ∧ Hid (Chg (fun _ => False) wc wr2))
              case atStart => exact ⟨0, rfl, Nat.zero_le _, rfl, Lib.hid (Chg.refl _ _)⟩
              case round =>
                obtain ⟨i, rfl, hi, rfl, HX2⟩ := hrel
                by_cases hlt2 : i < n1
                · have hh := HO1.out.chg HX2.out (fun _ _ => id)
                  obtain ⟨ad, rfl, -⟩ := hh.2 (by omega)
                  have hil : i < (rowsP R).length := by have := HN1.out; omega
                  have hy : (rowsP R)[i]? = some (rowsP R)[i] := List.getElem?_eq_getElem hil
                  generalize (rowsP R)[i] = y at *
                  obtain ⟨r, hr, hve⟩ := HMO.out _ _ (HW0.out.rows_at hy).1
                  obtain ⟨qo, qa, qw, qt, ql, qg, qp, qv, qs, rfl⟩ := rv_letters y
                  obtain ⟨a0, a1, a2, a3, a4, a5, a6, a7, a8, rfl⟩ := rv_letters r
                  obtain ⟨z0, z1, z2, z3, z4, z5, z6, z7, z8⟩ := sr_at9 hh hy
                  replace hr : R qo = some ⟨a0, a1, a2, a3, a4, a5, a6, a7, a8⟩ := hr
                  replace hve : qv ≤ a7 := hve
                  have HY := Lib.hid hy
                  have hrow := srow_any (HS.out.keep HX2.out) qo
                  rw [hr] at hrow
                  have HRW : Hid (Calls _ _ _ _ (HB9 a0 a1 a2 a3 a4 a5 a6 a7 a8 true wr)) := Lib.hid hrow
                  clear hr hrow hh hy hil
                  go_wp2_with fail
                  refine HRW.out.mono ?_
                  rintro e w12 ⟨rfl, hc⟩
                  replace HX2 := Lib.hid (HX2.out.trans hc (fun _ _ e => e))
                  clear hc HRW z0 z1 z2 z3 z4 z5 z6 z7 z8
                  go_upto_region 25 with fail
                  have HN : Blk (w12.alloc (.cells #[.int .i64 a0, .int .u64 a1, .int .i64 a2, .int .i64 a3, .int .i64 a4, .int .i64 a5, .int .i64 a6, .int .i64 a7, .int .i64 a8] 33)) w12.heap.size 33 (rvC a0 a1 a2 a3 a4 a5 a6 a7 a8) := blk_new rfl
                  replace HN := Lib.hid HN
                  replace HX2 := Lib.hid (HX2.out.alloc (.cells #[.int .i64 a0, .int .u64 a1, .int .i64 a2, .int .i64 a3, .int .i64 a4, .int .i64 a5, .int .i64 a6, .int .i64 a7, .int .i64 a8] 33))
                  generalize (w12.alloc (.cells #[.int .i64 a0, .int .u64 a1, .int .i64 a2, .int .i64 a3, .int .i64 a4, .int .i64 a5, .int .i64 a6, .int .i64 a7, .int .i64 a8] 33)) = w13 at *
                  generalize w12.heap.size = qq at *
                  obtain ⟨z0, z1, z2, z3, z4, z5, z6, z7, z8⟩ := sr_at9 (HO1.out.chg HX2.out.drew (fun _ _ => id)) HY.out
                  obtain ⟨y0, y1, y2, y3, y4, y5, y6, y7, y8⟩ := rv_cells HN.out.drew
                  go_wp2_with fail
                  go_region
                  clear z0 z1 z2 z3 z4 z5 z6 z7 z8 y0 y1 y2 y3 y4 y5 y6 y7 y8
                  replace HX2 := Lib.hid HX2.out.drew
                  generalize World.drew w13 = w14 at *
                  go_wp2_with fail
                  go_roundg (n1 - (i + 1))
                  case measure => omega
                  case rel => exact ⟨i + 1, rfl, by omega, by go_num, HX2⟩
                · have : i = n1 := by omega
                  subst this
                  go_wp2_with fail
                  go_roundg (m - (j + 1))
                  case measure => omega
                  case rel => exact ⟨j + 1, br, C2, R, rfl, by omega, by go_num, Lib.hid (HS.out.keep HX2.out), HW2, Lib.hid (HX0.out.trans HX2.out (fun _ _ e => e.elim))⟩

          case neg =>
            have t2 : (x.k % 8 == 2) = false := by simpa using h2
            go_wp2_with fail
            refine (sapply_any HS.out x.A x.n x.c x.l _ HSR.out (by omega)).mono ?_
            rintro e w6 ⟨br2, rfl, hcs, hc⟩
            replace HX0 := Lib.hid (HX0.out.trans hc (fun k _ e => by omega))
            replace HO1 := Lib.hid (HO1.out.chg hc (fun k hk e => by omega))
            replace HO2 := Lib.hid (HO2.out.chg hc (fun k hk e => by omega))
            replace HS := Lib.hid hcs
            clear hc hcs z0 z1 z2
            have HLW := Lib.hid (law_app HW0.out x.l)
            generalize (appP C x.l R).1 = v at *
            generalize appK C x.l R = R2 at *
            clear HSR hkk hnn h1 h2 t2
            obtain ⟨hw2, hst, hmo⟩ := HLW.out
            have HW2 := Lib.hid hw2
            have HST := Lib.hid hst
            have HMO := Lib.hid hmo
            clear hw2 hst hmo HLW
            go_wp2_with fail
            refine (srows_any HS.out).mono ?_
            rintro e w7 ⟨A3, n3, c3, rfl, hn3, hown3, hc⟩
            replace HX0 := Lib.hid (HX0.out.trans hc (fun _ _ e => e.elim))
            replace HS := Lib.hid (HS.out.keep hc)
            replace HO1 := Lib.hid (HO1.out.chg hc (fun _ _ => id))
            replace HO2 := Lib.hid (HO2.out.chg hc (fun _ _ => id))
            have HSA := Lib.hid (same10_any A3 A1 n3 n1 c3 c1 (rowsP R2) (rowsP R) _ _ w7 (own_sr rv_size hown3 hn3) HO1.out (by have := rows_len R2; omega))
            clear hc hown3 hn3
            go_wp2_with fail
            refine HSA.out.mono ?_
            rintro e w8 ⟨b8, rfl, hb8, hc⟩
            replace HX0 := Lib.hid (HX0.out.trans hc (fun _ _ e => e.elim))
            replace HS := Lib.hid (HS.out.keep hc)
            replace HO1 := Lib.hid (HO1.out.chg hc (fun _ _ => id))
            replace HO2 := Lib.hid (HO2.out.chg hc (fun _ _ => id))
            have HB8 := Lib.hid hb8
            clear hc hb8 HSA
            go_wp2_with fail
            refine (schas_any HS.out).mono ?_
            rintro e w9 ⟨A4, n4, c4, rfl, hn4, hr4, hc⟩
            replace HX0 := Lib.hid (HX0.out.trans hc (fun _ _ e => e.elim))
            replace HS := Lib.hid (HS.out.keep hc)
            replace HO1 := Lib.hid (HO1.out.chg hc (fun _ _ => id))
            replace HO2 := Lib.hid (HO2.out.chg hc (fun _ _ => id))
            have HSA := Lib.hid (ints10_any A4 A2 n4 n2 c4 c2 (chasP C) (chasP C) _ _ w9 hr4 HO2.out (by have := chas_len C; omega))
            clear hc hr4 hn4
            go_wp2_with fail
            refine HSA.out.mono ?_
            rintro e w10 ⟨b10, rfl, hb10, hc⟩
            replace HX0 := Lib.hid (HX0.out.trans hc (fun _ _ e => e.elim))
            replace HS := Lib.hid (HS.out.keep hc)
            replace HO1 := Lib.hid (HO1.out.chg hc (fun _ _ => id))
            have HB10 := Lib.hid hb10
            clear hc hb10 HSA HO2
            go_wp2_with fail
            refine (sound10_any HS.out HW2.out).mono ?_
            rintro e w11 ⟨rfl, hc⟩
            replace HX0 := Lib.hid (HX0.out.trans hc (fun _ _ e => e.elim))
            replace HS := Lib.hid (HS.out.keep hc)
            replace HO1 := Lib.hid (HO1.out.chg hc (fun _ _ => id))
            clear hc
            go_upto_region 19 with fail
            go_cut [91] (fun s91 wx => s91 = .bool false ∧ wx = w11)
            case first =>
              by_cases hv : v = 0
              · subst hv
                go_wp2_with fail
                go_meet
                exact ⟨rfl, rfl⟩
              · have tv : (v == 0) = false := by simpa using hv
                have sv : (v != 0) = true := by simpa using hv
                obtain ⟨e1, e2⟩ := HST.out hv
                obtain rfl : true = b8 := (HB8.out (by first | trivial | rw [e2])).symm
                obtain rfl : true = b10 := (HB10.out (by first | trivial | rw [e1])).symm
                clear hv e1 e2
                go_wp2_with fail
                go_meet
                exact ⟨rfl, rfl⟩
            case rest =>
              obtain ⟨rfl, hwc⟩ := hcut
              subst hwc
              clear HB8 HB10 HST
              go_wp2_with fail
              go_loopg [12, 13, 14] n1 (fun g k s13 s14 wr2 => ∃ (i : Nat), g = n1 - i ∧ i ≤ n1 ∧ k = .int .i64 (i : Int) ∧ Hid (Chg (fun _ => False) wc wr2))
              case atStart => exact ⟨0, rfl, Nat.zero_le _, rfl, Lib.hid (Chg.refl _ _)⟩
              case round =>
                obtain ⟨i, rfl, hi, rfl, HX2⟩ := hrel
                by_cases hlt2 : i < n1
                · have hh := HO1.out.chg HX2.out (fun _ _ => id)
                  obtain ⟨ad, rfl, -⟩ := hh.2 (by omega)
                  have hil : i < (rowsP R).length := by have := HN1.out; omega
                  have hy : (rowsP R)[i]? = some (rowsP R)[i] := List.getElem?_eq_getElem hil
                  generalize (rowsP R)[i] = y at *
                  obtain ⟨r, hr, hve⟩ := HMO.out _ _ (HW0.out.rows_at hy).1
                  obtain ⟨qo, qa, qw, qt, ql, qg, qp, qv, qs, rfl⟩ := rv_letters y
                  obtain ⟨a0, a1, a2, a3, a4, a5, a6, a7, a8, rfl⟩ := rv_letters r
                  obtain ⟨z0, z1, z2, z3, z4, z5, z6, z7, z8⟩ := sr_at9 hh hy
                  replace hr : R2 qo = some ⟨a0, a1, a2, a3, a4, a5, a6, a7, a8⟩ := hr
                  replace hve : qv ≤ a7 := hve
                  have HY := Lib.hid hy
                  have hrow := srow_any (HS.out.keep HX2.out) qo
                  rw [hr] at hrow
                  have HRW : Hid (Calls _ _ _ _ (HB9 a0 a1 a2 a3 a4 a5 a6 a7 a8 true wr)) := Lib.hid hrow
                  clear hr hrow hh hy hil
                  go_wp2_with fail
                  refine HRW.out.mono ?_
                  rintro e w12 ⟨rfl, hc⟩
                  replace HX2 := Lib.hid (HX2.out.trans hc (fun _ _ e => e))
                  clear hc HRW z0 z1 z2 z3 z4 z5 z6 z7 z8
                  go_upto_region 25 with fail
                  have HN : Blk (w12.alloc (.cells #[.int .i64 a0, .int .u64 a1, .int .i64 a2, .int .i64 a3, .int .i64 a4, .int .i64 a5, .int .i64 a6, .int .i64 a7, .int .i64 a8] 33)) w12.heap.size 33 (rvC a0 a1 a2 a3 a4 a5 a6 a7 a8) := blk_new rfl
                  replace HN := Lib.hid HN
                  replace HX2 := Lib.hid (HX2.out.alloc (.cells #[.int .i64 a0, .int .u64 a1, .int .i64 a2, .int .i64 a3, .int .i64 a4, .int .i64 a5, .int .i64 a6, .int .i64 a7, .int .i64 a8] 33))
                  generalize (w12.alloc (.cells #[.int .i64 a0, .int .u64 a1, .int .i64 a2, .int .i64 a3, .int .i64 a4, .int .i64 a5, .int .i64 a6, .int .i64 a7, .int .i64 a8] 33)) = w13 at *
                  generalize w12.heap.size = qq at *
                  obtain ⟨z0, z1, z2, z3, z4, z5, z6, z7, z8⟩ := sr_at9 (HO1.out.chg HX2.out.drew (fun _ _ => id)) HY.out
                  obtain ⟨y0, y1, y2, y3, y4, y5, y6, y7, y8⟩ := rv_cells HN.out.drew
                  go_wp2_with fail
                  go_region
                  clear z0 z1 z2 z3 z4 z5 z6 z7 z8 y0 y1 y2 y3 y4 y5 y6 y7 y8
                  replace HX2 := Lib.hid HX2.out.drew
                  generalize World.drew w13 = w14 at *
                  go_wp2_with fail
                  go_roundg (n1 - (i + 1))
                  case measure => omega
                  case rel => exact ⟨i + 1, rfl, by omega, by go_num, HX2⟩
                · have : i = n1 := by omega
                  subst this
                  go_wp2_with fail
                  go_roundg (m - (j + 1))
                  case measure => omega
                  case rel => exact ⟨j + 1, br2, C, R2, rfl, by omega, by go_num, Lib.hid (HS.out.keep HX2.out), HW2, Lib.hid (HX0.out.trans HX2.out (fun _ _ e => e.elim))⟩

      · have : j = m := by omega
        subst this
        go_wp2_with fail
        refine (alive10_any wr).mono ?_
        rintro e w6 ⟨rfl, hc⟩
        have HF := Lib.hid ((HX3.out.trans HX0.out (fun k hk e => by omega)).trans hc (fun _ _ e => e))
        clear hc
        go_wp2_with fail
        go_ret
        exact ⟨rfl, HF.out⟩


end Go.Proofs.Ytbajcdmcjmkieaa
