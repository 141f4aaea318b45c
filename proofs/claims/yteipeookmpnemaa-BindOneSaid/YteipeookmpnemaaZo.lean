/-
  Walk: rutterlaw14.BindOne. Conditions: the rows are read in memory, the chassis is a byte.
-/
import Derived.Test.YteipeookmpnemaaZk
namespace Go.Proofs.Yteipeookmpnemaa
open Go.RowKit
set_option linter.unusedVariables false
set_option linter.unusedSimpArgs false

theorem kd14_cases {r : RV} {c : Int} {k : Ky} (h : ¬ r.kd c k = 0) : ¬ r.ge < k.ks ∧ ((r.kd c k = 1 ∧ c = r.ow) ∨ (r.kd c k = 2 ∧ ¬ c = r.ow ∧ (k.ki = 0 ∨ (k.ki = 1 ∧ ¬ k.ko = r.ow)))) := by
  unfold RV.kd mk14 at *
  by_cases h1 : isB14 r.ma r.po k.ki k.km k.kp = false
  · simp [h1] at h
  by_cases h2 : r.ph = 3
  · simp [h2] at h
  by_cases h3 : r.ge < k.ks
  · simp [h3] at h
  rw [if_neg h1, if_neg h2, if_neg h3] at h
  rw [if_neg h1, if_neg h2, if_neg h3]
  refine ⟨h3, ?_⟩
  by_cases h4 : c = r.ow
  · left
    exact ⟨if_pos h4, h4⟩
  rw [if_neg h4] at h
  rw [if_neg h4]
  right
  by_cases h5 : k.ki = 0
  · exact ⟨if_pos h5, h4, .inl h5⟩
  rw [if_neg h5] at h
  rw [if_neg h5]
  by_cases h6 : k.ki = 1 ∧ lfB14 r.ph r.ol c = true ∧ ¬ k.ko = r.ow
  · exact ⟨if_pos h6, h4, .inr ⟨h6.1, h6.2.2⟩⟩
  · rw [if_neg h6] at h
    exact absurd rfl h
set_option maxRecDepth 100000 in
set_option maxHeartbeats 16000000 in
theorem one14_any {w : World} {L : Option Addr} {m lc : Nat} {l : List RV} (h : RwR w L m l) (hmc : m ≤ 9223372036854775807) {ch : Int} (hch : 0 ≤ ch ∧ ch ≤ 255) (ki km kp ks ko : Int) : Calls Try.prog 5 #[.slice L m lc, .int .u8 ch, .agg (kyC ki km kp ks ko)] w fun e w' => e = .returned (.bool true) ∧ Chg (fun _ => False) w w' := by
  have HK : Hid (Blk (w.alloc (.cells #[.int .i64 ki, .int .u64 km, .int .i64 kp, .int .i64 ks, .int .i64 ko] 27)) w.heap.size 27 (kyC ki km kp ks ko)) := Lib.hid (blk_new rfl)
  have HX := Lib.hid ((Chg.refl (fun _ => False) w).alloc (.cells #[.int .i64 ki, .int .u64 km, .int .i64 kp, .int .i64 ks, .int .i64 ko] 27))
  have HR := Lib.hid (h.alloc (.cells #[.int .i64 ki, .int .u64 km, .int .i64 kp, .int .i64 ks, .int .i64 ko] 27))
  have HL := Lib.hid h.1
  have HAL := Lib.hid (fun W => alive14_any W)
  have h3 := fun W => lkey14_any ki km kp ks ko W
  have h4 := fun W => rasked14_any ki km kp ks ko W
  generalize hba : as14 ki ks ko = ba at *
  have HAE := Lib.hid hba
  unfold kyC at h3 h4
  have HKEY := Lib.hid h3
  have HAS := Lib.hid h4
  clear h h3 h4 hba
  obtain ⟨c, hcm, hc0, hc1⟩ : ∃ c : Int, ch.tmod 16 = c ∧ 0 ≤ c ∧ c ≤ 15 := ⟨ch.tmod 16, rfl, by rw [Int.tmod_eq_emod_of_nonneg hch.1]; exact Int.emod_nonneg _ (by decide), by rw [Int.tmod_eq_emod_of_nonneg hch.1]; have := Int.emod_lt_of_pos ch (show (0 : Int) < 16 by decide); omega⟩
  unfold kyC
  by_cases hm : m ≤ 100
  · skip
    go_enter Try.func5, Try.ntmps5
    go_upto_region 1 with fail
    generalize w.alloc (.cells #[.int .i64 ki, .int .u64 km, .int .i64 kp, .int .i64 ks, .int .i64 ko] 27) = w1 at *
    generalize w.heap.size = QK at *
    have HST := Lib.hid (rstand14_any (lc := lc) HR.out hmc)
    go_wp2_with fail
    refine HST.out.mono ?_
    rintro e w2 ⟨b, rfl, hs, hc⟩
    have HSS := Lib.hid hs
    replace HK := Lib.hid (HK.out.chg hc id)
    replace HR := Lib.hid (HR.out.chg hc)
    replace HX := Lib.hid (HX.out.trans hc (fun _ _ e => e))
    clear hc hs HST
    cases b with
    | false =>
      clear HSS
      obtain ⟨u0, u1, u2, u3, u4⟩ := ky_cells13 HK.out
      go_wp2_with fail
      refine (HKEY.out _).mono ?_
      rintro e w3 ⟨rfl, hc⟩
      replace HK := Lib.hid (HK.out.chg hc id)
      replace HR := Lib.hid (HR.out.chg hc)
      replace HX := Lib.hid (HX.out.trans hc (fun _ _ e => e))
      clear hc u0 u1 u2 u3 u4
      go_wp2_with fail
      refine (HAS.out _).mono ?_
      rintro e w4 ⟨rfl, hc⟩
      replace HK := Lib.hid (HK.out.chg hc id)
      replace HR := Lib.hid (HR.out.chg hc)
      replace HX := Lib.hid (HX.out.trans hc (fun _ _ e => e))
      clear hc
      clear HAE
      go_wp2_with fail
      refine (HAL.out _).mono ?_
      rintro e w5 ⟨rfl, hc⟩
      replace HX := Lib.hid (HX.out.trans hc (fun _ _ e => e))
      clear hc
      go_wp2_with fail
      go_ret
      exact ⟨rfl, HX.out⟩
    | true =>
      obtain ⟨u0, u1, u2, u3, u4⟩ := ky_cells13 HK.out
      go_wp2_with fail
      refine (HKEY.out _).mono ?_
      rintro e w3 ⟨rfl, hc⟩
      replace HK := Lib.hid (HK.out.chg hc id)
      replace HR := Lib.hid (HR.out.chg hc)
      replace HX := Lib.hid (HX.out.trans hc (fun _ _ e => e))
      clear hc u0 u1 u2 u3 u4
      go_wp2_with fail
      refine (HAS.out _).mono ?_
      rintro e w4 ⟨rfl, hc⟩
      replace HK := Lib.hid (HK.out.chg hc id)
      replace HR := Lib.hid (HR.out.chg hc)
      replace HX := Lib.hid (HX.out.trans hc (fun _ _ e => e))
      clear hc
      cases ba with
      | false =>
        go_wp2_with fail
        refine (HAL.out _).mono ?_
        rintro e w5 ⟨rfl, hc⟩
        replace HX := Lib.hid (HX.out.trans hc (fun _ _ e => e))
        clear hc
        go_wp2_with fail
        go_ret
        exact ⟨rfl, HX.out⟩
      | true =>
        have hTB := tab14 c (k := ⟨ki, km, kp, ks, ko⟩) (HAE.out) l
        cases hfr : fr14 c ⟨ki, km, kp, ks, ko⟩ l with
        | none =>
          rw [hfr] at hTB
          replace hTB : acO13 (lk13 ⟨ki, km, kp, ks, ko⟩ (cp14 c l)) = acC 0 0 0 0 ∧ (lk13 ⟨ki, km, kp, ks, ko⟩ (cp14 c l)).isSome = false := hTB
          have HLK := Lib.hid (show ∀ (W : World) (p : Nat), TF W p (cp14 c l) → Calls Try.prog 14 #[.pointer (some ⟨p, 0, none⟩), .agg #[.int .i64 ki, .int .u64 km, .int .i64 kp, .int .i64 ks, .int .i64 ko]] W (fun e w' => e = .returned (.tuple #[.agg #[.int .i64 0, .int .i64 0, .int .i64 0, .int .i64 0], .bool false]) ∧ Chg (fun _ => False) W w') from fun W p hT => by
            have h2 := flook13_any hT (by have := cp14_len c l; have := HL.out; omega) ki km kp ks ko
            unfold LkP13 at h2
            rw [hTB.1, hTB.2] at h2
            exact h2)
          clear hTB
          have HTA := Lib.hid (btable14_any (lc := lc) HR.out hm c)
          go_wp2_with fail
          refine HTA.out.mono ?_
          rintro e w5 ⟨p, rfl, hT, hc⟩
          have HT := Lib.hid hT
          replace HK := Lib.hid (HK.out.chg hc id)
          replace HR := Lib.hid (HR.out.chg hc)
          replace HX := Lib.hid (HX.out.trans hc (fun _ _ e => e))
          clear hT hc HTA
          obtain ⟨u0, u1, u2, u3, u4⟩ := ky_cells13 HK.out
          go_wp2_with fail
          refine (HLK.out _ p HT.out).mono ?_
          rintro e w6 ⟨rfl, hc⟩
          have hca := hc.alloc (.cells #[.int .i64 0, .int .i64 0, .int .i64 0, .int .i64 0] 31)
          have HA : Hid (Blk (w6.alloc (.cells #[.int .i64 0, .int .i64 0, .int .i64 0, .int .i64 0] 31)) w6.heap.size 31 (acC 0 0 0 0)) := Lib.hid (blk_new rfl)
          replace HK := Lib.hid (HK.out.chg hca id)
          replace HR := Lib.hid (HR.out.chg hca)
          replace HX := Lib.hid (HX.out.trans hca (fun _ _ e => e))
          clear hc hca u0 u1 u2 u3 u4 HT HLK
          go_upto_region 8 with fail
          generalize w6.alloc (.cells #[.int .i64 0, .int .i64 0, .int .i64 0, .int .i64 0] 31) = v6 at *
          generalize w6.heap.size = X12 at *
          have he := fun W => eqAc13 W 0 0 0 0 0 0 0 0
          rw [acE13_refl] at he
          go_wp2_with fail
          refine (HAL.out _).mono ?_
          rintro e w7 ⟨rfl, hc⟩
          replace HA := Lib.hid (HA.out.chg hc id)
          replace HX := Lib.hid (HX.out.trans hc (fun _ _ e => e))
          clear hc
          obtain ⟨x0, x1, x2, x3⟩ := ac_cells13 HA.out
          go_wp2_with fail
          go_ret
          exact ⟨rfl, HX.out⟩
        | some r =>
          obtain ⟨hin, hk0⟩ := fr14_some hfr
          obtain ⟨po, ma, ow, ta, ol, ge, ph, ve, si⟩ := r
          have HIN := Lib.hid hin
          have HSD := Lib.hid (HSS.out (by first | trivial | rfl))
          obtain ⟨hg, ⟨hk, hcw⟩ | ⟨hk, hcw, hki⟩⟩ := kd14_cases hk0
          · replace hg : ¬ ge < ks := hg
            replace hcw : c = ow := hcw
            replace hTB : acO13 (lk13 ⟨ki, km, kp, ks, ko⟩ (cp14 c l)) = acC 1 po ow ge ∧ (lk13 ⟨ki, km, kp, ks, ko⟩ (cp14 c l)).isSome = true := by
              rw [hfr] at hTB
              refine ⟨hTB.1.trans ?_, hTB.2⟩
              show acC (RV.kd (⟨po, ma, ow, ta, ol, ge, ph, ve, si⟩ : RV) c ⟨ki, km, kp, ks, ko⟩) po ow ge = _
              rw [hk]
            have HLK := Lib.hid (show ∀ (W : World) (p : Nat), TF W p (cp14 c l) → Calls Try.prog 14 #[.pointer (some ⟨p, 0, none⟩), .agg #[.int .i64 ki, .int .u64 km, .int .i64 kp, .int .i64 ks, .int .i64 ko]] W (fun e w' => e = .returned (.tuple #[.agg #[.int .i64 1, .int .i64 po, .int .i64 ow, .int .i64 ge], .bool true]) ∧ Chg (fun _ => False) W w') from fun W p hT => by
              have h2 := flook13_any hT (by have := cp14_len c l; have := HL.out; omega) ki km kp ks ko
              unfold LkP13 at h2
              rw [hTB.1, hTB.2] at h2
              exact h2)
            clear hTB
            have tc : (ow != c) = false := by simp [hcw]
            clear hcw hk hk0 hin hfr
            have HTA := Lib.hid (btable14_any (lc := lc) HR.out hm c)
            go_wp2_with fail
            refine HTA.out.mono ?_
            rintro e w5 ⟨p, rfl, hT, hc⟩
            have HT := Lib.hid hT
            replace HK := Lib.hid (HK.out.chg hc id)
            replace HR := Lib.hid (HR.out.chg hc)
            replace HX := Lib.hid (HX.out.trans hc (fun _ _ e => e))
            clear hT hc HTA
            obtain ⟨u0, u1, u2, u3, u4⟩ := ky_cells13 HK.out
            go_wp2_with fail
            refine (HLK.out _ p HT.out).mono ?_
            rintro e w6 ⟨rfl, hc⟩
            have hca := hc.alloc (.cells #[.int .i64 1, .int .i64 po, .int .i64 ow, .int .i64 ge] 31)
            have HA : Hid (Blk (w6.alloc (.cells #[.int .i64 1, .int .i64 po, .int .i64 ow, .int .i64 ge] 31)) w6.heap.size 31 (acC 1 po ow ge)) := Lib.hid (blk_new rfl)
            replace HK := Lib.hid (HK.out.chg hca id)
            replace HR := Lib.hid (HR.out.chg hca)
            replace HX := Lib.hid (HX.out.trans hca (fun _ _ e => e))
            clear hc hca u0 u1 u2 u3 u4 HT HLK
            go_upto_region 8 with fail
            generalize w6.alloc (.cells #[.int .i64 1, .int .i64 po, .int .i64 ow, .int .i64 ge] 31) = v6 at *
            generalize w6.heap.size = X12 at *
            obtain ⟨u0, u1, u2, u3, u4⟩ := ky_cells13 HK.out
            obtain ⟨x0, x1, x2, x3⟩ := ac_cells13 HA.out
            go_wp2_with fail
            clear u0 u1 u2 u3 u4 x0 x1 x2 x3 HK
            go_loopg [14] m (fun g i wr => ∃ (j : Nat), g = m - j ∧ j ≤ m ∧ i = .int .i64 (j : Int) ∧ Hid (∀ (i : Nat) (x : RV), i < j → l[i]? = some x → ¬ x.po = po) ∧ Hid (Chg (fun _ => False) v6 wr))
            case atStart => exact ⟨0, rfl, Nat.zero_le _, rfl, Lib.hid (fun i x hi => absurd hi (Nat.not_lt_zero _)), Lib.hid (Chg.refl _ _)⟩
            case round =>
              obtain ⟨j, rfl, hj, rfl, HNJ, HY⟩ := hrel
              by_cases hlt : j < m
              · have hh := HR.out.chg HY.out
                obtain ⟨ad, rfl, -⟩ := hh.2 (by omega)
                have hjl : j < l.length := by have := HL.out; omega
                have hx : l[j]? = some l[j] := List.getElem?_eq_getElem hjl
                generalize l[j] = x at *
                by_cases hp : x.po = po
                · have hxr := std14_one HSD.out hx HIN.out hp
                  subst hxr
                  clear hp
                  have HKEEP : Hid (∀ W : World, Chg (fun _ => False) wr W → (W.cell? ⟨X12, 0, none⟩ = some (.int .i64 1) ∧ W.cell? ⟨X12, 1, none⟩ = some (.int .i64 po) ∧ W.cell? ⟨X12, 2, none⟩ = some (.int .i64 ow) ∧ W.cell? ⟨X12, 3, none⟩ = some (.int .i64 ge) ∧ W.cell? (ad.add (j * 9)) = some (.int .i64 po) ∧ W.cell? ⟨(ad.add (j * 9)).block, (ad.add (j * 9)).off + 1, none⟩ = some (.int .u64 ma) ∧ W.cell? ⟨(ad.add (j * 9)).block, (ad.add (j * 9)).off + 2, none⟩ = some (.int .i64 ow) ∧ W.cell? ⟨(ad.add (j * 9)).block, (ad.add (j * 9)).off + 3, none⟩ = some (.int .i64 ta) ∧ W.cell? ⟨(ad.add (j * 9)).block, (ad.add (j * 9)).off + 4, none⟩ = some (.int .i64 ol) ∧ W.cell? ⟨(ad.add (j * 9)).block, (ad.add (j * 9)).off + 5, none⟩ = some (.int .i64 ge) ∧ W.cell? ⟨(ad.add (j * 9)).block, (ad.add (j * 9)).off + 6, none⟩ = some (.int .i64 ph) ∧ W.cell? ⟨(ad.add (j * 9)).block, (ad.add (j * 9)).off + 7, none⟩ = some (.int .i64 ve) ∧ W.cell? ⟨(ad.add (j * 9)).block, (ad.add (j * 9)).off + 8, none⟩ = some (.int .i64 si))) := Lib.hid (fun W hw => by
                    obtain ⟨x0, x1, x2, x3⟩ := ac_cells13 (HA.out.chg (HY.out.trans hw (fun _ _ e => e)) id)
                    obtain ⟨z0, z1, z2, z3, z4, z5, z6, z7, z8⟩ := (hh.chg hw).at hx
                    exact ⟨x0, x1, x2, x3, z0, z1, z2, z3, z4, z5, z6, z7, z8⟩)
                  clear hx hh hjl
                  obtain ⟨x0, x1, x2, x3, z0, z1, z2, z3, z4, z5, z6, z7, z8⟩ := HKEEP.out _ (Chg.refl _ _)
                  go_wp2_with fail
                  go_quiet (fail)
                  have HZ0 := Lib.hid ((Chg.refl (fun _ => False) wr).drewN nq)
                  generalize World.drewN wr nq = wq at *
                  clear x0 x1 x2 x3 z0 z1 z2 z3 z4 z5 z6 z7 z8
                  have HXA := Lib.hid (HZ0.out.trans ((Chg.refl (fun _ => False) wq).drew) (fun _ _ e => e))
                  obtain ⟨x0, x1, x2, x3, z0, z1, z2, z3, z4, z5, z6, z7, z8⟩ := HKEEP.out _ HXA.out
                  go_wp2_with fail
                  go_region_held3 (fun w' => w'.cell? ⟨X12, 0, none⟩ = some (.int .i64 1) ∧ w'.cell? ⟨X12, 1, none⟩ = some (.int .i64 po) ∧ w'.cell? ⟨X12, 2, none⟩ = some (.int .i64 ow) ∧ w'.cell? ⟨X12, 3, none⟩ = some (.int .i64 ge) ∧ w'.cell? (ad.add (j * 9)) = some (.int .i64 po) ∧ w'.cell? ⟨(ad.add (j * 9)).block, (ad.add (j * 9)).off + 1, none⟩ = some (.int .u64 ma) ∧ w'.cell? ⟨(ad.add (j * 9)).block, (ad.add (j * 9)).off + 2, none⟩ = some (.int .i64 ow) ∧ w'.cell? ⟨(ad.add (j * 9)).block, (ad.add (j * 9)).off + 3, none⟩ = some (.int .i64 ta) ∧ w'.cell? ⟨(ad.add (j * 9)).block, (ad.add (j * 9)).off + 4, none⟩ = some (.int .i64 ol) ∧ w'.cell? ⟨(ad.add (j * 9)).block, (ad.add (j * 9)).off + 5, none⟩ = some (.int .i64 ge) ∧ w'.cell? ⟨(ad.add (j * 9)).block, (ad.add (j * 9)).off + 6, none⟩ = some (.int .i64 ph) ∧ w'.cell? ⟨(ad.add (j * 9)).block, (ad.add (j * 9)).off + 7, none⟩ = some (.int .i64 ve) ∧ w'.cell? ⟨(ad.add (j * 9)).block, (ad.add (j * 9)).off + 8, none⟩ = some (.int .i64 si))
                    (first | with_reducible exact HKEEP.out _ HXA.out | with_reducible exact HKEEP.out _ HXB.out | fail)
                    (first
                      | (go_at_call 8; (with_reducible refine (HAL.out _).mono ?_); rintro e wb ⟨rfl, hc⟩; have HXB := Lib.hid (HXA.out.trans hc (fun _ _ e => e)); clear hc)
                      | fail)
                  all_goals
                    go_wp2_with fail
                    go_ret
                    exact ⟨rfl, HX.out.trans (HY.out.trans HXB.out (fun _ _ e => e)) (fun _ _ e => e)⟩
                · have tp : (x.po == po) = false := by simp [hp]
                  have HPP := Lib.hid hp
                  clear hp
                  obtain ⟨x0, x1, x2, x3⟩ := ac_cells13 (HA.out.chg HY.out id)
                  obtain ⟨z0, -⟩ := hh.at hx
                  have HJX := Lib.hid hx
                  clear hx hh hjl
                  go_wp2_with fail
                  go_quiet (fail)
                  replace HY := Lib.hid (HY.out.drewN nq)
                  generalize World.drewN wr nq = wq at *
                  go_wp2_with fail
                  go_roundg (m - (j + 1))
                  case measure => omega
                  case rel => exact ⟨j + 1, rfl, by omega, by go_num, Lib.hid (fun k y2 hk hy2 => by
                    by_cases e : k < j
                    · exact HNJ.out k y2 e hy2
                    · have : k = j := by omega
                      subst this
                      rw [HJX.out] at hy2
                      injection hy2 with hy2
                      subst hy2
                      exact HPP.out), HY⟩
              · exfalso
                obtain ⟨i, hi, he⟩ := List.getElem_of_mem HIN.out
                exact HNJ.out i _ (by have := HL.out; omega) (by rw [List.getElem?_eq_getElem hi, he]) rfl
          · replace hg : ¬ ge < ks := hg
            replace hcw : ¬ c = ow := hcw
            rcases hki with hki | ⟨hki, hko⟩
            · replace hki : ki = 0 := hki
              replace hTB : acO13 (lk13 ⟨ki, km, kp, ks, ko⟩ (cp14 c l)) = acC 2 po ow ge ∧ (lk13 ⟨ki, km, kp, ks, ko⟩ (cp14 c l)).isSome = true := by
                rw [hfr] at hTB
                refine ⟨hTB.1.trans ?_, hTB.2⟩
                show acC (RV.kd (⟨po, ma, ow, ta, ol, ge, ph, ve, si⟩ : RV) c ⟨ki, km, kp, ks, ko⟩) po ow ge = _
                rw [hk]
              have HLK := Lib.hid (show ∀ (W : World) (p : Nat), TF W p (cp14 c l) → Calls Try.prog 14 #[.pointer (some ⟨p, 0, none⟩), .agg #[.int .i64 ki, .int .u64 km, .int .i64 kp, .int .i64 ks, .int .i64 ko]] W (fun e w' => e = .returned (.tuple #[.agg #[.int .i64 2, .int .i64 po, .int .i64 ow, .int .i64 ge], .bool true]) ∧ Chg (fun _ => False) W w') from fun W p hT => by
                have h2 := flook13_any hT (by have := cp14_len c l; have := HL.out; omega) ki km kp ks ko
                unfold LkP13 at h2
                rw [hTB.1, hTB.2] at h2
                exact h2)
              clear hTB
              have tc : (ow == c) = false := beq_eq_false_iff_ne.2 (fun e => hcw e.symm)
              have t1 : (ki == 1) = false := by simp [hki]
              have t2 : (ki == 2) = false := by simp [hki]
              clear hcw hk hk0 hin hfr hki
              have HTA := Lib.hid (btable14_any (lc := lc) HR.out hm c)
              go_wp2_with fail
              refine HTA.out.mono ?_
              rintro e w5 ⟨p, rfl, hT, hc⟩
              have HT := Lib.hid hT
              replace HK := Lib.hid (HK.out.chg hc id)
              replace HR := Lib.hid (HR.out.chg hc)
              replace HX := Lib.hid (HX.out.trans hc (fun _ _ e => e))
              clear hT hc HTA
              obtain ⟨u0, u1, u2, u3, u4⟩ := ky_cells13 HK.out
              go_wp2_with fail
              refine (HLK.out _ p HT.out).mono ?_
              rintro e w6 ⟨rfl, hc⟩
              have hca := hc.alloc (.cells #[.int .i64 2, .int .i64 po, .int .i64 ow, .int .i64 ge] 31)
              have HA : Hid (Blk (w6.alloc (.cells #[.int .i64 2, .int .i64 po, .int .i64 ow, .int .i64 ge] 31)) w6.heap.size 31 (acC 2 po ow ge)) := Lib.hid (blk_new rfl)
              replace HK := Lib.hid (HK.out.chg hca id)
              replace HR := Lib.hid (HR.out.chg hca)
              replace HX := Lib.hid (HX.out.trans hca (fun _ _ e => e))
              clear hc hca u0 u1 u2 u3 u4 HT HLK
              go_upto_region 8 with fail
              generalize w6.alloc (.cells #[.int .i64 2, .int .i64 po, .int .i64 ow, .int .i64 ge] 31) = v6 at *
              generalize w6.heap.size = X12 at *
              obtain ⟨u0, u1, u2, u3, u4⟩ := ky_cells13 HK.out
              obtain ⟨x0, x1, x2, x3⟩ := ac_cells13 HA.out
              go_wp2_with fail
              clear u0 u1 u2 u3 u4 x0 x1 x2 x3 HK
              go_loopg [14] m (fun g i wr => ∃ (j : Nat), g = m - j ∧ j ≤ m ∧ i = .int .i64 (j : Int) ∧ Hid (∀ (i : Nat) (x : RV), i < j → l[i]? = some x → ¬ x.po = po) ∧ Hid (Chg (fun _ => False) v6 wr))
              case atStart => exact ⟨0, rfl, Nat.zero_le _, rfl, Lib.hid (fun i x hi => absurd hi (Nat.not_lt_zero _)), Lib.hid (Chg.refl _ _)⟩
              case round =>
                obtain ⟨j, rfl, hj, rfl, HNJ, HY⟩ := hrel
                by_cases hlt : j < m
                · have hh := HR.out.chg HY.out
                  obtain ⟨ad, rfl, -⟩ := hh.2 (by omega)
                  have hjl : j < l.length := by have := HL.out; omega
                  have hx : l[j]? = some l[j] := List.getElem?_eq_getElem hjl
                  generalize l[j] = x at *
                  by_cases hp : x.po = po
                  · have hxr := std14_one HSD.out hx HIN.out hp
                    subst hxr
                    clear hp
                    have HKEEP : Hid (∀ W : World, Chg (fun _ => False) wr W → (W.cell? ⟨X12, 0, none⟩ = some (.int .i64 2) ∧ W.cell? ⟨X12, 1, none⟩ = some (.int .i64 po) ∧ W.cell? ⟨X12, 2, none⟩ = some (.int .i64 ow) ∧ W.cell? ⟨X12, 3, none⟩ = some (.int .i64 ge) ∧ W.cell? (ad.add (j * 9)) = some (.int .i64 po) ∧ W.cell? ⟨(ad.add (j * 9)).block, (ad.add (j * 9)).off + 1, none⟩ = some (.int .u64 ma) ∧ W.cell? ⟨(ad.add (j * 9)).block, (ad.add (j * 9)).off + 2, none⟩ = some (.int .i64 ow) ∧ W.cell? ⟨(ad.add (j * 9)).block, (ad.add (j * 9)).off + 3, none⟩ = some (.int .i64 ta) ∧ W.cell? ⟨(ad.add (j * 9)).block, (ad.add (j * 9)).off + 4, none⟩ = some (.int .i64 ol) ∧ W.cell? ⟨(ad.add (j * 9)).block, (ad.add (j * 9)).off + 5, none⟩ = some (.int .i64 ge) ∧ W.cell? ⟨(ad.add (j * 9)).block, (ad.add (j * 9)).off + 6, none⟩ = some (.int .i64 ph) ∧ W.cell? ⟨(ad.add (j * 9)).block, (ad.add (j * 9)).off + 7, none⟩ = some (.int .i64 ve) ∧ W.cell? ⟨(ad.add (j * 9)).block, (ad.add (j * 9)).off + 8, none⟩ = some (.int .i64 si))) := Lib.hid (fun W hw => by
                      obtain ⟨x0, x1, x2, x3⟩ := ac_cells13 (HA.out.chg (HY.out.trans hw (fun _ _ e => e)) id)
                      obtain ⟨z0, z1, z2, z3, z4, z5, z6, z7, z8⟩ := (hh.chg hw).at hx
                      exact ⟨x0, x1, x2, x3, z0, z1, z2, z3, z4, z5, z6, z7, z8⟩)
                    clear hx hh hjl
                    obtain ⟨x0, x1, x2, x3, z0, z1, z2, z3, z4, z5, z6, z7, z8⟩ := HKEEP.out _ (Chg.refl _ _)
                    go_wp2_with fail
                    go_quiet (fail)
                    have HZ0 := Lib.hid ((Chg.refl (fun _ => False) wr).drewN nq)
                    generalize World.drewN wr nq = wq at *
                    clear x0 x1 x2 x3 z0 z1 z2 z3 z4 z5 z6 z7 z8
                    have HXA := Lib.hid (HZ0.out.trans ((Chg.refl (fun _ => False) wq).drew) (fun _ _ e => e))
                    obtain ⟨x0, x1, x2, x3, z0, z1, z2, z3, z4, z5, z6, z7, z8⟩ := HKEEP.out _ HXA.out
                    go_wp2_with fail
                    go_region_held3 (fun w' => w'.cell? ⟨X12, 0, none⟩ = some (.int .i64 2) ∧ w'.cell? ⟨X12, 1, none⟩ = some (.int .i64 po) ∧ w'.cell? ⟨X12, 2, none⟩ = some (.int .i64 ow) ∧ w'.cell? ⟨X12, 3, none⟩ = some (.int .i64 ge) ∧ w'.cell? (ad.add (j * 9)) = some (.int .i64 po) ∧ w'.cell? ⟨(ad.add (j * 9)).block, (ad.add (j * 9)).off + 1, none⟩ = some (.int .u64 ma) ∧ w'.cell? ⟨(ad.add (j * 9)).block, (ad.add (j * 9)).off + 2, none⟩ = some (.int .i64 ow) ∧ w'.cell? ⟨(ad.add (j * 9)).block, (ad.add (j * 9)).off + 3, none⟩ = some (.int .i64 ta) ∧ w'.cell? ⟨(ad.add (j * 9)).block, (ad.add (j * 9)).off + 4, none⟩ = some (.int .i64 ol) ∧ w'.cell? ⟨(ad.add (j * 9)).block, (ad.add (j * 9)).off + 5, none⟩ = some (.int .i64 ge) ∧ w'.cell? ⟨(ad.add (j * 9)).block, (ad.add (j * 9)).off + 6, none⟩ = some (.int .i64 ph) ∧ w'.cell? ⟨(ad.add (j * 9)).block, (ad.add (j * 9)).off + 7, none⟩ = some (.int .i64 ve) ∧ w'.cell? ⟨(ad.add (j * 9)).block, (ad.add (j * 9)).off + 8, none⟩ = some (.int .i64 si))
                      (first | with_reducible exact HKEEP.out _ HXA.out | with_reducible exact HKEEP.out _ HXB.out | fail)
                      (first
                        | (go_at_call 8; (with_reducible refine (HAL.out _).mono ?_); rintro e wb ⟨rfl, hc⟩; have HXB := Lib.hid (HXA.out.trans hc (fun _ _ e => e)); clear hc)
                        | fail)
                    all_goals
                      go_wp2_with fail
                      go_ret
                      exact ⟨rfl, HX.out.trans (HY.out.trans HXB.out (fun _ _ e => e)) (fun _ _ e => e)⟩
                  · have tp : (x.po == po) = false := by simp [hp]
                    have HPP := Lib.hid hp
                    clear hp
                    obtain ⟨x0, x1, x2, x3⟩ := ac_cells13 (HA.out.chg HY.out id)
                    obtain ⟨z0, -⟩ := hh.at hx
                    have HJX := Lib.hid hx
                    clear hx hh hjl
                    go_wp2_with fail
                    go_quiet (fail)
                    replace HY := Lib.hid (HY.out.drewN nq)
                    generalize World.drewN wr nq = wq at *
                    go_wp2_with fail
                    go_roundg (m - (j + 1))
                    case measure => omega
                    case rel => exact ⟨j + 1, rfl, by omega, by go_num, Lib.hid (fun k y2 hk hy2 => by
                      by_cases e : k < j
                      · exact HNJ.out k y2 e hy2
                      · have : k = j := by omega
                        subst this
                        rw [HJX.out] at hy2
                        injection hy2 with hy2
                        subst hy2
                        exact HPP.out), HY⟩
                · exfalso
                  obtain ⟨i, hi, he⟩ := List.getElem_of_mem HIN.out
                  exact HNJ.out i _ (by have := HL.out; omega) (by rw [List.getElem?_eq_getElem hi, he]) rfl
            · replace hki : ki = 1 := hki
              replace hko : ¬ ko = ow := hko
              replace hTB : acO13 (lk13 ⟨ki, km, kp, ks, ko⟩ (cp14 c l)) = acC 2 po ow ge ∧ (lk13 ⟨ki, km, kp, ks, ko⟩ (cp14 c l)).isSome = true := by
                rw [hfr] at hTB
                refine ⟨hTB.1.trans ?_, hTB.2⟩
                show acC (RV.kd (⟨po, ma, ow, ta, ol, ge, ph, ve, si⟩ : RV) c ⟨ki, km, kp, ks, ko⟩) po ow ge = _
                rw [hk]
              have HLK := Lib.hid (show ∀ (W : World) (p : Nat), TF W p (cp14 c l) → Calls Try.prog 14 #[.pointer (some ⟨p, 0, none⟩), .agg #[.int .i64 ki, .int .u64 km, .int .i64 kp, .int .i64 ks, .int .i64 ko]] W (fun e w' => e = .returned (.tuple #[.agg #[.int .i64 2, .int .i64 po, .int .i64 ow, .int .i64 ge], .bool true]) ∧ Chg (fun _ => False) W w') from fun W p hT => by
                have h2 := flook13_any hT (by have := cp14_len c l; have := HL.out; omega) ki km kp ks ko
                unfold LkP13 at h2
                rw [hTB.1, hTB.2] at h2
                exact h2)
              clear hTB
              have tc : (ow == c) = false := beq_eq_false_iff_ne.2 (fun e => hcw e.symm)
              have t1 : (ki == 1) = true := by simp [hki]
              have t2 : (ki == 2) = false := by simp [hki]
              have tko : (ow == ko) = false := beq_eq_false_iff_ne.2 (fun e => hko e.symm)
              clear hcw hk hk0 hin hfr hki hko
              have HTA := Lib.hid (btable14_any (lc := lc) HR.out hm c)
              go_wp2_with fail
              refine HTA.out.mono ?_
              rintro e w5 ⟨p, rfl, hT, hc⟩
              have HT := Lib.hid hT
              replace HK := Lib.hid (HK.out.chg hc id)
              replace HR := Lib.hid (HR.out.chg hc)
              replace HX := Lib.hid (HX.out.trans hc (fun _ _ e => e))
              clear hT hc HTA
              obtain ⟨u0, u1, u2, u3, u4⟩ := ky_cells13 HK.out
              go_wp2_with fail
              refine (HLK.out _ p HT.out).mono ?_
              rintro e w6 ⟨rfl, hc⟩
              have hca := hc.alloc (.cells #[.int .i64 2, .int .i64 po, .int .i64 ow, .int .i64 ge] 31)
              have HA : Hid (Blk (w6.alloc (.cells #[.int .i64 2, .int .i64 po, .int .i64 ow, .int .i64 ge] 31)) w6.heap.size 31 (acC 2 po ow ge)) := Lib.hid (blk_new rfl)
              replace HK := Lib.hid (HK.out.chg hca id)
              replace HR := Lib.hid (HR.out.chg hca)
              replace HX := Lib.hid (HX.out.trans hca (fun _ _ e => e))
              clear hc hca u0 u1 u2 u3 u4 HT HLK
              go_upto_region 8 with fail
              generalize w6.alloc (.cells #[.int .i64 2, .int .i64 po, .int .i64 ow, .int .i64 ge] 31) = v6 at *
              generalize w6.heap.size = X12 at *
              obtain ⟨u0, u1, u2, u3, u4⟩ := ky_cells13 HK.out
              obtain ⟨x0, x1, x2, x3⟩ := ac_cells13 HA.out
              go_wp2_with fail
              clear u0 u1 u2 u3 u4 x0 x1 x2 x3 HK
              go_loopg [14] m (fun g i wr => ∃ (j : Nat), g = m - j ∧ j ≤ m ∧ i = .int .i64 (j : Int) ∧ Hid (∀ (i : Nat) (x : RV), i < j → l[i]? = some x → ¬ x.po = po) ∧ Hid (Chg (fun _ => False) v6 wr))
              case atStart => exact ⟨0, rfl, Nat.zero_le _, rfl, Lib.hid (fun i x hi => absurd hi (Nat.not_lt_zero _)), Lib.hid (Chg.refl _ _)⟩
              case round =>
                obtain ⟨j, rfl, hj, rfl, HNJ, HY⟩ := hrel
                by_cases hlt : j < m
                · have hh := HR.out.chg HY.out
                  obtain ⟨ad, rfl, -⟩ := hh.2 (by omega)
                  have hjl : j < l.length := by have := HL.out; omega
                  have hx : l[j]? = some l[j] := List.getElem?_eq_getElem hjl
                  generalize l[j] = x at *
                  by_cases hp : x.po = po
                  · have hxr := std14_one HSD.out hx HIN.out hp
                    subst hxr
                    clear hp
                    have HKEEP : Hid (∀ W : World, Chg (fun _ => False) wr W → (W.cell? ⟨X12, 0, none⟩ = some (.int .i64 2) ∧ W.cell? ⟨X12, 1, none⟩ = some (.int .i64 po) ∧ W.cell? ⟨X12, 2, none⟩ = some (.int .i64 ow) ∧ W.cell? ⟨X12, 3, none⟩ = some (.int .i64 ge) ∧ W.cell? (ad.add (j * 9)) = some (.int .i64 po) ∧ W.cell? ⟨(ad.add (j * 9)).block, (ad.add (j * 9)).off + 1, none⟩ = some (.int .u64 ma) ∧ W.cell? ⟨(ad.add (j * 9)).block, (ad.add (j * 9)).off + 2, none⟩ = some (.int .i64 ow) ∧ W.cell? ⟨(ad.add (j * 9)).block, (ad.add (j * 9)).off + 3, none⟩ = some (.int .i64 ta) ∧ W.cell? ⟨(ad.add (j * 9)).block, (ad.add (j * 9)).off + 4, none⟩ = some (.int .i64 ol) ∧ W.cell? ⟨(ad.add (j * 9)).block, (ad.add (j * 9)).off + 5, none⟩ = some (.int .i64 ge) ∧ W.cell? ⟨(ad.add (j * 9)).block, (ad.add (j * 9)).off + 6, none⟩ = some (.int .i64 ph) ∧ W.cell? ⟨(ad.add (j * 9)).block, (ad.add (j * 9)).off + 7, none⟩ = some (.int .i64 ve) ∧ W.cell? ⟨(ad.add (j * 9)).block, (ad.add (j * 9)).off + 8, none⟩ = some (.int .i64 si))) := Lib.hid (fun W hw => by
                      obtain ⟨x0, x1, x2, x3⟩ := ac_cells13 (HA.out.chg (HY.out.trans hw (fun _ _ e => e)) id)
                      obtain ⟨z0, z1, z2, z3, z4, z5, z6, z7, z8⟩ := (hh.chg hw).at hx
                      exact ⟨x0, x1, x2, x3, z0, z1, z2, z3, z4, z5, z6, z7, z8⟩)
                    clear hx hh hjl
                    obtain ⟨x0, x1, x2, x3, z0, z1, z2, z3, z4, z5, z6, z7, z8⟩ := HKEEP.out _ (Chg.refl _ _)
                    go_wp2_with fail
                    go_quiet (fail)
                    have HZ0 := Lib.hid ((Chg.refl (fun _ => False) wr).drewN nq)
                    generalize World.drewN wr nq = wq at *
                    clear x0 x1 x2 x3 z0 z1 z2 z3 z4 z5 z6 z7 z8
                    have HXA := Lib.hid (HZ0.out.trans ((Chg.refl (fun _ => False) wq).drew) (fun _ _ e => e))
                    obtain ⟨x0, x1, x2, x3, z0, z1, z2, z3, z4, z5, z6, z7, z8⟩ := HKEEP.out _ HXA.out
                    go_wp2_with fail
                    go_region_held3 (fun w' => w'.cell? ⟨X12, 0, none⟩ = some (.int .i64 2) ∧ w'.cell? ⟨X12, 1, none⟩ = some (.int .i64 po) ∧ w'.cell? ⟨X12, 2, none⟩ = some (.int .i64 ow) ∧ w'.cell? ⟨X12, 3, none⟩ = some (.int .i64 ge) ∧ w'.cell? (ad.add (j * 9)) = some (.int .i64 po) ∧ w'.cell? ⟨(ad.add (j * 9)).block, (ad.add (j * 9)).off + 1, none⟩ = some (.int .u64 ma) ∧ w'.cell? ⟨(ad.add (j * 9)).block, (ad.add (j * 9)).off + 2, none⟩ = some (.int .i64 ow) ∧ w'.cell? ⟨(ad.add (j * 9)).block, (ad.add (j * 9)).off + 3, none⟩ = some (.int .i64 ta) ∧ w'.cell? ⟨(ad.add (j * 9)).block, (ad.add (j * 9)).off + 4, none⟩ = some (.int .i64 ol) ∧ w'.cell? ⟨(ad.add (j * 9)).block, (ad.add (j * 9)).off + 5, none⟩ = some (.int .i64 ge) ∧ w'.cell? ⟨(ad.add (j * 9)).block, (ad.add (j * 9)).off + 6, none⟩ = some (.int .i64 ph) ∧ w'.cell? ⟨(ad.add (j * 9)).block, (ad.add (j * 9)).off + 7, none⟩ = some (.int .i64 ve) ∧ w'.cell? ⟨(ad.add (j * 9)).block, (ad.add (j * 9)).off + 8, none⟩ = some (.int .i64 si))
                      (first | with_reducible exact HKEEP.out _ HXA.out | with_reducible exact HKEEP.out _ HXB.out | fail)
                      (first
                        | (go_at_call 8; (with_reducible refine (HAL.out _).mono ?_); rintro e wb ⟨rfl, hc⟩; have HXB := Lib.hid (HXA.out.trans hc (fun _ _ e => e)); clear hc)
                        | fail)
                    all_goals
                      go_wp2_with fail
                      go_ret
                      exact ⟨rfl, HX.out.trans (HY.out.trans HXB.out (fun _ _ e => e)) (fun _ _ e => e)⟩
                  · have tp : (x.po == po) = false := by simp [hp]
                    have HPP := Lib.hid hp
                    clear hp
                    obtain ⟨x0, x1, x2, x3⟩ := ac_cells13 (HA.out.chg HY.out id)
                    obtain ⟨z0, -⟩ := hh.at hx
                    have HJX := Lib.hid hx
                    clear hx hh hjl
                    go_wp2_with fail
                    go_quiet (fail)
                    replace HY := Lib.hid (HY.out.drewN nq)
                    generalize World.drewN wr nq = wq at *
                    go_wp2_with fail
                    go_roundg (m - (j + 1))
                    case measure => omega
                    case rel => exact ⟨j + 1, rfl, by omega, by go_num, Lib.hid (fun k y2 hk hy2 => by
                      by_cases e : k < j
                      · exact HNJ.out k y2 e hy2
                      · have : k = j := by omega
                        subst this
                        rw [HJX.out] at hy2
                        injection hy2 with hy2
                        subst hy2
                        exact HPP.out), HY⟩
                · exfalso
                  obtain ⟨i, hi, he⟩ := List.getElem_of_mem HIN.out
                  exact HNJ.out i _ (by have := HL.out; omega) (by rw [List.getElem?_eq_getElem hi, he]) rfl
  · skip
    have hm2 : 100 < m := by omega
    go_enter Try.func5, Try.ntmps5
    go_upto_region 1 with fail
    generalize w.alloc (.cells #[.int .i64 ki, .int .u64 km, .int .i64 kp, .int .i64 ks, .int .i64 ko] 27) = w1 at *
    generalize w.heap.size = QK at *
    obtain ⟨u0, u1, u2, u3, u4⟩ := ky_cells13 HK.out
    go_wp2_with fail
    refine (HKEY.out _).mono ?_
    rintro e w3 ⟨rfl, hc⟩
    replace HK := Lib.hid (HK.out.chg hc id)
    replace HR := Lib.hid (HR.out.chg hc)
    replace HX := Lib.hid (HX.out.trans hc (fun _ _ e => e))
    clear hc u0 u1 u2 u3 u4
    go_wp2_with fail
    refine (HAS.out _).mono ?_
    rintro e w4 ⟨rfl, hc⟩
    replace HK := Lib.hid (HK.out.chg hc id)
    replace HR := Lib.hid (HR.out.chg hc)
    replace HX := Lib.hid (HX.out.trans hc (fun _ _ e => e))
    clear hc
    clear HAE
    go_wp2_with fail
    refine (HAL.out _).mono ?_
    rintro e w5 ⟨rfl, hc⟩
    replace HX := Lib.hid (HX.out.trans hc (fun _ _ e => e))
    clear hc
    go_wp2_with fail
    go_ret
    exact ⟨rfl, HX.out⟩

end Go.Proofs.Yteipeookmpnemaa
