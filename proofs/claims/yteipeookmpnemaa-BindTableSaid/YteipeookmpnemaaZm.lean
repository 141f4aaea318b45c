/-
  Walk: rutterlaw14.BindTable. Condition: the rows are read in memory.
-/
import Derived.Test.YteipeookmpnemaaZk
namespace Go.Proofs.Yteipeookmpnemaa
open Go.RowKit
set_option linter.unusedVariables false
set_option linter.unusedSimpArgs false

set_option maxRecDepth 100000 in
set_option maxHeartbeats 16000000 in
theorem table14_any {w : World} {L : Option Addr} {m lc : Nat} {l : List RV} (h : RwR w L m l) (hmc : m ≤ 9223372036854775807) (c ki km kp ks ko : Int) : Calls Try.prog 4 #[.slice L m lc, .int .i64 c, .agg (kyC ki km kp ks ko)] w fun e w' => e = .returned (.bool true) ∧ Chg (fun _ => False) w w' := by
  have HK : Hid (Blk (w.alloc (.cells #[.int .i64 ki, .int .u64 km, .int .i64 kp, .int .i64 ks, .int .i64 ko] 27)) w.heap.size 27 (kyC ki km kp ks ko)) := Lib.hid (blk_new rfl)
  have HX := Lib.hid ((Chg.refl (fun _ => False) w).alloc (.cells #[.int .i64 ki, .int .u64 km, .int .i64 kp, .int .i64 ks, .int .i64 ko] 27))
  have HR := Lib.hid (h.alloc (.cells #[.int .i64 ki, .int .u64 km, .int .i64 kp, .int .i64 ks, .int .i64 ko] 27))
  have HL := Lib.hid h.1
  have HAL := Lib.hid (fun W => alive14_any W)
  have h3 := fun W => lkey14_any ki km kp ks ko W
  have h4 := fun W => rasked14_any ki km kp ks ko W
  generalize hba : as14 ki ks ko = ba at *
  have HAE := Lib.hid hba
  unfold kyC at h3 h4
  have HKEY := Lib.hid h3
  have HAS := Lib.hid h4
  clear h h3 h4 hba
  unfold kyC
  by_cases hm : m ≤ 100
  · skip
    go_enter Try.func4, Try.ntmps4
    go_upto_region 1 with fail
    generalize w.alloc (.cells #[.int .i64 ki, .int .u64 km, .int .i64 kp, .int .i64 ks, .int .i64 ko] 27) = w1 at *
    generalize w.heap.size = QK at *
    have HST := Lib.hid (rstand14_any (lc := lc) HR.out hmc)
    go_wp2_with fail
    refine HST.out.mono ?_
    rintro e w2 ⟨b, rfl, hs, hc⟩
    have HSS := Lib.hid hs
    replace HK := Lib.hid (HK.out.chg hc id)
    replace HR := Lib.hid (HR.out.chg hc)
    replace HX := Lib.hid (HX.out.trans hc (fun _ _ e => e))
    clear hc hs HST
    cases b with
    | false =>
      clear HSS
      obtain ⟨u0, u1, u2, u3, u4⟩ := ky_cells13 HK.out
      go_wp2_with fail
      refine (HKEY.out _).mono ?_
      rintro e w3 ⟨rfl, hc⟩
      replace HK := Lib.hid (HK.out.chg hc id)
      replace HR := Lib.hid (HR.out.chg hc)
      replace HX := Lib.hid (HX.out.trans hc (fun _ _ e => e))
      clear hc u0 u1 u2 u3 u4
      go_wp2_with fail
      refine (HAS.out _).mono ?_
      rintro e w4 ⟨rfl, hc⟩
      replace HK := Lib.hid (HK.out.chg hc id)
      replace HR := Lib.hid (HR.out.chg hc)
      replace HX := Lib.hid (HX.out.trans hc (fun _ _ e => e))
      clear hc
      clear HAE
      go_wp2_with fail
      refine (HAL.out _).mono ?_
      rintro e w5 ⟨rfl, hc⟩
      replace HX := Lib.hid (HX.out.trans hc (fun _ _ e => e))
      clear hc
      go_wp2_with fail
      go_ret
      exact ⟨rfl, HX.out⟩
    | true =>
      obtain ⟨u0, u1, u2, u3, u4⟩ := ky_cells13 HK.out
      go_wp2_with fail
      refine (HKEY.out _).mono ?_
      rintro e w3 ⟨rfl, hc⟩
      replace HK := Lib.hid (HK.out.chg hc id)
      replace HR := Lib.hid (HR.out.chg hc)
      replace HX := Lib.hid (HX.out.trans hc (fun _ _ e => e))
      clear hc u0 u1 u2 u3 u4
      go_wp2_with fail
      refine (HAS.out _).mono ?_
      rintro e w4 ⟨rfl, hc⟩
      replace HK := Lib.hid (HK.out.chg hc id)
      replace HR := Lib.hid (HR.out.chg hc)
      replace HX := Lib.hid (HX.out.trans hc (fun _ _ e => e))
      clear hc
      cases ba with
      | false =>
        go_wp2_with fail
        refine (HAL.out _).mono ?_
        rintro e w5 ⟨rfl, hc⟩
        replace HX := Lib.hid (HX.out.trans hc (fun _ _ e => e))
        clear hc
        go_wp2_with fail
        go_ret
        exact ⟨rfl, HX.out⟩
      | true =>
        obtain ⟨a0, a1, a2, a3, hac, -, -, -, -⟩ := bx13_ac (lk13 ⟨ki, km, kp, ks, ko⟩ (cp14 c l))
        have hTB := tab14 c (k := ⟨ki, km, kp, ks, ko⟩) (HAE.out) l
        rw [hac] at hTB
        obtain ⟨hf1, hf2⟩ := hTB
        generalize hbb : (lk13 ⟨ki, km, kp, ks, ko⟩ (cp14 c l)).isSome = bb at *
        have HLK := Lib.hid (show ∀ (W : World) (p : Nat), TF W p (cp14 c l) → Calls Try.prog 14 #[.pointer (some ⟨p, 0, none⟩), .agg #[.int .i64 ki, .int .u64 km, .int .i64 kp, .int .i64 ks, .int .i64 ko]] W (fun e w' => e = .returned (.tuple #[.agg #[.int .i64 a0, .int .i64 a1, .int .i64 a2, .int .i64 a3], .bool bb]) ∧ Chg (fun _ => False) W w') from fun W p hT => by
          have h2 := flook13_any hT (by have := cp14_len c l; have := HL.out; omega) ki km kp ks ko
          unfold LkP13 at h2
          rw [hac, hbb] at h2
          exact h2)
        have HRF := Lib.hid (show ∀ (W : World), RwR W L m l → Calls Try.prog 15 #[.slice L m lc, .int .i64 c, .agg #[.int .i64 ki, .int .u64 km, .int .i64 kp, .int .i64 ks, .int .i64 ko]] W (fun e w' => e = .returned (.tuple #[.agg #[.int .i64 a0, .int .i64 a1, .int .i64 a2, .int .i64 a3], .bool bb]) ∧ Chg (fun _ => False) W w') from fun W hW => by
          have h2 := rfirst14_any (lc := lc) hW hmc c ki km kp ks ko
          unfold FrP14 at h2
          rw [← hf1, ← hf2] at h2
          exact h2)
        have hact := fun W => lact13_any a0 a1 a2 a3 W
        unfold acC at hact
        have HACT := Lib.hid hact
        clear hact hac hf1 hf2 hbb
        have HTA := Lib.hid (btable14_any (lc := lc) HR.out hm c)
        go_wp2_with fail
        refine HTA.out.mono ?_
        rintro e w5 ⟨p, rfl, hT, hc⟩
        have HT := Lib.hid hT
        replace HK := Lib.hid (HK.out.chg hc id)
        replace HR := Lib.hid (HR.out.chg hc)
        replace HX := Lib.hid (HX.out.trans hc (fun _ _ e => e))
        clear hT hc HTA
        obtain ⟨u0, u1, u2, u3, u4⟩ := ky_cells13 HK.out
        go_wp2_with fail
        refine (HLK.out _ p HT.out).mono ?_
        rintro e w6 ⟨rfl, hc⟩
        have hca := hc.alloc (.cells #[.int .i64 a0, .int .i64 a1, .int .i64 a2, .int .i64 a3] 31)
        have HA : Hid (Blk (w6.alloc (.cells #[.int .i64 a0, .int .i64 a1, .int .i64 a2, .int .i64 a3] 31)) w6.heap.size 31 (acC a0 a1 a2 a3)) := Lib.hid (blk_new rfl)
        replace HK := Lib.hid (HK.out.chg hca id)
        replace HR := Lib.hid (HR.out.chg hca)
        replace HX := Lib.hid (HX.out.trans hca (fun _ _ e => e))
        clear hc hca u0 u1 u2 u3 u4 HT HLK
        go_upto_region 7 with fail
        generalize w6.alloc (.cells #[.int .i64 a0, .int .i64 a1, .int .i64 a2, .int .i64 a3] 31) = v6 at *
        generalize w6.heap.size = X11 at *
        obtain ⟨u0, u1, u2, u3, u4⟩ := ky_cells13 HK.out
        go_wp2_with fail
        refine (HKEY.out _).mono ?_
        rintro e w7 ⟨rfl, hc⟩
        replace HK := Lib.hid (HK.out.chg hc id)
        replace HR := Lib.hid (HR.out.chg hc)
        replace HA := Lib.hid (HA.out.chg hc id)
        replace HX := Lib.hid (HX.out.trans hc (fun _ _ e => e))
        clear hc u0 u1 u2 u3 u4
        go_wp2_with fail
        refine (HRF.out _ HR.out).mono ?_
        rintro e w8 ⟨rfl, hc⟩
        have hca := hc.alloc (.cells #[.int .i64 a0, .int .i64 a1, .int .i64 a2, .int .i64 a3] 29)
        have HB : Hid (Blk (w8.alloc (.cells #[.int .i64 a0, .int .i64 a1, .int .i64 a2, .int .i64 a3] 29)) w8.heap.size 29 (acC a0 a1 a2 a3)) := Lib.hid (blk_new rfl)
        replace HK := Lib.hid (HK.out.chg hca id)
        replace HR := Lib.hid (HR.out.chg hca)
        replace HA := Lib.hid (HA.out.chg hca id)
        replace HX := Lib.hid (HX.out.trans hca (fun _ _ e => e))
        clear hc hca HRF
        go_upto_region 8 with fail
        generalize w8.alloc (.cells #[.int .i64 a0, .int .i64 a1, .int .i64 a2, .int .i64 a3] 29) = v8 at *
        generalize w8.heap.size = X13 at *
        have HKEEP : Hid (∀ W : World, Chg (fun _ => False) v8 W → (W.cell? ⟨X11, 0, none⟩ = some (.int .i64 a0) ∧ W.cell? ⟨X11, 1, none⟩ = some (.int .i64 a1) ∧ W.cell? ⟨X11, 2, none⟩ = some (.int .i64 a2) ∧ W.cell? ⟨X11, 3, none⟩ = some (.int .i64 a3) ∧ W.cell? ⟨X13, 0, none⟩ = some (.int .i64 a0) ∧ W.cell? ⟨X13, 1, none⟩ = some (.int .i64 a1) ∧ W.cell? ⟨X13, 2, none⟩ = some (.int .i64 a2) ∧ W.cell? ⟨X13, 3, none⟩ = some (.int .i64 a3))) := Lib.hid (fun W hw => by
          obtain ⟨x0, x1, x2, x3⟩ := ac_cells13 (HA.out.chg hw id)
          obtain ⟨z0, z1, z2, z3⟩ := ac_cells13 (HB.out.chg hw id)
          exact ⟨x0, x1, x2, x3, z0, z1, z2, z3⟩)
        have HXA := Lib.hid ((Chg.refl (fun _ => False) v8).drew)
        obtain ⟨x0, x1, x2, x3, z0, z1, z2, z3⟩ := HKEEP.out _ HXA.out
        have he := fun W => eqRa14 W a0 a1 a2 a3
        have tb : (bb == bb) = true := by cases bb <;> rfl
        have HCL := Lib.hid (cp14_len c l)
        go_region_held3 (fun w' => w'.cell? ⟨X11, 0, none⟩ = some (.int .i64 a0) ∧ w'.cell? ⟨X11, 1, none⟩ = some (.int .i64 a1) ∧ w'.cell? ⟨X11, 2, none⟩ = some (.int .i64 a2) ∧ w'.cell? ⟨X11, 3, none⟩ = some (.int .i64 a3) ∧ w'.cell? ⟨X13, 0, none⟩ = some (.int .i64 a0) ∧ w'.cell? ⟨X13, 1, none⟩ = some (.int .i64 a1) ∧ w'.cell? ⟨X13, 2, none⟩ = some (.int .i64 a2) ∧ w'.cell? ⟨X13, 3, none⟩ = some (.int .i64 a3))
          (first | with_reducible exact HKEEP.out _ HXA.out | with_reducible exact HKEEP.out _ HXB.out | with_reducible exact HKEEP.out _ HXC.out | with_reducible exact HKEEP.out _ HXD.out | fail)
          (first
            | (go_at_call 8; (with_reducible refine (HAL.out _).mono ?_); rintro e wb ⟨rfl, hc⟩; have HXB := Lib.hid (HXA.out.trans hc (fun _ _ e => e)); clear hc)
            | (go_at_call 6; (with_reducible refine (HACT.out _).mono ?_); rintro e wc ⟨rfl, hc⟩; have HXC := Lib.hid (HXB.out.trans hc (fun _ _ e => e)); clear hc)
            | (go_at_call 16; (with_reducible refine (bcomp14_any (lc := lc) (HR.out.chg HXC.out) hm c).mono ?_); rintro e wd ⟨E, n, d, rfl, hr, -, hc⟩; have HXD := Lib.hid (HXC.out.trans hc (fun _ _ e => e)); have hn2 : n ≤ 2 * m := (by have := hr.1; have := HCL.out; have := HL.out; omega); clear hr hc)
            | fail)
        all_goals
          go_wp2_with fail
          go_ret
          exact ⟨ret_b13 (a := decide ((n : Int) ≤ IntKind.i64.wrap (2 * (m : Int)))) (by rw [IntWalk.i64_in _ (by omega)]; simp; omega), HX.out.trans HXD.out (fun _ _ e => e)⟩
  · skip
    have hm2 : 100 < m := by omega
    go_enter Try.func4, Try.ntmps4
    go_upto_region 1 with fail
    generalize w.alloc (.cells #[.int .i64 ki, .int .u64 km, .int .i64 kp, .int .i64 ks, .int .i64 ko] 27) = w1 at *
    generalize w.heap.size = QK at *
    obtain ⟨u0, u1, u2, u3, u4⟩ := ky_cells13 HK.out
    go_wp2_with fail
    refine (HKEY.out _).mono ?_
    rintro e w3 ⟨rfl, hc⟩
    replace HK := Lib.hid (HK.out.chg hc id)
    replace HR := Lib.hid (HR.out.chg hc)
    replace HX := Lib.hid (HX.out.trans hc (fun _ _ e => e))
    clear hc u0 u1 u2 u3 u4
    go_wp2_with fail
    refine (HAS.out _).mono ?_
    rintro e w4 ⟨rfl, hc⟩
    replace HK := Lib.hid (HK.out.chg hc id)
    replace HR := Lib.hid (HR.out.chg hc)
    replace HX := Lib.hid (HX.out.trans hc (fun _ _ e => e))
    clear hc
    clear HAE
    go_wp2_with fail
    refine (HAL.out _).mono ?_
    rintro e w5 ⟨rfl, hc⟩
    replace HX := Lib.hid (HX.out.trans hc (fun _ _ e => e))
    clear hc
    go_wp2_with fail
    go_ret
    exact ⟨rfl, HX.out⟩

end Go.Proofs.Yteipeookmpnemaa
