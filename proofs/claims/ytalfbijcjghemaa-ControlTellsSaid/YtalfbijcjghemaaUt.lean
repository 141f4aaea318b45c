/-
  Walk: rutterlaw06.ControlBytes. Conditions: the bytes are read in memory.
-/
import Derived.Test.YtalfbijcjghemaaUs
namespace Go.Proofs.Ytalfbijcjghemaa
open Go.RowKit
set_option linter.unusedVariables false

theorem dec6_case (b : List UInt8) : ∃ (m : MV) (x : Int), (∀ w e w', Dec6 b w e w' → Hd6 m x w e w') ∧ m.l.length ≤ 16 ∧ (x = 2 ∨ (x = 0 ∧ m.ok = true ∧ m.nm ∧ m.bs = b)) := by
  refine ⟨cM b, cX b, fun _ _ _ h => h, cM_len b, ?_⟩
  cases h : cOK b with
  | false => exact .inl (cX_no h)
  | true =>
    refine .inr ⟨cX_yes h, ?_, ?_, ?_⟩
    · rw [cM_yes h]
      exact cV_ok h
    · rw [cM_yes h]
      exact cV_num b
    · rw [cM_yes h]
      exact cdc_yes h

set_option maxHeartbeats 400000 in
theorem cbytes_big (A : Option Addr) (n c : Nat) (w : World) (h3 : 2000 < n) (hn : n ≤ 9223372036854775807) :
    Calls Try.prog 4 #[.slice A n c] w fun e w' => e = .returned (.bool true) ∧ Chg (fun _ => False) w w' := by
  have HA := Lib.hid (alive6_any w)
  go_enter Try.func4, Try.ntmps4
  go_wp2_with fail
  refine HA.out.mono ?_
  rintro e w1 ⟨rfl, hc1⟩
  go_wp2_with fail
  go_ret
  exact ⟨rfl, hc1⟩

set_option maxHeartbeats 4000000 in
theorem cbytes_any (A : Option Addr) (n c : Nat) (b : List UInt8) (S : Nat → Prop) (w : World) (hn : n = b.length) (h : Rds w S A n (bcs b)) (hz : A = none → c = 0) (h3 : n ≤ 2000) :
    Calls Try.prog 4 #[.slice A n c] w fun e w' => e = .returned (.bool true) ∧ Chg (fun _ => False) w w' := by
  obtain ⟨m, x, hd, hl16, hcase⟩ := dec6_case b
  have HD1 := Lib.hid ((cdec_any A n c b S w hn h hz (by omega)).mono (hd w))
  have HD2 := Lib.hid (fun (W : World) (hw : Chg (fun _ => False) w W) => (rparse6_any A n c b S W hn (h.chg hw (fun _ _ => id)) (by omega)).mono (hd W))
  have HCASE := Lib.hid hcase
  have HH := Lib.hid h
  have HN := Lib.hid hn
  clear hd hcase h hn hz
  obtain ⟨kd, po, ma, ow, ta, ol, ge, ph, ve, si, pt, vr, l⟩ := m
  dsimp only at hl16
  go_enter Try.func4, Try.ntmps4
  go_wp2_with fail
  refine HD1.out.mono ?_
  rintro e w1 ⟨D, dc, he, hr1, hc1⟩
  obtain ⟨k, hml⟩ : ∃ k, k = l.length := ⟨_, rfl⟩
  have he : e = .returned (.tuple #[.agg #[.int .i64 kd, .int .i64 po, .int .u64 ma, .int .i64 ow, .int .i64 ta, .int .i64 ol, .int .i64 ge, .int .i64 ph, .int .i64 ve, .int .i64 si, .int .i64 pt, .int .i64 vr, .slice D l.length dc], .int .i64 x]) := he
  replace hr1 : RcR w1 (fun _ => True) D l.length l := hr1
  rw [← hml] at he hr1 hl16
  subst he
  have HML := Lib.hid hml
  have HC1 := Lib.hid (hc1.alloc (.cells #[.int .i64 kd, .int .i64 po, .int .u64 ma, .int .i64 ow, .int .i64 ta, .int .i64 ol, .int .i64 ge, .int .i64 ph, .int .i64 ve, .int .i64 si, .int .i64 pt, .int .i64 vr, .slice D k dc] 28))
  have HP1 := Lib.hid (show Blk (w1.alloc (.cells #[.int .i64 kd, .int .i64 po, .int .u64 ma, .int .i64 ow, .int .i64 ta, .int .i64 ol, .int .i64 ge, .int .i64 ph, .int .i64 ve, .int .i64 si, .int .i64 pt, .int .i64 vr, .slice D k dc] 28)) w1.heap.size 28 (msC kd po ma ow ta ol ge ph ve si pt vr D k dc) from blk_new rfl)
  have HR1 := Lib.hid (hr1.alloc (.cells #[.int .i64 kd, .int .i64 po, .int .u64 ma, .int .i64 ow, .int .i64 ta, .int .i64 ol, .int .i64 ge, .int .i64 ph, .int .i64 ve, .int .i64 si, .int .i64 pt, .int .i64 vr, .slice D k dc] 28))
  have HD3 := Lib.hid (HD2.out _ HC1.out)
  clear hml hr1 hc1 HD1 HD2
  go_wp2_with fail
  refine HD3.out.mono ?_
  rintro e w2 ⟨E, ec, he, hr2, hc2⟩
  have he : e = .returned (.tuple #[.agg #[.int .i64 kd, .int .i64 po, .int .u64 ma, .int .i64 ow, .int .i64 ta, .int .i64 ol, .int .i64 ge, .int .i64 ph, .int .i64 ve, .int .i64 si, .int .i64 pt, .int .i64 vr, .slice E l.length ec], .int .i64 x]) := he
  replace hr2 : RcR w2 (fun _ => True) E l.length l := hr2
  rw [← HML.out] at he hr2
  subst he
  have hc2a := hc2.alloc (.cells #[.int .i64 kd, .int .i64 po, .int .u64 ma, .int .i64 ow, .int .i64 ta, .int .i64 ol, .int .i64 ge, .int .i64 ph, .int .i64 ve, .int .i64 si, .int .i64 pt, .int .i64 vr, .slice E k ec] 28)
  have HC2 := Lib.hid (HC1.out.trans hc2a (fun _ _ e => e))
  have HP2 := Lib.hid (HP1.out.chg hc2a id)
  have HR2 := Lib.hid (HR1.out.chg hc2a (fun _ _ => id))
  have HQ2 := Lib.hid (show Blk (w2.alloc (.cells #[.int .i64 kd, .int .i64 po, .int .u64 ma, .int .i64 ow, .int .i64 ta, .int .i64 ol, .int .i64 ge, .int .i64 ph, .int .i64 ve, .int .i64 si, .int .i64 pt, .int .i64 vr, .slice E k ec] 28)) w2.heap.size 28 (msC kd po ma ow ta ol ge ph ve si pt vr E k ec) from blk_new rfl)
  have HS2 := Lib.hid (hr2.alloc (.cells #[.int .i64 kd, .int .i64 po, .int .u64 ma, .int .i64 ow, .int .i64 ta, .int .i64 ol, .int .i64 ge, .int .i64 ph, .int .i64 ve, .int .i64 si, .int .i64 pt, .int .i64 vr, .slice E k ec] 28))
  have HSA := Lib.hid (rsame6_any kd po ma ow ta ol ge ph ve si pt vr kd po ma ow ta ol ge ph ve si pt vr D E k k dc ec l l _ _ _ HR2.out HS2.out (by omega) (by omega))
  rw [msS_refl] at HSA
  obtain ⟨y0, y1, y2, y3, y4, y5, y6, y7, y8, y9, y10, y11, y12⟩ := ms_cells HP2.out
  obtain ⟨z0, z1, z2, z3, z4, z5, z6, z7, z8, z9, z10, z11, z12⟩ := ms_cells HQ2.out
  unfold msC at HSA
  clear hr2 hc2 hc2a HC1 HP1 HR1 HD3
  go_wp2_with fail
  refine HSA.out.mono ?_
  rintro e w3 ⟨rfl, hc3⟩
  have HC3 := Lib.hid (HC2.out.trans hc3 (fun _ _ e => e))
  have HP3 := Lib.hid (HP2.out.chg hc3 id)
  have HR3 := Lib.hid (HR2.out.chg hc3 (fun _ _ => id))
  clear y0 y1 y2 y3 y4 y5 y6 y7 y8 y9 y10 y11 y12 z0 z1 z2 z3 z4 z5 z6 z7 z8 z9 z10 z11 z12 hc3 HC2 HP2 HR2 HQ2 HS2 HSA
  rcases HCASE.out with rfl | ⟨rfl, hpr, hnm, hpb⟩
  · have HA := Lib.hid (alive6_any w3)
    clear HCASE HP3 HR3 HML
    go_wp2_with fail
    refine HA.out.mono ?_
    rintro e w4 ⟨rfl, hc4⟩
    go_wp2_with fail
    go_ret
    exact ⟨rfl, HC3.out.trans hc4 (fun _ _ e => e)⟩
  · have HEN := Lib.hid (enc_lit ⟨kd, po, ma, ow, ta, ol, ge, ph, ve, si, pt, vr, l⟩ hpr hnm n (by rw [hpb, HN.out]) D k dc _ w3 HR3.out (by omega))
    rw [hpb] at HEN
    obtain ⟨y0, y1, y2, y3, y4, y5, y6, y7, y8, y9, y10, y11, y12⟩ := ms_cells HP3.out
    unfold msC at HEN
    clear HCASE HP3 HR3 HML hpr hnm hpb
    go_wp2_with fail
    refine HEN.out.mono ?_
    rintro e w4 ⟨F, fc, rfl, hown4, hc4⟩
    have HC4 := Lib.hid (HC3.out.trans hc4 (fun _ _ e => e))
    have HO4 := Lib.hid (own_rds2 hown4)
    have HH4 := Lib.hid (HH.out.chg HC4.out (fun _ _ => id))
    have HA := Lib.hid (alive6_any w4)
    clear y0 y1 y2 y3 y4 y5 y6 y7 y8 y9 y10 y11 y12 hown4 hc4 HEN HC3
    go_wp2_with fail
    refine HA.out.mono ?_
    rintro e w5 ⟨rfl, hc5⟩
    have s1 := conv_any (c := fc) (HO4.out.chg hc5 (fun _ _ => id))
    have s2 := conv_any (c := c) (HH4.out.chg hc5 (fun _ _ => id))
    have HC5 := Lib.hid (HC4.out.trans hc5 (fun _ _ e => e))
    clear hc5 HA HO4 HH4 HC4
    go_wp2_with fail
    go_ret
    exact ⟨rfl, HC5.out⟩

end Go.Proofs.Ytalfbijcjghemaa
