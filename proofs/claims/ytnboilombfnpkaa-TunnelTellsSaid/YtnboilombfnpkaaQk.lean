/-
  Walk: rutterlaw05.TunnelBytes. Conditions: the bytes are read in memory.
-/
import Derived.Test.YtnboilombfnpkaaQj
namespace Go.Proofs.Ytnboilombfnpkaa
open Go.RowKit
set_option linter.unusedVariables false

theorem dec_case (b : List UInt8) : ∃ (x1 x2 x3 x4 x5 x6 x7 x : Int) (m : List UInt8), (∀ w e w', Dec b w e w' → Hd x1 x2 x3 x4 x5 x6 x7 m x w e w') ∧ (x = 2 ∨ (x = 0 ∧ pkR x1 x2 x3 x4 x5 x6 x7 m.length = true ∧ pkB x1 x2 x3 x4 x5 x6 x7 m = b)) := by
  refine ⟨dP b 1, dP b 2, dP b 3, dP b 4, dP b 5, dP b 6, dP b 7, dX b, dM b, fun _ _ _ h => h, ?_⟩
  cases h : dOK b with
  | false => exact .inl (dX_no h)
  | true =>
    refine .inr ⟨dX_yes h, ?_, ?_⟩
    · rw [dP_yes h, dP_yes h, dP_yes h, dP_yes h, dP_yes h, dP_yes h, dP_yes h, dM_yes h]
      exact (dOK_parts h).2.2
    · rw [dP_yes h, dP_yes h, dP_yes h, dP_yes h, dP_yes h, dP_yes h, dP_yes h, dM_yes h]
      exact dec_yes h

set_option maxHeartbeats 400000 in
theorem tbytes_big (A : Option Addr) (n c : Nat) (w : World) (h3 : 3000 < n) (hn : n ≤ 9223372036854775807) :
    Calls Try.prog 4 #[.slice A n c] w fun e w' => e = .returned (.bool true) ∧ Chg (fun _ => False) w w' := by
  have HA := Lib.hid (alive5_any w)
  go_enter Try.func4, Try.ntmps4
  go_wp2_with fail
  refine HA.out.mono ?_
  rintro e w1 ⟨rfl, hc1⟩
  go_wp2_with fail
  go_ret
  exact ⟨rfl, hc1⟩

set_option maxHeartbeats 4000000 in
theorem tbytes_any (A : Option Addr) (n c : Nat) (b : List UInt8) (S : Nat → Prop) (w : World) (hn : n = b.length) (h : Rds w S A n (bcs b)) (hz : A = none → c = 0) (h3 : n ≤ 3000) :
    Calls Try.prog 4 #[.slice A n c] w fun e w' => e = .returned (.bool true) ∧ Chg (fun _ => False) w w' := by
  obtain ⟨x1, x2, x3, x4, x5, x6, x7, x, m, hd, hcase⟩ := dec_case b
  have HD1 := Lib.hid ((tdec_any A n c b S w hn h hz (by omega)).mono (hd w))
  have HD2 := Lib.hid (fun (W : World) (hw : Chg (fun _ => False) w W) => (rparse5_any A n c b S W hn (h.chg hw (fun _ _ => id)) (by omega)).mono (hd W))
  have HCASE := Lib.hid hcase
  have HH := Lib.hid h
  have HN := Lib.hid hn
  clear hd hcase h hn hz
  go_enter Try.func4, Try.ntmps4
  go_wp2_with fail
  refine HD1.out.mono ?_
  rintro e w1 ⟨D, dc, rfl, hdn, hr1, hc1⟩
  generalize hml : m.length = k at *
  have HML := Lib.hid hml
  have HDN := Lib.hid hdn
  have HC1 := Lib.hid (hc1.alloc (.cells #[.int .i64 x1, .int .i64 x2, .int .i64 x3, .int .i64 x4, .int .i64 x5, .int .i64 x6, .int .i64 x7, .slice D k dc] 25))
  have HP1 := Lib.hid (show Blk (w1.alloc (.cells #[.int .i64 x1, .int .i64 x2, .int .i64 x3, .int .i64 x4, .int .i64 x5, .int .i64 x6, .int .i64 x7, .slice D k dc] 25)) w1.heap.size 25 (pkC x1 x2 x3 x4 x5 x6 x7 D k dc) from blk_new rfl)
  have HR1 := Lib.hid (hr1.alloc (.cells #[.int .i64 x1, .int .i64 x2, .int .i64 x3, .int .i64 x4, .int .i64 x5, .int .i64 x6, .int .i64 x7, .slice D k dc] 25))
  have HD3 := Lib.hid (HD2.out _ HC1.out)
  unfold pkC
  clear hml hdn hr1 hc1 HD1 HD2
  go_wp2_with fail
  refine HD3.out.mono ?_
  rintro e w2 ⟨E, ec, he, hen, hr2, hc2⟩
  rw [HML.out] at he hr2
  subst he
  have hc2a := hc2.alloc (.cells #[.int .i64 x1, .int .i64 x2, .int .i64 x3, .int .i64 x4, .int .i64 x5, .int .i64 x6, .int .i64 x7, .slice E k ec] 25)
  have HC2 := Lib.hid (HC1.out.trans hc2a (fun _ _ e => e))
  have HP2 := Lib.hid (HP1.out.chg hc2a id)
  have HR2 := Lib.hid (HR1.out.chg hc2a (fun _ _ => id))
  have HQ2 := Lib.hid (show Blk (w2.alloc (.cells #[.int .i64 x1, .int .i64 x2, .int .i64 x3, .int .i64 x4, .int .i64 x5, .int .i64 x6, .int .i64 x7, .slice E k ec] 25)) w2.heap.size 25 (pkC x1 x2 x3 x4 x5 x6 x7 E k ec) from blk_new rfl)
  have HS2 := Lib.hid (hr2.alloc (.cells #[.int .i64 x1, .int .i64 x2, .int .i64 x3, .int .i64 x4, .int .i64 x5, .int .i64 x6, .int .i64 x7, .slice E k ec] 25))
  have HSA := Lib.hid (rsame5_any x1 x2 x3 x4 x5 x6 x7 x1 x2 x3 x4 x5 x6 x7 D E k k dc ec m m _ _ _ HR2.out HS2.out)
  rw [pkS_refl] at HSA
  obtain ⟨y0, y1, y2, y3, y4, y5, y6, y7⟩ := pk_cells HP2.out
  obtain ⟨z0, z1, z2, z3, z4, z5, z6, z7⟩ := pk_cells HQ2.out
  unfold pkC at HSA ⊢
  clear hen hr2 hc2 hc2a HC1 HP1 HR1 HD3
  go_wp2_with fail
  refine HSA.out.mono ?_
  rintro e w3 ⟨rfl, hc3⟩
  have HC3 := Lib.hid (HC2.out.trans hc3 (fun _ _ e => e))
  have HP3 := Lib.hid (HP2.out.chg hc3 id)
  have HR3 := Lib.hid (HR2.out.chg hc3 (fun _ _ => id))
  clear y0 y1 y2 y3 y4 y5 y6 y7 z0 z1 z2 z3 z4 z5 z6 z7 hc3 HC2 HP2 HR2 HQ2 HS2 HSA
  rcases HCASE.out with rfl | ⟨rfl, hpr, hpb⟩
  · have HA := Lib.hid (alive5_any w3)
    clear HCASE HP3 HR3 HML HDN
    go_wp2_with fail
    refine HA.out.mono ?_
    rintro e w4 ⟨rfl, hc4⟩
    go_wp2_with fail
    go_ret
    exact ⟨rfl, HC3.out.trans hc4 (fun _ _ e => e)⟩
  · have HEN := Lib.hid (tenc_ok x1 x2 x3 x4 x5 x6 x7 D k dc m _ w3 HML.out.symm HR3.out hpr)
    rw [hpb] at HEN
    obtain ⟨y0, y1, y2, y3, y4, y5, y6, y7⟩ := pk_cells HP3.out
    unfold pkC at HEN
    clear HCASE HP3 HR3 HML HDN hpr hpb
    go_wp2_with fail
    refine HEN.out.mono ?_
    rintro e w4 ⟨F, fc, rfl, hown4, hc4⟩
    have HC4 := Lib.hid (HC3.out.trans hc4 (fun _ _ e => e))
    have HO4 := Lib.hid (own_rds2 hown4)
    have HH4 := Lib.hid (HH.out.chg HC4.out (fun _ _ => id))
    have HA := Lib.hid (alive5_any w4)
    clear y0 y1 y2 y3 y4 y5 y6 y7 hown4 hc4 HEN HC3
    go_wp2_with fail
    refine HA.out.mono ?_
    rintro e w5 ⟨rfl, hc5⟩
    have s1 := conv_any (c := fc) (HO4.out.chg hc5 (fun _ _ => id))
    have s2 := conv_any (c := c) (HH4.out.chg hc5 (fun _ _ => id))
    have HC5 := Lib.hid (HC4.out.trans hc5 (fun _ _ e => e))
    clear hc5 HA HO4 HH4 HC4
    go_wp2_with fail
    go_ret
    exact ⟨rfl, HC5.out⟩

end Go.Proofs.Ytnboilombfnpkaa
