/-
  Walk: rutterref04.Make. Conditions: the body is read in memory.
-/
import Derived.Test.YtecnicbicbgapaaDoorKg
import Derived.Test.YtecnicbicbgapaaDoorKe
namespace Go.Proofs.YtecnicbicbgapaaDoor
open Go.RowKit
set_option linter.unusedVariables false

set_option maxHeartbeats 1000000 in
theorem rmake_bad (pr src dst sp dp : Int) (A : Option Addr) (n c : Nat) (w : World) (hn : n ≤ 9223372036854775807) (hr : flR pr sp dp = false ∨ 1400 < n) :
    Calls Tryd.prog 7 #[.agg (flC pr src dst sp dp), .slice A n c] w fun e w' => e = .returned (.tuple #[.slice none 0 0, .int .i64 1]) ∧ Chg (fun _ => False) w w' := by
  have hC0 := (Chg.refl (fun _ => False) w).alloc (.cells #[.int .i64 pr, .int .u32 src, .int .u32 dst, .int .i64 sp, .int .i64 dp] 24)
  have HR := Lib.hid (fun W => rright4_any pr src dst sp dp W)
  have HC0 := Lib.hid hC0
  generalize flR pr sp dp = r at *
  unfold flC at *
  clear hC0
  cases r with
  | false =>
    clear hr
    go_enter Tryd.func7, Tryd.ntmps7
    go_wp2_with fail
    refine (HR.out _).mono ?_
    rintro e w1 ⟨rfl, hc1⟩
    go_wp2_with fail
    go_ret2
    exact ⟨rfl, HC0.out.trans hc1 (fun _ _ e => e)⟩
  | true =>
    have hn2 : 1400 < n := by simpa using hr
    clear hr
    go_enter Tryd.func7, Tryd.ntmps7
    go_wp2_with fail
    refine (HR.out _).mono ?_
    rintro e w1 ⟨rfl, hc1⟩
    go_wp2_with fail
    go_ret2
    exact ⟨rfl, HC0.out.trans hc1 (fun _ _ e => e)⟩

set_option maxHeartbeats 2000000 in
theorem rmake_ok (pr src dst sp dp : Int) (A : Option Addr) (n c : Nat) (l : List UInt8) (S : Nat → Prop) (w : World) (hn : n = l.length) (h : Rds w S A n (bcs l)) (hn2 : n ≤ 1400)
    (hr : flR pr sp dp = true) (hs : 0 ≤ src ∧ src ≤ 4294967295) (hd : 0 ≤ dst ∧ dst ≤ 4294967295) :
    Calls Tryd.prog 7 #[.agg (flC pr src dst sp dp), .slice A n c] w fun e w' => ∃ A' k c', e = .returned (.tuple #[.slice A' k c', .int .i64 0]) ∧ k = 24 + n ∧
      w'.ownsRow w.heap.size 5 1 (.slice A' k c') k (bcs (dgB pr src dst sp dp l)) ∧ Chg (fun _ => False) w w' := by
  obtain ⟨i0, hi0, hz0, hz1, hz2⟩ := info_parts infoByte
  obtain ⟨hp, h1, h2⟩ := fl_right hr
  have hC0 := (Chg.refl (fun _ => False) w).alloc (.cells #[.int .i64 pr, .int .u32 src, .int .u32 dst, .int .i64 sp, .int .i64 dp] 24)
  have hb0 : Blk (w.alloc (.cells #[.int .i64 pr, .int .u32 src, .int .u32 dst, .int .i64 sp, .int .i64 dp] 24)) w.heap.size 24 (flC pr src dst sp dp) := blk_new rfl
  have HRT := Lib.hid (fun W => rright4_any pr src dst sp dp W)
  rw [hr] at HRT
  have HH1 := Lib.hid (fun (W : World) => rhead_any pr src dst sp dp (24 + (n : Int)) 0 W (by omega) (by omega) (by omega) hs hd)
  have hck := chkB_le (hdB (24 + (n : Int)) pr 0 src dst)
  have HCK : Hid (chkB (hdB (24 + (n : Int)) pr 0 src dst) = ckOf (24 + (n : Int)) pr src dst) := rfl
  generalize hx : chkB (hdB (24 + (n : Int)) pr 0 src dst) = ck at *
  have HX := Lib.hid hx
  have HH2 := Lib.hid (fun (W : World) => rhead_any pr src dst sp dp (24 + (n : Int)) ck W (by omega) (by omega) hck.1 hs hd)
  have HB0 := Lib.hid hb0
  have HC0 := Lib.hid hC0
  have HH := Lib.hid h
  have HN := Lib.hid hn
  unfold flC at HRT HH1 HH2 ⊢
  clear hC0 hb0 h hn hr hs hd hx hp
  go_enter Tryd.func7, Tryd.ntmps7
  go_wp2_with fail
  have hz : (w.alloc (.cells #[.int .i64 pr, .int .u32 src, .int .u32 dst, .int .i64 sp, .int .i64 dp] 24)).heap.size = w.heap.size + 1 := by simp
  refine (HRT.out _).mono ?_
  rintro e w1 ⟨rfl, hc1⟩
  obtain ⟨y0, y1, y2, y3, y4⟩ := fl_kept HB0.out hc1
  have HC := Lib.hid hc1
  clear hc1 HRT
  go_wp2_with fail
  refine (HH1.out _).mono ?_
  rintro e w2 ⟨A2, c2, rfl, hown2, hc2⟩
  have hr20 := own_rds2 hown2
  have HC2 := Lib.hid (HC.out.trans hc2 (fun _ _ e => e))
  have HCHK := Lib.hid (rcheck_any A2 20 c2 _ _ w2 (hdB_len _ _ _ _ _).symm hr20 (by decide))
  rw [HX.out] at HCHK
  clear y0 y1 y2 y3 y4 hown2 hc2 HC HH1 hr20
  go_wp2_with fail
  refine HCHK.out.mono ?_
  rintro e w3 ⟨rfl, rfl⟩
  obtain ⟨y0, y1, y2, y3, y4⟩ := fl_kept HB0.out HC2.out
  clear HCHK
  go_wp2_with fail
  refine (HH2.out _).mono ?_
  rintro e w3 ⟨A3, c3, rfl, hown3, hc3⟩
  have HC := Lib.hid (HC2.out.trans hc3 (fun _ _ e => e))
  have HO := Lib.hid (own_base hown3 (b' := w.heap.size + 1) (by have := HC2.out.size; omega))
  clear y0 y1 y2 y3 y4 HC2 HH2 hown3 hc3
  obtain ⟨y0, y1, y2, y3, y4⟩ := fl_kept HB0.out HC.out
  go_wp2_with fail
  refine (one_any 2 sp _ (by decide) (by decide) (by omega)).mono ?_
  rintro e v4 ⟨A4, k4, c4, rfl, rfl, hown4, hc4⟩
  have hC := HC.out.trans hc4 (fun _ _ e => e)
  have hown := own_chg HO.out hc4 (fun _ _ => id)
  have hsz := hC.size
  rw [hz] at hsz
  have hr := own_rds2 hown4
  clear hc4 hown4 HC HO y0 y1 y2 y3 y4
  go_wp2_with (at_builtin; refine wpList_own_append _ rfl (.tmp 30) (.tmp 33) 25 rfl _ 5 i0 (.int .u8 0) 1 Tryd.underlying25 hi0 hz0 hz1 hz2 rfl (.slice A3 20 c3) 20 _ rfl hown _ A4 2 c4 _ rfl hr (bcs_one _) (by decide) (by decide) hsz ?_; intro vv u4 hown' hg hat; obtain ⟨D4, dc4, rfl, _, _⟩ := own_form hown'; have hC' := grown_fresh hC hg hown (by rw [hz]; exact Nat.le_refl _); have HO := Lib.hid hown'; have HC := Lib.hid hC'; obtain ⟨y0, y1, y2, y3, y4⟩ := fl_kept HB0.out hC'; clear hown' hC' hg hat hown hr hC hsz)
  refine (one_any 2 dp _ (by decide) (by decide) (by omega)).mono ?_
  rintro e v5 ⟨A5, k5, c5, rfl, rfl, hown5, hc5⟩
  have hC := HC.out.trans hc5 (fun _ _ e => e)
  have hown := own_chg HO.out hc5 (fun _ _ => id)
  have hsz := hC.size
  rw [hz] at hsz
  have hr := own_rds2 hown5
  clear hc5 hown5 HC HO y0 y1 y2 y3 y4
  go_wp2_with (first
    | (at_builtin; refine wpList_own_append _ rfl (.tmp 35) (.tmp 38) 25 rfl _ 5 i0 (.int .u8 0) 1 Tryd.underlying25 hi0 hz0 hz1 hz2 rfl (.slice D4 22 dc4) 22 _ rfl hown _ A5 2 c5 _ rfl hr (bcs_one _) (by decide) (by decide) hsz ?_; intro vv u5 hown' hg hat; obtain ⟨D5, dc5, rfl, _, _⟩ := own_form hown'; have hC' := grown_fresh hC hg hown (by rw [hz]; exact Nat.le_refl _); have HO := Lib.hid hown'; have HC := Lib.hid hC'; obtain ⟨y0, y1, y2, y3, y4⟩ := fl_kept HB0.out hC'; clear hown' hC' hg hat hown hr hC hsz)
    | (at_builtin; have hr := HH.out.chg (HC0.out.trans HC.out (fun _ _ e => e)) (fun _ _ => id); have hown := HO.out; have hC := HC.out; have hsz := hC.size; rw [hz] at hsz; refine wpList_own_append _ rfl (.tmp 40) (.tmp 41) 25 rfl _ 5 i0 (.int .u8 0) 1 Tryd.underlying25 hi0 hz0 hz1 hz2 rfl (.slice D5 24 dc5) 24 _ rfl hown _ A n c _ rfl hr (bcs_one _) (by unfold maxLen; omega) (by omega) hsz ?_; intro vv u6 hown' hg hat; obtain ⟨D6, dc6, rfl, _, _⟩ := own_form hown'; have hC' := grown_fresh hC hg hown (by rw [hz]; exact Nat.le_refl _); have HO6 := Lib.hid hown'; have HC6 := Lib.hid hC'; clear hown' hC' hg hat hown hr hC hsz HO HC))
  go_ret2
  refine ⟨D6, _, dc6, rfl, rfl, ?_, HC0.out.trans HC6.out (fun _ _ e => e)⟩
  have e : bcs (dgB pr src dst sp dp l) = bcs (hdB (24 + (n : Int)) pr ck src dst) ++ bcs (be 2 sp.toNat) ++ bcs (be 2 dp.toNat) ++ bcs l := by
    unfold dgB ahB
    rw [← HN.out, ← HCK.out]
    simp only [bcs_app, List.append_assoc]
  rw [e]
  exact own_base HO6.out (Nat.le_succ _)

end Go.Proofs.YtecnicbicbgapaaDoor
