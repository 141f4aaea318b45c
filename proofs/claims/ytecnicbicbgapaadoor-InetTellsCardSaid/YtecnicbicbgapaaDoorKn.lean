/-
  Walk: rutterlaw04.InetTells. Conditions: the numbers are of their types; the body is read in memory, no more of it than there is room; the table of widths reads as its initialiser lays it.
-/
import Derived.Test.YtecnicbicbgapaaDoorKk
import Derived.Deep.RegionHeld3
namespace Go.Proofs.YtecnicbicbgapaaDoor
open Go.RowKit
set_option linter.unusedVariables false
set_option linter.unusedSimpArgs false

set_option maxHeartbeats 400000 in
theorem itells_big (pr src dst sp dp : Int) (A : Option Addr) (n c : Nat) (w : World) (hg : Gw w) (hn : 3000 < n) (hn2 : n ≤ 9223372036854775807) :
    Calls Tryd.prog 3 #[.agg (flC pr src dst sp dp), .slice A n c] w fun e w' => e = .returned (.bool true) ∧ Chg (fun _ => False) w w' := by
  have hC0 := (Chg.refl (fun _ => False) w).alloc (.cells #[.int .i64 pr, .int .u32 src, .int .u32 dst, .int .i64 sp, .int .i64 dp] 24)
  have HA := Lib.hid (alive4_any _ (hg.chg hC0 id))
  have HC0 := Lib.hid hC0
  unfold flC
  clear hg hC0
  go_enter Tryd.func3, Tryd.ntmps3
  go_wp2_with fail
  refine HA.out.mono ?_
  rintro e w1 ⟨rfl, hc1⟩
  go_wp2_with fail
  go_ret
  exact ⟨rfl, HC0.out.trans hc1 (fun _ _ e => e)⟩

/-- What both makers hand back, in letters: bytes m, the error's number x. -/
def Made (m : List UInt8) (x : Int) (w : World) (e : Ending) (w' : World) : Prop :=
  ∃ A c, e = .returned (.tuple #[.slice A m.length c, .int .i64 x]) ∧ w'.ownsRow w.heap.size 5 1 (.slice A m.length c) m.length (bcs m) ∧ Chg (fun _ => False) w w'
theorem made_no {w w' : World} {e : Ending} (h : e = .returned (.tuple #[.slice none 0 0, .int .i64 1]) ∧ Chg (fun _ => False) w w') : Made [] 1 w e w' :=
  ⟨none, 0, h.1, World.ownsRow_nil _ _ _ _, h.2⟩
theorem made_yes {w w' : World} {e : Ending} {pr src dst sp dp : Int} {l : List UInt8} {n : Nat} (hn : n = l.length)
    (h : ∃ A' k c', e = .returned (.tuple #[.slice A' k c', .int .i64 0]) ∧ k = 24 + n ∧ w'.ownsRow w.heap.size 5 1 (.slice A' k c') k (bcs (dgB pr src dst sp dp l)) ∧ Chg (fun _ => False) w w') : Made (dgB pr src dst sp dp l) 0 w e w' := by
  obtain ⟨A, k, c, he, hk, hown, hc⟩ := h
  have hk2 : k = (dgB pr src dst sp dp l).length := by rw [dgB_len, hk, hn]
  subst hk2
  exact ⟨A, c, he, hown, hc⟩
theorem made_form (pr src dst sp dp : Int) (A : Option Addr) (n c : Nat) (l : List UInt8) (S : Nat → Prop) (w : World) (hg : Gw w) (hn : n = l.length) (h : Rds w S A n (bcs l)) (h3 : n ≤ 3000) (hs : 0 ≤ src ∧ src ≤ 4294967295) (hd : 0 ≤ dst ∧ dst ≤ 4294967295) :
    ∃ m x, ((x = 1 ∧ m = []) ∨ (x = 0 ∧ m = dgB pr src dst sp dp l ∧ flR pr sp dp = true ∧ l.length ≤ 1400)) ∧
      (∀ W, Chg (fun _ => False) w W → Calls Tryd.prog 6 #[.agg (flC pr src dst sp dp), .slice A n c] W (Made m x W)) ∧
      (∀ W, Chg (fun _ => False) w W → Calls Tryd.prog 7 #[.agg (flC pr src dst sp dp), .slice A n c] W (Made m x W)) := by
  by_cases hr : flR pr sp dp = true ∧ n ≤ 1400
  · exact ⟨dgB pr src dst sp dp l, 0, .inr ⟨rfl, rfl, hr.1, by omega⟩, fun W hw => (make_ok pr src dst sp dp A n c l S W (hg.chg hw id) hn (h.chg hw (fun _ _ => id)) hr.2 hr.1 hs hd).mono (fun e w' he => made_yes hn he),
      fun W hw => (rmake_ok pr src dst sp dp A n c l S W hn (h.chg hw (fun _ _ => id)) hr.2 hr.1 hs hd).mono (fun e w' he => made_yes hn he)⟩
  · have hb : flR pr sp dp = false ∨ 1400 < n := by
      by_cases h1 : flR pr sp dp = true
      · exact .inr (Nat.lt_of_not_le (fun h2 => hr ⟨h1, h2⟩))
      · exact .inl (by simpa using h1)
    exact ⟨[], 1, .inl ⟨rfl, rfl⟩, fun W hw => (make_bad pr src dst sp dp A n c W (by omega) hb).mono (fun e w' he => made_no he), fun W hw => (rmake_bad pr src dst sp dp A n c W (by omega) hb).mono (fun e w' he => made_no he)⟩

set_option maxRecDepth 100000 in
set_option maxHeartbeats 8000000 in
theorem itells_any (pr src dst sp dp : Int) (A : Option Addr) (n c : Nat) (l : List UInt8) (S : Nat → Prop) (w : World) (hg : Gw w) (hn : n = l.length) (h : Rds w S A n (bcs l)) (hc : n ≤ c) (hcm : c ≤ maxLen) (h3 : n ≤ 3000)
    (hs : 0 ≤ src ∧ src ≤ 4294967295) (hd : 0 ≤ dst ∧ dst ≤ 4294967295) :
    Calls Tryd.prog 3 #[.agg (flC pr src dst sp dp), .slice A n c] w fun e w' => e = .returned (.bool true) ∧ Chg (fun _ => False) w w' := by
  obtain ⟨m, x, hcase, hm1, hm2⟩ := made_form pr src dst sp dp A n c l S w hg hn h h3 hs hd
  have hf0 : Blk (w.alloc (.cells #[.int .i64 pr, .int .u32 src, .int .u32 dst, .int .i64 sp, .int .i64 dp] 24)) w.heap.size 24 (flC pr src dst sp dp) := blk_new rfl
  have hC0 := (Chg.refl (fun _ => False) w).alloc (.cells #[.int .i64 pr, .int .u32 src, .int .u32 dst, .int .i64 sp, .int .i64 dp] 24)
  have HCASE := Lib.hid hcase
  have HM1 := Lib.hid (hm1 _ hC0)
  have HM2 := Lib.hid hm2
  have HF0 := Lib.hid hf0
  have HC0 := Lib.hid hC0
  have HG := Lib.hid hg
  have HH := Lib.hid h
  have HN := Lib.hid hn
  have HSD := Lib.hid (And.intro hs hd)
  unfold flC at HM1 HM2 ⊢
  clear hcase hm1 hm2 hf0 hC0 hg h hn hs hd hcm
  go_enter Tryd.func3, Tryd.ntmps3
  go_wp2_with fail
  refine HM1.out.mono ?_
  rintro e w1 ⟨A1, c1, rfl, hown1, hc1⟩
  generalize hml : m.length = k at *
  obtain ⟨x0, x1, x2, x3, x4⟩ := fl_kept HF0.out hc1
  have HC1 := Lib.hid (HC0.out.trans hc1 (fun _ _ e => e))
  have HF1 := Lib.hid (HF0.out.chg hc1 id)
  have HO1 := Lib.hid hown1
  have HML := Lib.hid hml
  have HM3 := Lib.hid (HM2.out _ HC1.out)
  clear hc1 hown1 hml HM1 HM2
  go_wp2_with fail
  refine HM3.out.mono ?_
  rintro e w2 ⟨A2, c2, he2, hown2, hc2⟩
  rw [HML.out] at he2 hown2
  subst he2
  have HC2 := Lib.hid (HC1.out.trans hc2 (fun _ _ e => e))
  have HF2 := Lib.hid (HF1.out.chg hc2 id)
  have HO1 := Lib.hid (own_chg HO1.out hc2 (fun _ _ => id))
  have HO2 := Lib.hid hown2
  have HR2 := Lib.hid (HH.out.chg HC2.out (fun _ _ => id))
  have HKEEP := Lib.hid (fun (W : World) (hw : Chg (fun _ => False) w2 W) => (show (W.cell? ⟨w.heap.size, 0, none⟩ = some (.int .i64 pr) ∧ W.cell? ⟨w.heap.size, 1, none⟩ = some (.int .u32 src) ∧ W.cell? ⟨w.heap.size, 2, none⟩ = some (.int .u32 dst) ∧ W.cell? ⟨w.heap.size, 3, none⟩ = some (.int .i64 sp) ∧ W.cell? ⟨w.heap.size, 4, none⟩ = some (.int .i64 dp)) ∧ (convert 25 9 (.slice A1 k c1)).run Tryd.prog W = .ok (.string ⟨m.toArray⟩) W ∧ (convert 25 9 (.slice A2 k c2)).run Tryd.prog W = .ok (.string ⟨m.toArray⟩) W from ⟨fl_kept HF2.out hw, conv_any ((own_rds2 HO1.out).chg hw (fun _ _ => id)), conv_any ((own_rds2 HO2.out).chg hw (fun _ _ => id))⟩))
  have HRI := Lib.hid (fun (W : World) => iright_any pr src dst sp dp W)
  have HRR := Lib.hid (fun (W : World) => rright4_any pr src dst sp dp W)
  have HBI := Lib.hid (fun (W : World) => iback_any pr src dst sp dp W)
  have HBR := Lib.hid (fun (W : World) => rback4_any pr src dst sp dp W)
  have HBB := Lib.hid (fun (W : World) => iback_any pr dst src dp sp W)
  have HCI := Lib.hid (fun (W : World) (hw : Chg (fun _ => False) w2 W) => check_any A n c l S W HN.out (HR2.out.chg hw (fun _ _ => id)) (by omega))
  have HCR := Lib.hid (fun (W : World) (hw : Chg (fun _ => False) w2 W) => rcheck_any A n c l S W HN.out (HR2.out.chg hw (fun _ _ => id)) (by omega))
  have hFR : ∃ r, flR pr sp dp = r := ⟨_, rfl⟩
  obtain ⟨r, hFR⟩ := hFR
  have hCK : ∃ ck, chkB l = ck := ⟨_, rfl⟩
  obtain ⟨ck, hCK⟩ := hCK
  have HFR := Lib.hid hFR
  rw [hFR] at HRI HRR
  rw [hCK] at HCI HCR
  have hne := neF
  have HX := Lib.hid ((Chg.refl (fun _ => False) w2).drew)
  unfold flC at HRI HRR HBI HBR HBB
  clear hc2 hown2 HC1 HF1 HM3 x0 x1 x2 x3 x4 hFR hCK
  go_wp2_with fail
  go_region_held3 (fun w' => (w'.cell? ⟨w.heap.size, 0, none⟩ = some (.int .i64 pr) ∧ w'.cell? ⟨w.heap.size, 1, none⟩ = some (.int .u32 src) ∧ w'.cell? ⟨w.heap.size, 2, none⟩ = some (.int .u32 dst) ∧ w'.cell? ⟨w.heap.size, 3, none⟩ = some (.int .i64 sp) ∧ w'.cell? ⟨w.heap.size, 4, none⟩ = some (.int .i64 dp)) ∧ (convert 25 9 (.slice A1 k c1)).run Tryd.prog w' = .ok (.string ⟨m.toArray⟩) w' ∧ (convert 25 9 (.slice A2 k c2)).run Tryd.prog w' = .ok (.string ⟨m.toArray⟩) w')
    (first | with_reducible exact HKEEP.out _ HX.out | fail)
    (first
      | (go_at_call 8; (with_reducible refine (HRI.out _).mono ?_); rintro e wz ⟨rfl, hcz⟩; have HX := Lib.hid (HX.out.trans hcz (fun _ _ e => e)); clear hcz)
      | (go_at_call 9; (with_reducible refine (HRR.out _).mono ?_); rintro e wz ⟨rfl, hcz⟩; have HX := Lib.hid (HX.out.trans hcz (fun _ _ e => e)); clear hcz)
      | (go_at_call 10; (with_reducible refine (HCI.out _ HX.out).mono ?_); rintro e wz ⟨rfl, hwz⟩; subst hwz)
      | (go_at_call 11; (with_reducible refine (HCR.out _ HX.out).mono ?_); rintro e wz ⟨rfl, hwz⟩; subst hwz)
      | (go_at_call 12; (with_reducible refine (HBI.out _).mono ?_); rintro e wz ⟨rfl, hcz⟩; have HX := Lib.hid (HX.out.trans hcz (fun _ _ e => e)); clear hcz)
      | (go_at_call 13; (with_reducible refine (HBR.out _).mono ?_); rintro e wz ⟨rfl, hcz⟩; have HX := Lib.hid (HX.out.trans hcz (fun _ _ e => e)); clear hcz)
      | (go_at_call 12; (with_reducible refine (HBB.out _).mono ?_); rintro e wz ⟨rfl, hcz⟩; have HX := Lib.hid (HX.out.trans hcz (fun _ _ e => e)); clear hcz)
      | fail)
  have HCX := Lib.hid (HC2.out.trans HX.out (fun _ _ e => e))
  have HF5 := Lib.hid (HF2.out.chg HX.out id)
  have HO5 := Lib.hid (own_chg HO1.out HX.out (fun _ _ => id))
  have HR5 := Lib.hid (HR2.out.chg HX.out (fun _ _ => id))
  have HAL := Lib.hid (fun (W : World) (hw : Chg (fun _ => False) w W) => alive4_any W (HG.out.chg hw id))
  clear HRI HRR HBI HBR HBB HCI HCR HKEEP hne HF2 HO1 HO2 HR2 HC2 HX HC0
  rcases HCASE.out with ⟨rfl, rfl⟩ | ⟨rfl, hm, hr, hl⟩
  · obtain rfl : 0 = k := HML.out
    have HA6 := Lib.hid (HAL.out _ HCX.out)
    clear HCASE HML HAL
    go_wp2_with fail
    refine HA6.out.mono ?_
    rintro e w6 ⟨rfl, hc6⟩
    go_wp2_with fail
    go_ret
    exact ⟨rfl, HCX.out.trans hc6 (fun _ _ e => e)⟩
  · subst hm
    have hkk : k = 24 + l.length := by rw [← HML.out, dgB_len]
    have hcap := own_cap HO5.out
    have HP := Lib.hid (iparse_any A1 k c1 (dgB pr src dst sp dp l) _ _ (HG.out.chg HCX.out id) HML.out.symm (own_rds2 HO5.out) hcap.1 hcap.2 (by omega))
    have HT := Lib.hid (dg_twenty HO5.out (by omega) hr HSD.out.1 HSD.out.2 hl)
    have hb20 : (20 : Int) ≤ (c1 : Int) := by omega
    have HHR := Lib.hid hr
    have HHL := Lib.hid hl
    clear HCASE hkk hcap hr hl
    go_wp2_with fail
    refine HP.out.mono ?_
    intro e w6 hp
    obtain ⟨A3, c3, rfl, hrd3, hc6⟩ := parsed_back HHR.out HSD.out.1 HSD.out.2 HHL.out hp
    rw [← HN.out] at hrd3
    rw [← HN.out]
    have HC6 := Lib.hid ((HCX.out.trans hc6 (fun _ _ e => e)).alloc (.cells #[.int .i64 pr, .int .u32 src, .int .u32 dst, .int .i64 sp, .int .i64 dp] 24))
    have HF6 := Lib.hid ((HF5.out.chg hc6 id).alloc (.cells #[.int .i64 pr, .int .u32 src, .int .u32 dst, .int .i64 sp, .int .i64 dp] 24))
    have HQ6 := Lib.hid (show Blk (w6.alloc (.cells #[.int .i64 pr, .int .u32 src, .int .u32 dst, .int .i64 sp, .int .i64 dp] 24)) w6.heap.size 24 (flC pr src dst sp dp) from blk_new rfl)
    have HT6 := Lib.hid ((HT.out.chg hc6 (fun _ _ => id)).alloc (.cells #[.int .i64 pr, .int .u32 src, .int .u32 dst, .int .i64 sp, .int .i64 dp] 24))
    have HS6 := Lib.hid (hrd3.alloc (.cells #[.int .i64 pr, .int .u32 src, .int .u32 dst, .int .i64 sp, .int .i64 dp] 24))
    have HB6 := Lib.hid ((HR5.out.chg hc6 (fun _ _ => id)).alloc (.cells #[.int .i64 pr, .int .u32 src, .int .u32 dst, .int .i64 sp, .int .i64 dp] 24))
    have HA6 := Lib.hid (HAL.out _ HC6.out)
    clear hp hrd3 hc6 HP HT HF5 HO5 HR5 HCX HAL
    go_wp2_with fail
    refine HA6.out.mono ?_
    rintro e w7 ⟨rfl, hc7⟩
    obtain ⟨x0, x1, x2, x3, x4⟩ := fl_kept HF6.out hc7
    obtain ⟨y0, y1, y2, y3, y4⟩ := fl_kept HQ6.out hc7
    have s1 := conv_any (c := c3) (HS6.out.chg hc7 (fun _ _ => id))
    have s2 := conv_any (c := c) (HB6.out.chg hc7 (fun _ _ => id))
    have HCK := Lib.hid (rcheck_any A1 20 c1 _ _ w7 (hdB_len _ _ _ _ _).symm (HT6.out.chg hc7 (fun _ _ => id)) (by decide))
    rw [ck_zero] at HCK
    have HC7 := Lib.hid (HC6.out.trans hc7 (fun _ _ e => e))
    have he := eqF
    clear hc7 HA6 HF6 HQ6 HT6 HS6 HB6 HC6
    go_wp2_with fail
    refine HCK.out.mono ?_
    rintro e w8 ⟨rfl, hw8⟩
    subst hw8
    go_wp2_with fail
    go_ret
    exact ⟨rfl, HC7.out⟩

end Go.Proofs.YtecnicbicbgapaaDoor
