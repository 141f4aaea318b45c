/-
  Walk: inet.Parse. Conditions: the bytes are read in memory, not more than 100000; the table of widths reads as its initialiser lays it.
-/
import Derived.Test.YtecnicbicbgapaaDoorKq
import Derived.Deep.RegionHeld3
namespace Go.Proofs.YtecnicbicbgapaaDoor
open Go.RowKit
set_option linter.unusedVariables false
set_option linter.unusedSimpArgs false

theorem fl_put {w : World} {r : Nat} {T : TypeId} {o s t p q : Int} (hb : Blk w r T (flC o s t p q)) (o' s' t' p' q' : Int) :
    (w.setCell ⟨r, 0, none⟩ (.int .i64 o')).cell? ⟨r, 0, none⟩ = some (.int .i64 o') ∧
    ((w.setCell ⟨r, 0, none⟩ (.int .i64 o')).setCell ⟨r, 1, none⟩ (.int .u32 s')).cell? ⟨r, 1, none⟩ = some (.int .u32 s') ∧
    (((w.setCell ⟨r, 0, none⟩ (.int .i64 o')).setCell ⟨r, 1, none⟩ (.int .u32 s')).setCell ⟨r, 2, none⟩ (.int .u32 t')).cell? ⟨r, 2, none⟩ = some (.int .u32 t') ∧
    ((((w.setCell ⟨r, 0, none⟩ (.int .i64 o')).setCell ⟨r, 1, none⟩ (.int .u32 s')).setCell ⟨r, 2, none⟩ (.int .u32 t')).setCell ⟨r, 3, none⟩ (.int .i64 p')).cell? ⟨r, 3, none⟩ = some (.int .i64 p') ∧
    (((((w.setCell ⟨r, 0, none⟩ (.int .i64 o')).setCell ⟨r, 1, none⟩ (.int .u32 s')).setCell ⟨r, 2, none⟩ (.int .u32 t')).setCell ⟨r, 3, none⟩ (.int .i64 p')).setCell ⟨r, 4, none⟩ (.int .i64 q')).cell? ⟨r, 4, none⟩ = some (.int .i64 q') ∧
    Chg (fun k => k = r) w (((((w.setCell ⟨r, 0, none⟩ (.int .i64 o')).setCell ⟨r, 1, none⟩ (.int .u32 s')).setCell ⟨r, 2, none⟩ (.int .u32 t')).setCell ⟨r, 3, none⟩ (.int .i64 p')).setCell ⟨r, 4, none⟩ (.int .i64 q')) := by
  have r0 := (hb.set 0 (.int .i64 o')).cell 0
  have r1 := ((hb.set 0 (.int .i64 o')).set 1 (.int .u32 s')).cell 1
  have r2 := (((hb.set 0 (.int .i64 o')).set 1 (.int .u32 s')).set 2 (.int .u32 t')).cell 2
  have r3 := ((((hb.set 0 (.int .i64 o')).set 1 (.int .u32 s')).set 2 (.int .u32 t')).set 3 (.int .i64 p')).cell 3
  have r4 := (((((hb.set 0 (.int .i64 o')).set 1 (.int .u32 s')).set 2 (.int .u32 t')).set 3 (.int .i64 p')).set 4 (.int .i64 q')).cell 4
  simp only [flC, List.setIfInBounds_toArray, List.set_cons_succ, List.set_cons_zero, List.getElem?_toArray, List.getElem?_cons_zero, List.getElem?_cons_succ] at r0 r1 r2 r3 r4
  exact ⟨r0, r1, r2, r3, r4, (((((Chg.refl (fun k => k = r) w).put r 0 (fun _ => rfl) _).put r 1 (fun _ => rfl) _).put r 2 (fun _ => rfl) _).put r 3 (fun _ => rfl) _).put r 4 (fun _ => rfl) _⟩
theorem fl_free {w : World} {r : Nat} {T : TypeId} {cs : Array Value} (hb : Blk w r T cs) : w.frozen? ⟨r, 0, none⟩ = false ∧ w.frozen? ⟨r, 1, none⟩ = false ∧ w.frozen? ⟨r, 2, none⟩ = false ∧ w.frozen? ⟨r, 3, none⟩ = false ∧ w.frozen? ⟨r, 4, none⟩ = false :=
  ⟨hb.frozen 0, hb.frozen 1, hb.frozen 2, hb.frozen 3, hb.frozen 4⟩

def zeroL : Value := .agg #[.int .i64 0, .int .u32 0, .int .u32 0, .int .i64 0, .int .i64 0]

set_option maxHeartbeats 1000000 in
theorem iparse_short (A : Option Addr) (n c : Nat) (b : List UInt8) (w : World) (hn : n = b.length) (hn2 : n < 24) :
    Calls Tryd.prog 14 #[.slice A n c] w (Parsed b w) := by
  have HP := Lib.hid (parC_short (b := b) (by omega))
  clear hn
  go_enter Tryd.func14, Tryd.ntmps14
  go_wp2_with fail
  exact bodyPost_ret (v := .tuple #[zeroL, .slice none 0 0, .int .i64 2]) (by simp [results, Tryd.results14, go_sem, zeroL]) rfl (parsed_no HP.out (by decide) rfl ((Chg.refl _ w).alloc _))

set_option maxRecDepth 100000 in
set_option maxHeartbeats 4000000 in
theorem iparse_long (A : Option Addr) (n c : Nat) (b : List UInt8) (S : Nat → Prop) (w : World) (hg : Gw w) (hn : n = b.length) (h : Rds w S A n (bcs b)) (h24 : 24 ≤ n) (hc : n ≤ c) (hcm : c ≤ maxLen) (hb : n ≤ 100000) :
    Calls Tryd.prog 14 #[.slice A n c] w (Parsed b w) := by
  have hcm' : (c : Int) ≤ 9223372036854775807 := by unfold maxLen at hcm; omega
  have hR0 : Blk (w.alloc (.cells #[.int .i64 0, .int .u32 0, .int .u32 0, .int .i64 0, .int .i64 0] 24)) w.heap.size 24 (flC 0 0 0 0 0) := blk_new rfl
  have hC0 := (Chg.refl (fun _ => False) w).alloc (.cells #[.int .i64 0, .int .u32 0, .int .u32 0, .int .i64 0, .int .i64 0] 24)
  have h24r := (h.take 24 h24).chg hC0 (fun _ _ => id)
  rw [← bcs_take] at h24r
  have hnum := numbers_any A c (b.take 24) S _ (hg.chg hC0 id) (by rw [List.length_take]; omega) h24r (by omega) hcm
  rw [numK_all, nAt_take _ _ _ _ (by decide), nAt_take _ _ _ _ (by decide), nAt_take _ _ _ _ (by decide), nAt_take _ _ _ _ (by decide), nAt_take _ _ _ _ (by decide), nAt_take _ _ _ _ (by decide), nAt_take _ _ _ _ (by decide), nAt_take _ _ _ _ (by decide), nAt_take _ _ _ _ (by decide), nAt_take _ _ _ _ (by decide), nAt_take _ _ _ _ (by decide), nAt_take _ _ _ _ (by decide)] at hnum
  have HNUM := Lib.hid hnum
  have HR0 := Lib.hid hR0
  have HC0 := Lib.hid hC0
  have HN := Lib.hid hn
  have HH := Lib.hid h
  have HG := Lib.hid hg
  have HCM := Lib.hid hcm
  have HOK : Hid (okF b = (nAt b 0 1 == 69 && nAt b 2 2 == (b.length : Int))) := rfl
  have g1 := nAt_nonneg b 12 4
  have g1' : nAt b 12 4 ≤ 4294967295 := by have := nAt_lt b 12 4; omega
  have g2 := nAt_nonneg b 16 4
  have g2' : nAt b 16 4 ≤ 4294967295 := by have := nAt_lt b 16 4; omega
  have HPT := Lib.hid (And.intro (nAt_nonneg b 20 2) (And.intro (nAt_lt b 20 2) (And.intro (nAt_nonneg b 22 2) (nAt_lt b 22 2))))
  clear hnum hR0 hC0 hn h hg hcm h24r
  go_enter Tryd.func14, Tryd.ntmps14
  go_wp2_with fail
  refine HNUM.out.mono ?_
  rintro e w1 ⟨rfl, hc1⟩
  have HR1 := Lib.hid (HR0.out.chg hc1 id)
  have HC1 := Lib.hid (HC0.out.trans hc1 (fun _ _ e => e))
  clear HR0 HC0 hc1 HNUM
  go_wp2_with fail
  have hb5 : Blk (w1.alloc (.cells #[.int .i64 (nAt b 0 1), .int .i64 (nAt b 1 1), .int .i64 (nAt b 2 2), .int .i64 (nAt b 4 2), .int .i64 (nAt b 6 2), .int .i64 (nAt b 8 1), .int .i64 (nAt b 9 1), .int .i64 (nAt b 10 2), .int .i64 (nAt b 12 4), .int .i64 (nAt b 16 4), .int .i64 (nAt b 20 2), .int .i64 (nAt b 22 2)] 43)) w1.heap.size 43 _ := blk_new rfl
  have hR2 := HR1.out.alloc (.cells #[.int .i64 (nAt b 0 1), .int .i64 (nAt b 1 1), .int .i64 (nAt b 2 2), .int .i64 (nAt b 4 2), .int .i64 (nAt b 6 2), .int .i64 (nAt b 8 1), .int .i64 (nAt b 9 1), .int .i64 (nAt b 10 2), .int .i64 (nAt b 12 4), .int .i64 (nAt b 16 4), .int .i64 (nAt b 20 2), .int .i64 (nAt b 22 2)] 43)
  have hC2 := HC1.out.alloc (.cells #[.int .i64 (nAt b 0 1), .int .i64 (nAt b 1 1), .int .i64 (nAt b 2 2), .int .i64 (nAt b 4 2), .int .i64 (nAt b 6 2), .int .i64 (nAt b 8 1), .int .i64 (nAt b 9 1), .int .i64 (nAt b 10 2), .int .i64 (nAt b 12 4), .int .i64 (nAt b 16 4), .int .i64 (nAt b 20 2), .int .i64 (nAt b 22 2)] 43)
  generalize (w1.alloc (.cells #[.int .i64 (nAt b 0 1), .int .i64 (nAt b 1 1), .int .i64 (nAt b 2 2), .int .i64 (nAt b 4 2), .int .i64 (nAt b 6 2), .int .i64 (nAt b 8 1), .int .i64 (nAt b 9 1), .int .i64 (nAt b 10 2), .int .i64 (nAt b 12 4), .int .i64 (nAt b 16 4), .int .i64 (nAt b 20 2), .int .i64 (nAt b 22 2)] 43)) = wz at *
  obtain ⟨x0, x1, x2, x3, x4, x5, x6, x7, x8, x9, x10, x11⟩ := num_cells hb5
  go_region_held3 (fun w' => w'.cell? ⟨w1.heap.size, 0, none⟩ = some (.int .i64 (nAt b 0 1)) ∧ w'.cell? ⟨w1.heap.size, 2, none⟩ = some (.int .i64 (nAt b 2 2)))
    (first | exact ⟨x0, x2⟩ | fail)
    (fail)
  clear x0 x1 x2 x3 x4 x5 x6 x7 x8 x9 x10 x11
  have hb5 := hb5.drew
  have hR := hR2.drew.alloc (.cells #[.int .i64 (nAt b 9 1), .int .u32 (nAt b 12 4), .int .u32 (nAt b 16 4), .int .i64 (nAt b 20 2), .int .i64 (nAt b 22 2)] 24)
  have hC := hC2.drew.alloc (.cells #[.int .i64 (nAt b 9 1), .int .u32 (nAt b 12 4), .int .u32 (nAt b 16 4), .int .i64 (nAt b 20 2), .int .i64 (nAt b 22 2)] 24)
  have hF8 : Blk (wz.drew.alloc (.cells #[.int .i64 (nAt b 9 1), .int .u32 (nAt b 12 4), .int .u32 (nAt b 16 4), .int .i64 (nAt b 20 2), .int .i64 (nAt b 22 2)] 24)) wz.drew.heap.size 24 (flC (nAt b 9 1) (nAt b 12 4) (nAt b 16 4) (nAt b 20 2) (nAt b 22 2)) := blk_new rfl
  have HZ := Lib.hid (show w.heap.size < wz.drew.heap.size from hR2.lt)
  clear hR2 hC2 HR1 HC1
  generalize wz.drew = wd at *
  obtain ⟨x0, x1, x2, x3, x4, x5, x6, x7, x8, x9, x10, x11⟩ := num_cells hb5
  clear hb5
  by_cases q0 : nAt b 0 1 = 69
  case neg =>
    have t0 : (nAt b 0 1 == 69) = false := by simpa using q0
    have s0 : (nAt b 0 1 != 69) = true := by simpa using q0
    have HP := Lib.hid (parC_form (b := b) (by rw [HOK.out, t0]; rfl))
    clear q0 t0
    obtain ⟨y0, y1, y2, y3, y4⟩ := fl_cells hR
    obtain ⟨u0, u1, u2, u3, u4⟩ := fl_free hR
    obtain ⟨r0, r1, r2, r3, r4, hcs⟩ := fl_put hR 0 0 0 0 0
    have HF := Lib.hid (fresh_set hC hcs (Nat.le_refl _))
    have RR := Lib.hid (And.intro r0 (And.intro r1 (And.intro r2 (And.intro r3 r4))))
    clear r0 r1 r2 r3 r4 hcs hR hC
    go_wp2_with fail
    obtain ⟨r0, r1, r2, r3, r4⟩ := RR.out
    exact bodyPost_ret (v := .tuple #[zeroL, .slice none 0 0, .int .i64 2]) (by simp [results, Tryd.results14, go_sem, zeroL, r0, r1, r2, r3, r4]) rfl (parsed_no HP.out (by decide) rfl HF.out)
  by_cases q2 : nAt b 2 2 = (n : Int)
  case neg =>
    have t2 : (nAt b 2 2 == (n : Int)) = false := by simpa using q2
    have s2 : (nAt b 2 2 != (n : Int)) = true := by simpa using q2
    have s0 : (nAt b 0 1 != 69) = false := by simpa using q0
    have HP := Lib.hid (parC_form (b := b) (by rw [HOK.out, ← HN.out, t2, Bool.and_false]))
    clear q0 q2 t2
    obtain ⟨y0, y1, y2, y3, y4⟩ := fl_cells hR
    obtain ⟨u0, u1, u2, u3, u4⟩ := fl_free hR
    obtain ⟨r0, r1, r2, r3, r4, hcs⟩ := fl_put hR 0 0 0 0 0
    have HF := Lib.hid (fresh_set hC hcs (Nat.le_refl _))
    have RR := Lib.hid (And.intro r0 (And.intro r1 (And.intro r2 (And.intro r3 r4))))
    clear r0 r1 r2 r3 r4 hcs hR hC
    go_wp2_with fail
    obtain ⟨r0, r1, r2, r3, r4⟩ := RR.out
    exact bodyPost_ret (v := .tuple #[zeroL, .slice none 0 0, .int .i64 2]) (by simp [results, Tryd.results14, go_sem, zeroL, r0, r1, r2, r3, r4]) rfl (parsed_no HP.out (by decide) rfl HF.out)
  have HF8 := Lib.hid hF8
  have HR := Lib.hid hR
  have HC := Lib.hid hC
  have s0 : (nAt b 0 1 != 69) = false := by simpa using q0
  have s2 : (nAt b 2 2 != (n : Int)) = false := by simpa using q2
  have HO := Lib.hid (show okF b = true by rw [HOK.out, q0, q2, HN.out]; simp)
  have HS := Lib.hid (show Rds (wd.alloc (.cells #[.int .i64 (nAt b 9 1), .int .u32 (nAt b 12 4), .int .u32 (nAt b 16 4), .int .i64 (nAt b 20 2), .int .i64 (nAt b 22 2)] 24)) S A 20 (bcs (b.take 20)) by rw [bcs_take]; exact (HH.out.take 20 (by omega)).chg hC (fun _ _ => id))
  have HL20 := Lib.hid (show 20 = (b.take 20).length by have := HN.out; rw [List.length_take]; omega)
  have HL := Lib.hid (show 24 ≤ b.length by have := HN.out; omega)
  clear hF8 hR hC q0 q2
  go_wp2_with fail
  refine (check_any A 20 c (b.take 20) S _ HL20.out HS.out (by decide)).mono ?_
  rintro e w3 ⟨rfl, hw3⟩
  subst hw3
  clear HS x0 x1 x2 x3 x4 x5 x6 x7 x8 x9 x10 x11
  by_cases qc : (chkB (b.take 20) == 0) = true
  case neg =>
    have qc : (chkB (b.take 20) == 0) = false := by simpa using qc
    have sc : (chkB (b.take 20) != 0) = true := by simpa using qc
    have HP := Lib.hid (parC_sum HL.out HO.out qc)
    have hR := HR.out
    have hC := HC.out
    generalize chkB (b.take 20) = ck at *
    clear qc HR HC HF8
    obtain ⟨y0, y1, y2, y3, y4⟩ := fl_cells hR
    obtain ⟨u0, u1, u2, u3, u4⟩ := fl_free hR
    obtain ⟨r0, r1, r2, r3, r4, hcs⟩ := fl_put hR 0 0 0 0 0
    have HF := Lib.hid (fresh_set hC hcs (Nat.le_refl _))
    have RR := Lib.hid (And.intro r0 (And.intro r1 (And.intro r2 (And.intro r3 r4))))
    clear r0 r1 r2 r3 r4 hcs hR hC
    go_wp2_with fail
    obtain ⟨r0, r1, r2, r3, r4⟩ := RR.out
    exact bodyPost_ret (v := .tuple #[zeroL, .slice none 0 0, .int .i64 6]) (by simp [results, Tryd.results14, go_sem, zeroL, r0, r1, r2, r3, r4]) rfl (parsed_no HP.out (by decide) rfl HF.out)
  have sc : (chkB (b.take 20) != 0) = false := by simpa using qc
  have HKIND := Lib.hid (fun h => parC_kind HL.out HO.out qc h)
  have HYES := Lib.hid (fun h => parC_ok HL.out HO.out qc h)
  generalize chkB (b.take 20) = ck at *
  obtain ⟨y0, y1, y2, y3, y4⟩ := fl_cells HF8.out
  have HK : Hid (flR (nAt b 9 1) (nAt b 20 2) (nAt b 22 2) = (nAt b 9 1 == 6 || nAt b 9 1 == 17)) := by
    obtain ⟨p1, p2, p3, p4⟩ := HPT.out
    unfold Hid flR portB
    have e1 : decide (0 ≤ nAt b 20 2) = true := by simpa using p1
    have e2 : decide (nAt b 20 2 ≤ 65535) = true := by simp; omega
    have e3 : decide (0 ≤ nAt b 22 2) = true := by simpa using p3
    have e4 : decide (nAt b 22 2 ≤ 65535) = true := by simp; omega
    rw [e1, e2, e3, e4]
    simp
  clear qc
  go_wp2_with fail
  refine (iright_any _ _ _ _ _ _).mono ?_
  rw [HK.out]
  rintro e w4 ⟨rfl, hc4⟩
  have HR4 := Lib.hid (HR.out.chg hc4 id)
  have HC4 := Lib.hid (HC.out.trans hc4 (fun _ _ e => e))
  have HF9 := Lib.hid (HF8.out.chg hc4 id)
  clear hc4 HR HC HF8 y0 y1 y2 y3 y4
  by_cases qk : (nAt b 9 1 == 6 || nAt b 9 1 == 17) = true
  case neg =>
    have qk : (nAt b 9 1 == 6 || nAt b 9 1 == 17) = false := by simpa using qk
    have HP := Lib.hid (HKIND.out qk)
    rw [qk]
    have hR := HR4.out
    have hC := HC4.out
    clear qk HR4 HC4
    obtain ⟨y0, y1, y2, y3, y4⟩ := fl_cells hR
    obtain ⟨u0, u1, u2, u3, u4⟩ := fl_free hR
    obtain ⟨r0, r1, r2, r3, r4, hcs⟩ := fl_put hR 0 0 0 0 0
    have HF := Lib.hid (fresh_set hC hcs (Nat.le_refl _))
    have RR := Lib.hid (And.intro r0 (And.intro r1 (And.intro r2 (And.intro r3 r4))))
    clear r0 r1 r2 r3 r4 hcs hR hC
    go_wp2_with fail
    obtain ⟨r0, r1, r2, r3, r4⟩ := RR.out
    exact bodyPost_ret (v := .tuple #[zeroL, .slice none 0 0, .int .i64 14]) (by simp [results, Tryd.results14, go_sem, zeroL, r0, r1, r2, r3, r4]) rfl (parsed_no HP.out (by decide) rfl HF.out)
  have HP := Lib.hid (HYES.out qk)
  rw [qk]
  obtain ⟨y0, y1, y2, y3, y4⟩ := fl_cells HF9.out
  obtain ⟨a, rfl, _⟩ := HH.out.2 (by omega)
  have hd24 := HH.out.drop 24 c h24 hc
  rw [← bcs_drop] at hd24
  have HN24 := Lib.hid (show n - 24 = (b.drop 24).length by have := HN.out; rw [List.length_drop]; omega)
  have hn24 : (24 : Int) ≤ (n : Int) := by omega
  clear qk
  have hne : ¬ wd.heap.size = w.heap.size := by have := HZ.out; omega
  have hd24' : Rds _ S (if c = 24 then some a else some { block := a.block, off := a.off + 24 }) (n - 24) (bcs (b.drop 24)) := hd24
  have HS24 := Lib.hid (hd24'.chg HC4.out (fun _ _ => id))
  have HA24 : Hid (∀ A24, (if c = 24 then some a else some ({ block := a.block, off := a.off + 24 } : Addr)) = A24 → Rds w4 S A24 (n - 24) (bcs (b.drop 24)) ∧ (A24 = none → c - 24 = 0)) := by
    rintro A24 rfl
    refine ⟨HS24.out, fun e => ?_⟩
    split at e <;> cases e
  clear HS24
  clear hd24 hd24'
  go_wp2_with fail
  refine wp_region_noPanic ?_
  refine wp_region_held_drew (S := (fun w' => w'.cell? ⟨wd.heap.size, 0, none⟩ = some (.int .i64 (nAt b 9 1)) ∧ w'.cell? ⟨wd.heap.size, 1, none⟩ = some (.int .u32 (nAt b 12 4)) ∧ w'.cell? ⟨wd.heap.size, 2, none⟩ = some (.int .u32 (nAt b 16 4)) ∧ w'.cell? ⟨wd.heap.size, 3, none⟩ = some (.int .i64 (nAt b 20 2)) ∧ w'.cell? ⟨wd.heap.size, 4, none⟩ = some (.int .i64 (nAt b 22 2)))) (by kernel_rfl) ⟨y0, y1, y2, y3, y4⟩ (fun hHeld => ?_)
  refine wpAnyH_take (i := 0) (v := ?_) rfl (by kernel_rfl) (by kernel_rfl) (by kernel_rfl) (fun _ _ _ h => h) (Or.inl ⟨by rfl, ?_⟩) (by assumption) ?_
  rotate_left
  · intro w' hSw
    try dsimp only at hSw
    go_simp
    first | done | (with_reducible rfl)
  try simp only [List.getElem_toArray, List.getElem_cons_succ, List.getElem_cons_zero, Act.put, List.setIfInBounds_toArray, List.set_cons_zero, List.set_cons_succ]
  refine wpAnyH_take (i := 1) (v := ?_) rfl (by kernel_rfl) (by kernel_rfl) (by kernel_rfl) (fun _ _ _ h => h) (Or.inl ⟨by rfl, ?_⟩) (by assumption) ?_
  rotate_left
  · intro w' hSw
    try dsimp only at hSw
    go_simp
    first | done | (with_reducible rfl)
  try simp only [List.getElem_toArray, List.getElem_cons_succ, List.getElem_cons_zero, Act.put, List.setIfInBounds_toArray, List.set_cons_zero, List.set_cons_succ]
  refine wpAnyH_take (i := 2) (v := ?_) rfl (by kernel_rfl) (by kernel_rfl) (by kernel_rfl) (fun _ _ _ h => h) (Or.inl ⟨by rfl, ?_⟩) (by assumption) ?_
  rotate_left
  · intro w' hSw
    try dsimp only at hSw
    go_simp
    first | done | (with_reducible rfl)
  try simp only [List.getElem_toArray, List.getElem_cons_succ, List.getElem_cons_zero, Act.put, List.setIfInBounds_toArray, List.set_cons_zero, List.set_cons_succ]
  refine wpAnyH_ready (rs := [3]) (by kernel_rfl) (by simp) ?_
  refine AllReadyH.cons rfl (fun K hK => ?_) AllReadyH.nil
  go_simp
  generalize hA24 : (if c = 24 then some a else some ({ block := a.block, off := a.off + 24 } : Addr)) = A24
  have hr24 := HA24.out _ hA24
  clear hA24 HA24
  refine (bclone_any A24 _ _ (b.drop 24) _ _ HN24.out (hr24.1.drew) hr24.2 (by omega)).mono ?_
  clear hr24
  rintro e w5 ⟨D, dc, rfl, hown5, hc5⟩
  have HC5 := Lib.hid ((Chg.refl (fun _ => False) w4).drew.trans hc5 (fun _ _ e => e))
  have HO5 := Lib.hid hown5
  have HR5 := Lib.hid (HR4.out.chg HC5.out id)
  clear hc5 hown5 y0 y1 y2 y3 y4
  go_wp2_with fail
  refine hK.out _ _ (fl_kept HF9.out HC5.out) (fun hHeld => ?_)
  clear hK K
  try simp only [List.getElem_toArray, List.getElem_cons_succ, List.getElem_cons_zero, Act.put, List.setIfInBounds_toArray, List.set_cons_zero, List.set_cons_succ]
  obtain ⟨z0, z1, z2, z3, z4⟩ := fl_cells HR5.out
  obtain ⟨u0, u1, u2, u3, u4⟩ := fl_free HR5.out
  obtain ⟨r0, r1, r2, r3, r4, hcs5⟩ := fl_put HR5.out (nAt b 9 1) (nAt b 12 4) (nAt b 16 4) (nAt b 20 2) (nAt b 22 2)
  have RR := Lib.hid (And.intro r0 (And.intro r1 (And.intro r2 (And.intro r3 r4))))
  have HCS := Lib.hid hcs5
  clear r0 r1 r2 r3 r4 hcs5
  refine wpAnyH_ready (rs := [4]) (by kernel_rfl) (by simp) ?_
  refine AllReadyH.cons rfl (fun K hK => ?_) AllReadyH.nil
  go_simp
  refine hK.out _ _ (fl_cells ((HF9.out.chg HC5.out id).chg HCS.out hne)) (fun hHeld => ?_)
  clear hK K
  try simp only [List.getElem_toArray, List.getElem_cons_succ, List.getElem_cons_zero, Act.put, List.setIfInBounds_toArray, List.set_cons_zero, List.set_cons_succ]
  refine wpAnyH_take (i := 5) (v := ?_) rfl (by kernel_rfl) (by kernel_rfl) (by kernel_rfl) (fun _ _ _ h => h) (Or.inl ⟨by rfl, ?_⟩) (by assumption) ?_
  rotate_left
  · intro w' hSw
    try dsimp only at hSw
    go_simp
    first | done | (with_reducible rfl)
  try simp only [List.getElem_toArray, List.getElem_cons_succ, List.getElem_cons_zero, Act.put, List.setIfInBounds_toArray, List.set_cons_zero, List.set_cons_succ]
  refine wpAnyH_take (i := 6) (v := ?_) rfl (by kernel_rfl) (by kernel_rfl) (by kernel_rfl) (fun _ _ _ h => h) (Or.inl ⟨by rfl, ?_⟩) (by assumption) ?_
  rotate_left
  · intro w' hSw
    try dsimp only at hSw
    go_simp
    first | done | (with_reducible rfl)
  try simp only [List.getElem_toArray, List.getElem_cons_succ, List.getElem_cons_zero, Act.put, List.setIfInBounds_toArray, List.set_cons_zero, List.set_cons_succ]
  refine wpAnyH_done (by kernel_rfl) ?_ _
  refine NoPanic.normal ?_
  clear z0 z1 z2 z3 z4 u0 u1 u2 u3 u4
  go_wp2_with fail
  obtain ⟨r0, r1, r2, r3, r4⟩ := RR.out
  have hown := own_chg HO5.out HCS.out (fun k hk e => by have := (HO5.out.lt k (by rw [own_block]; exact hk)).1; have := HC4.out.size; have := HR4.out.lt; have e2 : w4.drew.heap.size = w4.heap.size := rfl; omega)
  exact bodyPost_ret (v := .tuple #[.agg #[.int .i64 (nAt b 9 1), .int .u32 (nAt b 12 4), .int .u32 (nAt b 16 4), .int .i64 (nAt b 20 2), .int .i64 (nAt b 22 2)], .slice D (n - 24) dc, .int .i64 0]) (by simp [results, Tryd.results14, go_sem, r0, r1, r2, r3, r4]) rfl
    (parsed_yes HP.out rfl (by have := HN.out; omega) ((own_rds2 hown).mono (fun k hk => Nat.le_trans HC4.out.size hk.1)) (fresh_set (HC4.out.trans HC5.out (fun _ _ e => e)) HCS.out (Nat.le_refl _)))

theorem iparse_any (A : Option Addr) (n c : Nat) (b : List UInt8) (S : Nat → Prop) (w : World) (hg : Gw w) (hn : n = b.length) (h : Rds w S A n (bcs b)) (hc : n ≤ c) (hcm : c ≤ maxLen) (hb : n ≤ 100000) :
    Calls Tryd.prog 14 #[.slice A n c] w (Parsed b w) := by
  by_cases h24 : n < 24
  · exact iparse_short A n c b w hn h24
  · exact iparse_long A n c b S w hg hn h (by omega) hc hcm hb

end Go.Proofs.YtecnicbicbgapaaDoor
