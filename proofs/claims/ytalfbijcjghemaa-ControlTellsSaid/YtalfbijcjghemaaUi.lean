/-
  Walk: control.Encode. Conditions: the records are read in memory, the numbers are of their types.
-/
import Derived.Test.YtalfbijcjghemaaUh
namespace Go.Proofs.Ytalfbijcjghemaa
open Go.RowKit
set_option linter.unusedVariables false

/-- What a call that makes bytes hands back, in letters: the bytes, the error's number. -/
def Mk6 (m : List UInt8) (x : Int) (w : World) (e : Ending) (w' : World) : Prop :=
  ∃ A c, e = .returned (.tuple #[.slice A m.length c, .int .i64 x]) ∧ w'.ownsRow w.heap.size 5 1 (.slice A m.length c) m.length (bcs m) ∧ Chg (fun _ => False) w w'
theorem mk6_no {w w' : World} {e : Ending} (h : e = .returned (.tuple #[.slice none 0 0, .int .i64 1]) ∧ Chg (fun _ => False) w w') : Mk6 [] 1 w e w' :=
  ⟨none, 0, h.1, World.ownsRow_nil _ _ _ _, h.2⟩
theorem wat_done6 (p N : Nat) (b : List UInt8) (w1 W : World) (hN : N ≤ 1000000) (h : Wat w1 p (some b) N W) :
    Calls Try.prog 29 #[.pointer (some ⟨p, 0, none⟩)] W fun e w' => ∃ A c, e = .returned (.tuple #[.slice A b.length c, .int .i64 0]) ∧ w'.ownsRow w1.heap.size 5 1 (.slice A b.length c) b.length (bcs b) ∧ Chg (fun _ => False) w1 w' := by
  obtain ⟨o, hw, hC, _, _⟩ := h
  refine (wdone_some p o b N W hw (by omega)).mono ?_
  rintro e w' ⟨A', k, c', rfl, rfl, hown, hc⟩
  exact ⟨A', c', rfl, own_base hown hC.size, hC.trans hc (fun _ _ e => e)⟩
/-- Are the message's numbers of their types? -/
def MsN (kd po ma ow ta ol ge ph ve si pt vr : Int) (l : List Rc) : Prop := (0 ≤ ma ∧ ma ≤ 18446744073709551615) ∧ ∀ x ∈ l, RcN x
theorem put_one (n x : Int) (b : List UInt8) (hn : 1 ≤ n ∧ n ≤ 8) (hf : fits n.toNat x = true) : putS n [x] (some b) = some (b ++ be n.toNat x.toNat) := by
  simp [putS, hn, puts, put1, hf]
theorem named_parts {p v : Int} (h : namedB p v = true) : (0 ≤ p ∧ p ≤ 31) ∧ (1 ≤ v ∧ v ≤ 1099511627776) := by
  unfold namedB at h
  simp only [Bool.and_eq_true] at h
  exact ⟨wi_one' h.1, wi_one' h.2⟩
theorem st_one (po ma ow ta ol ge ph ve si : Int) (h : rwR po ma ow ta ol ge ph ve si = true) (hm : 0 ≤ ma) (pt vr : Int) (l : List Rc) : rowP po ma ow ta ol ge ph ve si (putS 1 [1] (some [])) = some (msB 1 po ma ow ta ol ge ph ve si pt vr l) := by
  rw [put_one 1 1 [] (by decide) (by decide), rowP_eq h hm]
  rfl
theorem st_two (po ma ow ta ol ge ph ve si pt vr : Int) (h : namedB pt vr = true) (l : List Rc) : putS 6 [vr] (putS 1 [pt] (putS 1 [2] (some []))) = some (msB 2 po ma ow ta ol ge ph ve si pt vr l) := by
  obtain ⟨h1, h2⟩ := named_parts h
  rw [put_one 1 2 [] (by decide) (by decide), put_one 1 pt _ (by decide) (fits_w6 1 (by omega) (by omega)), put_one 6 vr _ (by decide) (fits_w6 6 (by omega) (by omega))]
  simp [msB]
theorem st_three (po ma ow ta ol ge ph ve si pt vr : Int) (h : namedB pt vr = true) (l : List Rc) (hl : l.length ≤ 16) (ha : l.all rcR = true) (hn : ∀ x ∈ l, RcN x) :
    recsP l (putS 1 [(l.length : Int)] (putS 6 [vr] (putS 1 [pt] (putS 1 [3] (some []))))) = some (msB 3 po ma ow ta ol ge ph ve si pt vr l) := by
  obtain ⟨h1, h2⟩ := named_parts h
  rw [put_one 1 3 [] (by decide) (by decide), put_one 1 pt _ (by decide) (fits_w6 1 (by omega) (by omega)), put_one 6 vr _ (by decide) (fits_w6 6 (by omega) (by omega)), put_one 1 (l.length : Int) _ (by decide) (fits_w6 1 (by omega) (by omega)), recsP_eq ha hn]
  simp [msB]
theorem rvE_zero {po ma ow ta ol ge ph ve si : Int} (h : rvE po ma ow ta ol ge ph ve si 0 0 0 0 0 0 0 0 0 = true) : po = 0 ∧ ma = 0 ∧ ow = 0 ∧ ta = 0 ∧ ol = 0 ∧ ge = 0 ∧ ph = 0 ∧ ve = 0 ∧ si = 0 := by
  unfold rvE at h
  simp only [Bool.and_eq_true, beq_iff_eq] at h
  exact h
theorem msR_parts {kd po ma ow ta ol ge ph ve si pt vr : Int} {l : List Rc} (h : msR kd po ma ow ta ol ge ph ve si pt vr l = true) :
    (kd = 1 ∧ rwR po ma ow ta ol ge ph ve si = true ∧ pt = 0 ∧ vr = 0 ∧ l = []) ∨ (kd = 2 ∧ rvE po ma ow ta ol ge ph ve si 0 0 0 0 0 0 0 0 0 = true ∧ namedB pt vr = true ∧ l = []) ∨ (kd = 3 ∧ rvE po ma ow ta ol ge ph ve si 0 0 0 0 0 0 0 0 0 = true ∧ namedB pt vr = true ∧ l.length ≤ 16 ∧ l.all rcR = true) := by
  unfold msR at h
  by_cases h1 : kd = 1
  · rw [if_pos h1] at h
    simp only [Bool.and_eq_true, beq_iff_eq] at h
    exact .inl ⟨h1, h.1, h.2.1, h.2.2.1, List.eq_nil_of_length_eq_zero h.2.2.2⟩
  rw [if_neg h1] at h
  by_cases h2 : kd = 2
  · rw [if_pos h2] at h
    simp only [Bool.and_eq_true, beq_iff_eq] at h
    exact .inr (.inl ⟨h2, h.1, h.2.1, List.eq_nil_of_length_eq_zero h.2.2⟩)
  rw [if_neg h2] at h
  by_cases h3 : kd = 3
  · rw [if_pos h3] at h
    unfold keptB at h
    simp only [Bool.and_eq_true, decide_eq_true_eq] at h
    exact .inr (.inr ⟨h3, h.1, h.2.1, h.2.2.1, h.2.2.2⟩)
  rw [if_neg h3] at h
  cases h

set_option maxHeartbeats 1000000 in
theorem cenc_bad (kd po ma ow ta ol ge ph ve si pt vr : Int) (A : Option Addr) (n c : Nat) (l : List Rc) (S : Nat → Prop) (w : World) (h : RcR w S A n l) (hn2 : n ≤ 9223372036854775807) (hr : msR kd po ma ow ta ol ge ph ve si pt vr l = false) :
    Calls Try.prog 13 #[.agg (msC kd po ma ow ta ol ge ph ve si pt vr A n c)] w (Mk6 [] 1 w) := by
  have HC0 := Lib.hid ((Chg.refl (fun _ => False) w).alloc (.cells #[.int .i64 kd, .int .i64 po, .int .u64 ma, .int .i64 ow, .int .i64 ta, .int .i64 ol, .int .i64 ge, .int .i64 ph, .int .i64 ve, .int .i64 si, .int .i64 pt, .int .i64 vr, .slice A n c] 28))
  have hrt := cright_any kd po ma ow ta ol ge ph ve si pt vr A n c l S _ (h.alloc (.cells #[.int .i64 kd, .int .i64 po, .int .u64 ma, .int .i64 ow, .int .i64 ta, .int .i64 ol, .int .i64 ge, .int .i64 ph, .int .i64 ve, .int .i64 si, .int .i64 pt, .int .i64 vr, .slice A n c] 28)) hn2
  rw [hr] at hrt
  have HRT := Lib.hid hrt
  clear hr hrt h
  unfold msC at HRT ⊢
  go_enter Try.func13, Try.ntmps13
  go_wp2_with fail
  refine HRT.out.mono ?_
  rintro e w1 ⟨rfl, hc1⟩
  go_wp2_with fail
  go_ret2
  exact mk6_no ⟨rfl, HC0.out.trans hc1 (fun _ _ e => e)⟩

set_option maxHeartbeats 40000000 in
theorem cenc_1 (po ma ow ta ol ge ph ve si pt vr : Int) (A : Option Addr) (n c : Nat) (l : List Rc) (S : Nat → Prop) (w : World) (h : RcR w S A n l) (hn2 : n ≤ 9223372036854775807) (hr : msR 1 po ma ow ta ol ge ph ve si pt vr l = true) (hrw : rwR po ma ow ta ol ge ph ve si = true) (hm : 0 ≤ ma) :
    Calls Try.prog 13 #[.agg (msC 1 po ma ow ta ol ge ph ve si pt vr A n c)] w (Mk6 (msB 1 po ma ow ta ol ge ph ve si pt vr l) 0 w) := by
  have HST := Lib.hid (st_one po ma ow ta ol ge ph ve si hrw hm pt vr l)
  have hC0 := (Chg.refl (fun _ => False) w).alloc (.cells #[.int .i64 1, .int .i64 po, .int .u64 ma, .int .i64 ow, .int .i64 ta, .int .i64 ol, .int .i64 ge, .int .i64 ph, .int .i64 ve, .int .i64 si, .int .i64 pt, .int .i64 vr, .slice A n c] 28)
  have hQ0 : Blk (w.alloc (.cells #[.int .i64 1, .int .i64 po, .int .u64 ma, .int .i64 ow, .int .i64 ta, .int .i64 ol, .int .i64 ge, .int .i64 ph, .int .i64 ve, .int .i64 si, .int .i64 pt, .int .i64 vr, .slice A n c] 28)) w.heap.size 28 (msC 1 po ma ow ta ol ge ph ve si pt vr A n c) := blk_new rfl
  have hrt := cright_any 1 po ma ow ta ol ge ph ve si pt vr A n c l S _ (h.alloc (.cells #[.int .i64 1, .int .i64 po, .int .u64 ma, .int .i64 ow, .int .i64 ta, .int .i64 ol, .int .i64 ge, .int .i64 ph, .int .i64 ve, .int .i64 si, .int .i64 pt, .int .i64 vr, .slice A n c] 28)) hn2
  have HH0 := Lib.hid (h.alloc (.cells #[.int .i64 1, .int .i64 po, .int .u64 ma, .int .i64 ow, .int .i64 ta, .int .i64 ol, .int .i64 ge, .int .i64 ph, .int .i64 ve, .int .i64 si, .int .i64 pt, .int .i64 vr, .slice A n c] 28))
  have HL := Lib.hid h.1
  rw [hr] at hrt
  have HRT := Lib.hid hrt
  have HC0 := Lib.hid hC0
  have HQ0 := Lib.hid hQ0
  clear h hr hrt hC0 hQ0
  unfold msC at HRT ⊢
  go_enter Try.func13, Try.ntmps13
  go_wp2_with fail
  refine HRT.out.mono ?_
  rintro e w1 ⟨rfl, hc1⟩
  have HQ1 := Lib.hid (HQ0.out.chg hc1 id)
  have HC1 := Lib.hid (HC0.out.trans hc1 (fun _ _ e => e))
  have HH1 := Lib.hid (HH0.out.chg hc1 (fun _ _ => id))
  obtain ⟨y0, y1, y2, y3, y4, y5, y6, y7, y8, y9, y10, y11, y12⟩ := ms_kept HQ1.out ((Chg.refl (fun _ => False) w1).alloc (.cells #[.slice none 0 0, .bool false] 55))
  have HPUT := Lib.hid (wat_put6 w1.heap.size (w1.heap.size + 1) 0 1 [1] (some []) w1 ((w1.alloc (.cells #[.slice none 0 0, .bool false] 55)).alloc (.cells #[.int .i64 1] 3)) ((Wat.start ((Chg.refl _ _).alloc _) (Nat.le_refl _) (blk_new rfl)).alloc _) (blk_new (by simp)) (fun x hx => by simp only [List.mem_singleton] at hx; omega) (by simp))
  clear HRT hc1 HC0 HQ0 HH0
  go_wp2_with fail
  refine HPUT.out.mono ?_
  rintro e w2 ⟨rfl, hw2, _⟩
  have HW2 : Hid (Wat w1 w1.heap.size (putS 1 [1] (some [])) 8 w2) := Lib.hid hw2
  have HX := Lib.hid hw2.was
  clear hw2 HPUT y0 y1 y2 y3 y4 y5 y6 y7 y8 y9 y10 y11 y12
  obtain ⟨y0, y1, y2, y3, y4, y5, y6, y7, y8, y9, y10, y11, y12⟩ := ms_kept HQ1.out HX.out
  generalize hpp : w1.heap.size = pp at *
  have HPP := Lib.hid hpp
  clear hpp
  have HPR := Lib.hid (putrow_ok po ma ow ta ol ge ph ve si pp 8 (putS 1 [1] (some [])) w1 w2 hrw hm (by decide) HW2.out)
  unfold rvC at HPR
  clear hrw hm
  go_wp2_with fail
  refine HPR.out.mono ?_
  rintro e w3 ⟨rfl, hw3, _⟩
  rw [HST.out] at hw3
  have HW3 := Lib.hid hw3
  clear hw3 HPR y0 y1 y2 y3 y4 y5 y6 y7 y8 y9 y10 y11 y12
  go_wp2_with fail
  refine (wat_done6 pp _ _ w1 _ (by simp; try omega) HW3.out).mono ?_
  rintro e w7 ⟨D, dc, rfl, hown7, hc7⟩
  have HO7 := Lib.hid hown7
  have HC7 := Lib.hid hc7
  clear hown7 hc7
  go_wp2_with fail
  go_ret2
  exact ⟨D, dc, rfl, own_base HO7.out HC1.out.size, HC1.out.trans HC7.out (fun _ _ e => e)⟩

set_option maxHeartbeats 40000000 in
theorem cenc_2 (po ma ow ta ol ge ph ve si pt vr : Int) (A : Option Addr) (n c : Nat) (l : List Rc) (S : Nat → Prop) (w : World) (h : RcR w S A n l) (hn2 : n ≤ 9223372036854775807) (hr : msR 2 po ma ow ta ol ge ph ve si pt vr l = true) (hnb : namedB pt vr = true) :
    Calls Try.prog 13 #[.agg (msC 2 po ma ow ta ol ge ph ve si pt vr A n c)] w (Mk6 (msB 2 po ma ow ta ol ge ph ve si pt vr l) 0 w) := by
  have HST := Lib.hid (st_two po ma ow ta ol ge ph ve si pt vr hnb l)
  obtain ⟨hb1, hb2⟩ := named_parts hnb
  have hC0 := (Chg.refl (fun _ => False) w).alloc (.cells #[.int .i64 2, .int .i64 po, .int .u64 ma, .int .i64 ow, .int .i64 ta, .int .i64 ol, .int .i64 ge, .int .i64 ph, .int .i64 ve, .int .i64 si, .int .i64 pt, .int .i64 vr, .slice A n c] 28)
  have hQ0 : Blk (w.alloc (.cells #[.int .i64 2, .int .i64 po, .int .u64 ma, .int .i64 ow, .int .i64 ta, .int .i64 ol, .int .i64 ge, .int .i64 ph, .int .i64 ve, .int .i64 si, .int .i64 pt, .int .i64 vr, .slice A n c] 28)) w.heap.size 28 (msC 2 po ma ow ta ol ge ph ve si pt vr A n c) := blk_new rfl
  have hrt := cright_any 2 po ma ow ta ol ge ph ve si pt vr A n c l S _ (h.alloc (.cells #[.int .i64 2, .int .i64 po, .int .u64 ma, .int .i64 ow, .int .i64 ta, .int .i64 ol, .int .i64 ge, .int .i64 ph, .int .i64 ve, .int .i64 si, .int .i64 pt, .int .i64 vr, .slice A n c] 28)) hn2
  have HH0 := Lib.hid (h.alloc (.cells #[.int .i64 2, .int .i64 po, .int .u64 ma, .int .i64 ow, .int .i64 ta, .int .i64 ol, .int .i64 ge, .int .i64 ph, .int .i64 ve, .int .i64 si, .int .i64 pt, .int .i64 vr, .slice A n c] 28))
  have HL := Lib.hid h.1
  rw [hr] at hrt
  have HRT := Lib.hid hrt
  have HC0 := Lib.hid hC0
  have HQ0 := Lib.hid hQ0
  clear h hr hrt hC0 hQ0
  unfold msC at HRT ⊢
  go_enter Try.func13, Try.ntmps13
  go_wp2_with fail
  refine HRT.out.mono ?_
  rintro e w1 ⟨rfl, hc1⟩
  have HQ1 := Lib.hid (HQ0.out.chg hc1 id)
  have HC1 := Lib.hid (HC0.out.trans hc1 (fun _ _ e => e))
  have HH1 := Lib.hid (HH0.out.chg hc1 (fun _ _ => id))
  obtain ⟨y0, y1, y2, y3, y4, y5, y6, y7, y8, y9, y10, y11, y12⟩ := ms_kept HQ1.out ((Chg.refl (fun _ => False) w1).alloc (.cells #[.slice none 0 0, .bool false] 55))
  have HPUT := Lib.hid (wat_put6 w1.heap.size (w1.heap.size + 1) 0 1 [2] (some []) w1 ((w1.alloc (.cells #[.slice none 0 0, .bool false] 55)).alloc (.cells #[.int .i64 2] 3)) ((Wat.start ((Chg.refl _ _).alloc _) (Nat.le_refl _) (blk_new rfl)).alloc _) (blk_new (by simp)) (fun x hx => by simp only [List.mem_singleton] at hx; omega) (by simp))
  clear HRT hc1 HC0 HQ0 HH0
  go_wp2_with fail
  refine HPUT.out.mono ?_
  rintro e w2 ⟨rfl, hw2, _⟩
  have HW2 : Hid (Wat w1 w1.heap.size (putS 1 [2] (some [])) 8 w2) := Lib.hid hw2
  have HX := Lib.hid hw2.was
  clear hw2 HPUT y0 y1 y2 y3 y4 y5 y6 y7 y8 y9 y10 y11 y12
  obtain ⟨y0, y1, y2, y3, y4, y5, y6, y7, y8, y9, y10, y11, y12⟩ := ms_kept HQ1.out HX.out
  generalize hpp : w1.heap.size = pp at *
  have HPP := Lib.hid hpp
  clear hpp
  generalize w.heap.size = g at *
  have HB0 := Lib.hid (HQ1.out.chg HX.out id)
  go_upto_region 8 with fail
  clear y0 y1 y2 y3 y4 y5 y6 y7 y8 y9 y10 y11 y12
  refine wp_region_noPanic ?_
  refine wp_region_held_drew (S := (fun w => w.cell? ⟨g, 0, none⟩ = some (.int .i64 2) ∧ w.cell? ⟨g, 1, none⟩ = some (.int .i64 po) ∧ w.cell? ⟨g, 2, none⟩ = some (.int .u64 ma) ∧ w.cell? ⟨g, 3, none⟩ = some (.int .i64 ow) ∧ w.cell? ⟨g, 4, none⟩ = some (.int .i64 ta) ∧ w.cell? ⟨g, 5, none⟩ = some (.int .i64 ol) ∧ w.cell? ⟨g, 6, none⟩ = some (.int .i64 ge) ∧ w.cell? ⟨g, 7, none⟩ = some (.int .i64 ph) ∧ w.cell? ⟨g, 8, none⟩ = some (.int .i64 ve) ∧ w.cell? ⟨g, 9, none⟩ = some (.int .i64 si) ∧ w.cell? ⟨g, 10, none⟩ = some (.int .i64 pt) ∧ w.cell? ⟨g, 11, none⟩ = some (.int .i64 vr) ∧ w.cell? ⟨g, 12, none⟩ = some (.slice A n c))) (by kernel_rfl) (by have hKK := HB0.out; exact ms_cells hKK) (fun hHeld => ?_)
  refine wpAnyH_take (i := 0) (v := .pointer (some ⟨pp, 0, none⟩)) rfl (by kernel_rfl) (by kernel_rfl) (by kernel_rfl) (fun _ _ _ h => h) (Or.inl ⟨by rfl, ?_⟩) (by assumption) ?_
  · intro w' hSw
    try dsimp only at hSw
    obtain ⟨s0, s1, s2, s3, s4, s5, s6, s7, s8, s9, s10, s11, s12⟩ := hSw
    go_simp
    first | done | (with_reducible rfl)
  try simp only [List.getElem_toArray, List.getElem_cons_zero, Act.put, List.setIfInBounds_toArray, List.set_cons_zero, List.set_cons_succ]
  refine wpAnyH_take (i := 1) (v := .pointer (some ⟨g, 10, none⟩)) rfl (by kernel_rfl) (by kernel_rfl) (by kernel_rfl) (fun _ _ _ h => h) (Or.inl ⟨by rfl, ?_⟩) (by assumption) ?_
  · intro w' hSw
    try dsimp only at hSw
    obtain ⟨s0, s1, s2, s3, s4, s5, s6, s7, s8, s9, s10, s11, s12⟩ := hSw
    go_simp
    first | done | (with_reducible rfl)
  try simp only [List.getElem_toArray, List.getElem_cons_succ, List.getElem_cons_zero, Act.put, List.setIfInBounds_toArray, List.set_cons_zero, List.set_cons_succ]
  refine wpAnyH_take (i := 2) (v := .int .i64 pt) rfl (by kernel_rfl) (by kernel_rfl) (by kernel_rfl) (fun _ _ _ h => h) (Or.inl ⟨by rfl, ?_⟩) (by assumption) ?_
  · intro w' hSw
    try dsimp only at hSw
    obtain ⟨s0, s1, s2, s3, s4, s5, s6, s7, s8, s9, s10, s11, s12⟩ := hSw
    go_simp
    first | done | (with_reducible rfl)
  try simp only [List.getElem_toArray, List.getElem_cons_succ, List.getElem_cons_zero, Act.put, List.setIfInBounds_toArray, List.set_cons_zero, List.set_cons_succ]
  refine wpAnyH_take (i := 5) (v := .pointer (some ⟨g, 11, none⟩)) rfl (by kernel_rfl) (by kernel_rfl) (by kernel_rfl) (fun _ _ _ h => h) (Or.inl ⟨by rfl, ?_⟩) (by assumption) ?_
  · intro w' hSw
    try dsimp only at hSw
    obtain ⟨s0, s1, s2, s3, s4, s5, s6, s7, s8, s9, s10, s11, s12⟩ := hSw
    go_simp
    first | done | (with_reducible rfl)
  try simp only [List.getElem_toArray, List.getElem_cons_succ, List.getElem_cons_zero, Act.put, List.setIfInBounds_toArray, List.set_cons_zero, List.set_cons_succ]
  refine wpAnyH_take (i := 6) (v := .int .i64 vr) rfl (by kernel_rfl) (by kernel_rfl) (by kernel_rfl) (fun _ _ _ h => h) (Or.inl ⟨by rfl, ?_⟩) (by assumption) ?_
  · intro w' hSw
    try dsimp only at hSw
    obtain ⟨s0, s1, s2, s3, s4, s5, s6, s7, s8, s9, s10, s11, s12⟩ := hSw
    go_simp
    first | done | (with_reducible rfl)
  try simp only [List.getElem_toArray, List.getElem_cons_succ, List.getElem_cons_zero, Act.put, List.setIfInBounds_toArray, List.set_cons_zero, List.set_cons_succ]
  refine wpAnyH_inv (fun lb a w => ∃ (b3 b4 b7 b8 : Bool) (v27 v28 v31 v32 : Value) (q27 q31 : Nat), lb = #[true, true, true, b3, b4, true, true, b7, b8] ∧ a = { tmps := #[.agg #[.int .i64 2, .int .i64 po, .int .u64 ma, .int .i64 ow, .int .i64 ta, .int .i64 ol, .int .i64 ge, .int .i64 ph, .int .i64 ve, .int .i64 si, .int .i64 pt, .int .i64 vr, .slice A n c], .pointer (some ⟨g, 0, none⟩), .slice none 0 0, .int .i64 0, .pointer (some ⟨pp, 0, none⟩), .agg #[.int .i64 2, .int .i64 po, .int .u64 ma, .int .i64 ow, .int .i64 ta, .int .i64 ol, .int .i64 ge, .int .i64 ph, .int .i64 ve, .int .i64 si, .int .i64 pt, .int .i64 vr, .slice A n c], .bool true, .bool false, .agg #[.slice none 0 0, .bool false], .pointer (some ⟨pp, 0, none⟩), .pointer (some ⟨g, 0, none⟩), .int .i64 2, .slice (some ⟨pp + 1, 0, none⟩) 1 1, .pointer (some ⟨pp, 0, none⟩), .pointer (some ⟨g, 0, none⟩), .int .i64 2, .bool false, .bool false, undef, undef, undef, undef, .bool true, .bool true, .pointer (some ⟨pp, 0, none⟩), .pointer (some ⟨g, 10, none⟩), .int .i64 pt, v27, v28, .pointer (some ⟨g, 11, none⟩), .int .i64 vr, v31, v32, undef, undef, undef, undef, undef, undef, undef, undef, undef, undef, undef, undef, undef, undef, undef, undef, undef, undef, undef], defers := [] } ∧ (Blk w g 28 (msC 2 po ma ow ta ol ge ph ve si pt vr A n c)) ∧ Ch w1 w pp true (.pointer (some ⟨pp, 0, none⟩)) (putS 1 [2] (some [])) (8) [⟨b3, b4, v27, v28, q27, 1, [pt]⟩, ⟨b7, b8, v31, v32, q31, 6, [vr]⟩]) ?hsz ?hS (by kernel_rfl) ?hend ?hops 4 #[true, true, true, false, false, true, true, false, false] _ _ (by decide) ?hstart
  case hsz =>
    rintro lb a w ⟨b3, b4, b7, b8, v27, v28, v31, v32, q27, q31, rfl, rfl, hKK, hch⟩
    rfl
  case hS =>
    rintro lb a w ⟨b3, b4, b7, b8, v27, v28, v31, v32, q27, q31, rfl, rfl, hKK, hch⟩
    exact ms_cells hKK
  case hstart =>
    exact ⟨false, false, false, false, _, _, _, _, 0, 0, rfl, rfl, HB0.out, ⟨(fun _ => rfl), (fun h => by cases h), (fun _ => rfl), (fun _ _ => HW2.out.drew), ⟨(fun h => by cases h), (fun h => by cases h), (fun h => by cases h), (fun h => by cases h), (fun h => by cases h)⟩⟩⟩
  case hops =>
    refine ⟨?_, ?_, ?_, ?_, ?_, ?_, ?_, ?_, ?_, trivial⟩
    · intro lb a w hI hun hdep K hK
      obtain ⟨b3, b4, b7, b8, v27, v28, v31, v32, q27, q31, rfl, rfl, hKK, hch⟩ := hI
      cases (show true = false from hun)
    · intro lb a w hI hun hdep K hK
      obtain ⟨b3, b4, b7, b8, v27, v28, v31, v32, q27, q31, rfl, rfl, hKK, hch⟩ := hI
      cases (show true = false from hun)
    · intro lb a w hI hun hdep K hK
      obtain ⟨b3, b4, b7, b8, v27, v28, v31, v32, q27, q31, rfl, rfl, hKK, hch⟩ := hI
      cases (show true = false from hun)
    · intro lb a w hI hun hdep K hK
      obtain ⟨b3, b4, b7, b8, v27, v28, v31, v32, q27, q31, rfl, rfl, hKK, hch⟩ := hI
      have hb : b3 = false := hun
      subst hb
      have HCH := Lib.hid hch
      have HKK := Lib.hid hKK
      clear hch hKK hdep
      go_simp
      refine hK.out _ _ ?_
      exact ⟨true, b4, b7, b8, _, _, _, _, w.heap.size, q31, rfl, rfl, (by have hKK := HKK.out; exact hKK.alloc _), Ch.lay ((Chg.refl _ _).alloc _) w.heap.size ⟨false, b4, v27, v28, q27, 1, [pt]⟩ [⟨b7, b8, v31, v32, q31, 6, [vr]⟩] (blk_new rfl) [] _ _ _ _ HCH.out⟩
    · intro lb a w hI hun hdep K hK
      obtain ⟨b3, b4, b7, b8, v27, v28, v31, v32, q27, q31, rfl, rfl, hKK, hch⟩ := hI
      have hb : b4 = false := hun
      subst hb
      have ha : b3 = true := hdep ⟨3, .data⟩ (by simp) rfl
      subst ha
      obtain ⟨e1, e2, hblk, hwat⟩ := Ch.find ⟨true, false, v27, v28, q27, 1, [pt]⟩ [⟨b7, b8, v31, v32, q31, 6, [vr]⟩] rfl rfl [] _ _ _ _ hch rfl
      have e2 : v27 = .slice (some ⟨q27, 0, none⟩) 1 1 := e2
      subst e2
      have HPUT := Lib.hid (wat_put6 pp q27 _ 1 [pt] _ w1 w hwat hblk (fun x hx => by simp only [List.mem_cons, List.not_mem_nil, or_false] at hx; subst hx; omega) (by simp [nOf]))
      have HCH := Lib.hid hch
      have HKK := Lib.hid hKK
      clear hch hKK hdep hwat hblk e1
      go_simp
      refine HPUT.out.mono ?_
      rintro e w' ⟨rfl, hw', hk'⟩
      go_wp2_with fail
      refine hK.out _ _ ?_
      exact ⟨true, true, b7, b8, _, _, _, _, q27, q31, rfl, rfl, (by have hKK := HKK.out; exact hk' _ _ _ (by decide) (by decide) hKK), Ch.call hk'.kp ⟨true, false, (.slice (some ⟨q27, 0, none⟩) 1 1), v28, q27, 1, [pt]⟩ [⟨b7, b8, v31, v32, q31, 6, [vr]⟩] rfl [] _ _ _ _ HCH.out rfl hw'⟩
    · intro lb a w hI hun hdep K hK
      obtain ⟨b3, b4, b7, b8, v27, v28, v31, v32, q27, q31, rfl, rfl, hKK, hch⟩ := hI
      cases (show true = false from hun)
    · intro lb a w hI hun hdep K hK
      obtain ⟨b3, b4, b7, b8, v27, v28, v31, v32, q27, q31, rfl, rfl, hKK, hch⟩ := hI
      cases (show true = false from hun)
    · intro lb a w hI hun hdep K hK
      obtain ⟨b3, b4, b7, b8, v27, v28, v31, v32, q27, q31, rfl, rfl, hKK, hch⟩ := hI
      have hb : b7 = false := hun
      subst hb
      have HCH := Lib.hid hch
      have HKK := Lib.hid hKK
      clear hch hKK hdep
      go_simp
      refine hK.out _ _ ?_
      exact ⟨b3, b4, true, b8, _, _, _, _, q27, w.heap.size, rfl, rfl, (by have hKK := HKK.out; exact hKK.alloc _), Ch.lay ((Chg.refl _ _).alloc _) w.heap.size ⟨false, b8, v31, v32, q31, 6, [vr]⟩ [] (blk_new rfl) [⟨b3, b4, v27, v28, q27, 1, [pt]⟩] _ _ _ _ HCH.out⟩
    · intro lb a w hI hun hdep K hK
      obtain ⟨b3, b4, b7, b8, v27, v28, v31, v32, q27, q31, rfl, rfl, hKK, hch⟩ := hI
      have hb : b8 = false := hun
      subst hb
      have ha : b7 = true := hdep ⟨7, .data⟩ (by simp) rfl
      subst ha
      have hp : b4 = true := hdep ⟨4, .data⟩ (by simp) rfl
      subst hp
      obtain ⟨e1, e2, hblk, hwat⟩ := Ch.find ⟨true, false, v31, v32, q31, 6, [vr]⟩ [] rfl rfl [⟨b3, true, v27, v28, q27, 1, [pt]⟩] _ _ _ _ hch rfl
      have e1 : v28 = (.pointer (some ⟨pp, 0, none⟩)) := e1
      subst e1
      have e2 : v31 = .slice (some ⟨q31, 0, none⟩) 1 1 := e2
      subst e2
      have HPUT := Lib.hid (wat_put6 pp q31 _ 6 [vr] _ w1 w hwat hblk (fun x hx => by simp only [List.mem_cons, List.not_mem_nil, or_false] at hx; subst hx; omega) (by simp [nOf]))
      have HCH := Lib.hid hch
      have HKK := Lib.hid hKK
      clear hch hKK hdep hwat hblk
      go_simp
      refine HPUT.out.mono ?_
      rintro e w' ⟨rfl, hw', hk'⟩
      go_wp2_with fail
      refine hK.out _ _ ?_
      exact ⟨b3, true, true, true, _, _, _, _, q27, q31, rfl, rfl, (by have hKK := HKK.out; exact hk' _ _ _ (by decide) (by decide) hKK), Ch.call hk'.kp ⟨true, false, (.slice (some ⟨q31, 0, none⟩) 1 1), v32, q31, 6, [vr]⟩ [] rfl [⟨b3, true, v27, (.pointer (some ⟨pp, 0, none⟩)), q27, 1, [pt]⟩] _ _ _ _ HCH.out rfl hw'⟩
  case hend =>
    rintro lb a w ⟨b3, b4, b7, b8, v27, v28, v31, v32, q27, q31, rfl, rfl, hKK, hch⟩ hall
    have e9 : b8 = true := hall 8 (by decide)
    subst e9
    obtain ⟨e1, hw⟩ := Ch.last [⟨b3, b4, v27, v28, q27, 1, [pt]⟩, ⟨b7, true, v31, v32, q31, 6, [vr]⟩] _ _ _ _ hch rfl
    have e1 : v32 = (.pointer (some ⟨pp, 0, none⟩)) := e1
    subst e1
    clear hch
    refine NoPanic.normal ?_
    have hw : Wat w1 pp (putS 6 [vr] (putS 1 [pt] (putS 1 [2] (some [])))) 24 w := hw
    rw [HST.out] at hw
    have HW3 := Lib.hid hw
    clear hw hKK
    go_wp2_with fail
    refine (wat_done6 pp _ _ w1 _ (by simp; try omega) HW3.out).mono ?_
    rintro e w7 ⟨D, dc, rfl, hown7, hc7⟩
    have HO7 := Lib.hid hown7
    have HC7 := Lib.hid hc7
    clear hown7 hc7
    go_wp2_with fail
    go_ret2
    exact ⟨D, dc, rfl, own_base HO7.out HC1.out.size, HC1.out.trans HC7.out (fun _ _ e => e)⟩

set_option maxHeartbeats 40000000 in
theorem cenc_3 (po ma ow ta ol ge ph ve si pt vr : Int) (A : Option Addr) (n c : Nat) (l : List Rc) (S : Nat → Prop) (w : World) (h : RcR w S A n l) (hn2 : n ≤ 9223372036854775807) (hr : msR 3 po ma ow ta ol ge ph ve si pt vr l = true) (hnb : namedB pt vr = true) (hl : l.length ≤ 16) (ha : l.all rcR = true) (hn : ∀ x ∈ l, RcN x) :
    Calls Try.prog 13 #[.agg (msC 3 po ma ow ta ol ge ph ve si pt vr A n c)] w (Mk6 (msB 3 po ma ow ta ol ge ph ve si pt vr l) 0 w) := by
  have HST := Lib.hid (st_three po ma ow ta ol ge ph ve si pt vr hnb l hl ha hn)
  obtain ⟨hb1, hb2⟩ := named_parts hnb
  have hC0 := (Chg.refl (fun _ => False) w).alloc (.cells #[.int .i64 3, .int .i64 po, .int .u64 ma, .int .i64 ow, .int .i64 ta, .int .i64 ol, .int .i64 ge, .int .i64 ph, .int .i64 ve, .int .i64 si, .int .i64 pt, .int .i64 vr, .slice A n c] 28)
  have hQ0 : Blk (w.alloc (.cells #[.int .i64 3, .int .i64 po, .int .u64 ma, .int .i64 ow, .int .i64 ta, .int .i64 ol, .int .i64 ge, .int .i64 ph, .int .i64 ve, .int .i64 si, .int .i64 pt, .int .i64 vr, .slice A n c] 28)) w.heap.size 28 (msC 3 po ma ow ta ol ge ph ve si pt vr A n c) := blk_new rfl
  have hrt := cright_any 3 po ma ow ta ol ge ph ve si pt vr A n c l S _ (h.alloc (.cells #[.int .i64 3, .int .i64 po, .int .u64 ma, .int .i64 ow, .int .i64 ta, .int .i64 ol, .int .i64 ge, .int .i64 ph, .int .i64 ve, .int .i64 si, .int .i64 pt, .int .i64 vr, .slice A n c] 28)) hn2
  have HH0 := Lib.hid (h.alloc (.cells #[.int .i64 3, .int .i64 po, .int .u64 ma, .int .i64 ow, .int .i64 ta, .int .i64 ol, .int .i64 ge, .int .i64 ph, .int .i64 ve, .int .i64 si, .int .i64 pt, .int .i64 vr, .slice A n c] 28))
  have HL := Lib.hid h.1
  rw [hr] at hrt
  have HRT := Lib.hid hrt
  have HC0 := Lib.hid hC0
  have HQ0 := Lib.hid hQ0
  clear h hr hrt hC0 hQ0
  unfold msC at HRT ⊢
  go_enter Try.func13, Try.ntmps13
  go_wp2_with fail
  refine HRT.out.mono ?_
  rintro e w1 ⟨rfl, hc1⟩
  have HQ1 := Lib.hid (HQ0.out.chg hc1 id)
  have HC1 := Lib.hid (HC0.out.trans hc1 (fun _ _ e => e))
  have HH1 := Lib.hid (HH0.out.chg hc1 (fun _ _ => id))
  obtain ⟨y0, y1, y2, y3, y4, y5, y6, y7, y8, y9, y10, y11, y12⟩ := ms_kept HQ1.out ((Chg.refl (fun _ => False) w1).alloc (.cells #[.slice none 0 0, .bool false] 55))
  have HPUT := Lib.hid (wat_put6 w1.heap.size (w1.heap.size + 1) 0 1 [3] (some []) w1 ((w1.alloc (.cells #[.slice none 0 0, .bool false] 55)).alloc (.cells #[.int .i64 3] 3)) ((Wat.start ((Chg.refl _ _).alloc _) (Nat.le_refl _) (blk_new rfl)).alloc _) (blk_new (by simp)) (fun x hx => by simp only [List.mem_singleton] at hx; omega) (by simp))
  clear HRT hc1 HC0 HQ0 HH0
  go_wp2_with fail
  refine HPUT.out.mono ?_
  rintro e w2 ⟨rfl, hw2, _⟩
  have HW2 : Hid (Wat w1 w1.heap.size (putS 1 [3] (some [])) 8 w2) := Lib.hid hw2
  have HX := Lib.hid hw2.was
  clear hw2 HPUT y0 y1 y2 y3 y4 y5 y6 y7 y8 y9 y10 y11 y12
  obtain ⟨y0, y1, y2, y3, y4, y5, y6, y7, y8, y9, y10, y11, y12⟩ := ms_kept HQ1.out HX.out
  generalize hpp : w1.heap.size = pp at *
  have HPP := Lib.hid hpp
  clear hpp
  generalize w.heap.size = g at *
  have HB0 := Lib.hid (HQ1.out.chg HX.out id)
  go_upto_region 10 with fail
  clear y0 y1 y2 y3 y4 y5 y6 y7 y8 y9 y10 y11 y12
  have HAA := Lib.hid ha
  have HNN := Lib.hid hn
  clear ha hn
  refine wp_region_noPanic ?_
  refine wp_region_held_drew (S := (fun w => w.cell? ⟨g, 0, none⟩ = some (.int .i64 3) ∧ w.cell? ⟨g, 1, none⟩ = some (.int .i64 po) ∧ w.cell? ⟨g, 2, none⟩ = some (.int .u64 ma) ∧ w.cell? ⟨g, 3, none⟩ = some (.int .i64 ow) ∧ w.cell? ⟨g, 4, none⟩ = some (.int .i64 ta) ∧ w.cell? ⟨g, 5, none⟩ = some (.int .i64 ol) ∧ w.cell? ⟨g, 6, none⟩ = some (.int .i64 ge) ∧ w.cell? ⟨g, 7, none⟩ = some (.int .i64 ph) ∧ w.cell? ⟨g, 8, none⟩ = some (.int .i64 ve) ∧ w.cell? ⟨g, 9, none⟩ = some (.int .i64 si) ∧ w.cell? ⟨g, 10, none⟩ = some (.int .i64 pt) ∧ w.cell? ⟨g, 11, none⟩ = some (.int .i64 vr) ∧ w.cell? ⟨g, 12, none⟩ = some (.slice A n c))) (by kernel_rfl) (by have hKK := HB0.out; exact ms_cells hKK) (fun hHeld => ?_)
  refine wpAnyH_take (i := 0) (v := .pointer (some ⟨pp, 0, none⟩)) rfl (by kernel_rfl) (by kernel_rfl) (by kernel_rfl) (fun _ _ _ h => h) (Or.inl ⟨by rfl, ?_⟩) (by assumption) ?_
  · intro w' hSw
    try dsimp only at hSw
    obtain ⟨s0, s1, s2, s3, s4, s5, s6, s7, s8, s9, s10, s11, s12⟩ := hSw
    go_simp
    first | done | (with_reducible rfl)
  try simp only [List.getElem_toArray, List.getElem_cons_zero, Act.put, List.setIfInBounds_toArray, List.set_cons_zero, List.set_cons_succ]
  refine wpAnyH_take (i := 1) (v := .pointer (some ⟨g, 10, none⟩)) rfl (by kernel_rfl) (by kernel_rfl) (by kernel_rfl) (fun _ _ _ h => h) (Or.inl ⟨by rfl, ?_⟩) (by assumption) ?_
  · intro w' hSw
    try dsimp only at hSw
    obtain ⟨s0, s1, s2, s3, s4, s5, s6, s7, s8, s9, s10, s11, s12⟩ := hSw
    go_simp
    first | done | (with_reducible rfl)
  try simp only [List.getElem_toArray, List.getElem_cons_succ, List.getElem_cons_zero, Act.put, List.setIfInBounds_toArray, List.set_cons_zero, List.set_cons_succ]
  refine wpAnyH_take (i := 2) (v := .int .i64 pt) rfl (by kernel_rfl) (by kernel_rfl) (by kernel_rfl) (fun _ _ _ h => h) (Or.inl ⟨by rfl, ?_⟩) (by assumption) ?_
  · intro w' hSw
    try dsimp only at hSw
    obtain ⟨s0, s1, s2, s3, s4, s5, s6, s7, s8, s9, s10, s11, s12⟩ := hSw
    go_simp
    first | done | (with_reducible rfl)
  try simp only [List.getElem_toArray, List.getElem_cons_succ, List.getElem_cons_zero, Act.put, List.setIfInBounds_toArray, List.set_cons_zero, List.set_cons_succ]
  refine wpAnyH_take (i := 5) (v := .pointer (some ⟨g, 11, none⟩)) rfl (by kernel_rfl) (by kernel_rfl) (by kernel_rfl) (fun _ _ _ h => h) (Or.inl ⟨by rfl, ?_⟩) (by assumption) ?_
  · intro w' hSw
    try dsimp only at hSw
    obtain ⟨s0, s1, s2, s3, s4, s5, s6, s7, s8, s9, s10, s11, s12⟩ := hSw
    go_simp
    first | done | (with_reducible rfl)
  try simp only [List.getElem_toArray, List.getElem_cons_succ, List.getElem_cons_zero, Act.put, List.setIfInBounds_toArray, List.set_cons_zero, List.set_cons_succ]
  refine wpAnyH_take (i := 6) (v := .int .i64 vr) rfl (by kernel_rfl) (by kernel_rfl) (by kernel_rfl) (fun _ _ _ h => h) (Or.inl ⟨by rfl, ?_⟩) (by assumption) ?_
  · intro w' hSw
    try dsimp only at hSw
    obtain ⟨s0, s1, s2, s3, s4, s5, s6, s7, s8, s9, s10, s11, s12⟩ := hSw
    go_simp
    first | done | (with_reducible rfl)
  try simp only [List.getElem_toArray, List.getElem_cons_succ, List.getElem_cons_zero, Act.put, List.setIfInBounds_toArray, List.set_cons_zero, List.set_cons_succ]
  refine wpAnyH_inv (fun lb a w => ∃ (b3 b4 b7 b8 : Bool) (v38 v39 v42 v43 : Value) (q38 q42 : Nat), lb = #[true, true, true, b3, b4, true, true, b7, b8] ∧ a = { tmps := #[.agg #[.int .i64 3, .int .i64 po, .int .u64 ma, .int .i64 ow, .int .i64 ta, .int .i64 ol, .int .i64 ge, .int .i64 ph, .int .i64 ve, .int .i64 si, .int .i64 pt, .int .i64 vr, .slice A n c], .pointer (some ⟨g, 0, none⟩), .slice none 0 0, .int .i64 0, .pointer (some ⟨pp, 0, none⟩), .agg #[.int .i64 3, .int .i64 po, .int .u64 ma, .int .i64 ow, .int .i64 ta, .int .i64 ol, .int .i64 ge, .int .i64 ph, .int .i64 ve, .int .i64 si, .int .i64 pt, .int .i64 vr, .slice A n c], .bool true, .bool false, .agg #[.slice none 0 0, .bool false], .pointer (some ⟨pp, 0, none⟩), .pointer (some ⟨g, 0, none⟩), .int .i64 3, .slice (some ⟨pp + 1, 0, none⟩) 1 1, .pointer (some ⟨pp, 0, none⟩), .pointer (some ⟨g, 0, none⟩), .int .i64 3, .bool false, .bool false, undef, undef, undef, undef, .bool false, .bool false, undef, undef, undef, undef, undef, undef, undef, undef, undef, .bool true, .bool true, .pointer (some ⟨pp, 0, none⟩), .pointer (some ⟨g, 10, none⟩), .int .i64 pt, v38, v39, .pointer (some ⟨g, 11, none⟩), .int .i64 vr, v42, v43, undef, undef, undef, undef, undef, undef, undef, undef], defers := [] } ∧ (Blk w g 28 (msC 3 po ma ow ta ol ge ph ve si pt vr A n c)) ∧ Ch w1 w pp true (.pointer (some ⟨pp, 0, none⟩)) (putS 1 [3] (some [])) (8) [⟨b3, b4, v38, v39, q38, 1, [pt]⟩, ⟨b7, b8, v42, v43, q42, 6, [vr]⟩]) ?hsz ?hS (by kernel_rfl) ?hend ?hops 4 #[true, true, true, false, false, true, true, false, false] _ _ (by decide) ?hstart
  case hsz =>
    rintro lb a w ⟨b3, b4, b7, b8, v38, v39, v42, v43, q38, q42, rfl, rfl, hKK, hch⟩
    rfl
  case hS =>
    rintro lb a w ⟨b3, b4, b7, b8, v38, v39, v42, v43, q38, q42, rfl, rfl, hKK, hch⟩
    exact ms_cells hKK
  case hstart =>
    exact ⟨false, false, false, false, _, _, _, _, 0, 0, rfl, rfl, HB0.out, ⟨(fun _ => rfl), (fun h => by cases h), (fun _ => rfl), (fun _ _ => HW2.out.drew), ⟨(fun h => by cases h), (fun h => by cases h), (fun h => by cases h), (fun h => by cases h), (fun h => by cases h)⟩⟩⟩
  case hops =>
    refine ⟨?_, ?_, ?_, ?_, ?_, ?_, ?_, ?_, ?_, trivial⟩
    · intro lb a w hI hun hdep K hK
      obtain ⟨b3, b4, b7, b8, v38, v39, v42, v43, q38, q42, rfl, rfl, hKK, hch⟩ := hI
      cases (show true = false from hun)
    · intro lb a w hI hun hdep K hK
      obtain ⟨b3, b4, b7, b8, v38, v39, v42, v43, q38, q42, rfl, rfl, hKK, hch⟩ := hI
      cases (show true = false from hun)
    · intro lb a w hI hun hdep K hK
      obtain ⟨b3, b4, b7, b8, v38, v39, v42, v43, q38, q42, rfl, rfl, hKK, hch⟩ := hI
      cases (show true = false from hun)
    · intro lb a w hI hun hdep K hK
      obtain ⟨b3, b4, b7, b8, v38, v39, v42, v43, q38, q42, rfl, rfl, hKK, hch⟩ := hI
      have hb : b3 = false := hun
      subst hb
      have HCH := Lib.hid hch
      have HKK := Lib.hid hKK
      clear hch hKK hdep
      go_simp
      refine hK.out _ _ ?_
      exact ⟨true, b4, b7, b8, _, _, _, _, w.heap.size, q42, rfl, rfl, (by have hKK := HKK.out; exact hKK.alloc _), Ch.lay ((Chg.refl _ _).alloc _) w.heap.size ⟨false, b4, v38, v39, q38, 1, [pt]⟩ [⟨b7, b8, v42, v43, q42, 6, [vr]⟩] (blk_new rfl) [] _ _ _ _ HCH.out⟩
    · intro lb a w hI hun hdep K hK
      obtain ⟨b3, b4, b7, b8, v38, v39, v42, v43, q38, q42, rfl, rfl, hKK, hch⟩ := hI
      have hb : b4 = false := hun
      subst hb
      have ha : b3 = true := hdep ⟨3, .data⟩ (by simp) rfl
      subst ha
      obtain ⟨e1, e2, hblk, hwat⟩ := Ch.find ⟨true, false, v38, v39, q38, 1, [pt]⟩ [⟨b7, b8, v42, v43, q42, 6, [vr]⟩] rfl rfl [] _ _ _ _ hch rfl
      have e2 : v38 = .slice (some ⟨q38, 0, none⟩) 1 1 := e2
      subst e2
      have HPUT := Lib.hid (wat_put6 pp q38 _ 1 [pt] _ w1 w hwat hblk (fun x hx => by simp only [List.mem_cons, List.not_mem_nil, or_false] at hx; subst hx; omega) (by simp [nOf]))
      have HCH := Lib.hid hch
      have HKK := Lib.hid hKK
      clear hch hKK hdep hwat hblk e1
      go_simp
      refine HPUT.out.mono ?_
      rintro e w' ⟨rfl, hw', hk'⟩
      go_wp2_with fail
      refine hK.out _ _ ?_
      exact ⟨true, true, b7, b8, _, _, _, _, q38, q42, rfl, rfl, (by have hKK := HKK.out; exact hk' _ _ _ (by decide) (by decide) hKK), Ch.call hk'.kp ⟨true, false, (.slice (some ⟨q38, 0, none⟩) 1 1), v39, q38, 1, [pt]⟩ [⟨b7, b8, v42, v43, q42, 6, [vr]⟩] rfl [] _ _ _ _ HCH.out rfl hw'⟩
    · intro lb a w hI hun hdep K hK
      obtain ⟨b3, b4, b7, b8, v38, v39, v42, v43, q38, q42, rfl, rfl, hKK, hch⟩ := hI
      cases (show true = false from hun)
    · intro lb a w hI hun hdep K hK
      obtain ⟨b3, b4, b7, b8, v38, v39, v42, v43, q38, q42, rfl, rfl, hKK, hch⟩ := hI
      cases (show true = false from hun)
    · intro lb a w hI hun hdep K hK
      obtain ⟨b3, b4, b7, b8, v38, v39, v42, v43, q38, q42, rfl, rfl, hKK, hch⟩ := hI
      have hb : b7 = false := hun
      subst hb
      have HCH := Lib.hid hch
      have HKK := Lib.hid hKK
      clear hch hKK hdep
      go_simp
      refine hK.out _ _ ?_
      exact ⟨b3, b4, true, b8, _, _, _, _, q38, w.heap.size, rfl, rfl, (by have hKK := HKK.out; exact hKK.alloc _), Ch.lay ((Chg.refl _ _).alloc _) w.heap.size ⟨false, b8, v42, v43, q42, 6, [vr]⟩ [] (blk_new rfl) [⟨b3, b4, v38, v39, q38, 1, [pt]⟩] _ _ _ _ HCH.out⟩
    · intro lb a w hI hun hdep K hK
      obtain ⟨b3, b4, b7, b8, v38, v39, v42, v43, q38, q42, rfl, rfl, hKK, hch⟩ := hI
      have hb : b8 = false := hun
      subst hb
      have ha : b7 = true := hdep ⟨7, .data⟩ (by simp) rfl
      subst ha
      have hp : b4 = true := hdep ⟨4, .data⟩ (by simp) rfl
      subst hp
      obtain ⟨e1, e2, hblk, hwat⟩ := Ch.find ⟨true, false, v42, v43, q42, 6, [vr]⟩ [] rfl rfl [⟨b3, true, v38, v39, q38, 1, [pt]⟩] _ _ _ _ hch rfl
      have e1 : v39 = (.pointer (some ⟨pp, 0, none⟩)) := e1
      subst e1
      have e2 : v42 = .slice (some ⟨q42, 0, none⟩) 1 1 := e2
      subst e2
      have HPUT := Lib.hid (wat_put6 pp q42 _ 6 [vr] _ w1 w hwat hblk (fun x hx => by simp only [List.mem_cons, List.not_mem_nil, or_false] at hx; subst hx; omega) (by simp [nOf]))
      have HCH := Lib.hid hch
      have HKK := Lib.hid hKK
      clear hch hKK hdep hwat hblk
      go_simp
      refine HPUT.out.mono ?_
      rintro e w' ⟨rfl, hw', hk'⟩
      go_wp2_with fail
      refine hK.out _ _ ?_
      exact ⟨b3, true, true, true, _, _, _, _, q38, q42, rfl, rfl, (by have hKK := HKK.out; exact hk' _ _ _ (by decide) (by decide) hKK), Ch.call hk'.kp ⟨true, false, (.slice (some ⟨q42, 0, none⟩) 1 1), v43, q42, 6, [vr]⟩ [] rfl [⟨b3, true, v38, (.pointer (some ⟨pp, 0, none⟩)), q38, 1, [pt]⟩] _ _ _ _ HCH.out rfl hw'⟩
  case hend =>
    rintro lb a w ⟨b3, b4, b7, b8, v38, v39, v42, v43, q38, q42, rfl, rfl, hKK, hch⟩ hall
    have e9 : b8 = true := hall 8 (by decide)
    subst e9
    obtain ⟨e1, hw⟩ := Ch.last [⟨b3, b4, v38, v39, q38, 1, [pt]⟩, ⟨b7, true, v42, v43, q42, 6, [vr]⟩] _ _ _ _ hch rfl
    have e1 : v43 = (.pointer (some ⟨pp, 0, none⟩)) := e1
    subst e1
    clear hch
    refine NoPanic.normal ?_
    have hw : Wat w1 pp (putS 6 [vr] (putS 1 [pt] (putS 1 [3] (some [])))) 24 w := hw
    obtain ⟨y0, y1, y2, y3, y4, y5, y6, y7, y8, y9, y10, y11, y12⟩ := ms_cells hKK
    have HPS := Lib.hid (putrecs_ok pp 24 A n c l S _ w1 w HH1.out HAA.out HNN.out (by have := HL.out; omega) (by decide) hw)
    clear hw hKK
    go_wp2_with fail
    refine HPS.out.mono ?_
    rintro e w3 ⟨rfl, hw3, _⟩
    rw [HL.out, HST.out] at hw3
    have HW3 := Lib.hid hw3
    clear hw3 HPS y0 y1 y2 y3 y4 y5 y6 y7 y8 y9 y10 y11 y12
    go_wp2_with fail
    refine (wat_done6 pp _ _ w1 _ (by simp; try omega) HW3.out).mono ?_
    rintro e w7 ⟨D, dc, rfl, hown7, hc7⟩
    have HO7 := Lib.hid hown7
    have HC7 := Lib.hid hc7
    clear hown7 hc7
    go_wp2_with fail
    go_ret2
    exact ⟨D, dc, rfl, own_base HO7.out HC1.out.size, HC1.out.trans HC7.out (fun _ _ e => e)⟩

theorem cenc_any (kd po ma ow ta ol ge ph ve si pt vr : Int) (A : Option Addr) (n c : Nat) (l : List Rc) (S : Nat → Prop) (w : World) (h : RcR w S A n l) (hn2 : n ≤ 9223372036854775807) (hN : MsN kd po ma ow ta ol ge ph ve si pt vr l) :
    Calls Try.prog 13 #[.agg (msC kd po ma ow ta ol ge ph ve si pt vr A n c)] w (Mk6 (if msR kd po ma ow ta ol ge ph ve si pt vr l then msB kd po ma ow ta ol ge ph ve si pt vr l else []) (if msR kd po ma ow ta ol ge ph ve si pt vr l then 0 else 1) w) := by
  cases hr : msR kd po ma ow ta ol ge ph ve si pt vr l with
  | false => exact cenc_bad kd po ma ow ta ol ge ph ve si pt vr A n c l S w h hn2 hr
  | true =>
    rcases msR_parts hr with ⟨rfl, hrw, _⟩ | ⟨rfl, _, hnb, _⟩ | ⟨rfl, _, hnb, hl, ha⟩
    · exact cenc_1 po ma ow ta ol ge ph ve si pt vr A n c l S w h hn2 hr hrw hN.1.1
    · exact cenc_2 po ma ow ta ol ge ph ve si pt vr A n c l S w h hn2 hr hnb
    · exact cenc_3 po ma ow ta ol ge ph ve si pt vr A n c l S w h hn2 hr hnb hl ha hN.2

end Go.Proofs.Ytalfbijcjghemaa
