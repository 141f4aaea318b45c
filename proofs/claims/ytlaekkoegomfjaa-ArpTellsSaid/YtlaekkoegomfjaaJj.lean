/-
  Walk: rutterlaw03.ArpBytes. Conditions: the bytes are read in memory, no more of them than there is room.
-/
import Derived.Test.YtlaekkoegomfjaaJi
import Derived.Laws.StructEq
import Derived.Deep.RegionHeld3
namespace Go.Proofs.Ytlaekkoegomfjaa
open Go.RowKit
set_option linter.unusedVariables false

theorem stA : Try.prog.underlying 25 = some (.struct (Try.prog.fieldsOf 25)) := by kernel_rfl
theorem hpA : Try.prog.stoodInHeld 25 = false := by kernel_rfl
theorem eqA (W : World) (o s t p q : Int) : (binOp .eql 25 (.agg #[.int .i64 o, .int .u64 s, .int .u64 t, .int .u32 p, .int .u32 q]) (.agg #[.int .i64 o, .int .u64 s, .int .u64 t, .int .u32 p, .int .u32 q])).run Try.prog W = .ok (.bool true) W := by
  rw [run_eql_struct, show (10000 : Nat) = 9999 + 1 from rfl, run_equalIn_agg W 9999 25 _ _ stA hpA]
  go_simp
theorem stR : Try.prog.underlying 40 = some (.struct (Try.prog.fieldsOf 40)) := by kernel_rfl
theorem hpR : Try.prog.stoodInHeld 40 = false := by kernel_rfl
theorem neR (W : World) (o s t p q : Int) : (binOp .neq 40 (.agg #[.int .i64 o, .int .u64 s, .int .u64 t, .int .u32 p, .int .u32 q]) (.agg #[.int .i64 o, .int .u64 s, .int .u64 t, .int .u32 p, .int .u32 q])).run Try.prog W = .ok (.bool false) W := by
  rw [run_neq_struct, show (10000 : Nat) = 9999 + 1 from rfl, run_equalIn_agg W 9999 40 _ _ stR hpR]
  go_simp

theorem decR_form (b : List UInt8) : ∃ o s t p q x, decR b = .tuple #[.agg #[.int .i64 o, .int .u64 s, .int .u64 t, .int .u32 p, .int .u32 q], .int .i64 x] ∧ ((x = 2 ∧ okA b = false) ∨ (x = 0 ∧ okA b = true ∧ o = aO b ∧ s = aS b ∧ t = aT b ∧ p = aP b ∧ q = aQ b)) := by
  by_cases h : okA b = true
  · exact ⟨_, _, _, _, _, _, decR_yes h, .inr ⟨rfl, h, rfl, rfl, rfl, rfl, rfl⟩⟩
  · have h : okA b = false := by simpa using h
    exact ⟨_, _, _, _, _, _, decR_no h, .inl ⟨rfl, h⟩⟩

set_option maxHeartbeats 400000 in
theorem abytes_big (A : Option Addr) (n c : Nat) (w : World) (hn : 3000 < n) (hn2 : n ≤ 9223372036854775807) :
    Calls Try.prog 4 #[.slice A n c] w fun e w' => e = .returned (.bool true) ∧ Chg (fun _ => False) w w' := by
  go_enter Try.func4, Try.ntmps4
  go_wp2_with fail
  refine (alive3_any w).mono ?_
  rintro e w1 ⟨rfl, hc1⟩
  go_wp2_with fail
  go_ret
  exact ⟨rfl, hc1⟩

set_option maxHeartbeats 4000000 in
theorem abytes_any (A : Option Addr) (n c : Nat) (b : List UInt8) (w : World) (hn : n = b.length) (h : Rds w (fun _ => True) A n (bcs b)) (hc : n ≤ c) (hcm : c ≤ maxLen) (h3 : n ≤ 3000) :
    Calls Try.prog 4 #[.slice A n c] w fun e w' => e = .returned (.bool true) ∧ Chg (fun _ => False) w w' := by
  obtain ⟨o, s, t, p, q, x, hdec, hform⟩ := decR_form b
  have HDE := Lib.hid (adec_any A n c b _ w hn h hc hcm)
  have HPA := Lib.hid (fun (W : World) (hw : Chg (fun _ => False) w W) => rparse_any A n c b _ W hn (h.chg hw (fun _ _ => id)) hc hcm)
  rw [hdec] at HDE HPA
  have HFORM := Lib.hid hform
  have HH := Lib.hid h
  have HN := Lib.hid hn
  have hne := neR
  have hcm' : (c : Int) ≤ 9223372036854775807 := by unfold maxLen at hcm; omega
  clear hform hdec h hcm hn
  go_enter Try.func4, Try.ntmps4
  go_wp2_with fail
  refine HDE.out.mono ?_
  rintro e w1 ⟨rfl, hc1⟩
  have hq1 : Blk (w1.alloc (.cells #[.int .i64 o, .int .u64 s, .int .u64 t, .int .u32 p, .int .u32 q] 25)) w1.heap.size 25 (arpC o s t p q) := blk_new rfl
  have hC1 := hc1.alloc (.cells #[.int .i64 o, .int .u64 s, .int .u64 t, .int .u32 p, .int .u32 q] 25)
  have HP1 := Lib.hid (HPA.out _ hC1)
  have HQ1 := Lib.hid hq1
  have HC1 := Lib.hid hC1
  clear HDE HPA hc1 hq1 hC1
  go_wp2_with fail
  refine HP1.out.mono ?_
  rintro e w2 ⟨rfl, hc2⟩
  have hC2 := (HC1.out.trans hc2 (fun _ _ e => e)).alloc (.cells #[.int .i64 o, .int .u64 s, .int .u64 t, .int .u32 p, .int .u32 q] 40)
  have hq1 := (HQ1.out.chg hc2 id).alloc (.cells #[.int .i64 o, .int .u64 s, .int .u64 t, .int .u32 p, .int .u32 q] 40)
  have hq2 : Blk (w2.alloc (.cells #[.int .i64 o, .int .u64 s, .int .u64 t, .int .u32 p, .int .u32 q] 40)) w2.heap.size 40 (arpC o s t p q) := blk_new rfl
  clear hc2 HP1 HQ1 HC1
  go_wp2_with fail
  generalize (w2.alloc (.cells #[.int .i64 o, .int .u64 s, .int .u64 t, .int .u32 p, .int .u32 q] 40)) = w3 at *
  obtain ⟨x0, x1, x2, x3, x4⟩ := arp_cells hq1
  obtain ⟨y0, y1, y2, y3, y4⟩ := arp_cells hq2
  go_region_held3 (fun w' => (w'.cell? ⟨w1.heap.size, 0, none⟩ = some (.int .i64 o) ∧ w'.cell? ⟨w1.heap.size, 1, none⟩ = some (.int .u64 s) ∧ w'.cell? ⟨w1.heap.size, 2, none⟩ = some (.int .u64 t) ∧ w'.cell? ⟨w1.heap.size, 3, none⟩ = some (.int .u32 p) ∧ w'.cell? ⟨w1.heap.size, 4, none⟩ = some (.int .u32 q)) ∧
      w'.cell? ⟨w2.heap.size, 0, none⟩ = some (.int .i64 o) ∧ w'.cell? ⟨w2.heap.size, 1, none⟩ = some (.int .u64 s) ∧ w'.cell? ⟨w2.heap.size, 2, none⟩ = some (.int .u64 t) ∧ w'.cell? ⟨w2.heap.size, 3, none⟩ = some (.int .u32 p) ∧ w'.cell? ⟨w2.heap.size, 4, none⟩ = some (.int .u32 q))
    (first | exact ⟨⟨x0, x1, x2, x3, x4⟩, y0, y1, y2, y3, y4⟩ | exact ⟨ann_kept hq1 (Chg.refl _ _).drew, ann_kept hq2 (Chg.refl _ _).drew⟩ | exact ⟨ann_kept hq1 hc4, ann_kept hq2 hc4⟩ | exact ⟨ann_kept hq1 ((Chg.refl _ _).drew.trans hc4 (fun _ _ e => e)), ann_kept hq2 ((Chg.refl _ _).drew.trans hc4 (fun _ _ e => e))⟩ | fail)
    (first | (go_at_call 14; refine (of_any o s t p q _).mono ?_; unfold arpC; rintro e w4 ⟨rfl, hc4⟩) | fail)
  have hcx : Chg (fun _ => False) w3 w4 := by first | exact hc4 | exact (Chg.refl _ _).drew.trans hc4 (fun _ _ e => e)
  have hC4 := hC2.trans hcx (fun _ _ e => e)
  have hq4 := ann_kept hq1 hcx
  clear hq1 hq2 hcx hc4 hC2 x0 x1 x2 x3 x4 y0 y1 y2 y3 y4
  rcases HFORM.out with ⟨rfl, _⟩ | ⟨rfl, hok, ho, hs, ht, hp, hq⟩
  · clear hq4
    go_wp2_with fail
    refine (alive3_any _).mono ?_
    rintro e w5 ⟨rfl, hc5⟩
    go_wp2_with fail
    go_ret
    exact ⟨rfl, hC4.trans hc5 (fun _ _ e => e)⟩
  · have hor : 0 ≤ o ∧ o ≤ 65535 := by rw [ho]; exact aO_lt b
    have hsr : 0 ≤ s ∧ s ≤ 281474976710655 := by rw [hs]; exact aS_lt b
    have htr : 0 ≤ t ∧ t ≤ 281474976710655 := by rw [ht]; exact aT_lt b
    have hpr : 0 ≤ p ∧ p ≤ 4294967295 := by rw [hp]; exact aP_lt b
    have hqr : 0 ≤ q ∧ q ≤ 4294967295 := by rw [hq]; exact aQ_lt b
    have har : arpR o s t = true := by rw [ho, hs, ht]; exact arp_right b
    have hby : arpB o s t p q = b.take 28 := by rw [ho, hs, ht, hp, hq]; exact arp_of b hok
    have hn28 : 28 ≤ n := by
      have := HN.out
      unfold okA at hok
      simp only [Bool.and_eq_true, decide_eq_true_eq] at hok
      omega
    have HEN := Lib.hid (aenc_yes o s t p q w4 (by omega) (by omega) (by omega) hpr hqr har)
    rw [hby] at HEN
    obtain ⟨x0, x1, x2, x3, x4⟩ := hq4
    have HC4 := Lib.hid hC4
    clear hor hsr htr hpr hqr har hby ho hs ht hp hq hok hC4
    go_wp2_with fail
    refine HEN.out.mono ?_
    rintro e w5 ⟨E, k, ec, rfl, rfl, hown, hc5⟩
    have HC5 := Lib.hid (HC4.out.trans hc5 (fun _ _ e => e))
    have HT := Lib.hid (HH.out.take 28 hn28)
    have HR5 := Lib.hid (own_rds2 hown)
    have s1 := conv_any (c := ec) (own_rds2 hown)
    have h28 := HT.out.chg HC5.out (fun _ _ => id)
    rw [← bcs_take] at h28
    have s2 := conv_any (c := c) h28
    have HT5 := Lib.hid h28
    have hb1 : (28 : Int) ≤ (n : Int) := by omega
    have hb2 : (28 : Int) ≤ (c : Int) := by omega
    clear HEN hown hc5 HC4 x0 x1 x2 x3 x4 h28
    go_wp2_with fail
    go_region_held3 (fun w' => (convert 26 9 (.slice E 28 ec)).run Try.prog w' = .ok (.string ⟨(b.take 28).toArray⟩) w' ∧ (convert 26 9 (.slice A 28 c)).run Try.prog w' = .ok (.string ⟨(b.take 28).toArray⟩) w')
      (first | exact ⟨s1, s2⟩ | exact ⟨conv_any HR5.out.drew, conv_any HT5.out.drew⟩ | exact ⟨conv_any (HR5.out.drew.chg hc6 (fun _ _ => id)), conv_any (HT5.out.drew.chg hc6 (fun _ _ => id))⟩ | fail)
      (first | (go_at_call 6; refine (alive3_any _).mono ?_; rintro e w6 ⟨rfl, hc6⟩) | fail)
    all_goals
      go_wp2_with fail
      go_ret
      exact ⟨by simp, HC5.out.trans (by first | exact hc6 | exact (Chg.refl _ _).drew.trans hc6 (fun _ _ e => e)) (fun _ _ e => e)⟩

end Go.Proofs.Ytlaekkoegomfjaa
