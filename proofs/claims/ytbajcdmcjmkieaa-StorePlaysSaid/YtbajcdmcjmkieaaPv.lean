/-
  Walk: rutterlaw10.same. Conditions: both stores lie in memory, and hold the same; the span is an int.
-/
import Derived.Test.YtbajcdmcjmkieaaPq
import Derived.Test.YtbajcdmcjmkieaaPr
import Derived.Test.YtbajcdmcjmkieaaPh
import Derived.Deep.RegionHeld3
import Derived.RegionTactic
namespace Go.Proofs.Ytbajcdmcjmkieaa
open Go.RowKit
set_option linter.unusedVariables false
set_option linter.unusedSimpArgs false

theorem stCh10 : Try.prog.underlying 68 = some (.struct (Try.prog.fieldsOf 68)) := by kernel_rfl
theorem hpCh10 : Try.prog.stoodInHeld 68 = false := by kernel_rfl
set_option maxRecDepth 20000 in
set_option maxHeartbeats 1000000 in
theorem neCh10 (W : World) (po ma ow ta ol ge ph ve si was : Int) : (binOp .neq 68 (.agg #[.int .i64 po, .int .u64 ma, .int .i64 ow, .int .i64 ta, .int .i64 ol, .int .i64 ge, .int .i64 ph, .int .i64 ve, .int .i64 si, .int .i64 was]) (.agg #[.int .i64 po, .int .u64 ma, .int .i64 ow, .int .i64 ta, .int .i64 ol, .int .i64 ge, .int .i64 ph, .int .i64 ve, .int .i64 si, .int .i64 was])).run Try.prog W = .ok (.bool false) W := by
  rw [run_neq_struct, show (10000 : Nat) = 9999 + 1 from rfl, run_equalIn_agg W 9999 68 _ _ stCh10 hpCh10]
  go_simp
  try rw [show (9999 : Nat) = 9998 + 1 from rfl, run_equalIn_agg W 9998 33 _ _ stRow hpRow]
  try go_simp
theorem neRow_self (W : World) (po ma ow ta ol ge ph ve si : Int) : (binOp .neq 33 (.agg #[.int .i64 po, .int .u64 ma, .int .i64 ow, .int .i64 ta, .int .i64 ol, .int .i64 ge, .int .i64 ph, .int .i64 ve, .int .i64 si]) (.agg #[.int .i64 po, .int .u64 ma, .int .i64 ow, .int .i64 ta, .int .i64 ol, .int .i64 ge, .int .i64 ph, .int .i64 ve, .int .i64 si])).run Try.prog W = .ok (.bool false) W := by
  rw [neRow10, rvE_iff.2 rfl]
  rfl
set_option maxRecDepth 20000 in
set_option maxHeartbeats 4000000 in
theorem same_law10 {B : Nat} {w : World} {p q bc br : Nat} {C : Int → Bool} {R : Int → Option RV} (hs : CS B w p bc br C R) (hd : DS w q C R) (hw : WF C R) (k0 k1 mac : Int) (hk : -9223372036854775808 ≤ k0 ∧ k0 ≤ 9223372036854775807) : Calls Try.prog 9 #[.pointer (some ⟨p, 0, none⟩), .pointer (some ⟨q, 0, none⟩), .agg #[.int .i64 k0, .int .i64 k1], .int .u64 mac] w fun e w' => e = .returned (.bool true) ∧ Chg (fun _ => False) w w' := by
  have HQ : Blk (w.alloc (.cells #[.int .i64 k0, .int .i64 k1] 23)) w.heap.size 23 #[.int .i64 k0, .int .i64 k1] := blk_new rfl
  replace HQ := Lib.hid HQ
  have HX0 := Lib.hid ((Chg.refl (fun _ => False) w).alloc (.cells #[.int .i64 k0, .int .i64 k1] 23))
  have HS := Lib.hid (hs.keep HX0.out)
  have HD := Lib.hid (DS.keep hd HX0.out)
  have HW := Lib.hid hw
  clear hs hd hw
  have HCEL : Hid (∀ W, Blk W w.heap.size 23 #[.int .i64 k0, .int .i64 k1] → (W.cell? ⟨w.heap.size, 0, none⟩ = some (.int .i64 k0) ∧ W.cell? ⟨w.heap.size, 1, none⟩ = some (.int .i64 k1))) := Lib.hid (fun W hW => by
    have x0 := hW.cell 0
    have x1 := hW.cell 1
    simp only [List.getElem?_toArray, List.getElem?_cons_zero, List.getElem?_cons_succ] at x0 x1
    exact ⟨x0, x1⟩)
  have HRW : Hid (∃ a0 a1 a2 a3 a4 a5 a6 a7 a8 : Int, ∃ b : Bool, rowB (R k0) = (⟨a0, a1, a2, a3, a4, a5, a6, a7, a8⟩, b)) := Lib.hid (by
    obtain ⟨a0, a1, a2, a3, a4, a5, a6, a7, a8, h⟩ := rv_letters ((R k0).getD z9)
    exact ⟨a0, a1, a2, a3, a4, a5, a6, a7, a8, (R k0).isSome, by unfold rowB; rw [h]⟩)
  have HFW : Hid (∃ f0 f1 f2 f3 f4 f5 f6 f7 f8 : Int, ∃ b : Bool, rowB (findP R mac) = (⟨f0, f1, f2, f3, f4, f5, f6, f7, f8⟩, b)) := Lib.hid (by
    obtain ⟨f0, f1, f2, f3, f4, f5, f6, f7, f8, h⟩ := rv_letters ((findP R mac).getD z9)
    exact ⟨f0, f1, f2, f3, f4, f5, f6, f7, f8, (findP R mac).isSome, by unfold rowB; rw [h]⟩)
  obtain ⟨a0, a1, a2, a3, a4, a5, a6, a7, a8, ba, hra⟩ := HRW.out
  obtain ⟨f0, f1, f2, f3, f4, f5, f6, f7, f8, bf, hrf⟩ := HFW.out
  have HRA := Lib.hid hra
  have HRF := Lib.hid hrf
  clear hra hrf HRW HFW
  go_enter Try.func9, Try.ntmps9
  go_upto_region 1 with fail
  generalize (w.alloc (.cells #[.int .i64 k0, .int .i64 k1] 23)) = w1 at *
  go_wp2_with fail
  refine (srows_any HS.out).mono ?_
  rintro e w2 ⟨A1, n1, c1, rfl, hn1, hown1, hc⟩
  replace HX0 := Lib.hid (HX0.out.trans hc (fun _ _ e => e))
  replace HS := Lib.hid (HS.out.keep hc)
  replace HD := Lib.hid (HD.out.keep hc)
  replace HQ := Lib.hid (HQ.out.chg hc id)
  have HO1 := Lib.hid (own_sr rv_size hown1 hn1)
  have HN1 := Lib.hid (show n1 ≤ 9000000000000000000 by have := rows_len R; omega)
  clear hc hown1 hn1
  go_wp2_with fail
  refine (dsrows_any HD.out HW.out).mono ?_
  rintro e w3 ⟨A2, n2, c2, rfl, hn2, hown2, hc⟩
  replace HX0 := Lib.hid (HX0.out.trans hc (fun _ _ e => e))
  replace HS := Lib.hid (HS.out.keep hc)
  replace HD := Lib.hid (HD.out.keep hc)
  replace HQ := Lib.hid (HQ.out.chg hc id)
  have HSA := Lib.hid (same10_any A1 A2 n1 n2 c1 c2 (rowsP R) (rowsP R) _ _ w3 (HO1.out.chg hc (fun _ _ => id)) (own_sr rv_size hown2 hn2) HN1.out)
  clear hc hown2 hn2 HO1 HN1
  go_wp2_with fail
  refine HSA.out.mono ?_
  rintro e w4 ⟨b4, rfl, hb4, hc⟩
  obtain rfl : true = b4 := (hb4 rfl).symm
  replace HX0 := Lib.hid (HX0.out.trans hc (fun _ _ e => e))
  replace HS := Lib.hid (HS.out.keep hc)
  replace HD := Lib.hid (HD.out.keep hc)
  replace HQ := Lib.hid (HQ.out.chg hc id)
  clear hc hb4 HSA
  go_wp2_with fail
  refine (schas_any HS.out).mono ?_
  rintro e w5 ⟨A1, n1, c1, rfl, hn1, hr1, hc⟩
  replace HX0 := Lib.hid (HX0.out.trans hc (fun _ _ e => e))
  replace HS := Lib.hid (HS.out.keep hc)
  replace HD := Lib.hid (HD.out.keep hc)
  replace HQ := Lib.hid (HQ.out.chg hc id)
  have HO1 := Lib.hid hr1
  have HN1 := Lib.hid (show n1 ≤ 9000000000000000000 by have := chas_len C; omega)
  clear hc hr1 hn1
  go_wp2_with fail
  refine (dschas_any HD.out HW.out).mono ?_
  rintro e w6 ⟨A2, n2, c2, rfl, hn2, hr2, hc⟩
  replace HX0 := Lib.hid (HX0.out.trans hc (fun _ _ e => e))
  replace HS := Lib.hid (HS.out.keep hc)
  replace HD := Lib.hid (HD.out.keep hc)
  replace HQ := Lib.hid (HQ.out.chg hc id)
  have HSA := Lib.hid (ints10_any A1 A2 n1 n2 c1 c2 (chasP C) (chasP C) _ _ w6 (HO1.out.chg hc (fun _ _ => id)) hr2 HN1.out)
  clear hc hr2 hn2 HO1 HN1
  go_wp2_with fail
  refine HSA.out.mono ?_
  rintro e w7 ⟨b7, rfl, hb7, hc⟩
  obtain rfl : true = b7 := (hb7 rfl).symm
  replace HX0 := Lib.hid (HX0.out.trans hc (fun _ _ e => e))
  replace HS := Lib.hid (HS.out.keep hc)
  replace HD := Lib.hid (HD.out.keep hc)
  replace HQ := Lib.hid (HQ.out.chg hc id)
  clear hc hb7 HSA
  obtain ⟨l0, l1⟩ := HCEL.out _ HQ.out
  have h8 : Calls Try.prog 10 #[.pointer (some ⟨p, 0, none⟩), .int .i64 k0] w7 (HB9 a0 a1 a2 a3 a4 a5 a6 a7 a8 ba w7) := by have := srow_any HS.out k0; rw [HRA.out] at this; exact this
  replace h8 := Lib.hid h8
  go_wp2_with fail
  refine (h8.out).mono ?_
  rintro e w8 ⟨rfl, hc⟩
  replace HX0 := Lib.hid (HX0.out.trans hc (fun _ _ e => e))
  replace HS := Lib.hid (HS.out.keep hc)
  replace HD := Lib.hid (HD.out.keep hc)
  replace HQ := Lib.hid (HQ.out.chg hc id)
  clear hc l0 l1
  go_upto_region 4 with fail
  have HA1 : Blk (w8.alloc (.cells #[.int .i64 a0, .int .u64 a1, .int .i64 a2, .int .i64 a3, .int .i64 a4, .int .i64 a5, .int .i64 a6, .int .i64 a7, .int .i64 a8] 33)) w8.heap.size 33 (rvC a0 a1 a2 a3 a4 a5 a6 a7 a8) := blk_new rfl
  replace HA1 := Lib.hid HA1
  have hca := (Chg.refl (fun _ => False) w8).alloc (.cells #[.int .i64 a0, .int .u64 a1, .int .i64 a2, .int .i64 a3, .int .i64 a4, .int .i64 a5, .int .i64 a6, .int .i64 a7, .int .i64 a8] 33)
  replace HX0 := Lib.hid (HX0.out.trans hca (fun _ _ e => e))
  replace HS := Lib.hid (HS.out.keep hca)
  replace HD := Lib.hid (HD.out.keep hca)
  replace HQ := Lib.hid (HQ.out.chg hca id)
  clear hca
  generalize (w8.alloc (.cells #[.int .i64 a0, .int .u64 a1, .int .i64 a2, .int .i64 a3, .int .i64 a4, .int .i64 a5, .int .i64 a6, .int .i64 a7, .int .i64 a8] 33)) = w8x at *
  generalize w8.heap.size = qa at *
  obtain ⟨l0, l1⟩ := HCEL.out _ HQ.out
  have h9 : Calls Try.prog 28 #[.pointer (some ⟨q, 0, none⟩), .int .i64 k0] w8x (HB9 a0 a1 a2 a3 a4 a5 a6 a7 a8 ba w8x) := by have := dsrow_any HD.out HW.out k0; rw [HRA.out] at this; exact this
  replace h9 := Lib.hid h9
  go_wp2_with fail
  refine (h9.out).mono ?_
  rintro e w9 ⟨rfl, hc⟩
  replace HX0 := Lib.hid (HX0.out.trans hc (fun _ _ e => e))
  replace HS := Lib.hid (HS.out.keep hc)
  replace HD := Lib.hid (HD.out.keep hc)
  replace HQ := Lib.hid (HQ.out.chg hc id)
  replace HA1 := Lib.hid (HA1.out.chg hc id)
  clear hc l0 l1
  go_upto_region 5 with fail
  have HA2 : Blk (w9.alloc (.cells #[.int .i64 a0, .int .u64 a1, .int .i64 a2, .int .i64 a3, .int .i64 a4, .int .i64 a5, .int .i64 a6, .int .i64 a7, .int .i64 a8] 33)) w9.heap.size 33 (rvC a0 a1 a2 a3 a4 a5 a6 a7 a8) := blk_new rfl
  replace HA2 := Lib.hid HA2
  have hca := (Chg.refl (fun _ => False) w9).alloc (.cells #[.int .i64 a0, .int .u64 a1, .int .i64 a2, .int .i64 a3, .int .i64 a4, .int .i64 a5, .int .i64 a6, .int .i64 a7, .int .i64 a8] 33)
  replace HX0 := Lib.hid (HX0.out.trans hca (fun _ _ e => e))
  replace HS := Lib.hid (HS.out.keep hca)
  replace HD := Lib.hid (HD.out.keep hca)
  replace HQ := Lib.hid (HQ.out.chg hca id)
  replace HA1 := Lib.hid (HA1.out.chg hca id)
  clear hca
  generalize (w9.alloc (.cells #[.int .i64 a0, .int .u64 a1, .int .i64 a2, .int .i64 a3, .int .i64 a4, .int .i64 a5, .int .i64 a6, .int .i64 a7, .int .i64 a8] 33)) = w9x at *
  generalize w9.heap.size = qb at *
  obtain ⟨l0, l1⟩ := HCEL.out _ HQ.out
  have h10 : Calls Try.prog 11 #[.pointer (some ⟨p, 0, none⟩), .int .u64 mac] w9x (HB9 f0 f1 f2 f3 f4 f5 f6 f7 f8 bf w9x) := by have := sfind_any HS.out mac; rw [HRF.out] at this; exact this
  replace h10 := Lib.hid h10
  go_wp2_with fail
  refine (h10.out).mono ?_
  rintro e w10 ⟨rfl, hc⟩
  replace HX0 := Lib.hid (HX0.out.trans hc (fun _ _ e => e))
  replace HS := Lib.hid (HS.out.keep hc)
  replace HD := Lib.hid (HD.out.keep hc)
  replace HQ := Lib.hid (HQ.out.chg hc id)
  replace HA1 := Lib.hid (HA1.out.chg hc id)
  replace HA2 := Lib.hid (HA2.out.chg hc id)
  clear hc l0 l1
  go_upto_region 6 with fail
  have HA3 : Blk (w10.alloc (.cells #[.int .i64 f0, .int .u64 f1, .int .i64 f2, .int .i64 f3, .int .i64 f4, .int .i64 f5, .int .i64 f6, .int .i64 f7, .int .i64 f8] 33)) w10.heap.size 33 (rvC f0 f1 f2 f3 f4 f5 f6 f7 f8) := blk_new rfl
  replace HA3 := Lib.hid HA3
  have hca := (Chg.refl (fun _ => False) w10).alloc (.cells #[.int .i64 f0, .int .u64 f1, .int .i64 f2, .int .i64 f3, .int .i64 f4, .int .i64 f5, .int .i64 f6, .int .i64 f7, .int .i64 f8] 33)
  replace HX0 := Lib.hid (HX0.out.trans hca (fun _ _ e => e))
  replace HS := Lib.hid (HS.out.keep hca)
  replace HD := Lib.hid (HD.out.keep hca)
  replace HQ := Lib.hid (HQ.out.chg hca id)
  replace HA1 := Lib.hid (HA1.out.chg hca id)
  replace HA2 := Lib.hid (HA2.out.chg hca id)
  clear hca
  generalize (w10.alloc (.cells #[.int .i64 f0, .int .u64 f1, .int .i64 f2, .int .i64 f3, .int .i64 f4, .int .i64 f5, .int .i64 f6, .int .i64 f7, .int .i64 f8] 33)) = w10x at *
  generalize w10.heap.size = qc at *
  obtain ⟨l0, l1⟩ := HCEL.out _ HQ.out
  have h11 : Calls Try.prog 29 #[.pointer (some ⟨q, 0, none⟩), .int .u64 mac] w10x (HB9 f0 f1 f2 f3 f4 f5 f6 f7 f8 bf w10x) := by have := dsfind_any HD.out HW.out mac; rw [HRF.out] at this; exact this
  replace h11 := Lib.hid h11
  go_wp2_with fail
  refine (h11.out).mono ?_
  rintro e w11 ⟨rfl, hc⟩
  replace HX0 := Lib.hid (HX0.out.trans hc (fun _ _ e => e))
  replace HS := Lib.hid (HS.out.keep hc)
  replace HD := Lib.hid (HD.out.keep hc)
  replace HQ := Lib.hid (HQ.out.chg hc id)
  replace HA1 := Lib.hid (HA1.out.chg hc id)
  replace HA2 := Lib.hid (HA2.out.chg hc id)
  replace HA3 := Lib.hid (HA3.out.chg hc id)
  clear hc l0 l1
  go_upto_region 7 with fail
  have HA4 : Blk (w11.alloc (.cells #[.int .i64 f0, .int .u64 f1, .int .i64 f2, .int .i64 f3, .int .i64 f4, .int .i64 f5, .int .i64 f6, .int .i64 f7, .int .i64 f8] 33)) w11.heap.size 33 (rvC f0 f1 f2 f3 f4 f5 f6 f7 f8) := blk_new rfl
  replace HA4 := Lib.hid HA4
  have hca := (Chg.refl (fun _ => False) w11).alloc (.cells #[.int .i64 f0, .int .u64 f1, .int .i64 f2, .int .i64 f3, .int .i64 f4, .int .i64 f5, .int .i64 f6, .int .i64 f7, .int .i64 f8] 33)
  replace HX0 := Lib.hid (HX0.out.trans hca (fun _ _ e => e))
  replace HS := Lib.hid (HS.out.keep hca)
  replace HD := Lib.hid (HD.out.keep hca)
  replace HQ := Lib.hid (HQ.out.chg hca id)
  replace HA1 := Lib.hid (HA1.out.chg hca id)
  replace HA2 := Lib.hid (HA2.out.chg hca id)
  replace HA3 := Lib.hid (HA3.out.chg hca id)
  clear hca
  generalize (w11.alloc (.cells #[.int .i64 f0, .int .u64 f1, .int .i64 f2, .int .i64 f3, .int .i64 f4, .int .i64 f5, .int .i64 f6, .int .i64 f7, .int .i64 f8] 33)) = w11x at *
  generalize w11.heap.size = qd at *
  obtain ⟨l0, l1⟩ := HCEL.out _ HQ.out
  clear l0 l1 h8 h9 h10 h11 HRA HRF
  have HKEEP : Hid (∀ W : World, Chg (fun _ => False) w11x W → (W.cell? ⟨w.heap.size, 0, none⟩ = some (.int .i64 k0) ∧ W.cell? ⟨qa, 0, none⟩ = some (.int .i64 a0) ∧ W.cell? ⟨qa, 1, none⟩ = some (.int .u64 a1) ∧ W.cell? ⟨qa, 2, none⟩ = some (.int .i64 a2) ∧ W.cell? ⟨qa, 3, none⟩ = some (.int .i64 a3) ∧ W.cell? ⟨qa, 4, none⟩ = some (.int .i64 a4) ∧ W.cell? ⟨qa, 5, none⟩ = some (.int .i64 a5) ∧ W.cell? ⟨qa, 6, none⟩ = some (.int .i64 a6) ∧ W.cell? ⟨qa, 7, none⟩ = some (.int .i64 a7) ∧ W.cell? ⟨qa, 8, none⟩ = some (.int .i64 a8) ∧ W.cell? ⟨qb, 0, none⟩ = some (.int .i64 a0) ∧ W.cell? ⟨qb, 1, none⟩ = some (.int .u64 a1) ∧ W.cell? ⟨qb, 2, none⟩ = some (.int .i64 a2) ∧ W.cell? ⟨qb, 3, none⟩ = some (.int .i64 a3) ∧ W.cell? ⟨qb, 4, none⟩ = some (.int .i64 a4) ∧ W.cell? ⟨qb, 5, none⟩ = some (.int .i64 a5) ∧ W.cell? ⟨qb, 6, none⟩ = some (.int .i64 a6) ∧ W.cell? ⟨qb, 7, none⟩ = some (.int .i64 a7) ∧ W.cell? ⟨qb, 8, none⟩ = some (.int .i64 a8) ∧ W.cell? ⟨qc, 0, none⟩ = some (.int .i64 f0) ∧ W.cell? ⟨qc, 1, none⟩ = some (.int .u64 f1) ∧ W.cell? ⟨qc, 2, none⟩ = some (.int .i64 f2) ∧ W.cell? ⟨qc, 3, none⟩ = some (.int .i64 f3) ∧ W.cell? ⟨qc, 4, none⟩ = some (.int .i64 f4) ∧ W.cell? ⟨qc, 5, none⟩ = some (.int .i64 f5) ∧ W.cell? ⟨qc, 6, none⟩ = some (.int .i64 f6) ∧ W.cell? ⟨qc, 7, none⟩ = some (.int .i64 f7) ∧ W.cell? ⟨qc, 8, none⟩ = some (.int .i64 f8) ∧ W.cell? ⟨qd, 0, none⟩ = some (.int .i64 f0) ∧ W.cell? ⟨qd, 1, none⟩ = some (.int .u64 f1) ∧ W.cell? ⟨qd, 2, none⟩ = some (.int .i64 f2) ∧ W.cell? ⟨qd, 3, none⟩ = some (.int .i64 f3) ∧ W.cell? ⟨qd, 4, none⟩ = some (.int .i64 f4) ∧ W.cell? ⟨qd, 5, none⟩ = some (.int .i64 f5) ∧ W.cell? ⟨qd, 6, none⟩ = some (.int .i64 f6) ∧ W.cell? ⟨qd, 7, none⟩ = some (.int .i64 f7) ∧ W.cell? ⟨qd, 8, none⟩ = some (.int .i64 f8))) := Lib.hid (fun W hw => by
    obtain ⟨l0, -⟩ := HCEL.out _ (HQ.out.chg hw id)
    obtain ⟨x0, x1, x2, x3, x4, x5, x6, x7, x8⟩ := rv_cells (HA1.out.chg hw id)
    obtain ⟨u0, u1, u2, u3, u4, u5, u6, u7, u8⟩ := rv_cells (HA2.out.chg hw id)
    obtain ⟨v0, v1, v2, v3, v4, v5, v6, v7, v8⟩ := rv_cells (HA3.out.chg hw id)
    obtain ⟨t0, t1, t2, t3, t4, t5, t6, t7, t8⟩ := rv_cells (HA4.out.chg hw id)
    exact ⟨l0, x0, x1, x2, x3, x4, x5, x6, x7, x8, u0, u1, u2, u3, u4, u5, u6, u7, u8, v0, v1, v2, v3, v4, v5, v6, v7, v8, t0, t1, t2, t3, t4, t5, t6, t7, t8⟩)
  have HXA := Lib.hid (Chg.refl (fun _ => False) w11x).drew
  have hc1 := shas_any (HS.out.keep HXA.out) k0
  have hc2 := dshas_any (HD.out.keep HXA.out) HW.out k0
  obtain ⟨cv, hcv⟩ : ∃ cv, C k0 = cv := ⟨_, rfl⟩
  rw [hcv] at hc1 hc2
  have HC1 := Lib.hid hc1
  have HC2 := Lib.hid hc2
  have he1 := fun W => neRow_self W a0 a1 a2 a3 a4 a5 a6 a7 a8
  have he2 := fun W => neRow_self W f0 f1 f2 f3 f4 f5 f6 f7 f8
  clear hcv hc1 hc2
  obtain ⟨l0, x0, x1, x2, x3, x4, x5, x6, x7, x8, u0, u1, u2, u3, u4, u5, u6, u7, u8, v0, v1, v2, v3, v4, v5, v6, v7, v8, t0, t1, t2, t3, t4, t5, t6, t7, t8⟩ := HKEEP.out _ HXA.out
  go_wp2_with fail
  go_region_held3 (fun W => W.cell? ⟨w.heap.size, 0, none⟩ = some (.int .i64 k0) ∧ W.cell? ⟨qa, 0, none⟩ = some (.int .i64 a0) ∧ W.cell? ⟨qa, 1, none⟩ = some (.int .u64 a1) ∧ W.cell? ⟨qa, 2, none⟩ = some (.int .i64 a2) ∧ W.cell? ⟨qa, 3, none⟩ = some (.int .i64 a3) ∧ W.cell? ⟨qa, 4, none⟩ = some (.int .i64 a4) ∧ W.cell? ⟨qa, 5, none⟩ = some (.int .i64 a5) ∧ W.cell? ⟨qa, 6, none⟩ = some (.int .i64 a6) ∧ W.cell? ⟨qa, 7, none⟩ = some (.int .i64 a7) ∧ W.cell? ⟨qa, 8, none⟩ = some (.int .i64 a8) ∧ W.cell? ⟨qb, 0, none⟩ = some (.int .i64 a0) ∧ W.cell? ⟨qb, 1, none⟩ = some (.int .u64 a1) ∧ W.cell? ⟨qb, 2, none⟩ = some (.int .i64 a2) ∧ W.cell? ⟨qb, 3, none⟩ = some (.int .i64 a3) ∧ W.cell? ⟨qb, 4, none⟩ = some (.int .i64 a4) ∧ W.cell? ⟨qb, 5, none⟩ = some (.int .i64 a5) ∧ W.cell? ⟨qb, 6, none⟩ = some (.int .i64 a6) ∧ W.cell? ⟨qb, 7, none⟩ = some (.int .i64 a7) ∧ W.cell? ⟨qb, 8, none⟩ = some (.int .i64 a8) ∧ W.cell? ⟨qc, 0, none⟩ = some (.int .i64 f0) ∧ W.cell? ⟨qc, 1, none⟩ = some (.int .u64 f1) ∧ W.cell? ⟨qc, 2, none⟩ = some (.int .i64 f2) ∧ W.cell? ⟨qc, 3, none⟩ = some (.int .i64 f3) ∧ W.cell? ⟨qc, 4, none⟩ = some (.int .i64 f4) ∧ W.cell? ⟨qc, 5, none⟩ = some (.int .i64 f5) ∧ W.cell? ⟨qc, 6, none⟩ = some (.int .i64 f6) ∧ W.cell? ⟨qc, 7, none⟩ = some (.int .i64 f7) ∧ W.cell? ⟨qc, 8, none⟩ = some (.int .i64 f8) ∧ W.cell? ⟨qd, 0, none⟩ = some (.int .i64 f0) ∧ W.cell? ⟨qd, 1, none⟩ = some (.int .u64 f1) ∧ W.cell? ⟨qd, 2, none⟩ = some (.int .i64 f2) ∧ W.cell? ⟨qd, 3, none⟩ = some (.int .i64 f3) ∧ W.cell? ⟨qd, 4, none⟩ = some (.int .i64 f4) ∧ W.cell? ⟨qd, 5, none⟩ = some (.int .i64 f5) ∧ W.cell? ⟨qd, 6, none⟩ = some (.int .i64 f6) ∧ W.cell? ⟨qd, 7, none⟩ = some (.int .i64 f7) ∧ W.cell? ⟨qd, 8, none⟩ = some (.int .i64 f8))
    (first | with_reducible exact HKEEP.out _ HXA.out | fail)
    (first
      | (go_at_call 15; (with_reducible refine (HC1.out).mono ?_); rintro e wz ⟨rfl, hwz⟩; subst hwz)
      | (go_at_call 30; (with_reducible refine (HC2.out).mono ?_); rintro e wz ⟨rfl, hwz⟩; subst hwz)
      | fail)
  all_goals
    replace HX0 := Lib.hid HX0.out.drew
    replace HS := Lib.hid HS.out.drew
    replace HD := Lib.hid (show DS w11x.drew q C R from Blk.drew HD.out)
    replace HQ := Lib.hid HQ.out.drew
    clear HKEEP HXA HC1 HC2 he1 he2 l0 x0 x1 x2 x3 x4 x5 x6 x7 x8 u0 u1 u2 u3 u4 u5 u6 u7 u8 v0 v1 v2 v3 v4 v5 v6 v7 v8 t0 t1 t2 t3 t4 t5 t6 t7 t8 HA1 HA2 HA3 HA4
    generalize World.drew w11x = w12 at *
    obtain ⟨l0, l1⟩ := HCEL.out _ HQ.out
    go_wp2_with fail
    refine (slate_any HS.out k1 k0 hk).mono ?_
    rintro e w13 ⟨A1, n1, c1, rfl, hn1, hown1, hc⟩
    replace HX0 := Lib.hid (HX0.out.trans hc (fun _ _ e => e))
    replace HS := Lib.hid (HS.out.keep hc)
    replace HD := Lib.hid (HD.out.keep hc)
    replace HQ := Lib.hid (HQ.out.chg hc id)
    have HOF := Lib.hid (of10_any A1 n1 c1 (lateP R k1 k0) _ w13 (own_sr cv_size hown1 hn1) (by have := late_len R k1 k0; omega))
    clear hc hown1 hn1 l0 l1
    go_wp2_with fail
    refine HOF.out.mono ?_
    rintro e w14 ⟨A3, n3, c3, rfl, hn3, hown3, hc⟩
    replace HX0 := Lib.hid (HX0.out.trans hc (fun _ _ e => e))
    replace HD := Lib.hid (HD.out.keep hc)
    replace HQ := Lib.hid (HQ.out.chg hc id)
    have HO3 := Lib.hid (own_sr cv_size hown3 hn3)
    have HN3 := Lib.hid hn3
    clear hc hown3 hn3 HOF
    obtain ⟨l0, l1⟩ := HCEL.out _ HQ.out
    go_wp2_with fail
    refine (dslate_any HD.out HW.out k1 k0 hk).mono ?_
    rintro e w15 ⟨A4, n4, c4, rfl, hn4, hown4, hc⟩
    replace HX0 := Lib.hid (HX0.out.trans hc (fun _ _ e => e))
    replace HO3 := Lib.hid (HO3.out.chg hc (fun _ _ => id))
    have HO4 := Lib.hid (own_sr cv_size hown4 hn4)
    have hnn : n3 = n4 := by have := HN3.out; omega
    subst hnn
    have HNL := Lib.hid (show n3 ≤ 32 by have h1 := late_len R k1 k0; have h2 := HN3.out; omega)
    clear hc hown4 hn4 l0 l1
    generalize lateP R k1 k0 = ll at *
    go_wp2_with fail
    go_loopg [21] n3 (fun g i wr => ∃ (j : Nat), g = n3 - j ∧ j ≤ n3 ∧ i = .int .i64 (j : Int) ∧ Hid (Chg (fun _ => False) w15 wr))
    case atStart => exact ⟨0, rfl, Nat.zero_le _, rfl, Lib.hid (Chg.refl _ _)⟩
    case round =>
      obtain ⟨j, rfl, hj, rfl, HX2⟩ := hrel
      have hn32 := HNL.out
      by_cases hlt : j < n3
      · have hh := HO3.out.chg HX2.out.drew (fun _ _ => id)
        have hh2 := HO4.out.chg HX2.out.drew (fun _ _ => id)
        obtain ⟨ad, rfl, -⟩ := hh.2 (by omega)
        obtain ⟨ad2, rfl, -⟩ := hh2.2 (by omega)
        have hjl : j < ll.length := by have := HN3.out; omega
        have hx : ll[j]? = some ll[j] := List.getElem?_eq_getElem hjl
        generalize ll[j] = x at *
        obtain ⟨xr, was⟩ := x
        obtain ⟨po, ma, ow, ta, ol, ge, ph, ve, si, rfl⟩ := rv_letters xr
        obtain ⟨z0, z1, z2, z3, z4, z5, z6, z7, z8, z9⟩ := sr_at10 hh hx
        obtain ⟨t0, t1, t2, t3, t4, t5, t6, t7, t8, t9⟩ := sr_at10 hh2 hx
        have hne := fun W => neCh10 W po ma ow ta ol ge ph ve si was
        clear hx hh hh2 hjl
        go_wp2_with fail
        go_region
        clear z0 z1 z2 z3 z4 z5 z6 z7 z8 z9 t0 t1 t2 t3 t4 t5 t6 t7 t8 t9
        replace HX2 := Lib.hid HX2.out.drew
        generalize World.drew wr = w16 at *
        go_wp2_with fail
        go_roundg (n3 - (j + 1))
        case measure => omega
        case rel => exact ⟨j + 1, rfl, by omega, by go_num, HX2⟩
      · have : j = n3 := by omega
        subst this
        go_wp2_with fail
        go_ret
        exact ⟨ret_b (by simp), HX0.out.trans HX2.out (fun _ _ e => e)⟩


end Go.Proofs.Ytbajcdmcjmkieaa
