/-
  Walks: the document's Row, Find, Rows, Chassis. Conditions: the store lies in memory.
-/
import Derived.Test.YtimgnogacanifaaGreatPk
import Derived.Deep.RegionHeld3
namespace Go.Proofs.YtimgnogacanifaaGreat
open Go.RowKit
set_option linter.unusedVariables false
set_option linter.unusedSimpArgs false

theorem WF.cell {C : Int → Bool} {R : Int → Option RV} (h : WF C R) (z : Int) : (R z = none ∧ (R z).getD z9 = z9) ∨ ∃ x, R z = some x ∧ (R z).getD z9 = x ∧ 1 ≤ x.ve := by
  cases hz : R z with
  | none => exact .inl ⟨rfl, rfl⟩
  | some x => exact .inr ⟨x, rfl, rfl, (h.ver hz).1⟩
theorem WF.out {C : Int → Bool} {R : Int → Option RV} (h : WF C R) {z : Int} (hz : z < 0 ∨ 31 < z) : R z = none := by
  cases hx : R z with
  | none => rfl
  | some x => have := h.bounds hx; omega
set_option maxRecDepth 20000 in
set_option maxRecDepth 100000 in
set_option maxHeartbeats 4000000 in
theorem dsrow_any {w : World} {q : Nat} {C : Int → Bool} {R : Int → Option RV} (h : DS w q C R) (hw : WF C R) (z : Int) : Calls Tryz.prog 66 #[.pointer (some ⟨q, 0, none⟩), .int .i64 z] w (HB (rowB10 (R z)) w) := by
  have HD := Lib.hid h
  by_cases hb : 0 ≤ z ∧ z ≤ 31
  case neg =>
    rw [hw.out (by omega), show rowB10 none = (z9, false) from rfl]
    clear h hw
    by_cases h0 : z < 0
    · clear hb
      have HR0 : Blk (w.alloc (.cells #[.int .i64 0, .int .u64 0, .int .i64 0, .int .i64 0, .int .i64 0, .int .i64 0, .int .i64 0, .int .i64 0, .int .i64 0] 40)) w.heap.size 40 (rvC 0 0 0 0 0 0 0 0 0) := blk_new rfl
      replace HR0 := Lib.hid HR0
      have HX0 := Lib.hid ((Chg.refl (fun _ => False) w).alloc (.cells #[.int .i64 0, .int .u64 0, .int .i64 0, .int .i64 0, .int .i64 0, .int .i64 0, .int .i64 0, .int .i64 0, .int .i64 0] 40))
      replace HD := Lib.hid (HD.out.keep HX0.out)
      go_enter Tryz.func66, Tryz.ntmps66
      go_upto_region 1 with fail
      generalize (w.alloc (.cells #[.int .i64 0, .int .u64 0, .int .i64 0, .int .i64 0, .int .i64 0, .int .i64 0, .int .i64 0, .int .i64 0, .int .i64 0] 40)) = w1 at *
      go_upto_region 2 with fail
      obtain ⟨x0, x1, x2, x3, x4, x5, x6, x7, x8⟩ := rv_cells HR0.out
      obtain ⟨u0, u1, u2, u3, u4, u5, u6, u7, u8⟩ := rv_free9 HR0.out
      obtain ⟨r0, r1, r2, r3, r4, r5, r6, r7, r8, -, hcs⟩ := rv_put9 HR0.out 0 0 0 0 0 0 0 0 0
      have HF := Lib.hid (fresh_set HX0.out hcs (by omega))
      have RR := Lib.hid (And.intro r0 (And.intro r1 (And.intro r2 (And.intro r3 (And.intro r4 (And.intro r5 (And.intro r6 (And.intro r7 r8))))))))
      clear r0 r1 r2 r3 r4 r5 r6 r7 r8 hcs HR0 HX0
      go_wp2_with fail
      obtain ⟨r0, r1, r2, r3, r4, r5, r6, r7, r8⟩ := RR.out
      exact bodyPost_ret (v := .tuple #[.agg (rvC 0 0 0 0 0 0 0 0 0), .bool false]) (by simp [results, Tryz.results66, go_sem, rvC, r0, r1, r2, r3, r4, r5, r6, r7, r8]) rfl ⟨rfl, HF.out⟩
    · have h1 : 31 < z := by omega
      clear hb
      have HR0 : Blk (w.alloc (.cells #[.int .i64 0, .int .u64 0, .int .i64 0, .int .i64 0, .int .i64 0, .int .i64 0, .int .i64 0, .int .i64 0, .int .i64 0] 40)) w.heap.size 40 (rvC 0 0 0 0 0 0 0 0 0) := blk_new rfl
      replace HR0 := Lib.hid HR0
      have HX0 := Lib.hid ((Chg.refl (fun _ => False) w).alloc (.cells #[.int .i64 0, .int .u64 0, .int .i64 0, .int .i64 0, .int .i64 0, .int .i64 0, .int .i64 0, .int .i64 0, .int .i64 0] 40))
      replace HD := Lib.hid (HD.out.keep HX0.out)
      go_enter Tryz.func66, Tryz.ntmps66
      go_upto_region 1 with fail
      generalize (w.alloc (.cells #[.int .i64 0, .int .u64 0, .int .i64 0, .int .i64 0, .int .i64 0, .int .i64 0, .int .i64 0, .int .i64 0, .int .i64 0] 40)) = w1 at *
      go_upto_region 2 with fail
      obtain ⟨x0, x1, x2, x3, x4, x5, x6, x7, x8⟩ := rv_cells HR0.out
      obtain ⟨u0, u1, u2, u3, u4, u5, u6, u7, u8⟩ := rv_free9 HR0.out
      obtain ⟨r0, r1, r2, r3, r4, r5, r6, r7, r8, -, hcs⟩ := rv_put9 HR0.out 0 0 0 0 0 0 0 0 0
      have HF := Lib.hid (fresh_set HX0.out hcs (by omega))
      have RR := Lib.hid (And.intro r0 (And.intro r1 (And.intro r2 (And.intro r3 (And.intro r4 (And.intro r5 (And.intro r6 (And.intro r7 r8))))))))
      clear r0 r1 r2 r3 r4 r5 r6 r7 r8 hcs HR0 HX0
      go_wp2_with fail
      obtain ⟨r0, r1, r2, r3, r4, r5, r6, r7, r8⟩ := RR.out
      exact bodyPost_ret (v := .tuple #[.agg (rvC 0 0 0 0 0 0 0 0 0), .bool false]) (by simp [results, Tryz.results66, go_sem, rvC, r0, r1, r2, r3, r4, r5, r6, r7, r8]) rfl ⟨rfl, HF.out⟩
  case pos =>
    obtain ⟨i, rfl⟩ := Int.eq_ofNat_of_zero_le hb.1
    have hi : i < 32 := by omega
    clear hb
    rcases hw.cell (i : Int) with ⟨h1, h2⟩ | ⟨x, h1, h2, h3⟩
    · rw [h1, show rowB10 none = (z9, false) from rfl]
      have HRW : Hid (∀ W, DS W q C R → W.cell? ⟨q, 16 + i * 9 + 7, none⟩ = some (.int .i64 0)) := Lib.hid (fun W hW => by
        have := (hW.row hi).2.2.2.2.2.2.2.1
        rw [h2] at this
        exact this)
      clear h hw h1 h2
      have HR0 : Blk (w.alloc (.cells #[.int .i64 0, .int .u64 0, .int .i64 0, .int .i64 0, .int .i64 0, .int .i64 0, .int .i64 0, .int .i64 0, .int .i64 0] 40)) w.heap.size 40 (rvC 0 0 0 0 0 0 0 0 0) := blk_new rfl
      replace HR0 := Lib.hid HR0
      have HX0 := Lib.hid ((Chg.refl (fun _ => False) w).alloc (.cells #[.int .i64 0, .int .u64 0, .int .i64 0, .int .i64 0, .int .i64 0, .int .i64 0, .int .i64 0, .int .i64 0, .int .i64 0] 40))
      replace HD := Lib.hid (HD.out.keep HX0.out)
      go_enter Tryz.func66, Tryz.ntmps66
      go_upto_region 1 with fail
      generalize (w.alloc (.cells #[.int .i64 0, .int .u64 0, .int .i64 0, .int .i64 0, .int .i64 0, .int .i64 0, .int .i64 0, .int .i64 0, .int .i64 0] 40)) = w1 at *
      have y7 := HRW.out _ HD.out
      go_upto_region 2 with fail
      clear y7
      obtain ⟨x0, x1, x2, x3, x4, x5, x6, x7, x8⟩ := rv_cells HR0.out
      obtain ⟨u0, u1, u2, u3, u4, u5, u6, u7, u8⟩ := rv_free9 HR0.out
      obtain ⟨r0, r1, r2, r3, r4, r5, r6, r7, r8, -, hcs⟩ := rv_put9 HR0.out 0 0 0 0 0 0 0 0 0
      have HF := Lib.hid (fresh_set HX0.out hcs (by omega))
      have RR := Lib.hid (And.intro r0 (And.intro r1 (And.intro r2 (And.intro r3 (And.intro r4 (And.intro r5 (And.intro r6 (And.intro r7 r8))))))))
      clear r0 r1 r2 r3 r4 r5 r6 r7 r8 hcs HR0 HX0
      go_wp2_with fail
      obtain ⟨r0, r1, r2, r3, r4, r5, r6, r7, r8⟩ := RR.out
      exact bodyPost_ret (v := .tuple #[.agg (rvC 0 0 0 0 0 0 0 0 0), .bool false]) (by simp [results, Tryz.results66, go_sem, rvC, r0, r1, r2, r3, r4, r5, r6, r7, r8]) rfl ⟨rfl, HF.out⟩
    · obtain ⟨po, ma, ow, ta, ol, ge, ph, ve, si, rfl⟩ := rv_letters x
      rw [h1, show rowB10 (some ⟨po, ma, ow, ta, ol, ge, ph, ve, si⟩) = (⟨po, ma, ow, ta, ol, ge, ph, ve, si⟩, true) from rfl]
      have tv : (ve == 0) = false := by simp only [beq_eq_false_iff_ne, ne_eq]; change 1 ≤ ve at h3; omega
      have HRW : Hid (∀ W, DS W q C R → (W.cell? ⟨q, 16 + i * 9, none⟩ = some (.int .i64 po) ∧ W.cell? ⟨q, 16 + i * 9 + 1, none⟩ = some (.int .u64 ma) ∧ W.cell? ⟨q, 16 + i * 9 + 2, none⟩ = some (.int .i64 ow) ∧ W.cell? ⟨q, 16 + i * 9 + 3, none⟩ = some (.int .i64 ta) ∧ W.cell? ⟨q, 16 + i * 9 + 4, none⟩ = some (.int .i64 ol) ∧ W.cell? ⟨q, 16 + i * 9 + 5, none⟩ = some (.int .i64 ge) ∧ W.cell? ⟨q, 16 + i * 9 + 6, none⟩ = some (.int .i64 ph) ∧ W.cell? ⟨q, 16 + i * 9 + 7, none⟩ = some (.int .i64 ve) ∧ W.cell? ⟨q, 16 + i * 9 + 8, none⟩ = some (.int .i64 si))) := Lib.hid (fun W hW => by
        have := hW.row hi
        rw [h2] at this
        exact this)
      clear h hw h1 h2 h3
      have HR0 : Blk (w.alloc (.cells #[.int .i64 0, .int .u64 0, .int .i64 0, .int .i64 0, .int .i64 0, .int .i64 0, .int .i64 0, .int .i64 0, .int .i64 0] 40)) w.heap.size 40 (rvC 0 0 0 0 0 0 0 0 0) := blk_new rfl
      replace HR0 := Lib.hid HR0
      have HX0 := Lib.hid ((Chg.refl (fun _ => False) w).alloc (.cells #[.int .i64 0, .int .u64 0, .int .i64 0, .int .i64 0, .int .i64 0, .int .i64 0, .int .i64 0, .int .i64 0, .int .i64 0] 40))
      replace HD := Lib.hid (HD.out.keep HX0.out)
      go_enter Tryz.func66, Tryz.ntmps66
      go_upto_region 1 with fail
      generalize (w.alloc (.cells #[.int .i64 0, .int .u64 0, .int .i64 0, .int .i64 0, .int .i64 0, .int .i64 0, .int .i64 0, .int .i64 0, .int .i64 0] 40)) = w1 at *
      obtain ⟨y0, y1, y2, y3, y4, y5, y6, y7, y8⟩ := HRW.out _ HD.out
      go_upto_region 3 with fail
      obtain ⟨x0, x1, x2, x3, x4, x5, x6, x7, x8⟩ := rv_cells HR0.out
      obtain ⟨u0, u1, u2, u3, u4, u5, u6, u7, u8⟩ := rv_free9 HR0.out
      obtain ⟨r0, r1, r2, r3, r4, r5, r6, r7, r8, -, hcs⟩ := rv_put9 HR0.out po ma ow ta ol ge ph ve si
      have HF := Lib.hid (fresh_set HX0.out hcs (by omega))
      have RR := Lib.hid (And.intro r0 (And.intro r1 (And.intro r2 (And.intro r3 (And.intro r4 (And.intro r5 (And.intro r6 (And.intro r7 r8))))))))
      clear r0 r1 r2 r3 r4 r5 r6 r7 r8 hcs HR0 HX0
      go_wp2_with fail
      obtain ⟨r0, r1, r2, r3, r4, r5, r6, r7, r8⟩ := RR.out
      exact bodyPost_ret (v := .tuple #[.agg (rvC po ma ow ta ol ge ph ve si), .bool true]) (by simp [results, Tryz.results66, go_sem, rvC, r0, r1, r2, r3, r4, r5, r6, r7, r8]) rfl ⟨rfl, HF.out⟩

theorem hasK_len {ma : Int} (R : Int → Option RV) {C : Int → Bool} (hw : WF C R) (j : Nat) (hj : j < 32) (h : ∀ i : Nat, i < j → ∀ x, R (i : Int) = some x → hasM ma x = false) {x : RV} (hx : R (j : Int) = some x) (hm : hasM ma x = true) : findP R ma = some x := by
  unfold findP
  cases hf : (rowsP R).find? (hasM ma) with
  | none => exact absurd hm (by have := List.find?_eq_none.1 hf x (hw.mem.2 ⟨_, hx⟩); exact this)
  | some y =>
    have hp := hasM_iff.1 (List.find?_some hf)
    obtain ⟨v, hv⟩ := hw.mem.1 (List.mem_of_find?_eq_some hf)
    have hm2 := hasM_iff.1 hm
    have e1 := hw.one v (j : Int) y x hv hx hp.1 hm2.1 (by rw [hp.2, hm2.2])
    rw [e1, hx] at hv
    exact hv.symm
theorem hasK_no {ma : Int} (R : Int → Option RV) {C : Int → Bool} (hw : WF C R) (h : ∀ i : Nat, i < 32 → ∀ x, R (i : Int) = some x → hasM ma x = false) : findP R ma = none := by
  unfold findP
  rw [List.find?_eq_none]
  intro x hx
  obtain ⟨z, hz⟩ := hw.mem.1 hx
  have hb := hw.bounds hz
  rw [h z.toNat (by omega) x (by rw [show ((z.toNat : Nat) : Int) = z by omega]; exact hz)]
  decide
end Go.Proofs.YtimgnogacanifaaGreat
