/-
  Walk: rutterlaw09.Want. Conditions: the act's kind is a byte, its version an int.
-/
import Derived.Test.YtbigcebpfbfddaaOr
import Derived.Test.YtbigcebpfbfddaaOp
namespace Go.Proofs.Ytbigcebpfbfddaa
open Go.RowKit
set_option linter.unusedVariables false

set_option maxRecDepth 100000 in
set_option maxHeartbeats 4000000 in
theorem want9_any (po ma ow ta ol ge ph ve si k who now mac vr : Int) (w : World) (hk : 0 ≤ k ∧ k ≤ 255) (hvr : -9223372036854775808 ≤ vr ∧ vr ≤ 9223372036854775807) : Calls Try.prog 6 #[.agg #[.int .i64 po, .int .u64 ma, .int .i64 ow, .int .i64 ta, .int .i64 ol, .int .i64 ge, .int .i64 ph, .int .i64 ve, .int .i64 si], .agg #[.int .u8 k, .int .i64 who, .int .i64 now, .int .u64 mac, .int .i64 vr]] w (HR (do9 ⟨po, ma, ow, ta, ol, ge, ph, ve, si⟩ k who now mac vr) w) := by
  have hcase : k % 7 = 0 ∨ k % 7 = 1 ∨ k % 7 = 2 ∨ k % 7 = 3 ∨ k % 7 = 4 ∨ k % 7 = 5 ∨ k % 7 = 6 := by omega
  rcases hcase with h | h | h | h | h | h | h
  · rw [show do9 ⟨po, ma, ow, ta, ol, ge, ph, ve, si⟩ k who now mac vr = ag9 ⟨po, ma, ow, ta, ol, ge, ph, ve, si⟩ mac who now from by simp [do9, h]]
    have hd := fun W => raga_any po ma ow ta ol ge ph ve si mac who now W
    obtain ⟨z0, z1, z2, z3, z4, z5, z6, z7, z8, ze, hz⟩ := num9 (r := ag9 ⟨po, ma, ow, ta, ol, ge, ph, ve, si⟩ mac who now)
    rw [hz] at hd ⊢
    have HD : Hid (∀ W, Calls _ _ _ W (HR9 z0 z1 z2 z3 z4 z5 z6 z7 z8 ze W)) := Lib.hid hd
    clear hd hz
    have HQ0 : Blk (((w.alloc (.cells #[.int .i64 po, .int .u64 ma, .int .i64 ow, .int .i64 ta, .int .i64 ol, .int .i64 ge, .int .i64 ph, .int .i64 ve, .int .i64 si] 25)).alloc (.cells #[.int .u8 k, .int .i64 who, .int .i64 now, .int .u64 mac, .int .i64 vr] 27)).alloc (.cells #[.int .i64 0, .int .u64 0, .int .i64 0, .int .i64 0, .int .i64 0, .int .i64 0, .int .i64 0, .int .i64 0, .int .i64 0] 25)) w.heap.size 25 (rvC po ma ow ta ol ge ph ve si) := Blk.alloc (Blk.alloc (blk_new rfl) _) _
    replace HQ0 := Lib.hid HQ0
    have HA0 : Blk (((w.alloc (.cells #[.int .i64 po, .int .u64 ma, .int .i64 ow, .int .i64 ta, .int .i64 ol, .int .i64 ge, .int .i64 ph, .int .i64 ve, .int .i64 si] 25)).alloc (.cells #[.int .u8 k, .int .i64 who, .int .i64 now, .int .u64 mac, .int .i64 vr] 27)).alloc (.cells #[.int .i64 0, .int .u64 0, .int .i64 0, .int .i64 0, .int .i64 0, .int .i64 0, .int .i64 0, .int .i64 0, .int .i64 0] 25)) (w.heap.size + 1) 27 #[.int .u8 k, .int .i64 who, .int .i64 now, .int .u64 mac, .int .i64 vr] := Blk.alloc (blk_new (by simp)) _
    replace HA0 := Lib.hid HA0
    have HR0 : Blk (((w.alloc (.cells #[.int .i64 po, .int .u64 ma, .int .i64 ow, .int .i64 ta, .int .i64 ol, .int .i64 ge, .int .i64 ph, .int .i64 ve, .int .i64 si] 25)).alloc (.cells #[.int .u8 k, .int .i64 who, .int .i64 now, .int .u64 mac, .int .i64 vr] 27)).alloc (.cells #[.int .i64 0, .int .u64 0, .int .i64 0, .int .i64 0, .int .i64 0, .int .i64 0, .int .i64 0, .int .i64 0, .int .i64 0] 25)) (w.heap.size + 1 + 1) 25 (rvC 0 0 0 0 0 0 0 0 0) := blk_new (by simp)
    replace HR0 := Lib.hid HR0
    have HX0 := Lib.hid ((((Chg.refl (fun _ => False) w).alloc (.cells #[.int .i64 po, .int .u64 ma, .int .i64 ow, .int .i64 ta, .int .i64 ol, .int .i64 ge, .int .i64 ph, .int .i64 ve, .int .i64 si] 25)).alloc (.cells #[.int .u8 k, .int .i64 who, .int .i64 now, .int .u64 mac, .int .i64 vr] 27)).alloc (.cells #[.int .i64 0, .int .u64 0, .int .i64 0, .int .i64 0, .int .i64 0, .int .i64 0, .int .i64 0, .int .i64 0, .int .i64 0] 25))
    go_enter Try.func6, Try.ntmps6
    go_upto_region 1 with fail
    generalize (((w.alloc (.cells #[.int .i64 po, .int .u64 ma, .int .i64 ow, .int .i64 ta, .int .i64 ol, .int .i64 ge, .int .i64 ph, .int .i64 ve, .int .i64 si] 25)).alloc (.cells #[.int .u8 k, .int .i64 who, .int .i64 now, .int .u64 mac, .int .i64 vr] 27)).alloc (.cells #[.int .i64 0, .int .u64 0, .int .i64 0, .int .i64 0, .int .i64 0, .int .i64 0, .int .i64 0, .int .i64 0, .int .i64 0] 25)) = w1 at *
    have a0 := HA0.out.cell 0
    have a1 := HA0.out.cell 1
    have a2 := HA0.out.cell 2
    have a3 := HA0.out.cell 3
    have a4 := HA0.out.cell 4
    simp only [List.getElem?_toArray, List.getElem?_cons_zero, List.getElem?_cons_succ] at a0 a1 a2 a3 a4
    obtain ⟨y0, y1, y2, y3, y4, y5, y6, y7, y8⟩ := rv_cells HQ0.out
    go_wp2_with fail
    refine (HD.out _).mono ?_
    rintro e w2 ⟨rfl, hc⟩
    replace HX0 := Lib.hid (HX0.out.trans hc (fun _ _ e => e))
    replace HQ0 := Lib.hid (HQ0.out.chg hc id)
    replace HR0 := Lib.hid (HR0.out.chg hc id)
    clear hc
    clear y0 y1 y2 y3 y4 y5 y6 y7 y8 a0 a1 a2 a3 a4
    obtain ⟨x0, x1, x2, x3, x4, x5, x6, x7, x8⟩ := rv_cells HR0.out
    obtain ⟨u0, u1, u2, u3, u4, u5, u6, u7, u8⟩ := rv_free9 HR0.out
    obtain ⟨r0, r1, r2, r3, r4, r5, r6, r7, r8, -, hcs⟩ := rv_put9 HR0.out z0 z1 z2 z3 z4 z5 z6 z7 z8
    have HF := Lib.hid (fresh_set HX0.out hcs (by omega))
    have RR := Lib.hid (And.intro r0 (And.intro r1 (And.intro r2 (And.intro r3 (And.intro r4 (And.intro r5 (And.intro r6 (And.intro r7 r8))))))))
    clear r0 r1 r2 r3 r4 r5 r6 r7 r8 hcs HR0 HX0
    go_wp2_with fail
    obtain ⟨r0, r1, r2, r3, r4, r5, r6, r7, r8⟩ := RR.out
    exact bodyPost_ret (v := .tuple #[.agg (rvC z0 z1 z2 z3 z4 z5 z6 z7 z8), .int .i64 ze]) (by simp [results, Try.results6, go_sem, rvC, r0, r1, r2, r3, r4, r5, r6, r7, r8]) rfl ⟨rfl, HF.out⟩
  · rw [show do9 ⟨po, ma, ow, ta, ol, ge, ph, ve, si⟩ k who now mac vr = st9 ⟨po, ma, ow, ta, ol, ge, ph, ve, si⟩ who now from by simp [do9, h]]
    have hd := fun W => rsta_any po ma ow ta ol ge ph ve si who now W
    obtain ⟨z0, z1, z2, z3, z4, z5, z6, z7, z8, ze, hz⟩ := num9 (r := st9 ⟨po, ma, ow, ta, ol, ge, ph, ve, si⟩ who now)
    rw [hz] at hd ⊢
    have HD : Hid (∀ W, Calls _ _ _ W (HR9 z0 z1 z2 z3 z4 z5 z6 z7 z8 ze W)) := Lib.hid hd
    clear hd hz
    have HQ0 : Blk (((w.alloc (.cells #[.int .i64 po, .int .u64 ma, .int .i64 ow, .int .i64 ta, .int .i64 ol, .int .i64 ge, .int .i64 ph, .int .i64 ve, .int .i64 si] 25)).alloc (.cells #[.int .u8 k, .int .i64 who, .int .i64 now, .int .u64 mac, .int .i64 vr] 27)).alloc (.cells #[.int .i64 0, .int .u64 0, .int .i64 0, .int .i64 0, .int .i64 0, .int .i64 0, .int .i64 0, .int .i64 0, .int .i64 0] 25)) w.heap.size 25 (rvC po ma ow ta ol ge ph ve si) := Blk.alloc (Blk.alloc (blk_new rfl) _) _
    replace HQ0 := Lib.hid HQ0
    have HA0 : Blk (((w.alloc (.cells #[.int .i64 po, .int .u64 ma, .int .i64 ow, .int .i64 ta, .int .i64 ol, .int .i64 ge, .int .i64 ph, .int .i64 ve, .int .i64 si] 25)).alloc (.cells #[.int .u8 k, .int .i64 who, .int .i64 now, .int .u64 mac, .int .i64 vr] 27)).alloc (.cells #[.int .i64 0, .int .u64 0, .int .i64 0, .int .i64 0, .int .i64 0, .int .i64 0, .int .i64 0, .int .i64 0, .int .i64 0] 25)) (w.heap.size + 1) 27 #[.int .u8 k, .int .i64 who, .int .i64 now, .int .u64 mac, .int .i64 vr] := Blk.alloc (blk_new (by simp)) _
    replace HA0 := Lib.hid HA0
    have HR0 : Blk (((w.alloc (.cells #[.int .i64 po, .int .u64 ma, .int .i64 ow, .int .i64 ta, .int .i64 ol, .int .i64 ge, .int .i64 ph, .int .i64 ve, .int .i64 si] 25)).alloc (.cells #[.int .u8 k, .int .i64 who, .int .i64 now, .int .u64 mac, .int .i64 vr] 27)).alloc (.cells #[.int .i64 0, .int .u64 0, .int .i64 0, .int .i64 0, .int .i64 0, .int .i64 0, .int .i64 0, .int .i64 0, .int .i64 0] 25)) (w.heap.size + 1 + 1) 25 (rvC 0 0 0 0 0 0 0 0 0) := blk_new (by simp)
    replace HR0 := Lib.hid HR0
    have HX0 := Lib.hid ((((Chg.refl (fun _ => False) w).alloc (.cells #[.int .i64 po, .int .u64 ma, .int .i64 ow, .int .i64 ta, .int .i64 ol, .int .i64 ge, .int .i64 ph, .int .i64 ve, .int .i64 si] 25)).alloc (.cells #[.int .u8 k, .int .i64 who, .int .i64 now, .int .u64 mac, .int .i64 vr] 27)).alloc (.cells #[.int .i64 0, .int .u64 0, .int .i64 0, .int .i64 0, .int .i64 0, .int .i64 0, .int .i64 0, .int .i64 0, .int .i64 0] 25))
    go_enter Try.func6, Try.ntmps6
    go_upto_region 1 with fail
    generalize (((w.alloc (.cells #[.int .i64 po, .int .u64 ma, .int .i64 ow, .int .i64 ta, .int .i64 ol, .int .i64 ge, .int .i64 ph, .int .i64 ve, .int .i64 si] 25)).alloc (.cells #[.int .u8 k, .int .i64 who, .int .i64 now, .int .u64 mac, .int .i64 vr] 27)).alloc (.cells #[.int .i64 0, .int .u64 0, .int .i64 0, .int .i64 0, .int .i64 0, .int .i64 0, .int .i64 0, .int .i64 0, .int .i64 0] 25)) = w1 at *
    have a0 := HA0.out.cell 0
    have a1 := HA0.out.cell 1
    have a2 := HA0.out.cell 2
    have a3 := HA0.out.cell 3
    have a4 := HA0.out.cell 4
    simp only [List.getElem?_toArray, List.getElem?_cons_zero, List.getElem?_cons_succ] at a0 a1 a2 a3 a4
    obtain ⟨y0, y1, y2, y3, y4, y5, y6, y7, y8⟩ := rv_cells HQ0.out
    go_wp2_with fail
    refine (HD.out _).mono ?_
    rintro e w2 ⟨rfl, hc⟩
    replace HX0 := Lib.hid (HX0.out.trans hc (fun _ _ e => e))
    replace HQ0 := Lib.hid (HQ0.out.chg hc id)
    replace HR0 := Lib.hid (HR0.out.chg hc id)
    clear hc
    clear y0 y1 y2 y3 y4 y5 y6 y7 y8 a0 a1 a2 a3 a4
    obtain ⟨x0, x1, x2, x3, x4, x5, x6, x7, x8⟩ := rv_cells HR0.out
    obtain ⟨u0, u1, u2, u3, u4, u5, u6, u7, u8⟩ := rv_free9 HR0.out
    obtain ⟨r0, r1, r2, r3, r4, r5, r6, r7, r8, -, hcs⟩ := rv_put9 HR0.out z0 z1 z2 z3 z4 z5 z6 z7 z8
    have HF := Lib.hid (fresh_set HX0.out hcs (by omega))
    have RR := Lib.hid (And.intro r0 (And.intro r1 (And.intro r2 (And.intro r3 (And.intro r4 (And.intro r5 (And.intro r6 (And.intro r7 r8))))))))
    clear r0 r1 r2 r3 r4 r5 r6 r7 r8 hcs HR0 HX0
    go_wp2_with fail
    obtain ⟨r0, r1, r2, r3, r4, r5, r6, r7, r8⟩ := RR.out
    exact bodyPost_ret (v := .tuple #[.agg (rvC z0 z1 z2 z3 z4 z5 z6 z7 z8), .int .i64 ze]) (by simp [results, Try.results6, go_sem, rvC, r0, r1, r2, r3, r4, r5, r6, r7, r8]) rfl ⟨rfl, HF.out⟩
  · rw [show do9 ⟨po, ma, ow, ta, ol, ge, ph, ve, si⟩ k who now mac vr = aw9 ⟨po, ma, ow, ta, ol, ge, ph, ve, si⟩ who vr now from by simp [do9, h]]
    have hd := fun W => rawa_any po ma ow ta ol ge ph ve si who vr now W
    obtain ⟨z0, z1, z2, z3, z4, z5, z6, z7, z8, ze, hz⟩ := num9 (r := aw9 ⟨po, ma, ow, ta, ol, ge, ph, ve, si⟩ who vr now)
    rw [hz] at hd ⊢
    have HD : Hid (∀ W, Calls _ _ _ W (HR9 z0 z1 z2 z3 z4 z5 z6 z7 z8 ze W)) := Lib.hid hd
    clear hd hz
    have HQ0 : Blk (((w.alloc (.cells #[.int .i64 po, .int .u64 ma, .int .i64 ow, .int .i64 ta, .int .i64 ol, .int .i64 ge, .int .i64 ph, .int .i64 ve, .int .i64 si] 25)).alloc (.cells #[.int .u8 k, .int .i64 who, .int .i64 now, .int .u64 mac, .int .i64 vr] 27)).alloc (.cells #[.int .i64 0, .int .u64 0, .int .i64 0, .int .i64 0, .int .i64 0, .int .i64 0, .int .i64 0, .int .i64 0, .int .i64 0] 25)) w.heap.size 25 (rvC po ma ow ta ol ge ph ve si) := Blk.alloc (Blk.alloc (blk_new rfl) _) _
    replace HQ0 := Lib.hid HQ0
    have HA0 : Blk (((w.alloc (.cells #[.int .i64 po, .int .u64 ma, .int .i64 ow, .int .i64 ta, .int .i64 ol, .int .i64 ge, .int .i64 ph, .int .i64 ve, .int .i64 si] 25)).alloc (.cells #[.int .u8 k, .int .i64 who, .int .i64 now, .int .u64 mac, .int .i64 vr] 27)).alloc (.cells #[.int .i64 0, .int .u64 0, .int .i64 0, .int .i64 0, .int .i64 0, .int .i64 0, .int .i64 0, .int .i64 0, .int .i64 0] 25)) (w.heap.size + 1) 27 #[.int .u8 k, .int .i64 who, .int .i64 now, .int .u64 mac, .int .i64 vr] := Blk.alloc (blk_new (by simp)) _
    replace HA0 := Lib.hid HA0
    have HR0 : Blk (((w.alloc (.cells #[.int .i64 po, .int .u64 ma, .int .i64 ow, .int .i64 ta, .int .i64 ol, .int .i64 ge, .int .i64 ph, .int .i64 ve, .int .i64 si] 25)).alloc (.cells #[.int .u8 k, .int .i64 who, .int .i64 now, .int .u64 mac, .int .i64 vr] 27)).alloc (.cells #[.int .i64 0, .int .u64 0, .int .i64 0, .int .i64 0, .int .i64 0, .int .i64 0, .int .i64 0, .int .i64 0, .int .i64 0] 25)) (w.heap.size + 1 + 1) 25 (rvC 0 0 0 0 0 0 0 0 0) := blk_new (by simp)
    replace HR0 := Lib.hid HR0
    have HX0 := Lib.hid ((((Chg.refl (fun _ => False) w).alloc (.cells #[.int .i64 po, .int .u64 ma, .int .i64 ow, .int .i64 ta, .int .i64 ol, .int .i64 ge, .int .i64 ph, .int .i64 ve, .int .i64 si] 25)).alloc (.cells #[.int .u8 k, .int .i64 who, .int .i64 now, .int .u64 mac, .int .i64 vr] 27)).alloc (.cells #[.int .i64 0, .int .u64 0, .int .i64 0, .int .i64 0, .int .i64 0, .int .i64 0, .int .i64 0, .int .i64 0, .int .i64 0] 25))
    go_enter Try.func6, Try.ntmps6
    go_upto_region 1 with fail
    generalize (((w.alloc (.cells #[.int .i64 po, .int .u64 ma, .int .i64 ow, .int .i64 ta, .int .i64 ol, .int .i64 ge, .int .i64 ph, .int .i64 ve, .int .i64 si] 25)).alloc (.cells #[.int .u8 k, .int .i64 who, .int .i64 now, .int .u64 mac, .int .i64 vr] 27)).alloc (.cells #[.int .i64 0, .int .u64 0, .int .i64 0, .int .i64 0, .int .i64 0, .int .i64 0, .int .i64 0, .int .i64 0, .int .i64 0] 25)) = w1 at *
    have a0 := HA0.out.cell 0
    have a1 := HA0.out.cell 1
    have a2 := HA0.out.cell 2
    have a3 := HA0.out.cell 3
    have a4 := HA0.out.cell 4
    simp only [List.getElem?_toArray, List.getElem?_cons_zero, List.getElem?_cons_succ] at a0 a1 a2 a3 a4
    obtain ⟨y0, y1, y2, y3, y4, y5, y6, y7, y8⟩ := rv_cells HQ0.out
    go_wp2_with fail
    refine (HD.out _).mono ?_
    rintro e w2 ⟨rfl, hc⟩
    replace HX0 := Lib.hid (HX0.out.trans hc (fun _ _ e => e))
    replace HQ0 := Lib.hid (HQ0.out.chg hc id)
    replace HR0 := Lib.hid (HR0.out.chg hc id)
    clear hc
    clear y0 y1 y2 y3 y4 y5 y6 y7 y8 a0 a1 a2 a3 a4
    obtain ⟨x0, x1, x2, x3, x4, x5, x6, x7, x8⟩ := rv_cells HR0.out
    obtain ⟨u0, u1, u2, u3, u4, u5, u6, u7, u8⟩ := rv_free9 HR0.out
    obtain ⟨r0, r1, r2, r3, r4, r5, r6, r7, r8, -, hcs⟩ := rv_put9 HR0.out z0 z1 z2 z3 z4 z5 z6 z7 z8
    have HF := Lib.hid (fresh_set HX0.out hcs (by omega))
    have RR := Lib.hid (And.intro r0 (And.intro r1 (And.intro r2 (And.intro r3 (And.intro r4 (And.intro r5 (And.intro r6 (And.intro r7 r8))))))))
    clear r0 r1 r2 r3 r4 r5 r6 r7 r8 hcs HR0 HX0
    go_wp2_with fail
    obtain ⟨r0, r1, r2, r3, r4, r5, r6, r7, r8⟩ := RR.out
    exact bodyPost_ret (v := .tuple #[.agg (rvC z0 z1 z2 z3 z4 z5 z6 z7 z8), .int .i64 ze]) (by simp [results, Try.results6, go_sem, rvC, r0, r1, r2, r3, r4, r5, r6, r7, r8]) rfl ⟨rfl, HF.out⟩
  · rw [show do9 ⟨po, ma, ow, ta, ol, ge, ph, ve, si⟩ k who now mac vr = co9 ⟨po, ma, ow, ta, ol, ge, ph, ve, si⟩ now from by simp [do9, h]]
    have hd := fun W => rcom_any po ma ow ta ol ge ph ve si now W
    obtain ⟨z0, z1, z2, z3, z4, z5, z6, z7, z8, ze, hz⟩ := num9 (r := co9 ⟨po, ma, ow, ta, ol, ge, ph, ve, si⟩ now)
    rw [hz] at hd ⊢
    have HD : Hid (∀ W, Calls _ _ _ W (HR9 z0 z1 z2 z3 z4 z5 z6 z7 z8 ze W)) := Lib.hid hd
    clear hd hz
    have HQ0 : Blk (((w.alloc (.cells #[.int .i64 po, .int .u64 ma, .int .i64 ow, .int .i64 ta, .int .i64 ol, .int .i64 ge, .int .i64 ph, .int .i64 ve, .int .i64 si] 25)).alloc (.cells #[.int .u8 k, .int .i64 who, .int .i64 now, .int .u64 mac, .int .i64 vr] 27)).alloc (.cells #[.int .i64 0, .int .u64 0, .int .i64 0, .int .i64 0, .int .i64 0, .int .i64 0, .int .i64 0, .int .i64 0, .int .i64 0] 25)) w.heap.size 25 (rvC po ma ow ta ol ge ph ve si) := Blk.alloc (Blk.alloc (blk_new rfl) _) _
    replace HQ0 := Lib.hid HQ0
    have HA0 : Blk (((w.alloc (.cells #[.int .i64 po, .int .u64 ma, .int .i64 ow, .int .i64 ta, .int .i64 ol, .int .i64 ge, .int .i64 ph, .int .i64 ve, .int .i64 si] 25)).alloc (.cells #[.int .u8 k, .int .i64 who, .int .i64 now, .int .u64 mac, .int .i64 vr] 27)).alloc (.cells #[.int .i64 0, .int .u64 0, .int .i64 0, .int .i64 0, .int .i64 0, .int .i64 0, .int .i64 0, .int .i64 0, .int .i64 0] 25)) (w.heap.size + 1) 27 #[.int .u8 k, .int .i64 who, .int .i64 now, .int .u64 mac, .int .i64 vr] := Blk.alloc (blk_new (by simp)) _
    replace HA0 := Lib.hid HA0
    have HR0 : Blk (((w.alloc (.cells #[.int .i64 po, .int .u64 ma, .int .i64 ow, .int .i64 ta, .int .i64 ol, .int .i64 ge, .int .i64 ph, .int .i64 ve, .int .i64 si] 25)).alloc (.cells #[.int .u8 k, .int .i64 who, .int .i64 now, .int .u64 mac, .int .i64 vr] 27)).alloc (.cells #[.int .i64 0, .int .u64 0, .int .i64 0, .int .i64 0, .int .i64 0, .int .i64 0, .int .i64 0, .int .i64 0, .int .i64 0] 25)) (w.heap.size + 1 + 1) 25 (rvC 0 0 0 0 0 0 0 0 0) := blk_new (by simp)
    replace HR0 := Lib.hid HR0
    have HX0 := Lib.hid ((((Chg.refl (fun _ => False) w).alloc (.cells #[.int .i64 po, .int .u64 ma, .int .i64 ow, .int .i64 ta, .int .i64 ol, .int .i64 ge, .int .i64 ph, .int .i64 ve, .int .i64 si] 25)).alloc (.cells #[.int .u8 k, .int .i64 who, .int .i64 now, .int .u64 mac, .int .i64 vr] 27)).alloc (.cells #[.int .i64 0, .int .u64 0, .int .i64 0, .int .i64 0, .int .i64 0, .int .i64 0, .int .i64 0, .int .i64 0, .int .i64 0] 25))
    go_enter Try.func6, Try.ntmps6
    go_upto_region 1 with fail
    generalize (((w.alloc (.cells #[.int .i64 po, .int .u64 ma, .int .i64 ow, .int .i64 ta, .int .i64 ol, .int .i64 ge, .int .i64 ph, .int .i64 ve, .int .i64 si] 25)).alloc (.cells #[.int .u8 k, .int .i64 who, .int .i64 now, .int .u64 mac, .int .i64 vr] 27)).alloc (.cells #[.int .i64 0, .int .u64 0, .int .i64 0, .int .i64 0, .int .i64 0, .int .i64 0, .int .i64 0, .int .i64 0, .int .i64 0] 25)) = w1 at *
    have a0 := HA0.out.cell 0
    have a1 := HA0.out.cell 1
    have a2 := HA0.out.cell 2
    have a3 := HA0.out.cell 3
    have a4 := HA0.out.cell 4
    simp only [List.getElem?_toArray, List.getElem?_cons_zero, List.getElem?_cons_succ] at a0 a1 a2 a3 a4
    obtain ⟨y0, y1, y2, y3, y4, y5, y6, y7, y8⟩ := rv_cells HQ0.out
    go_wp2_with fail
    refine (HD.out _).mono ?_
    rintro e w2 ⟨rfl, hc⟩
    replace HX0 := Lib.hid (HX0.out.trans hc (fun _ _ e => e))
    replace HQ0 := Lib.hid (HQ0.out.chg hc id)
    replace HR0 := Lib.hid (HR0.out.chg hc id)
    clear hc
    clear y0 y1 y2 y3 y4 y5 y6 y7 y8 a0 a1 a2 a3 a4
    obtain ⟨x0, x1, x2, x3, x4, x5, x6, x7, x8⟩ := rv_cells HR0.out
    obtain ⟨u0, u1, u2, u3, u4, u5, u6, u7, u8⟩ := rv_free9 HR0.out
    obtain ⟨r0, r1, r2, r3, r4, r5, r6, r7, r8, -, hcs⟩ := rv_put9 HR0.out z0 z1 z2 z3 z4 z5 z6 z7 z8
    have HF := Lib.hid (fresh_set HX0.out hcs (by omega))
    have RR := Lib.hid (And.intro r0 (And.intro r1 (And.intro r2 (And.intro r3 (And.intro r4 (And.intro r5 (And.intro r6 (And.intro r7 r8))))))))
    clear r0 r1 r2 r3 r4 r5 r6 r7 r8 hcs HR0 HX0
    go_wp2_with fail
    obtain ⟨r0, r1, r2, r3, r4, r5, r6, r7, r8⟩ := RR.out
    exact bodyPost_ret (v := .tuple #[.agg (rvC z0 z1 z2 z3 z4 z5 z6 z7 z8), .int .i64 ze]) (by simp [results, Try.results6, go_sem, rvC, r0, r1, r2, r3, r4, r5, r6, r7, r8]) rfl ⟨rfl, HF.out⟩
  · rw [show do9 ⟨po, ma, ow, ta, ol, ge, ph, ve, si⟩ k who now mac vr = ab9 ⟨po, ma, ow, ta, ol, ge, ph, ve, si⟩ now from by simp [do9, h]]
    have hd := fun W => rabo_any po ma ow ta ol ge ph ve si now W
    obtain ⟨z0, z1, z2, z3, z4, z5, z6, z7, z8, ze, hz⟩ := num9 (r := ab9 ⟨po, ma, ow, ta, ol, ge, ph, ve, si⟩ now)
    rw [hz] at hd ⊢
    have HD : Hid (∀ W, Calls _ _ _ W (HR9 z0 z1 z2 z3 z4 z5 z6 z7 z8 ze W)) := Lib.hid hd
    clear hd hz
    have HQ0 : Blk (((w.alloc (.cells #[.int .i64 po, .int .u64 ma, .int .i64 ow, .int .i64 ta, .int .i64 ol, .int .i64 ge, .int .i64 ph, .int .i64 ve, .int .i64 si] 25)).alloc (.cells #[.int .u8 k, .int .i64 who, .int .i64 now, .int .u64 mac, .int .i64 vr] 27)).alloc (.cells #[.int .i64 0, .int .u64 0, .int .i64 0, .int .i64 0, .int .i64 0, .int .i64 0, .int .i64 0, .int .i64 0, .int .i64 0] 25)) w.heap.size 25 (rvC po ma ow ta ol ge ph ve si) := Blk.alloc (Blk.alloc (blk_new rfl) _) _
    replace HQ0 := Lib.hid HQ0
    have HA0 : Blk (((w.alloc (.cells #[.int .i64 po, .int .u64 ma, .int .i64 ow, .int .i64 ta, .int .i64 ol, .int .i64 ge, .int .i64 ph, .int .i64 ve, .int .i64 si] 25)).alloc (.cells #[.int .u8 k, .int .i64 who, .int .i64 now, .int .u64 mac, .int .i64 vr] 27)).alloc (.cells #[.int .i64 0, .int .u64 0, .int .i64 0, .int .i64 0, .int .i64 0, .int .i64 0, .int .i64 0, .int .i64 0, .int .i64 0] 25)) (w.heap.size + 1) 27 #[.int .u8 k, .int .i64 who, .int .i64 now, .int .u64 mac, .int .i64 vr] := Blk.alloc (blk_new (by simp)) _
    replace HA0 := Lib.hid HA0
    have HR0 : Blk (((w.alloc (.cells #[.int .i64 po, .int .u64 ma, .int .i64 ow, .int .i64 ta, .int .i64 ol, .int .i64 ge, .int .i64 ph, .int .i64 ve, .int .i64 si] 25)).alloc (.cells #[.int .u8 k, .int .i64 who, .int .i64 now, .int .u64 mac, .int .i64 vr] 27)).alloc (.cells #[.int .i64 0, .int .u64 0, .int .i64 0, .int .i64 0, .int .i64 0, .int .i64 0, .int .i64 0, .int .i64 0, .int .i64 0] 25)) (w.heap.size + 1 + 1) 25 (rvC 0 0 0 0 0 0 0 0 0) := blk_new (by simp)
    replace HR0 := Lib.hid HR0
    have HX0 := Lib.hid ((((Chg.refl (fun _ => False) w).alloc (.cells #[.int .i64 po, .int .u64 ma, .int .i64 ow, .int .i64 ta, .int .i64 ol, .int .i64 ge, .int .i64 ph, .int .i64 ve, .int .i64 si] 25)).alloc (.cells #[.int .u8 k, .int .i64 who, .int .i64 now, .int .u64 mac, .int .i64 vr] 27)).alloc (.cells #[.int .i64 0, .int .u64 0, .int .i64 0, .int .i64 0, .int .i64 0, .int .i64 0, .int .i64 0, .int .i64 0, .int .i64 0] 25))
    go_enter Try.func6, Try.ntmps6
    go_upto_region 1 with fail
    generalize (((w.alloc (.cells #[.int .i64 po, .int .u64 ma, .int .i64 ow, .int .i64 ta, .int .i64 ol, .int .i64 ge, .int .i64 ph, .int .i64 ve, .int .i64 si] 25)).alloc (.cells #[.int .u8 k, .int .i64 who, .int .i64 now, .int .u64 mac, .int .i64 vr] 27)).alloc (.cells #[.int .i64 0, .int .u64 0, .int .i64 0, .int .i64 0, .int .i64 0, .int .i64 0, .int .i64 0, .int .i64 0, .int .i64 0] 25)) = w1 at *
    have a0 := HA0.out.cell 0
    have a1 := HA0.out.cell 1
    have a2 := HA0.out.cell 2
    have a3 := HA0.out.cell 3
    have a4 := HA0.out.cell 4
    simp only [List.getElem?_toArray, List.getElem?_cons_zero, List.getElem?_cons_succ] at a0 a1 a2 a3 a4
    obtain ⟨y0, y1, y2, y3, y4, y5, y6, y7, y8⟩ := rv_cells HQ0.out
    go_wp2_with fail
    refine (HD.out _).mono ?_
    rintro e w2 ⟨rfl, hc⟩
    replace HX0 := Lib.hid (HX0.out.trans hc (fun _ _ e => e))
    replace HQ0 := Lib.hid (HQ0.out.chg hc id)
    replace HR0 := Lib.hid (HR0.out.chg hc id)
    clear hc
    clear y0 y1 y2 y3 y4 y5 y6 y7 y8 a0 a1 a2 a3 a4
    obtain ⟨x0, x1, x2, x3, x4, x5, x6, x7, x8⟩ := rv_cells HR0.out
    obtain ⟨u0, u1, u2, u3, u4, u5, u6, u7, u8⟩ := rv_free9 HR0.out
    obtain ⟨r0, r1, r2, r3, r4, r5, r6, r7, r8, -, hcs⟩ := rv_put9 HR0.out z0 z1 z2 z3 z4 z5 z6 z7 z8
    have HF := Lib.hid (fresh_set HX0.out hcs (by omega))
    have RR := Lib.hid (And.intro r0 (And.intro r1 (And.intro r2 (And.intro r3 (And.intro r4 (And.intro r5 (And.intro r6 (And.intro r7 r8))))))))
    clear r0 r1 r2 r3 r4 r5 r6 r7 r8 hcs HR0 HX0
    go_wp2_with fail
    obtain ⟨r0, r1, r2, r3, r4, r5, r6, r7, r8⟩ := RR.out
    exact bodyPost_ret (v := .tuple #[.agg (rvC z0 z1 z2 z3 z4 z5 z6 z7 z8), .int .i64 ze]) (by simp [results, Try.results6, go_sem, rvC, r0, r1, r2, r3, r4, r5, r6, r7, r8]) rfl ⟨rfl, HF.out⟩
  · rw [show do9 ⟨po, ma, ow, ta, ol, ge, ph, ve, si⟩ k who now mac vr = dr9 ⟨po, ma, ow, ta, ol, ge, ph, ve, si⟩ now from by simp [do9, h]]
    have hd := fun W => rdro_any po ma ow ta ol ge ph ve si now W
    obtain ⟨z0, z1, z2, z3, z4, z5, z6, z7, z8, ze, hz⟩ := num9 (r := dr9 ⟨po, ma, ow, ta, ol, ge, ph, ve, si⟩ now)
    rw [hz] at hd ⊢
    have HD : Hid (∀ W, Calls _ _ _ W (HR9 z0 z1 z2 z3 z4 z5 z6 z7 z8 ze W)) := Lib.hid hd
    clear hd hz
    have HQ0 : Blk (((w.alloc (.cells #[.int .i64 po, .int .u64 ma, .int .i64 ow, .int .i64 ta, .int .i64 ol, .int .i64 ge, .int .i64 ph, .int .i64 ve, .int .i64 si] 25)).alloc (.cells #[.int .u8 k, .int .i64 who, .int .i64 now, .int .u64 mac, .int .i64 vr] 27)).alloc (.cells #[.int .i64 0, .int .u64 0, .int .i64 0, .int .i64 0, .int .i64 0, .int .i64 0, .int .i64 0, .int .i64 0, .int .i64 0] 25)) w.heap.size 25 (rvC po ma ow ta ol ge ph ve si) := Blk.alloc (Blk.alloc (blk_new rfl) _) _
    replace HQ0 := Lib.hid HQ0
    have HA0 : Blk (((w.alloc (.cells #[.int .i64 po, .int .u64 ma, .int .i64 ow, .int .i64 ta, .int .i64 ol, .int .i64 ge, .int .i64 ph, .int .i64 ve, .int .i64 si] 25)).alloc (.cells #[.int .u8 k, .int .i64 who, .int .i64 now, .int .u64 mac, .int .i64 vr] 27)).alloc (.cells #[.int .i64 0, .int .u64 0, .int .i64 0, .int .i64 0, .int .i64 0, .int .i64 0, .int .i64 0, .int .i64 0, .int .i64 0] 25)) (w.heap.size + 1) 27 #[.int .u8 k, .int .i64 who, .int .i64 now, .int .u64 mac, .int .i64 vr] := Blk.alloc (blk_new (by simp)) _
    replace HA0 := Lib.hid HA0
    have HR0 : Blk (((w.alloc (.cells #[.int .i64 po, .int .u64 ma, .int .i64 ow, .int .i64 ta, .int .i64 ol, .int .i64 ge, .int .i64 ph, .int .i64 ve, .int .i64 si] 25)).alloc (.cells #[.int .u8 k, .int .i64 who, .int .i64 now, .int .u64 mac, .int .i64 vr] 27)).alloc (.cells #[.int .i64 0, .int .u64 0, .int .i64 0, .int .i64 0, .int .i64 0, .int .i64 0, .int .i64 0, .int .i64 0, .int .i64 0] 25)) (w.heap.size + 1 + 1) 25 (rvC 0 0 0 0 0 0 0 0 0) := blk_new (by simp)
    replace HR0 := Lib.hid HR0
    have HX0 := Lib.hid ((((Chg.refl (fun _ => False) w).alloc (.cells #[.int .i64 po, .int .u64 ma, .int .i64 ow, .int .i64 ta, .int .i64 ol, .int .i64 ge, .int .i64 ph, .int .i64 ve, .int .i64 si] 25)).alloc (.cells #[.int .u8 k, .int .i64 who, .int .i64 now, .int .u64 mac, .int .i64 vr] 27)).alloc (.cells #[.int .i64 0, .int .u64 0, .int .i64 0, .int .i64 0, .int .i64 0, .int .i64 0, .int .i64 0, .int .i64 0, .int .i64 0] 25))
    go_enter Try.func6, Try.ntmps6
    go_upto_region 1 with fail
    generalize (((w.alloc (.cells #[.int .i64 po, .int .u64 ma, .int .i64 ow, .int .i64 ta, .int .i64 ol, .int .i64 ge, .int .i64 ph, .int .i64 ve, .int .i64 si] 25)).alloc (.cells #[.int .u8 k, .int .i64 who, .int .i64 now, .int .u64 mac, .int .i64 vr] 27)).alloc (.cells #[.int .i64 0, .int .u64 0, .int .i64 0, .int .i64 0, .int .i64 0, .int .i64 0, .int .i64 0, .int .i64 0, .int .i64 0] 25)) = w1 at *
    have a0 := HA0.out.cell 0
    have a1 := HA0.out.cell 1
    have a2 := HA0.out.cell 2
    have a3 := HA0.out.cell 3
    have a4 := HA0.out.cell 4
    simp only [List.getElem?_toArray, List.getElem?_cons_zero, List.getElem?_cons_succ] at a0 a1 a2 a3 a4
    obtain ⟨y0, y1, y2, y3, y4, y5, y6, y7, y8⟩ := rv_cells HQ0.out
    go_wp2_with fail
    refine (HD.out _).mono ?_
    rintro e w2 ⟨rfl, hc⟩
    replace HX0 := Lib.hid (HX0.out.trans hc (fun _ _ e => e))
    replace HQ0 := Lib.hid (HQ0.out.chg hc id)
    replace HR0 := Lib.hid (HR0.out.chg hc id)
    clear hc
    clear y0 y1 y2 y3 y4 y5 y6 y7 y8 a0 a1 a2 a3 a4
    obtain ⟨x0, x1, x2, x3, x4, x5, x6, x7, x8⟩ := rv_cells HR0.out
    obtain ⟨u0, u1, u2, u3, u4, u5, u6, u7, u8⟩ := rv_free9 HR0.out
    obtain ⟨r0, r1, r2, r3, r4, r5, r6, r7, r8, -, hcs⟩ := rv_put9 HR0.out z0 z1 z2 z3 z4 z5 z6 z7 z8
    have HF := Lib.hid (fresh_set HX0.out hcs (by omega))
    have RR := Lib.hid (And.intro r0 (And.intro r1 (And.intro r2 (And.intro r3 (And.intro r4 (And.intro r5 (And.intro r6 (And.intro r7 r8))))))))
    clear r0 r1 r2 r3 r4 r5 r6 r7 r8 hcs HR0 HX0
    go_wp2_with fail
    obtain ⟨r0, r1, r2, r3, r4, r5, r6, r7, r8⟩ := RR.out
    exact bodyPost_ret (v := .tuple #[.agg (rvC z0 z1 z2 z3 z4 z5 z6 z7 z8), .int .i64 ze]) (by simp [results, Try.results6, go_sem, rvC, r0, r1, r2, r3, r4, r5, r6, r7, r8]) rfl ⟨rfl, HF.out⟩
  · rw [show do9 ⟨po, ma, ow, ta, ol, ge, ph, ve, si⟩ k who now mac vr = ((lt9 ⟨po, ma, ow, ta, ol, ge, ph, ve, si⟩ now vr).1, if (lt9 ⟨po, ma, ow, ta, ol, ge, ph, ve, si⟩ now vr).2 = true then 0 else 4) from by simp [do9, h]]
    have hd := fun W => rlate_any po ma ow ta ol ge ph ve si now vr W hvr
    generalize lt9 ⟨po, ma, ow, ta, ol, ge, ph, ve, si⟩ now vr = r at *
    obtain ⟨⟨z0, z1, z2, z3, z4, z5, z6, z7, z8⟩, rb⟩ := r
    have HD : Hid (∀ W, Calls _ _ _ W (HB9 z0 z1 z2 z3 z4 z5 z6 z7 z8 rb W)) := Lib.hid hd
    clear hd
    cases rb with
    | false =>
      change Calls _ _ _ _ (HR (⟨z0, z1, z2, z3, z4, z5, z6, z7, z8⟩, 4) w)
      have HQ0 : Blk (((w.alloc (.cells #[.int .i64 po, .int .u64 ma, .int .i64 ow, .int .i64 ta, .int .i64 ol, .int .i64 ge, .int .i64 ph, .int .i64 ve, .int .i64 si] 25)).alloc (.cells #[.int .u8 k, .int .i64 who, .int .i64 now, .int .u64 mac, .int .i64 vr] 27)).alloc (.cells #[.int .i64 0, .int .u64 0, .int .i64 0, .int .i64 0, .int .i64 0, .int .i64 0, .int .i64 0, .int .i64 0, .int .i64 0] 25)) w.heap.size 25 (rvC po ma ow ta ol ge ph ve si) := Blk.alloc (Blk.alloc (blk_new rfl) _) _
      replace HQ0 := Lib.hid HQ0
      have HA0 : Blk (((w.alloc (.cells #[.int .i64 po, .int .u64 ma, .int .i64 ow, .int .i64 ta, .int .i64 ol, .int .i64 ge, .int .i64 ph, .int .i64 ve, .int .i64 si] 25)).alloc (.cells #[.int .u8 k, .int .i64 who, .int .i64 now, .int .u64 mac, .int .i64 vr] 27)).alloc (.cells #[.int .i64 0, .int .u64 0, .int .i64 0, .int .i64 0, .int .i64 0, .int .i64 0, .int .i64 0, .int .i64 0, .int .i64 0] 25)) (w.heap.size + 1) 27 #[.int .u8 k, .int .i64 who, .int .i64 now, .int .u64 mac, .int .i64 vr] := Blk.alloc (blk_new (by simp)) _
      replace HA0 := Lib.hid HA0
      have HR0 : Blk (((w.alloc (.cells #[.int .i64 po, .int .u64 ma, .int .i64 ow, .int .i64 ta, .int .i64 ol, .int .i64 ge, .int .i64 ph, .int .i64 ve, .int .i64 si] 25)).alloc (.cells #[.int .u8 k, .int .i64 who, .int .i64 now, .int .u64 mac, .int .i64 vr] 27)).alloc (.cells #[.int .i64 0, .int .u64 0, .int .i64 0, .int .i64 0, .int .i64 0, .int .i64 0, .int .i64 0, .int .i64 0, .int .i64 0] 25)) (w.heap.size + 1 + 1) 25 (rvC 0 0 0 0 0 0 0 0 0) := blk_new (by simp)
      replace HR0 := Lib.hid HR0
      have HX0 := Lib.hid ((((Chg.refl (fun _ => False) w).alloc (.cells #[.int .i64 po, .int .u64 ma, .int .i64 ow, .int .i64 ta, .int .i64 ol, .int .i64 ge, .int .i64 ph, .int .i64 ve, .int .i64 si] 25)).alloc (.cells #[.int .u8 k, .int .i64 who, .int .i64 now, .int .u64 mac, .int .i64 vr] 27)).alloc (.cells #[.int .i64 0, .int .u64 0, .int .i64 0, .int .i64 0, .int .i64 0, .int .i64 0, .int .i64 0, .int .i64 0, .int .i64 0] 25))
      go_enter Try.func6, Try.ntmps6
      go_upto_region 1 with fail
      generalize (((w.alloc (.cells #[.int .i64 po, .int .u64 ma, .int .i64 ow, .int .i64 ta, .int .i64 ol, .int .i64 ge, .int .i64 ph, .int .i64 ve, .int .i64 si] 25)).alloc (.cells #[.int .u8 k, .int .i64 who, .int .i64 now, .int .u64 mac, .int .i64 vr] 27)).alloc (.cells #[.int .i64 0, .int .u64 0, .int .i64 0, .int .i64 0, .int .i64 0, .int .i64 0, .int .i64 0, .int .i64 0, .int .i64 0] 25)) = w1 at *
      have a0 := HA0.out.cell 0
      have a1 := HA0.out.cell 1
      have a2 := HA0.out.cell 2
      have a3 := HA0.out.cell 3
      have a4 := HA0.out.cell 4
      simp only [List.getElem?_toArray, List.getElem?_cons_zero, List.getElem?_cons_succ] at a0 a1 a2 a3 a4
      obtain ⟨y0, y1, y2, y3, y4, y5, y6, y7, y8⟩ := rv_cells HQ0.out
      go_wp2_with fail
      refine (HD.out _).mono ?_
      rintro e w2 ⟨rfl, hc⟩
      replace HX0 := Lib.hid (HX0.out.trans hc (fun _ _ e => e))
      replace HQ0 := Lib.hid (HQ0.out.chg hc id)
      replace HR0 := Lib.hid (HR0.out.chg hc id)
      clear hc
      clear y0 y1 y2 y3 y4 y5 y6 y7 y8 a0 a1 a2 a3 a4
      go_upto_region 15 with fail
      have hN := Lib.hid (Blk.new w2 25 #[.int .i64 z0, .int .u64 z1, .int .i64 z2, .int .i64 z3, .int .i64 z4, .int .i64 z5, .int .i64 z6, .int .i64 z7, .int .i64 z8])
      have hg3 : w.heap.size + 2 ≤ w2.heap.size := by have := (Blk.lt HR0.out); omega
      generalize hgn : w2.heap.size = g at *
      replace HX0 := Lib.hid (HX0.out.alloc (.cells #[.int .i64 z0, .int .u64 z1, .int .i64 z2, .int .i64 z3, .int .i64 z4, .int .i64 z5, .int .i64 z6, .int .i64 z7, .int .i64 z8] 25))
      replace HR0 := Lib.hid (HR0.out.alloc (.cells #[.int .i64 z0, .int .u64 z1, .int .i64 z2, .int .i64 z3, .int .i64 z4, .int .i64 z5, .int .i64 z6, .int .i64 z7, .int .i64 z8] 25))
      replace hN : Hid (Blk _ g 25 (rvC z0 z1 z2 z3 z4 z5 z6 z7 z8)) := hN
      clear hgn HQ0 HA0
      generalize w2.alloc (.cells #[.int .i64 z0, .int .u64 z1, .int .i64 z2, .int .i64 z3, .int .i64 z4, .int .i64 z5, .int .i64 z6, .int .i64 z7, .int .i64 z8] 25) = w3 at *
      obtain ⟨y0, y1, y2, y3, y4, y5, y6, y7, y8⟩ := rv_cells hN.out
      obtain ⟨x0, x1, x2, x3, x4, x5, x6, x7, x8⟩ := rv_cells HR0.out
      obtain ⟨u0, u1, u2, u3, u4, u5, u6, u7, u8⟩ := rv_free9 HR0.out
      obtain ⟨r0, r1, r2, r3, r4, r5, r6, r7, r8, -, hcs⟩ := rv_put9 HR0.out z0 z1 z2 z3 z4 z5 z6 z7 z8
      have HF := Lib.hid (fresh_set HX0.out hcs (by omega))
      have RR := Lib.hid (And.intro r0 (And.intro r1 (And.intro r2 (And.intro r3 (And.intro r4 (And.intro r5 (And.intro r6 (And.intro r7 r8))))))))
      clear r0 r1 r2 r3 r4 r5 r6 r7 r8 hcs HR0 HX0
      go_wp2_with fail
      obtain ⟨r0, r1, r2, r3, r4, r5, r6, r7, r8⟩ := RR.out
      exact bodyPost_ret (v := .tuple #[.agg (rvC z0 z1 z2 z3 z4 z5 z6 z7 z8), .int .i64 4]) (by simp [results, Try.results6, go_sem, rvC, r0, r1, r2, r3, r4, r5, r6, r7, r8]) rfl ⟨rfl, HF.out⟩
    | true =>
      change Calls _ _ _ _ (HR (⟨z0, z1, z2, z3, z4, z5, z6, z7, z8⟩, 0) w)
      have HQ0 : Blk (((w.alloc (.cells #[.int .i64 po, .int .u64 ma, .int .i64 ow, .int .i64 ta, .int .i64 ol, .int .i64 ge, .int .i64 ph, .int .i64 ve, .int .i64 si] 25)).alloc (.cells #[.int .u8 k, .int .i64 who, .int .i64 now, .int .u64 mac, .int .i64 vr] 27)).alloc (.cells #[.int .i64 0, .int .u64 0, .int .i64 0, .int .i64 0, .int .i64 0, .int .i64 0, .int .i64 0, .int .i64 0, .int .i64 0] 25)) w.heap.size 25 (rvC po ma ow ta ol ge ph ve si) := Blk.alloc (Blk.alloc (blk_new rfl) _) _
      replace HQ0 := Lib.hid HQ0
      have HA0 : Blk (((w.alloc (.cells #[.int .i64 po, .int .u64 ma, .int .i64 ow, .int .i64 ta, .int .i64 ol, .int .i64 ge, .int .i64 ph, .int .i64 ve, .int .i64 si] 25)).alloc (.cells #[.int .u8 k, .int .i64 who, .int .i64 now, .int .u64 mac, .int .i64 vr] 27)).alloc (.cells #[.int .i64 0, .int .u64 0, .int .i64 0, .int .i64 0, .int .i64 0, .int .i64 0, .int .i64 0, .int .i64 0, .int .i64 0] 25)) (w.heap.size + 1) 27 #[.int .u8 k, .int .i64 who, .int .i64 now, .int .u64 mac, .int .i64 vr] := Blk.alloc (blk_new (by simp)) _
      replace HA0 := Lib.hid HA0
      have HR0 : Blk (((w.alloc (.cells #[.int .i64 po, .int .u64 ma, .int .i64 ow, .int .i64 ta, .int .i64 ol, .int .i64 ge, .int .i64 ph, .int .i64 ve, .int .i64 si] 25)).alloc (.cells #[.int .u8 k, .int .i64 who, .int .i64 now, .int .u64 mac, .int .i64 vr] 27)).alloc (.cells #[.int .i64 0, .int .u64 0, .int .i64 0, .int .i64 0, .int .i64 0, .int .i64 0, .int .i64 0, .int .i64 0, .int .i64 0] 25)) (w.heap.size + 1 + 1) 25 (rvC 0 0 0 0 0 0 0 0 0) := blk_new (by simp)
      replace HR0 := Lib.hid HR0
      have HX0 := Lib.hid ((((Chg.refl (fun _ => False) w).alloc (.cells #[.int .i64 po, .int .u64 ma, .int .i64 ow, .int .i64 ta, .int .i64 ol, .int .i64 ge, .int .i64 ph, .int .i64 ve, .int .i64 si] 25)).alloc (.cells #[.int .u8 k, .int .i64 who, .int .i64 now, .int .u64 mac, .int .i64 vr] 27)).alloc (.cells #[.int .i64 0, .int .u64 0, .int .i64 0, .int .i64 0, .int .i64 0, .int .i64 0, .int .i64 0, .int .i64 0, .int .i64 0] 25))
      go_enter Try.func6, Try.ntmps6
      go_upto_region 1 with fail
      generalize (((w.alloc (.cells #[.int .i64 po, .int .u64 ma, .int .i64 ow, .int .i64 ta, .int .i64 ol, .int .i64 ge, .int .i64 ph, .int .i64 ve, .int .i64 si] 25)).alloc (.cells #[.int .u8 k, .int .i64 who, .int .i64 now, .int .u64 mac, .int .i64 vr] 27)).alloc (.cells #[.int .i64 0, .int .u64 0, .int .i64 0, .int .i64 0, .int .i64 0, .int .i64 0, .int .i64 0, .int .i64 0, .int .i64 0] 25)) = w1 at *
      have a0 := HA0.out.cell 0
      have a1 := HA0.out.cell 1
      have a2 := HA0.out.cell 2
      have a3 := HA0.out.cell 3
      have a4 := HA0.out.cell 4
      simp only [List.getElem?_toArray, List.getElem?_cons_zero, List.getElem?_cons_succ] at a0 a1 a2 a3 a4
      obtain ⟨y0, y1, y2, y3, y4, y5, y6, y7, y8⟩ := rv_cells HQ0.out
      go_wp2_with fail
      refine (HD.out _).mono ?_
      rintro e w2 ⟨rfl, hc⟩
      replace HX0 := Lib.hid (HX0.out.trans hc (fun _ _ e => e))
      replace HQ0 := Lib.hid (HQ0.out.chg hc id)
      replace HR0 := Lib.hid (HR0.out.chg hc id)
      clear hc
      clear y0 y1 y2 y3 y4 y5 y6 y7 y8 a0 a1 a2 a3 a4
      go_upto_region 15 with fail
      have hN := Lib.hid (Blk.new w2 25 #[.int .i64 z0, .int .u64 z1, .int .i64 z2, .int .i64 z3, .int .i64 z4, .int .i64 z5, .int .i64 z6, .int .i64 z7, .int .i64 z8])
      have hg3 : w.heap.size + 2 ≤ w2.heap.size := by have := (Blk.lt HR0.out); omega
      generalize hgn : w2.heap.size = g at *
      replace HX0 := Lib.hid (HX0.out.alloc (.cells #[.int .i64 z0, .int .u64 z1, .int .i64 z2, .int .i64 z3, .int .i64 z4, .int .i64 z5, .int .i64 z6, .int .i64 z7, .int .i64 z8] 25))
      replace HR0 := Lib.hid (HR0.out.alloc (.cells #[.int .i64 z0, .int .u64 z1, .int .i64 z2, .int .i64 z3, .int .i64 z4, .int .i64 z5, .int .i64 z6, .int .i64 z7, .int .i64 z8] 25))
      replace hN : Hid (Blk _ g 25 (rvC z0 z1 z2 z3 z4 z5 z6 z7 z8)) := hN
      clear hgn HQ0 HA0
      generalize w2.alloc (.cells #[.int .i64 z0, .int .u64 z1, .int .i64 z2, .int .i64 z3, .int .i64 z4, .int .i64 z5, .int .i64 z6, .int .i64 z7, .int .i64 z8] 25) = w3 at *
      obtain ⟨y0, y1, y2, y3, y4, y5, y6, y7, y8⟩ := rv_cells hN.out
      obtain ⟨x0, x1, x2, x3, x4, x5, x6, x7, x8⟩ := rv_cells HR0.out
      obtain ⟨u0, u1, u2, u3, u4, u5, u6, u7, u8⟩ := rv_free9 HR0.out
      obtain ⟨r0, r1, r2, r3, r4, r5, r6, r7, r8, -, hcs⟩ := rv_put9 HR0.out z0 z1 z2 z3 z4 z5 z6 z7 z8
      have HF := Lib.hid (fresh_set HX0.out hcs (by omega))
      have RR := Lib.hid (And.intro r0 (And.intro r1 (And.intro r2 (And.intro r3 (And.intro r4 (And.intro r5 (And.intro r6 (And.intro r7 r8))))))))
      clear r0 r1 r2 r3 r4 r5 r6 r7 r8 hcs HR0 HX0
      go_wp2_with fail
      obtain ⟨r0, r1, r2, r3, r4, r5, r6, r7, r8⟩ := RR.out
      exact bodyPost_ret (v := .tuple #[.agg (rvC z0 z1 z2 z3 z4 z5 z6 z7 z8), .int .i64 0]) (by simp [results, Try.results6, go_sem, rvC, r0, r1, r2, r3, r4, r5, r6, r7, r8]) rfl ⟨rfl, HF.out⟩


end Go.Proofs.Ytbigcebpfbfddaa
