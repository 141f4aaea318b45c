/-
  Walks: store.Row, Rows, Find, each on nil too. Conditions: the store lies in memory.
-/
import Derived.Test.YtimgnogacanifaaGreatPc
import Derived.Deep.LoopGhost
import Derived.Laws.StructEq
namespace Go.Proofs.YtimgnogacanifaaGreat
open Go.RowKit
set_option linter.unusedVariables false
set_option linter.unusedSimpArgs false

set_option maxRecDepth 100000 in
set_option maxHeartbeats 2000000 in
theorem srow_any {B : Nat} {w : World} {p bc br : Nat} {C : Int → Bool} {R : Int → Option RV} (h : CS B w p bc br C R) (z : Int) : Calls Tryz.prog 77 #[.pointer (some ⟨p, 0, none⟩), .int .i64 z] w (HB (rowB10 (R z)) w) := by
  have HS0 := Lib.hid h
  clear h
  obtain ⟨po, ma, ow, ta, ol, ge, ph, ve, si, hv⟩ := rv_letters ((R z).getD z9)
  rw [show rowB10 (R z) = (⟨po, ma, ow, ta, ol, ge, ph, ve, si⟩, (R z).isSome) from by unfold rowB10; rw [hv]]
  have HL : Hid (∀ W, CS B W p bc br C R → (Instr.lookup 85 (.map (some br)) (.int .i64 z) true).run Tryz.prog W = .ok (.tuple #[.agg #[.int .i64 po, .int .u64 ma, .int .i64 ow, .int .i64 ta, .int .i64 ol, .int .i64 ge, .int .i64 ph, .int .i64 ve, .int .i64 si], .bool (R z).isSome]) W) := Lib.hid (fun W hW => by have := hW.lookR z; rw [hv] at this; exact this)
  clear hv
  generalize (R z).isSome = bb at *
  have HR0 : Blk (w.alloc (.cells #[.int .i64 0, .int .u64 0, .int .i64 0, .int .i64 0, .int .i64 0, .int .i64 0, .int .i64 0, .int .i64 0, .int .i64 0] 40)) w.heap.size 40 (rvC 0 0 0 0 0 0 0 0 0) := blk_new rfl
  replace HR0 := Lib.hid HR0
  have HX0 := Lib.hid ((Chg.refl (fun _ => False) w).alloc (.cells #[.int .i64 0, .int .u64 0, .int .i64 0, .int .i64 0, .int .i64 0, .int .i64 0, .int .i64 0, .int .i64 0, .int .i64 0] 40))
  replace HS0 := Lib.hid (HS0.out.keep HX0.out)
  go_enter Tryz.func77, Tryz.ntmps77
  go_upto_region 1 with fail
  generalize (w.alloc (.cells #[.int .i64 0, .int .u64 0, .int .i64 0, .int .i64 0, .int .i64 0, .int .i64 0, .int .i64 0, .int .i64 0, .int .i64 0] 40)) = w1 at *
  obtain ⟨c0, c1⟩ := HS0.out.cells
  have hl := HL.out _ HS0.out
  go_upto_region 4 with fail
  clear c0 c1 hl
  have HN : Blk (w1.alloc (.cells #[.int .i64 po, .int .u64 ma, .int .i64 ow, .int .i64 ta, .int .i64 ol, .int .i64 ge, .int .i64 ph, .int .i64 ve, .int .i64 si] 40)) w1.heap.size 40 (rvC po ma ow ta ol ge ph ve si) := blk_new rfl
  replace HN := Lib.hid HN
  replace HX0 := Lib.hid (HX0.out.alloc (.cells #[.int .i64 po, .int .u64 ma, .int .i64 ow, .int .i64 ta, .int .i64 ol, .int .i64 ge, .int .i64 ph, .int .i64 ve, .int .i64 si] 40))
  try replace HR0 := Lib.hid (HR0.out.alloc (.cells #[.int .i64 po, .int .u64 ma, .int .i64 ow, .int .i64 ta, .int .i64 ol, .int .i64 ge, .int .i64 ph, .int .i64 ve, .int .i64 si] 40))
  replace HS0 := Lib.hid (HS0.out.keep ((Chg.refl (fun _ => False) w1).alloc (.cells #[.int .i64 po, .int .u64 ma, .int .i64 ow, .int .i64 ta, .int .i64 ol, .int .i64 ge, .int .i64 ph, .int .i64 ve, .int .i64 si] 40)))
  generalize (w1.alloc (.cells #[.int .i64 po, .int .u64 ma, .int .i64 ow, .int .i64 ta, .int .i64 ol, .int .i64 ge, .int .i64 ph, .int .i64 ve, .int .i64 si] 40)) = w2 at *
  obtain ⟨y0, y1, y2, y3, y4, y5, y6, y7, y8⟩ := rv_cells HN.out
  obtain ⟨x0, x1, x2, x3, x4, x5, x6, x7, x8⟩ := rv_cells HR0.out
  obtain ⟨u0, u1, u2, u3, u4, u5, u6, u7, u8⟩ := rv_free9 HR0.out
  obtain ⟨r0, r1, r2, r3, r4, r5, r6, r7, r8, -, hcs⟩ := rv_put9 HR0.out po ma ow ta ol ge ph ve si
  have HF := Lib.hid (fresh_set HX0.out hcs (by omega))
  have RR := Lib.hid (And.intro r0 (And.intro r1 (And.intro r2 (And.intro r3 (And.intro r4 (And.intro r5 (And.intro r6 (And.intro r7 r8))))))))
  clear r0 r1 r2 r3 r4 r5 r6 r7 r8 hcs HR0 HX0
  go_wp2_with fail
  obtain ⟨r0, r1, r2, r3, r4, r5, r6, r7, r8⟩ := RR.out
  exact bodyPost_ret (v := .tuple #[.agg (rvC po ma ow ta ol ge ph ve si), .bool bb]) (by simp [results, Tryz.results77, go_sem, rvC, r0, r1, r2, r3, r4, r5, r6, r7, r8]) rfl ⟨rfl, HF.out⟩

set_option maxRecDepth 100000 in
set_option maxHeartbeats 2000000 in
theorem srow_nil (z : Int) (w : World) : Calls Tryz.prog 77 #[.pointer none, .int .i64 z] w (HB (z9, false) w) := by
  have HR0 : Blk (w.alloc (.cells #[.int .i64 0, .int .u64 0, .int .i64 0, .int .i64 0, .int .i64 0, .int .i64 0, .int .i64 0, .int .i64 0, .int .i64 0] 40)) w.heap.size 40 (rvC 0 0 0 0 0 0 0 0 0) := blk_new rfl
  replace HR0 := Lib.hid HR0
  have HX0 := Lib.hid ((Chg.refl (fun _ => False) w).alloc (.cells #[.int .i64 0, .int .u64 0, .int .i64 0, .int .i64 0, .int .i64 0, .int .i64 0, .int .i64 0, .int .i64 0, .int .i64 0] 40))
  go_enter Tryz.func77, Tryz.ntmps77
  go_upto_region 2 with fail
  generalize (w.alloc (.cells #[.int .i64 0, .int .u64 0, .int .i64 0, .int .i64 0, .int .i64 0, .int .i64 0, .int .i64 0, .int .i64 0, .int .i64 0] 40)) = w1 at *
  obtain ⟨x0, x1, x2, x3, x4, x5, x6, x7, x8⟩ := rv_cells HR0.out
  obtain ⟨u0, u1, u2, u3, u4, u5, u6, u7, u8⟩ := rv_free9 HR0.out
  obtain ⟨r0, r1, r2, r3, r4, r5, r6, r7, r8, -, hcs⟩ := rv_put9 HR0.out 0 0 0 0 0 0 0 0 0
  have HF := Lib.hid (fresh_set HX0.out hcs (by omega))
  have RR := Lib.hid (And.intro r0 (And.intro r1 (And.intro r2 (And.intro r3 (And.intro r4 (And.intro r5 (And.intro r6 (And.intro r7 r8))))))))
  clear r0 r1 r2 r3 r4 r5 r6 r7 r8 hcs HR0 HX0
  go_wp2_with fail
  obtain ⟨r0, r1, r2, r3, r4, r5, r6, r7, r8⟩ := RR.out
  exact bodyPost_ret (v := .tuple #[.agg (rvC 0 0 0 0 0 0 0 0 0), .bool false]) (by simp [results, Tryz.results77, go_sem, rvC, r0, r1, r2, r3, r4, r5, r6, r7, r8]) rfl ⟨rfl, HF.out⟩

set_option maxRecDepth 100000 in
set_option maxHeartbeats 4000000 in
theorem srows_any {B : Nat} {w : World} {p bc br : Nat} {C : Int → Bool} {R : Int → Option RV} (h : CS B w p bc br C R) : Calls Tryz.prog 38 #[.pointer (some ⟨p, 0, none⟩)] w (NewS 40 9 RV.cs (rowsP R) w) := by
  have HS0 := Lib.hid h
  clear h
  obtain ⟨i0, hi, hz0, hz1, hz2⟩ := info_parts infoRow10
  have HI := Lib.hid (And.intro hi (And.intro hz0 (And.intro hz1 hz2)))
  clear hi hz0 hz1 hz2
  go_enter Tryz.func38, Tryz.ntmps38
  go_wp2_with fail
  go_loopg [3, 4, 5, 6, 7] 32 (fun g s3 s4 s5 s6 i wr => ∃ (j n c : Nat) (A : Option Addr), g = 32 - j ∧ j ≤ 32 ∧ i = .int .i64 (j : Int) ∧ s3 = .slice A n c ∧ Hid (n = (rowsK R j).length) ∧ Hid (wr.ownsRow w.heap.size 40 9 (.slice A n c) n ((rowsK R j).flatMap fun x => x.cs.toList)) ∧ Hid (Chg (fun _ => False) w wr))
  case atStart => exact ⟨0, 0, 0, none, rfl, by omega, rfl, rfl, Lib.hid rfl, Lib.hid own_nilv, Lib.hid (Chg.refl _ _)⟩
  case round =>
    obtain ⟨j, n, c, A, rfl, hj, rfl, rfl, HN, HO, HX0⟩ := hrel
    have hkl := rowsK_len R j
    have hn32 : n ≤ 32 := by have := HN.out; omega
    clear hkl
    by_cases hlt : j < 32
    · have hr := srow_any (HS0.out.keep HX0.out) (j : Int)
      have hk := rowsK_succ R j
      cases hRj : R (j : Int) with
      | none =>
        rw [hRj] at hr hk
        simp only [Option.toList_none, List.append_nil] at hk
        have hr : Calls _ _ _ _ (HB9 0 0 0 0 0 0 0 0 0 false wr) := hr
        have HK := Lib.hid hk
        clear hk hRj
        go_wp2_with fail
        refine hr.mono ?_
        rintro e w1 ⟨rfl, hc⟩
        replace HX0 := Lib.hid (HX0.out.trans hc (fun _ _ e => e))
        replace HO := Lib.hid (own_chg HO.out hc (fun _ _ => id))
        clear hr hc
        go_upto_region 6 with fail
        replace HX0 := Lib.hid (HX0.out.alloc (.cells #[.int .i64 0, .int .u64 0, .int .i64 0, .int .i64 0, .int .i64 0, .int .i64 0, .int .i64 0, .int .i64 0, .int .i64 0] 40))
        replace HO := Lib.hid (own_chg HO.out ((Chg.refl (fun _ => False) w1).alloc (.cells #[.int .i64 0, .int .u64 0, .int .i64 0, .int .i64 0, .int .i64 0, .int .i64 0, .int .i64 0, .int .i64 0, .int .i64 0] 40)) (fun _ _ => id))
        generalize (w1.alloc (.cells #[.int .i64 0, .int .u64 0, .int .i64 0, .int .i64 0, .int .i64 0, .int .i64 0, .int .i64 0, .int .i64 0, .int .i64 0] 40)) = w2 at *
        go_wp2_with fail
        go_roundg (32 - (j + 1))
        case measure => omega
        case rel => exact ⟨j + 1, n, c, A, rfl, by omega, by go_num, rfl, Lib.hid (by rw [HK.out]; exact HN.out), Lib.hid (by rw [HK.out]; exact HO.out), HX0⟩
      | some x =>
        obtain ⟨po, ma, ow, ta, ol, ge, ph, ve, si, rfl⟩ := rv_letters x
        rw [hRj] at hr hk
        simp only [Option.toList_some] at hk
        have hr : Calls _ _ _ _ (HB9 po ma ow ta ol ge ph ve si true wr) := hr
        have HK := Lib.hid hk
        clear hk hRj
        go_wp2_with fail
        refine hr.mono ?_
        rintro e w1 ⟨rfl, hc⟩
        replace HX0 := Lib.hid (HX0.out.trans hc (fun _ _ e => e))
        replace HO := Lib.hid (own_chg HO.out hc (fun _ _ => id))
        clear hr hc
        go_upto_region 6 with fail
        have HQ0 : Blk (w1.alloc (.cells #[.int .i64 po, .int .u64 ma, .int .i64 ow, .int .i64 ta, .int .i64 ol, .int .i64 ge, .int .i64 ph, .int .i64 ve, .int .i64 si] 40)) w1.heap.size 40 (rvC po ma ow ta ol ge ph ve si) := blk_new rfl
        replace HQ0 := Lib.hid HQ0
        replace HX0 := Lib.hid (HX0.out.alloc (.cells #[.int .i64 po, .int .u64 ma, .int .i64 ow, .int .i64 ta, .int .i64 ol, .int .i64 ge, .int .i64 ph, .int .i64 ve, .int .i64 si] 40))
        replace HO := Lib.hid (own_chg HO.out ((Chg.refl (fun _ => False) w1).alloc (.cells #[.int .i64 po, .int .u64 ma, .int .i64 ow, .int .i64 ta, .int .i64 ol, .int .i64 ge, .int .i64 ph, .int .i64 ve, .int .i64 si] 40)) (fun _ _ => id))
        generalize (w1.alloc (.cells #[.int .i64 po, .int .u64 ma, .int .i64 ow, .int .i64 ta, .int .i64 ol, .int .i64 ge, .int .i64 ph, .int .i64 ve, .int .i64 si] 40)) = w2 at *
        obtain ⟨y0, y1, y2, y3, y4, y5, y6, y7, y8⟩ := rv_cells HQ0.out
        have hown := own_chg HO.out ((Chg.refl (fun _ => False) w2).alloc (.cells #[.int .i64 po, .int .u64 ma, .int .i64 ow, .int .i64 ta, .int .i64 ol, .int .i64 ge, .int .i64 ph, .int .i64 ve, .int .i64 si] 40)) (fun _ _ => id)
        have hsz : w.heap.size ≤ (w2.alloc (.cells #[.int .i64 po, .int .u64 ma, .int .i64 ow, .int .i64 ta, .int .i64 ol, .int .i64 ge, .int .i64 ph, .int .i64 ve, .int .i64 si] 40)).heap.size := by have := HX0.out.size; simp; omega
        have hxa := HX0.out.alloc (.cells #[.int .i64 po, .int .u64 ma, .int .i64 ow, .int .i64 ta, .int .i64 ol, .int .i64 ge, .int .i64 ph, .int .i64 ve, .int .i64 si] 40)
        obtain ⟨hi, hz0, hz1, hz2⟩ := HI.out
        go_wp2_with (at_builtin; refine wpList_own_appendN _ rfl (.tmp 17) (.tmp 19) 71 rfl w.heap.size 40 i0 _ 9 72 Tryz.underlying71 hi hz0 hz1 hz2 rfl (by decide) (.slice A n c) n _ rfl hown ⟨w2.heap.size, 0, none⟩ 1 1 [.int .i64 po, .int .u64 ma, .int .i64 ow, .int .i64 ta, .int .i64 ol, .int .i64 ge, .int .i64 ph, .int .i64 ve, .int .i64 si] rfl rfl (new_cells rfl) (by simp [Value.oneCell']) (by unfold maxLen; omega) (by omega) hsz ?_; intro v3 w3 hown3 hg3 hat3; obtain ⟨A3, c3, rfl, _, _⟩ := own_form hown3; have HX3 := Lib.hid (grown_keep (S := fun _ => False) hxa hg3 hown (Nat.le_refl _)); have HO3 := Lib.hid hown3; clear hown3 hg3 hat3 hown hxa)
        go_roundg (32 - (j + 1))
        case measure => omega
        case rel =>
          refine ⟨j + 1, n + 1, c3, A3, rfl, by omega, by go_num, rfl, Lib.hid ?_, Lib.hid ?_, HX3⟩
          · rw [HK.out, List.length_append, HN.out]; rfl
          · rw [HK.out, List.flatMap_append]; exact HO3.out
    · have : j = 32 := by omega
      subst this
      go_wp2_with fail
      go_ret
      exact ⟨A, n, c, rfl, HN.out, HO.out, HX0.out⟩

set_option maxRecDepth 100000 in
set_option maxHeartbeats 4000000 in
theorem srows_nil (w : World) : Calls Tryz.prog 38 #[.pointer none] w (NewS 40 9 RV.cs [] w) := by
  go_enter Tryz.func38, Tryz.ntmps38
  go_wp2_with fail
  go_loopg [3, 4, 5, 6, 7] 32 (fun g s3 s4 s5 s6 i wr => ∃ (j : Nat), g = 32 - j ∧ j ≤ 32 ∧ i = .int .i64 (j : Int) ∧ s3 = .slice none 0 0 ∧ Hid (Chg (fun _ => False) w wr))
  case atStart => exact ⟨0, rfl, by omega, rfl, rfl, Lib.hid (Chg.refl _ _)⟩
  case round =>
    obtain ⟨j, rfl, hj, rfl, rfl, HX0⟩ := hrel
    by_cases hlt : j < 32
    · have hr := srow_nil (j : Int) wr
      have hr : Calls _ _ _ _ (HB9 0 0 0 0 0 0 0 0 0 false wr) := hr
      go_wp2_with fail
      refine hr.mono ?_
      rintro e w1 ⟨rfl, hc⟩
      replace HX0 := Lib.hid (HX0.out.trans hc (fun _ _ e => e))
      clear hr hc
      go_upto_region 6 with fail
      replace HX0 := Lib.hid (HX0.out.alloc (.cells #[.int .i64 0, .int .u64 0, .int .i64 0, .int .i64 0, .int .i64 0, .int .i64 0, .int .i64 0, .int .i64 0, .int .i64 0] 40))
      generalize (w1.alloc (.cells #[.int .i64 0, .int .u64 0, .int .i64 0, .int .i64 0, .int .i64 0, .int .i64 0, .int .i64 0, .int .i64 0, .int .i64 0] 40)) = w2 at *
      go_wp2_with fail
      go_roundg (32 - (j + 1))
      case measure => omega
      case rel => exact ⟨j + 1, rfl, by omega, by go_num, rfl, HX0⟩
    · have : j = 32 := by omega
      subst this
      go_wp2_with fail
      go_ret
      exact ⟨none, 0, 0, rfl, rfl, own_nilv, HX0.out⟩


end Go.Proofs.YtimgnogacanifaaGreat
