/-
  Walk: phase.Again. No condition.
-/
import Derived.Test.YtbigcebpfbfddaaOh
import Derived.Test.YtbigcebpfbfddaaOg
import Derived.Deep.RegionHeld3
namespace Go.Proofs.Ytbigcebpfbfddaa
open Go.RowKit
set_option linter.unusedVariables false
set_option linter.unusedSimpArgs false

set_option maxHeartbeats 4000000 in
theorem paga_any (po ma ow ta ol ge ph ve si mc no now : Int) (w : World) : Calls Try.prog 11 #[.agg #[.int .i64 po, .int .u64 ma, .int .i64 ow, .int .i64 ta, .int .i64 ol, .int .i64 ge, .int .i64 ph, .int .i64 ve, .int .i64 si], .int .u64 mc, .int .i64 no, .int .i64 now] w (HR (ag9 ⟨po, ma, ow, ta, ol, ge, ph, ve, si⟩ mc no now) w) := by
  obtain ⟨y0, y1, y2, y3, y4, y5, y6, y7, y8, er, hy⟩ := num9 (r := agA ⟨po, ma, ow, ta, ol, ge, ph, ve, si⟩ mc no)
  obtain ⟨z0, z1, z2, z3, z4, z5, z6, z7, z8, ze, hz⟩ := num9 (r := ag9 ⟨po, ma, ow, ta, ol, ge, ph, ve, si⟩ mc no now)
  rw [hz]
  have HQ0 : Blk ((((w.alloc (.cells #[.int .i64 po, .int .u64 ma, .int .i64 ow, .int .i64 ta, .int .i64 ol, .int .i64 ge, .int .i64 ph, .int .i64 ve, .int .i64 si] 25)).alloc (.cells #[.int .u64 mc] 22)).alloc (.cells #[.int .i64 no] 3)).alloc (.cells #[.int .i64 0, .int .u64 0, .int .i64 0, .int .i64 0, .int .i64 0, .int .i64 0, .int .i64 0, .int .i64 0, .int .i64 0] 25)) w.heap.size 25 (rvC po ma ow ta ol ge ph ve si) := (Blk.alloc (Blk.alloc (Blk.alloc (blk_new rfl) _) _) _)
  replace HQ0 := Lib.hid HQ0
  have HR0 : Blk ((((w.alloc (.cells #[.int .i64 po, .int .u64 ma, .int .i64 ow, .int .i64 ta, .int .i64 ol, .int .i64 ge, .int .i64 ph, .int .i64 ve, .int .i64 si] 25)).alloc (.cells #[.int .u64 mc] 22)).alloc (.cells #[.int .i64 no] 3)).alloc (.cells #[.int .i64 0, .int .u64 0, .int .i64 0, .int .i64 0, .int .i64 0, .int .i64 0, .int .i64 0, .int .i64 0, .int .i64 0] 25)) (w.heap.size + 1 + 1 + 1) 25 (rvC 0 0 0 0 0 0 0 0 0) := (blk_new (by simp))
  replace HR0 := Lib.hid HR0
  have HM0 : Blk ((((w.alloc (.cells #[.int .i64 po, .int .u64 ma, .int .i64 ow, .int .i64 ta, .int .i64 ol, .int .i64 ge, .int .i64 ph, .int .i64 ve, .int .i64 si] 25)).alloc (.cells #[.int .u64 mc] 22)).alloc (.cells #[.int .i64 no] 3)).alloc (.cells #[.int .i64 0, .int .u64 0, .int .i64 0, .int .i64 0, .int .i64 0, .int .i64 0, .int .i64 0, .int .i64 0, .int .i64 0] 25)) (w.heap.size + 1) 22 #[.int .u64 mc] := (Blk.alloc (Blk.alloc (blk_new (by simp)) _) _)
  replace HM0 := Lib.hid HM0
  have HN0 : Blk ((((w.alloc (.cells #[.int .i64 po, .int .u64 ma, .int .i64 ow, .int .i64 ta, .int .i64 ol, .int .i64 ge, .int .i64 ph, .int .i64 ve, .int .i64 si] 25)).alloc (.cells #[.int .u64 mc] 22)).alloc (.cells #[.int .i64 no] 3)).alloc (.cells #[.int .i64 0, .int .u64 0, .int .i64 0, .int .i64 0, .int .i64 0, .int .i64 0, .int .i64 0, .int .i64 0, .int .i64 0] 25)) (w.heap.size + 1 + 1) 3 #[.int .i64 no] := (Blk.alloc (blk_new (by simp)) _)
  replace HN0 := Lib.hid HN0
  have HX0 := Lib.hid (((((Chg.refl (fun _ => False) w).alloc (.cells #[.int .i64 po, .int .u64 ma, .int .i64 ow, .int .i64 ta, .int .i64 ol, .int .i64 ge, .int .i64 ph, .int .i64 ve, .int .i64 si] 25)).alloc (.cells #[.int .u64 mc] 22)).alloc (.cells #[.int .i64 no] 3)).alloc (.cells #[.int .i64 0, .int .u64 0, .int .i64 0, .int .i64 0, .int .i64 0, .int .i64 0, .int .i64 0, .int .i64 0, .int .i64 0] 25))
  go_enter Try.func11, Try.ntmps11
  go_upto_region 1 with fail
  generalize ((((w.alloc (.cells #[.int .i64 po, .int .u64 ma, .int .i64 ow, .int .i64 ta, .int .i64 ol, .int .i64 ge, .int .i64 ph, .int .i64 ve, .int .i64 si] 25)).alloc (.cells #[.int .u64 mc] 22)).alloc (.cells #[.int .i64 no] 3)).alloc (.cells #[.int .i64 0, .int .u64 0, .int .i64 0, .int .i64 0, .int .i64 0, .int .i64 0, .int .i64 0, .int .i64 0, .int .i64 0] 25)) = w1 at *
  have hd := fun (W : World) (hw : Chg (fun _ => False) w1 W) => do_ag po ma ow ta ol ge ph ve si now (ch9 no && decide (mc ≤ 281474976710655)) y0 y1 y2 y3 y4 y5 y6 y7 y8 er (w.heap.size + 1) (w.heap.size + 1 + 1) W (fun h W' hc => by
    have := ag1_any po ma ow ta ol ge ph ve si mc no (w.heap.size + 1) (w.heap.size + 1 + 1) W' (HM0.out.chg (hw.trans hc (fun _ _ e => e)) id) (HN0.out.chg (hw.trans hc (fun _ _ e => e)) id) (ok_bounds h).2.2.2.1
    rw [hy] at this
    exact this)
  rw [show fin9 ⟨po, ma, ow, ta, ol, ge, ph, ve, si⟩ now (ch9 no && decide (mc ≤ 281474976710655)) (⟨y0, y1, y2, y3, y4, y5, y6, y7, y8⟩, er) = ag9 ⟨po, ma, ow, ta, ol, ge, ph, ve, si⟩ mc no now from by rw [← hy]; rfl] at hd
  clear hy
  rw [hz] at hd
  have HD : Hid (∀ W, Chg (fun _ => False) w1 W → Calls _ _ _ W (HR9 z0 z1 z2 z3 z4 z5 z6 z7 z8 ze W)) := Lib.hid hd
  clear hd hz
  have hch := fun W => pchas_any no W
  rw [show withinB 0 15 [no] = ch9 no from rfl] at hch
  have HKEEP : Hid (∀ W : World, Chg (fun k => k = (w.heap.size + 1 + 1 + 1)) w1 W → (W.cell? ⟨w.heap.size, 0, none⟩ = some (.int .i64 po) ∧ W.cell? ⟨w.heap.size, 1, none⟩ = some (.int .u64 ma) ∧ W.cell? ⟨w.heap.size, 2, none⟩ = some (.int .i64 ow) ∧ W.cell? ⟨w.heap.size, 3, none⟩ = some (.int .i64 ta) ∧ W.cell? ⟨w.heap.size, 4, none⟩ = some (.int .i64 ol) ∧ W.cell? ⟨w.heap.size, 5, none⟩ = some (.int .i64 ge) ∧ W.cell? ⟨w.heap.size, 6, none⟩ = some (.int .i64 ph) ∧ W.cell? ⟨w.heap.size, 7, none⟩ = some (.int .i64 ve) ∧ W.cell? ⟨w.heap.size, 8, none⟩ = some (.int .i64 si) ∧ W.cell? ⟨w.heap.size + 1, 0, none⟩ = some (.int .u64 mc) ∧ W.cell? ⟨w.heap.size + 1 + 1, 0, none⟩ = some (.int .i64 no))) := Lib.hid (fun W hw => by
    obtain ⟨x0, x1, x2, x3, x4, x5, x6, x7, x8⟩ := rv_cells (HQ0.out.chg hw (by omega))
    have b0 := Blk.cell (HM0.out.chg hw (by omega)) 0
    simp only [List.getElem?_toArray, List.getElem?_cons_zero] at b0
    have b1 := Blk.cell (HN0.out.chg hw (by omega)) 0
    simp only [List.getElem?_toArray, List.getElem?_cons_zero] at b1
    exact ⟨x0, x1, x2, x3, x4, x5, x6, x7, x8, b0, b1⟩)
  have hmf : ∀ (fn : Fn) (first cap : Array Value) (w : World), (Instr.makeFunc fn first cap).run Try.prog w = .ok (.func fn first cap) w := fun _ _ _ _ => rfl
  have HX := Lib.hid (Chg.refl (fun _ => False) w1).drew
  have HXA := Lib.hid (Chg.refl (fun k => k = (w.heap.size + 1 + 1 + 1)) w1).drew
  cases hcb : ch9 no with
  | false =>
    rw [hcb] at hch HD
    rw [Bool.false_and] at HD
    have HCH := Lib.hid hch
    clear hch
    have s2 := HKEEP.out _ HXA.out
    go_wp2_with fail
    refine wp_region_noPanic ?_
    refine wp_region_held_drew (S := fun w' => w'.cell? ⟨w.heap.size, 0, none⟩ = some (.int .i64 po) ∧ w'.cell? ⟨w.heap.size, 1, none⟩ = some (.int .u64 ma) ∧ w'.cell? ⟨w.heap.size, 2, none⟩ = some (.int .i64 ow) ∧ w'.cell? ⟨w.heap.size, 3, none⟩ = some (.int .i64 ta) ∧ w'.cell? ⟨w.heap.size, 4, none⟩ = some (.int .i64 ol) ∧ w'.cell? ⟨w.heap.size, 5, none⟩ = some (.int .i64 ge) ∧ w'.cell? ⟨w.heap.size, 6, none⟩ = some (.int .i64 ph) ∧ w'.cell? ⟨w.heap.size, 7, none⟩ = some (.int .i64 ve) ∧ w'.cell? ⟨w.heap.size, 8, none⟩ = some (.int .i64 si) ∧ w'.cell? ⟨w.heap.size + 1, 0, none⟩ = some (.int .u64 mc) ∧ w'.cell? ⟨w.heap.size + 1 + 1, 0, none⟩ = some (.int .i64 no)) (by kernel_rfl) s2 (fun hHeld => ?_)
    refine wpAnyH_take (i := 0) (v := ?_) rfl (by kernel_rfl) (by kernel_rfl) (by kernel_rfl) (fun _ _ _ h => h) (Or.inl ⟨by rfl, ?_⟩) (by assumption) ?_
    rotate_left
    · intro w' hSw
      try dsimp only at hSw
      go_simp
      first | done | (with_reducible rfl)
    try simp only [List.getElem_toArray, List.getElem_cons_succ, List.getElem_cons_zero, Act.put, List.setIfInBounds_toArray, List.set_cons_zero, List.set_cons_succ]
    refine wpAnyH_take (i := 1) (v := ?_) rfl (by kernel_rfl) (by kernel_rfl) (by kernel_rfl) (fun _ _ _ h => h) (Or.inl ⟨by rfl, ?_⟩) (by assumption) ?_
    rotate_left
    · intro w' hSw
      try dsimp only at hSw
      go_simp
      first | done | (with_reducible rfl)
    try simp only [List.getElem_toArray, List.getElem_cons_succ, List.getElem_cons_zero, Act.put, List.setIfInBounds_toArray, List.set_cons_zero, List.set_cons_succ]
    refine wpAnyH_take (i := 2) (v := ?_) rfl (by kernel_rfl) (by kernel_rfl) (by kernel_rfl) (fun _ _ _ h => h) (Or.inl ⟨by rfl, ?_⟩) (by assumption) ?_
    rotate_left
    · intro w' hSw
      try dsimp only at hSw
      go_simp
      first | done | (with_reducible rfl)
    try simp only [List.getElem_toArray, List.getElem_cons_succ, List.getElem_cons_zero, Act.put, List.setIfInBounds_toArray, List.set_cons_zero, List.set_cons_succ]
    refine wpAnyH_take (i := 8) (v := ?_) rfl (by kernel_rfl) (by kernel_rfl) (by kernel_rfl) (fun _ _ _ h => h) (Or.inl ⟨by rfl, ?_⟩) (by assumption) ?_
    rotate_left
    · intro w' hSw
      try dsimp only at hSw
      go_simp
      first | done | (with_reducible rfl)
    try simp only [List.getElem_toArray, List.getElem_cons_succ, List.getElem_cons_zero, Act.put, List.setIfInBounds_toArray, List.set_cons_zero, List.set_cons_succ]
    refine wpAnyH_ready (rs := [3]) (by kernel_rfl) (by simp) ?_
    refine AllReadyH.cons rfl (fun K hK => ?_) AllReadyH.nil
    go_simp
    refine (HCH.out _).mono ?_
    rintro e wz ⟨rfl, hwz⟩
    subst hwz
    go_wp2_with fail
    refine hK.out _ _ s2 (fun hHeld => ?_)
    clear hK K
    try simp only [List.getElem_toArray, List.getElem_cons_succ, List.getElem_cons_zero, Act.put, List.setIfInBounds_toArray, List.set_cons_zero, List.set_cons_succ]
    refine wpAnyH_take (i := 4) (v := ?_) rfl (by kernel_rfl) (by kernel_rfl) (by kernel_rfl) (fun _ _ _ h => h) (Or.inl ⟨by rfl, ?_⟩) (by assumption) ?_
    rotate_left
    · intro w' hSw
      try dsimp only at hSw
      go_simp
      first | done | (with_reducible rfl)
    try simp only [List.getElem_toArray, List.getElem_cons_succ, List.getElem_cons_zero, Act.put, List.setIfInBounds_toArray, List.set_cons_zero, List.set_cons_succ]
    refine wpAnyH_ready (rs := [5]) (by kernel_rfl) (by simp) ?_
    refine AllReadyH.cons rfl (fun K hK => ?_) AllReadyH.nil
    go_simp
    refine hK.out _ _ s2 (fun hHeld => ?_)
    clear hK K
    try simp only [List.getElem_toArray, List.getElem_cons_succ, List.getElem_cons_zero, Act.put, List.setIfInBounds_toArray, List.set_cons_zero, List.set_cons_succ]
    refine wpAnyH_ready (rs := [6]) (by kernel_rfl) (by simp) ?_
    refine AllReadyH.cons rfl (fun K hK => ?_) AllReadyH.nil
    go_simp
    refine hK.out _ _ s2 (fun hHeld => ?_)
    clear hK K
    try simp only [List.getElem_toArray, List.getElem_cons_succ, List.getElem_cons_zero, Act.put, List.setIfInBounds_toArray, List.set_cons_zero, List.set_cons_succ]
    refine wpAnyH_take (i := 7) (v := ?_) rfl (by kernel_rfl) (by kernel_rfl) (by kernel_rfl) (fun _ _ _ h => h) (Or.inl ⟨by rfl, ?_⟩) (by assumption) ?_
    rotate_left
    · intro w' hSw
      try dsimp only at hSw
      go_simp
      first | done | (with_reducible rfl)
    try simp only [List.getElem_toArray, List.getElem_cons_succ, List.getElem_cons_zero, Act.put, List.setIfInBounds_toArray, List.set_cons_zero, List.set_cons_succ]
    refine wpAnyH_ready (rs := [9]) (by kernel_rfl) (by simp) ?_
    refine AllReadyH.cons rfl (fun K hK => ?_) AllReadyH.nil
    go_simp
    refine (HD.out _ HX.out).mono ?_
    rintro e wz ⟨rfl, hc⟩
    have HX := Lib.hid (HX.out.trans hc (fun _ _ e => e))
    have HXB := Lib.hid (HXA.out.trans (hc.mono (S' := fun k => k = (w.heap.size + 1 + 1 + 1)) (fun _ _ h => h.elim)) (fun _ _ e => e))
    have s3 := HKEEP.out _ HXB.out
    clear hc
    replace HX0 := Lib.hid (HX0.out.trans HX.out (fun _ _ e => e))
    replace HR0 := Lib.hid (HR0.out.chg HX.out id)
    obtain ⟨x0, x1, x2, x3, x4, x5, x6, x7, x8⟩ := rv_cells HR0.out
    obtain ⟨u0, u1, u2, u3, u4, u5, u6, u7, u8⟩ := rv_free9 HR0.out
    obtain ⟨r0, r1, r2, r3, r4, r5, r6, r7, r8, -, hcs⟩ := rv_put9 HR0.out z0 z1 z2 z3 z4 z5 z6 z7 z8
    have HXC := Lib.hid (HXB.out.trans hcs (fun _ _ e => e))
    have HF := Lib.hid (fresh_set HX0.out hcs (by omega))
    have RR := Lib.hid (And.intro r0 (And.intro r1 (And.intro r2 (And.intro r3 (And.intro r4 (And.intro r5 (And.intro r6 (And.intro r7 r8))))))))
    clear r0 r1 r2 r3 r4 r5 r6 r7 r8 hcs HR0 HX0
    have s4 := HKEEP.out _ HXC.out
    go_wp2_with fail
    refine hK.out _ _ s3 (fun hHeld => ?_)
    clear hK K
    try simp only [List.getElem_toArray, List.getElem_cons_succ, List.getElem_cons_zero, Act.put, List.setIfInBounds_toArray, List.set_cons_zero, List.set_cons_succ]
    refine wpAnyH_take (i := 10) (v := ?_) rfl (by kernel_rfl) (by kernel_rfl) (by kernel_rfl) (fun _ _ _ h => h) (Or.inl ⟨by rfl, ?_⟩) (by assumption) ?_
    rotate_left
    · intro w' hSw
      try dsimp only at hSw
      go_simp
      first | done | (with_reducible rfl)
    try simp only [List.getElem_toArray, List.getElem_cons_succ, List.getElem_cons_zero, Act.put, List.setIfInBounds_toArray, List.set_cons_zero, List.set_cons_succ]
    refine wpAnyH_take (i := 11) (v := ?_) rfl (by kernel_rfl) (by kernel_rfl) (by kernel_rfl) (fun _ _ _ h => h) (Or.inl ⟨by rfl, ?_⟩) (by assumption) ?_
    rotate_left
    · intro w' hSw
      try dsimp only at hSw
      go_simp
      first | done | (with_reducible rfl)
    try simp only [List.getElem_toArray, List.getElem_cons_succ, List.getElem_cons_zero, Act.put, List.setIfInBounds_toArray, List.set_cons_zero, List.set_cons_succ]
    refine wpAnyH_ready (rs := [12]) (by kernel_rfl) (by simp) ?_
    refine AllReadyH.cons rfl (fun K hK => ?_) AllReadyH.nil
    go_simp
    refine hK.out _ _ s4 (fun hHeld => ?_)
    clear hK K
    try simp only [List.getElem_toArray, List.getElem_cons_succ, List.getElem_cons_zero, Act.put, List.setIfInBounds_toArray, List.set_cons_zero, List.set_cons_succ]
    refine wpAnyH_take (i := 13) (v := ?_) rfl (by kernel_rfl) (by kernel_rfl) (by kernel_rfl) (fun _ _ _ h => h) (Or.inl ⟨by rfl, ?_⟩) (by assumption) ?_
    rotate_left
    · intro w' hSw
      try dsimp only at hSw
      go_simp
      first | done | (with_reducible rfl)
    try simp only [List.getElem_toArray, List.getElem_cons_succ, List.getElem_cons_zero, Act.put, List.setIfInBounds_toArray, List.set_cons_zero, List.set_cons_succ]
    refine wpAnyH_done (by kernel_rfl) ?_ _
    refine NoPanic.normal ?_
    go_wp2_with fail
    obtain ⟨r0, r1, r2, r3, r4, r5, r6, r7, r8⟩ := RR.out
    exact bodyPost_ret (v := .tuple #[.agg (rvC z0 z1 z2 z3 z4 z5 z6 z7 z8), .int .i64 ze]) (by simp [results, Try.results11, go_sem, rvC, r0, r1, r2, r3, r4, r5, r6, r7, r8]) rfl ⟨rfl, HF.out⟩
  | true =>
    rw [hcb] at hch HD
    rw [Bool.true_and] at HD
    have HCH := Lib.hid hch
    clear hch
    go_wp2_with fail
    go_region_held3 (fun w' => w'.cell? ⟨w.heap.size, 0, none⟩ = some (.int .i64 po) ∧ w'.cell? ⟨w.heap.size, 1, none⟩ = some (.int .u64 ma) ∧ w'.cell? ⟨w.heap.size, 2, none⟩ = some (.int .i64 ow) ∧ w'.cell? ⟨w.heap.size, 3, none⟩ = some (.int .i64 ta) ∧ w'.cell? ⟨w.heap.size, 4, none⟩ = some (.int .i64 ol) ∧ w'.cell? ⟨w.heap.size, 5, none⟩ = some (.int .i64 ge) ∧ w'.cell? ⟨w.heap.size, 6, none⟩ = some (.int .i64 ph) ∧ w'.cell? ⟨w.heap.size, 7, none⟩ = some (.int .i64 ve) ∧ w'.cell? ⟨w.heap.size, 8, none⟩ = some (.int .i64 si) ∧ w'.cell? ⟨w.heap.size + 1, 0, none⟩ = some (.int .u64 mc) ∧ w'.cell? ⟨w.heap.size + 1 + 1, 0, none⟩ = some (.int .i64 no))
      (first | with_reducible exact HKEEP.out _ HXA.out | with_reducible exact HKEEP.out _ HXB.out | with_reducible exact HKEEP.out _ HXC.out | fail)
      (first
        | (go_at_call 30; (with_reducible refine (HCH.out _).mono ?_); rintro e wz ⟨rfl, hwz⟩; subst hwz)
        | (go_at_call 29; (with_reducible refine (HD.out _ HX.out).mono ?_); rintro e wz ⟨rfl, hc⟩; have HX := Lib.hid (HX.out.trans hc (fun _ _ e => e)); have HXB := Lib.hid (HXA.out.trans (hc.mono (S' := fun k => k = (w.heap.size + 1 + 1 + 1)) (fun _ _ h => h.elim)) (fun _ _ e => e)); clear hc; replace HX0 := Lib.hid (HX0.out.trans HX.out (fun _ _ e => e)); replace HR0 := Lib.hid (HR0.out.chg HX.out id); obtain ⟨x0, x1, x2, x3, x4, x5, x6, x7, x8⟩ := rv_cells HR0.out; obtain ⟨u0, u1, u2, u3, u4, u5, u6, u7, u8⟩ := rv_free9 HR0.out; obtain ⟨r0, r1, r2, r3, r4, r5, r6, r7, r8, -, hcs⟩ := rv_put9 HR0.out z0 z1 z2 z3 z4 z5 z6 z7 z8; have HXC := Lib.hid (HXB.out.trans hcs (fun _ _ e => e)); have HF := Lib.hid (fresh_set HX0.out hcs (by omega)); have RR := Lib.hid (And.intro r0 (And.intro r1 (And.intro r2 (And.intro r3 (And.intro r4 (And.intro r5 (And.intro r6 (And.intro r7 r8)))))))); clear r0 r1 r2 r3 r4 r5 r6 r7 r8 hcs HR0 HX0)
        | fail)
    all_goals
      go_wp2_with fail
      obtain ⟨r0, r1, r2, r3, r4, r5, r6, r7, r8⟩ := RR.out
      exact bodyPost_ret (v := .tuple #[.agg (rvC z0 z1 z2 z3 z4 z5 z6 z7 z8), .int .i64 ze]) (by simp [results, Try.results11, go_sem, rvC, r0, r1, r2, r3, r4, r5, r6, r7, r8]) rfl ⟨rfl, HF.out⟩


end Go.Proofs.Ytbigcebpfbfddaa
