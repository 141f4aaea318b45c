/-
  Walk: rutterlaw11.SessionLetters. Conditions: the body and the bytes are read in memory.
-/
import Derived.Test.YtbbjecjhkjjbkaaGz
import Derived.Test.YtbbjecjhkjjbkaaGy
import Derived.Test.YtbbjecjhkjjbkaaGx
import Derived.Test.YtbbjecjhkjjbkaaGw
import Derived.Test.YtbbjecjhkjjbkaaGr
import Derived.Test.YtbbjecjhkjjbkaaGn
namespace Go.Proofs.Ytbbjecjhkjjbkaa
open Go.RowKit
set_option linter.unusedVariables false
set_option linter.unusedSimpArgs false

/-- What Encode hands back, in letters. -/
theorem enc11_case (m p a s : Int) (b : List UInt8) (n : Nat) (hn : n = b.length) : ∃ (mm : List UInt8) (x : Int) (r : Bool), ltR m p a s n = r ∧ (∀ w e w', Mk5 (if ltR m p a s n = true then ltB m p a s b else []) (if ltR m p a s n = true then 0 else 1) w e w' → Mk5 mm x w e w') ∧ ((r = true ∧ x = 0 ∧ mm = ltB m p a s b) ∨ (r = false ∧ x = 1 ∧ mm = [])) := by
  cases h : ltR m p a s n with
  | false => exact ⟨[], 1, false, rfl, fun _ _ _ h => by simpa using h, .inr ⟨rfl, rfl, rfl⟩⟩
  | true => exact ⟨ltB m p a s b, 0, true, rfl, fun _ _ _ h => by simpa using h, .inl ⟨rfl, rfl, rfl⟩⟩
theorem dec11_case (b : List UInt8) : ∃ (ym yp ya ys x : Int) (yb : List UInt8), jL b = ⟨ym, yp, ya, ys, yb⟩ ∧ jX b = x ∧ yb.length ≤ 1000 ∧ (x = 2 ∨ (x = 0 ∧ ltR ym yp ya ys yb.length = true ∧ ltB ym yp ya ys yb = b)) := by
  have hl := jL_len b
  refine ⟨(jL b).mi, (jL b).pe, (jL b).ac, (jL b).se, jX b, (jL b).b, rfl, rfl, hl, ?_⟩
  cases h : jOK b with
  | false => exact .inl (jX_no h)
  | true =>
    rw [jL_yes h]
    exact .inr ⟨jX_yes h, (jOK_parts h).2, jd_yes h⟩
theorem dec11_back {m p a s : Int} {l : List UInt8} (h : ltR m p a s l.length = true) : jL (ltB m p a s l) = ⟨m, p, a, s, l⟩ ∧ jX (ltB m p a s l) = 0 := by
  obtain ⟨h0, h1, h2, h3, h4, h5⟩ := jd_back h
  rw [jL_yes h0, jX_yes h0, h1, h2, h3, h4, h5]
  exact ⟨rfl, rfl⟩
set_option maxRecDepth 100000 in
set_option maxHeartbeats 2000000 in
theorem letters11_big (m p a s : Int) (A : Option Addr) (n c : Nat) (B : Option Addr) (k kc : Nat) (w : World) (h : 2000 < n ∨ (n ≤ 2000 ∧ 2000 < k)) (hn : n ≤ 9223372036854775807) (hk : k ≤ 9223372036854775807) : Calls Try.prog 3 #[.agg (ltC m p a s A n c), .slice B k kc] w fun e w' => e = .returned (.bool true) ∧ Chg (fun _ => False) w w' := by
  unfold ltC
  have HC0 := Lib.hid ((Chg.refl (fun _ => False) w).alloc (.cells #[.int .i64 m, .int .i64 p, .int .i64 a, .int .i64 s, .slice A n c] 24))
  have HQ : Hid (Blk (w.alloc (.cells #[.int .i64 m, .int .i64 p, .int .i64 a, .int .i64 s, .slice A n c] 24)) w.heap.size 24 (ltC m p a s A n c)) := Lib.hid (blk_new rfl)
  obtain ⟨y0, y1, y2, y3, y4⟩ := lt_cells HQ.out
  have HAL := Lib.hid (alive11_any (w.alloc (.cells #[.int .i64 m, .int .i64 p, .int .i64 a, .int .i64 s, .slice A n c] 24)))
  rcases h with h | ⟨h, h2⟩
  · go_enter Try.func3, Try.ntmps3
    go_wp2_with fail
    refine HAL.out.mono ?_
    rintro e w1 ⟨rfl, hc⟩
    replace HC0 := Lib.hid (HC0.out.trans hc (fun _ _ e => e))
    clear y0 y1 y2 y3 y4 hc
    go_wp2_with fail
    go_ret
    exact ⟨rfl, HC0.out⟩
  · have h3 : ¬ 2000 < n := by omega
    go_enter Try.func3, Try.ntmps3
    go_wp2_with fail
    refine HAL.out.mono ?_
    rintro e w1 ⟨rfl, hc⟩
    replace HC0 := Lib.hid (HC0.out.trans hc (fun _ _ e => e))
    clear y0 y1 y2 y3 y4 hc
    go_wp2_with fail
    go_ret
    exact ⟨rfl, HC0.out⟩
set_option maxRecDepth 100000 in
set_option maxHeartbeats 8000000 in
theorem letters11_any (m p a s : Int) (A : Option Addr) (n c : Nat) (b : List UInt8) (B : Option Addr) (k kc : Nat) (bb : List UInt8) (S S1 : Nat → Prop) (w : World) (hn : n = b.length) (h : Rds w S A n (bcs b)) (hk : k = bb.length) (h1 : Rds w S1 B k (bcs bb)) (hz : B = none → kc = 0) (hn2 : n ≤ 2000) (hk2 : k ≤ 2000) : Calls Try.prog 3 #[.agg (ltC m p a s A n c), .slice B k kc] w fun e w' => e = .returned (.bool true) ∧ Chg (fun _ => False) w w' := by
  unfold ltC
  have HX1 := Lib.hid ((Chg.refl (fun _ => False) w).alloc (.cells #[.int .i64 m, .int .i64 p, .int .i64 a, .int .i64 s, .slice A n c] 24))
  have HQ1 : Hid (Blk (w.alloc (.cells #[.int .i64 m, .int .i64 p, .int .i64 a, .int .i64 s, .slice A n c] 24)) w.heap.size 24 (ltC m p a s A n c)) := Lib.hid (blk_new rfl)
  have HR := Lib.hid (h.chg HX1.out (fun _ _ => id))
  have HB := Lib.hid (h1.chg HX1.out (fun _ _ => id))
  have HN := Lib.hid hn
  have HKB := Lib.hid hk
  have HZ := Lib.hid hz
  clear h h1 hz hn hk
  obtain ⟨y0, y1, y2, y3, y4⟩ := lt_cells HQ1.out
  have n2 : ¬ 2000 < n := by omega
  have k2 : ¬ 2000 < k := by omega
  go_enter Try.func3, Try.ntmps3
  go_upto_region 1 with fail
  generalize w.alloc (.cells #[.int .i64 m, .int .i64 p, .int .i64 a, .int .i64 s, .slice A n c] 24) = w1 at *
  generalize hgz : w.heap.size = g0 at *
  have HGZ := Lib.hid hgz
  clear hgz
  have HO1 := Lib.hid (of11_any m p a s A n c b S w1 HN.out HR.out)
  unfold ltC rlC at HO1
  go_wp2_with fail
  refine HO1.out.mono ?_
  rintro e w2 ⟨rfl, hc⟩
  have HX2 := Lib.hid (HX1.out.trans hc (fun _ _ e => e))
  have HQ2 := Lib.hid (HQ1.out.chg hc id)
  have HR2 := Lib.hid (HR.out.chg hc (fun _ _ => id))
  have HB2 := Lib.hid (HB.out.chg hc (fun _ _ => id))
  have HRR := Lib.hid (rright11_any m p a s ⟨b.toArray⟩ n w2 (by rw [HN.out]; rfl) (by omega))
  obtain ⟨mm, x, r, hr, hmk, hcase⟩ := enc11_case m p a s b n HN.out
  rw [hr] at HRR
  have HLR := Lib.hid hr
  have HMK := Lib.hid hmk
  have HCASE := Lib.hid hcase
  unfold rlC at HRR
  clear hc HO1 HX1 HQ1 HR HB y0 y1 y2 y3 y4 hr hmk hcase
  go_wp2_with fail
  refine HRR.out.mono ?_
  rintro e w3 ⟨rfl, hc⟩
  have HX3 := Lib.hid (HX2.out.trans hc (fun _ _ e => e))
  have HQ3 := Lib.hid (HQ2.out.chg hc id)
  have HR3 := Lib.hid (HR2.out.chg hc (fun _ _ => id))
  have HB3 := Lib.hid (HB2.out.chg hc (fun _ _ => id))
  have HE := Lib.hid (enc11_any m p a s A n c b S w3 HN.out HR3.out (by omega))
  unfold ltC at HE
  obtain ⟨y0, y1, y2, y3, y4⟩ := lt_cells HQ3.out
  clear hc HRR HX2 HQ2 HR2 HB2
  go_wp2_with fail
  refine HE.out.mono ?_
  rintro e w5 hp
  obtain ⟨E, ec, rfl, hown, hc⟩ := HMK.out _ _ _ hp
  generalize hk4 : mm.length = k4 at *
  have HK4 := Lib.hid hk4
  have HNE := Lib.hid (own_nil hown)
  have HCP := Lib.hid (show k4 ≤ 9223372036854775807 by have := own_cap hown; unfold maxLen at this; omega)
  have HO5 := Lib.hid (own_rds2 hown)
  have HX5 := Lib.hid (HX3.out.trans hc (fun _ _ e => e))
  have HQ5 := Lib.hid (HQ3.out.chg hc id)
  have HR5 := Lib.hid (HR3.out.chg hc (fun _ _ => id))
  have HB5 := Lib.hid (HB3.out.chg hc (fun _ _ => id))
  have HOF := Lib.hid (fun (W : World) (hw : Chg (fun _ => False) w5 W) => of11_any m p a s A n c b S W HN.out (HR5.out.chg hw (fun _ _ => id)))
  have HRI := Lib.hid (fun W => right11_any m p a s A n c W (by omega))
  have HKEEP : Hid (∀ W : World, Chg (fun _ => False) w5 W → ((W.cell? ⟨g0, 0, none⟩ = some (.int .i64 m) ∧ W.cell? ⟨g0, 1, none⟩ = some (.int .i64 p) ∧ W.cell? ⟨g0, 2, none⟩ = some (.int .i64 a) ∧ W.cell? ⟨g0, 3, none⟩ = some (.int .i64 s) ∧ W.cell? ⟨g0, 4, none⟩ = some (.slice A n c)) ∧ (convert 22 9 (.slice E k4 ec)).run Try.prog W = .ok (.string ⟨mm.toArray⟩) W)) := Lib.hid (fun W hw => ⟨lt_cells (HQ5.out.chg hw id), conv_any (HO5.out.chg hw (fun _ _ => id))⟩)
  rw [HLR.out] at HRI
  unfold ltC rlC at HOF
  unfold ltC at HRI
  clear hp hown hc hk4 HMK HE HX3 HQ3 HR3 HB3 y0 y1 y2 y3 y4
  go_upto_region 5 with fail
  go_cut [66] (fun s66 wx => s66 = .bool false ∧ Hid (Chg (fun _ => False) w5 wx))
  case first =>
    rcases HCASE.out with ⟨rfl, rfl, hmm⟩ | ⟨rfl, rfl, hmm⟩
    · have HBY := Lib.hid (fun W => rbytes11_any m p a s b W (by rw [← HN.out]; exact HLR.out))
      rw [← hmm] at HBY
      unfold rlC at HBY
      clear hmm
      have HX := Lib.hid (Chg.refl (fun _ => False) w5).drew
      have s2 := HKEEP.out _ HX.out
      refine wp_region_noPanic ?_
      refine wp_region_held_drew (S := (fun w' => (w'.cell? ⟨g0, 0, none⟩ = some (.int .i64 m) ∧ w'.cell? ⟨g0, 1, none⟩ = some (.int .i64 p) ∧ w'.cell? ⟨g0, 2, none⟩ = some (.int .i64 a) ∧ w'.cell? ⟨g0, 3, none⟩ = some (.int .i64 s) ∧ w'.cell? ⟨g0, 4, none⟩ = some (.slice A n c)) ∧ (convert 22 9 (.slice E k4 ec)).run Try.prog w' = .ok (.string ⟨mm.toArray⟩) w')) (by kernel_rfl) s2 (fun hHeld => ?_)
      refine wpAnyH_take (i := 0) (v := ?_) rfl (by kernel_rfl) (by kernel_rfl) (by kernel_rfl) (fun _ _ _ h => h) (Or.inl ⟨by rfl, ?_⟩) (by assumption) ?_
      rotate_left
      · intro w' hSw
        try dsimp only at hSw
        go_simp
        first | done | (with_reducible rfl)
      try simp only [List.getElem_toArray, List.getElem_cons_succ, List.getElem_cons_zero, Act.put, List.setIfInBounds_toArray, List.set_cons_zero, List.set_cons_succ]
      refine wpAnyH_take (i := 2) (v := ?_) rfl (by kernel_rfl) (by kernel_rfl) (by kernel_rfl) (fun _ _ _ h => h) (Or.inl ⟨by rfl, ?_⟩) (by assumption) ?_
      rotate_left
      · intro w' hSw
        try dsimp only at hSw
        go_simp
        first | done | (with_reducible rfl)
      try simp only [List.getElem_toArray, List.getElem_cons_succ, List.getElem_cons_zero, Act.put, List.setIfInBounds_toArray, List.set_cons_zero, List.set_cons_succ]
      refine wpAnyH_ready (rs := [1]) (by kernel_rfl) (by simp) ?_
      refine AllReadyH.cons rfl (fun K hK => ?_) AllReadyH.nil
      go_simp
      refine (HRI.out _).mono ?_
      rintro e wz ⟨rfl, hcz⟩
      have HX := Lib.hid (HX.out.trans hcz (fun _ _ e => e))
      have s2 := HKEEP.out _ HX.out
      clear hcz
      go_wp2_with fail
      refine hK.out _ _ s2 (fun hHeld => ?_)
      clear hK K
      try simp only [List.getElem_toArray, List.getElem_cons_succ, List.getElem_cons_zero, Act.put, List.setIfInBounds_toArray, List.set_cons_zero, List.set_cons_succ]
      refine wpAnyH_take (i := 3) (v := ?_) rfl (by kernel_rfl) (by kernel_rfl) (by kernel_rfl) (fun _ _ _ h => h) (Or.inl ⟨by rfl, ?_⟩) (by assumption) ?_
      rotate_left
      · intro w' hSw
        try dsimp only at hSw
        go_simp
        first | done | (with_reducible rfl)
      try simp only [List.getElem_toArray, List.getElem_cons_succ, List.getElem_cons_zero, Act.put, List.setIfInBounds_toArray, List.set_cons_zero, List.set_cons_succ]
      refine wpAnyH_take (i := 4) (v := ?_) rfl (by kernel_rfl) (by kernel_rfl) (by kernel_rfl) (fun _ _ _ h => h) (Or.inl ⟨by rfl, ?_⟩) (by assumption) ?_
      rotate_left
      · intro w' hSw
        try dsimp only at hSw
        go_simp
        first | done | (with_reducible rfl)
      try simp only [List.getElem_toArray, List.getElem_cons_succ, List.getElem_cons_zero, Act.put, List.setIfInBounds_toArray, List.set_cons_zero, List.set_cons_succ]
      refine wpAnyH_take (i := 5) (v := ?_) rfl (by kernel_rfl) (by kernel_rfl) (by kernel_rfl) (fun _ _ _ h => h) (Or.inl ⟨by rfl, ?_⟩) (by assumption) ?_
      rotate_left
      · intro w' hSw
        try dsimp only at hSw
        go_simp
        first | done | (with_reducible rfl)
      try simp only [List.getElem_toArray, List.getElem_cons_succ, List.getElem_cons_zero, Act.put, List.setIfInBounds_toArray, List.set_cons_zero, List.set_cons_succ]
      refine wpAnyH_take (i := 6) (v := ?_) rfl (by kernel_rfl) (by kernel_rfl) (by kernel_rfl) (fun _ _ _ h => h) (Or.inl ⟨by rfl, ?_⟩) (by assumption) ?_
      rotate_left
      · intro w' hSw
        try dsimp only at hSw
        go_simp
        first | done | (with_reducible rfl)
      try simp only [List.getElem_toArray, List.getElem_cons_succ, List.getElem_cons_zero, Act.put, List.setIfInBounds_toArray, List.set_cons_zero, List.set_cons_succ]
      refine wpAnyH_take (i := 7) (v := ?_) rfl (by kernel_rfl) (by kernel_rfl) (by kernel_rfl) (fun _ _ _ h => h) (Or.inl ⟨by rfl, ?_⟩) (by assumption) ?_
      rotate_left
      · intro w' hSw
        try dsimp only at hSw
        go_simp
        first | done | (with_reducible rfl)
      try simp only [List.getElem_toArray, List.getElem_cons_succ, List.getElem_cons_zero, Act.put, List.setIfInBounds_toArray, List.set_cons_zero, List.set_cons_succ]
      refine wpAnyH_take (i := 8) (v := ?_) rfl (by kernel_rfl) (by kernel_rfl) (by kernel_rfl) (fun _ _ _ h => h) (Or.inl ⟨by rfl, ?_⟩) (by assumption) ?_
      rotate_left
      · intro w' hSw
        try dsimp only at hSw
        go_simp
        first | done | (with_reducible rfl)
      try simp only [List.getElem_toArray, List.getElem_cons_succ, List.getElem_cons_zero, Act.put, List.setIfInBounds_toArray, List.set_cons_zero, List.set_cons_succ]
      refine wpAnyH_take (i := 9) (v := ?_) rfl (by kernel_rfl) (by kernel_rfl) (by kernel_rfl) (fun _ _ _ h => h) (Or.inl ⟨by rfl, ?_⟩) (by assumption) ?_
      rotate_left
      · intro w' hSw
        try dsimp only at hSw
        go_simp
        first | done | (with_reducible rfl)
      try simp only [List.getElem_toArray, List.getElem_cons_succ, List.getElem_cons_zero, Act.put, List.setIfInBounds_toArray, List.set_cons_zero, List.set_cons_succ]
      refine wpAnyH_take (i := 10) (v := ?_) rfl (by kernel_rfl) (by kernel_rfl) (by kernel_rfl) (fun _ _ _ h => h) (Or.inl ⟨by rfl, ?_⟩) (by assumption) ?_
      rotate_left
      · intro w' hSw
        try dsimp only at hSw
        go_simp
        first | done | (with_reducible rfl)
      try simp only [List.getElem_toArray, List.getElem_cons_succ, List.getElem_cons_zero, Act.put, List.setIfInBounds_toArray, List.set_cons_zero, List.set_cons_succ]
      refine wpAnyH_take (i := 11) (v := ?_) rfl (by kernel_rfl) (by kernel_rfl) (by kernel_rfl) (fun _ _ _ h => h) (Or.inl ⟨by rfl, ?_⟩) (by assumption) ?_
      rotate_left
      · intro w' hSw
        try dsimp only at hSw
        go_simp
        first | done | (with_reducible rfl)
      try simp only [List.getElem_toArray, List.getElem_cons_succ, List.getElem_cons_zero, Act.put, List.setIfInBounds_toArray, List.set_cons_zero, List.set_cons_succ]
      refine wpAnyH_take (i := 12) (v := ?_) rfl (by kernel_rfl) (by kernel_rfl) (by kernel_rfl) (fun _ _ _ h => h) (Or.inl ⟨by rfl, ?_⟩) (by assumption) ?_
      rotate_left
      · intro w' hSw
        try dsimp only at hSw
        go_simp
        first | done | (with_reducible rfl)
      try simp only [List.getElem_toArray, List.getElem_cons_succ, List.getElem_cons_zero, Act.put, List.setIfInBounds_toArray, List.set_cons_zero, List.set_cons_succ]
      refine wpAnyH_ready (rs := [13]) (by kernel_rfl) (by simp) ?_
      refine AllReadyH.cons rfl (fun K hK => ?_) AllReadyH.nil
      go_simp
      refine (HOF.out _ HX.out).mono ?_
      rintro e wz ⟨rfl, hcz⟩
      have HX := Lib.hid (HX.out.trans hcz (fun _ _ e => e))
      have s2 := HKEEP.out _ HX.out
      clear hcz
      go_wp2_with fail
      refine hK.out _ _ s2 (fun hHeld => ?_)
      clear hK K
      try simp only [List.getElem_toArray, List.getElem_cons_succ, List.getElem_cons_zero, Act.put, List.setIfInBounds_toArray, List.set_cons_zero, List.set_cons_succ]
      refine wpAnyH_ready (rs := [14]) (by kernel_rfl) (by simp) ?_
      refine AllReadyH.cons rfl (fun K hK => ?_) AllReadyH.nil
      go_simp
      refine (HBY.out _).mono ?_
      rintro e wz ⟨E2, k2, d2, rfl, hk2, hown2, hcz⟩
      have HX := Lib.hid (HX.out.trans hcz (fun _ _ e => e))
      have s2 := HKEEP.out _ HX.out
      have s6 := conv_any (c := d2) (own_rds2 hown2)
      clear hcz hk2 hown2
      go_wp2_with fail
      refine hK.out _ _ s2 (fun hHeld => ?_)
      clear hK K
      try simp only [List.getElem_toArray, List.getElem_cons_succ, List.getElem_cons_zero, Act.put, List.setIfInBounds_toArray, List.set_cons_zero, List.set_cons_succ]
      refine wpAnyH_ready (rs := [15]) (by kernel_rfl) (by simp) ?_
      refine AllReadyH.cons rfl (fun K hK => ?_) AllReadyH.nil
      go_simp
      refine hK.out _ _ s2 (fun hHeld => ?_)
      clear hK K
      try simp only [List.getElem_toArray, List.getElem_cons_succ, List.getElem_cons_zero, Act.put, List.setIfInBounds_toArray, List.set_cons_zero, List.set_cons_succ]
      refine wpAnyH_take (i := 16) (v := ?_) rfl (by kernel_rfl) (by kernel_rfl) (by kernel_rfl) (fun _ _ _ h => h) (Or.inl ⟨by rfl, ?_⟩) (by assumption) ?_
      rotate_left
      · intro w' hSw
        try dsimp only at hSw
        go_simp
        first | done | (with_reducible rfl)
      try simp only [List.getElem_toArray, List.getElem_cons_succ, List.getElem_cons_zero, Act.put, List.setIfInBounds_toArray, List.set_cons_zero, List.set_cons_succ]
      refine wpAnyH_take (i := 17) (v := ?_) rfl (by kernel_rfl) (by kernel_rfl) (by kernel_rfl) (fun _ _ _ h => h) (Or.inl ⟨by rfl, ?_⟩) (by assumption) ?_
      rotate_left
      · intro w' hSw
        try dsimp only at hSw
        go_simp
        first | done | (with_reducible rfl)
      try simp only [List.getElem_toArray, List.getElem_cons_succ, List.getElem_cons_zero, Act.put, List.setIfInBounds_toArray, List.set_cons_zero, List.set_cons_succ]
      refine wpAnyH_take (i := 18) (v := ?_) rfl (by kernel_rfl) (by kernel_rfl) (by kernel_rfl) (fun _ _ _ h => h) (Or.inl ⟨by rfl, ?_⟩) (by assumption) ?_
      rotate_left
      · intro w' hSw
        try dsimp only at hSw
        go_simp
        first | done | (with_reducible rfl)
      try simp only [List.getElem_toArray, List.getElem_cons_succ, List.getElem_cons_zero, Act.put, List.setIfInBounds_toArray, List.set_cons_zero, List.set_cons_succ]
      refine wpAnyH_take (i := 19) (v := ?_) rfl (by kernel_rfl) (by kernel_rfl) (by kernel_rfl) (fun _ _ _ h => h) (Or.inl ⟨by rfl, ?_⟩) (by assumption) ?_
      rotate_left
      · intro w' hSw
        try dsimp only at hSw
        go_simp
        first | done | (with_reducible rfl)
      try simp only [List.getElem_toArray, List.getElem_cons_succ, List.getElem_cons_zero, Act.put, List.setIfInBounds_toArray, List.set_cons_zero, List.set_cons_succ]
      refine wpAnyH_take (i := 20) (v := ?_) rfl (by kernel_rfl) (by kernel_rfl) (by kernel_rfl) (fun _ _ _ h => h) (Or.inl ⟨by rfl, ?_⟩) (by assumption) ?_
      rotate_left
      · intro w' hSw
        try dsimp only at hSw
        go_simp
        first | done | (with_reducible rfl)
      try simp only [List.getElem_toArray, List.getElem_cons_succ, List.getElem_cons_zero, Act.put, List.setIfInBounds_toArray, List.set_cons_zero, List.set_cons_succ]
      refine wpAnyH_take (i := 21) (v := ?_) rfl (by kernel_rfl) (by kernel_rfl) (by kernel_rfl) (fun _ _ _ h => h) (Or.inl ⟨by rfl, ?_⟩) (by assumption) ?_
      rotate_left
      · intro w' hSw
        try dsimp only at hSw
        go_simp
        first | done | (with_reducible rfl)
      try simp only [List.getElem_toArray, List.getElem_cons_succ, List.getElem_cons_zero, Act.put, List.setIfInBounds_toArray, List.set_cons_zero, List.set_cons_succ]
      refine wpAnyH_take (i := 22) (v := ?_) rfl (by kernel_rfl) (by kernel_rfl) (by kernel_rfl) (fun _ _ _ h => h) (Or.inl ⟨by rfl, ?_⟩) (by assumption) ?_
      rotate_left
      · intro w' hSw
        try dsimp only at hSw
        go_simp
        first | done | (with_reducible rfl)
      try simp only [List.getElem_toArray, List.getElem_cons_succ, List.getElem_cons_zero, Act.put, List.setIfInBounds_toArray, List.set_cons_zero, List.set_cons_succ]
      refine wpAnyH_take (i := 23) (v := ?_) rfl (by kernel_rfl) (by kernel_rfl) (by kernel_rfl) (fun _ _ _ h => h) (Or.inl ⟨by rfl, ?_⟩) (by assumption) ?_
      rotate_left
      · intro w' hSw
        try dsimp only at hSw
        go_simp
        first | done | (with_reducible rfl)
      try simp only [List.getElem_toArray, List.getElem_cons_succ, List.getElem_cons_zero, Act.put, List.setIfInBounds_toArray, List.set_cons_zero, List.set_cons_succ]
      refine wpAnyH_take (i := 24) (v := _) rfl (by kernel_rfl) (by kernel_rfl) (by kernel_rfl) (fun _ _ _ h => h) (Or.inr ⟨by rfl, rfl⟩) (by assumption) ?_
      try simp only [List.getElem_toArray, List.getElem_cons_succ, List.getElem_cons_zero, Act.put, List.setIfInBounds_toArray, List.set_cons_zero, List.set_cons_succ]
      refine wpAnyH_take (i := 25) (v := _) rfl (by kernel_rfl) (by kernel_rfl) (by kernel_rfl) (fun _ _ _ h => h) (Or.inr ⟨by rfl, rfl⟩) (by assumption) ?_
      try simp only [List.getElem_toArray, List.getElem_cons_succ, List.getElem_cons_zero, Act.put, List.setIfInBounds_toArray, List.set_cons_zero, List.set_cons_succ]
      refine wpAnyH_take (i := 26) (v := _) rfl (by kernel_rfl) (by kernel_rfl) (by kernel_rfl) (fun _ _ _ h => h) (Or.inr ⟨by rfl, rfl⟩) (by assumption) ?_
      try simp only [List.getElem_toArray, List.getElem_cons_succ, List.getElem_cons_zero, Act.put, List.setIfInBounds_toArray, List.set_cons_zero, List.set_cons_succ]
      refine wpAnyH_take (i := 27) (v := _) rfl (by kernel_rfl) (by kernel_rfl) (by kernel_rfl) (fun _ _ _ h => h) (Or.inr ⟨by rfl, rfl⟩) (by assumption) ?_
      try simp only [List.getElem_toArray, List.getElem_cons_succ, List.getElem_cons_zero, Act.put, List.setIfInBounds_toArray, List.set_cons_zero, List.set_cons_succ]
      refine wpAnyH_take (i := 28) (v := _) rfl (by kernel_rfl) (by kernel_rfl) (by kernel_rfl) (fun _ _ _ h => h) (Or.inr ⟨by rfl, rfl⟩) (by assumption) ?_
      try simp only [List.getElem_toArray, List.getElem_cons_succ, List.getElem_cons_zero, Act.put, List.setIfInBounds_toArray, List.set_cons_zero, List.set_cons_succ]
      refine wpAnyH_take (i := 29) (v := _) rfl (by kernel_rfl) (by kernel_rfl) (by kernel_rfl) (fun _ _ _ h => h) (Or.inr ⟨by rfl, rfl⟩) (by assumption) ?_
      try simp only [List.getElem_toArray, List.getElem_cons_succ, List.getElem_cons_zero, Act.put, List.setIfInBounds_toArray, List.set_cons_zero, List.set_cons_succ]
      refine wpAnyH_take (i := 30) (v := _) rfl (by kernel_rfl) (by kernel_rfl) (by kernel_rfl) (fun _ _ _ h => h) (Or.inr ⟨by rfl, rfl⟩) (by assumption) ?_
      try simp only [List.getElem_toArray, List.getElem_cons_succ, List.getElem_cons_zero, Act.put, List.setIfInBounds_toArray, List.set_cons_zero, List.set_cons_succ]
      refine wpAnyH_take (i := 31) (v := ?_) rfl (by kernel_rfl) (by kernel_rfl) (by kernel_rfl) (fun _ _ _ h => h) (Or.inl ⟨by rfl, ?_⟩) (by assumption) ?_
      rotate_left
      · intro w' hSw
        try dsimp only at hSw
        go_simp
        first | done | (with_reducible rfl)
      try simp only [List.getElem_toArray, List.getElem_cons_succ, List.getElem_cons_zero, Act.put, List.setIfInBounds_toArray, List.set_cons_zero, List.set_cons_succ]
      refine wpAnyH_take (i := 32) (v := ?_) rfl (by kernel_rfl) (by kernel_rfl) (by kernel_rfl) (fun _ _ _ h => h) (Or.inl ⟨by rfl, ?_⟩) (by assumption) ?_
      rotate_left
      · intro w' hSw
        try dsimp only at hSw
        go_simp
        first | done | (with_reducible rfl)
      try simp only [List.getElem_toArray, List.getElem_cons_succ, List.getElem_cons_zero, Act.put, List.setIfInBounds_toArray, List.set_cons_zero, List.set_cons_succ]
      refine wpAnyH_done (by kernel_rfl) ?_ _
      refine NoPanic.normal ?_
      clear hHeld s2
      go_wp2_with fail
      go_meet
      exact ⟨rfl, HX⟩
    · obtain rfl : k4 = 0 := by have := HK4.out; rw [hmm] at this; exact this.symm
      clear hmm
      have HX := Lib.hid (Chg.refl (fun _ => False) w5).drew
      have s2 := HKEEP.out _ HX.out
      refine wp_region_noPanic ?_
      refine wp_region_held_drew (S := (fun w' => (w'.cell? ⟨g0, 0, none⟩ = some (.int .i64 m) ∧ w'.cell? ⟨g0, 1, none⟩ = some (.int .i64 p) ∧ w'.cell? ⟨g0, 2, none⟩ = some (.int .i64 a) ∧ w'.cell? ⟨g0, 3, none⟩ = some (.int .i64 s) ∧ w'.cell? ⟨g0, 4, none⟩ = some (.slice A n c)) ∧ (convert 22 9 (.slice E 0 ec)).run Try.prog w' = .ok (.string ⟨mm.toArray⟩) w')) (by kernel_rfl) s2 (fun hHeld => ?_)
      refine wpAnyH_take (i := 0) (v := ?_) rfl (by kernel_rfl) (by kernel_rfl) (by kernel_rfl) (fun _ _ _ h => h) (Or.inl ⟨by rfl, ?_⟩) (by assumption) ?_
      rotate_left
      · intro w' hSw
        try dsimp only at hSw
        go_simp
        first | done | (with_reducible rfl)
      try simp only [List.getElem_toArray, List.getElem_cons_succ, List.getElem_cons_zero, Act.put, List.setIfInBounds_toArray, List.set_cons_zero, List.set_cons_succ]
      refine wpAnyH_take (i := 2) (v := ?_) rfl (by kernel_rfl) (by kernel_rfl) (by kernel_rfl) (fun _ _ _ h => h) (Or.inl ⟨by rfl, ?_⟩) (by assumption) ?_
      rotate_left
      · intro w' hSw
        try dsimp only at hSw
        go_simp
        first | done | (with_reducible rfl)
      try simp only [List.getElem_toArray, List.getElem_cons_succ, List.getElem_cons_zero, Act.put, List.setIfInBounds_toArray, List.set_cons_zero, List.set_cons_succ]
      refine wpAnyH_ready (rs := [1]) (by kernel_rfl) (by simp) ?_
      refine AllReadyH.cons rfl (fun K hK => ?_) AllReadyH.nil
      go_simp
      refine (HRI.out _).mono ?_
      rintro e wz ⟨rfl, hcz⟩
      have HX := Lib.hid (HX.out.trans hcz (fun _ _ e => e))
      have s2 := HKEEP.out _ HX.out
      clear hcz
      go_wp2_with fail
      refine hK.out _ _ s2 (fun hHeld => ?_)
      clear hK K
      try simp only [List.getElem_toArray, List.getElem_cons_succ, List.getElem_cons_zero, Act.put, List.setIfInBounds_toArray, List.set_cons_zero, List.set_cons_succ]
      refine wpAnyH_take (i := 3) (v := ?_) rfl (by kernel_rfl) (by kernel_rfl) (by kernel_rfl) (fun _ _ _ h => h) (Or.inl ⟨by rfl, ?_⟩) (by assumption) ?_
      rotate_left
      · intro w' hSw
        try dsimp only at hSw
        go_simp
        first | done | (with_reducible rfl)
      try simp only [List.getElem_toArray, List.getElem_cons_succ, List.getElem_cons_zero, Act.put, List.setIfInBounds_toArray, List.set_cons_zero, List.set_cons_succ]
      refine wpAnyH_take (i := 4) (v := ?_) rfl (by kernel_rfl) (by kernel_rfl) (by kernel_rfl) (fun _ _ _ h => h) (Or.inl ⟨by rfl, ?_⟩) (by assumption) ?_
      rotate_left
      · intro w' hSw
        try dsimp only at hSw
        go_simp
        first | done | (with_reducible rfl)
      try simp only [List.getElem_toArray, List.getElem_cons_succ, List.getElem_cons_zero, Act.put, List.setIfInBounds_toArray, List.set_cons_zero, List.set_cons_succ]
      refine wpAnyH_take (i := 5) (v := ?_) rfl (by kernel_rfl) (by kernel_rfl) (by kernel_rfl) (fun _ _ _ h => h) (Or.inl ⟨by rfl, ?_⟩) (by assumption) ?_
      rotate_left
      · intro w' hSw
        try dsimp only at hSw
        go_simp
        first | done | (with_reducible rfl)
      try simp only [List.getElem_toArray, List.getElem_cons_succ, List.getElem_cons_zero, Act.put, List.setIfInBounds_toArray, List.set_cons_zero, List.set_cons_succ]
      refine wpAnyH_take (i := 6) (v := ?_) rfl (by kernel_rfl) (by kernel_rfl) (by kernel_rfl) (fun _ _ _ h => h) (Or.inl ⟨by rfl, ?_⟩) (by assumption) ?_
      rotate_left
      · intro w' hSw
        try dsimp only at hSw
        go_simp
        first | done | (with_reducible rfl)
      try simp only [List.getElem_toArray, List.getElem_cons_succ, List.getElem_cons_zero, Act.put, List.setIfInBounds_toArray, List.set_cons_zero, List.set_cons_succ]
      refine wpAnyH_take (i := 7) (v := _) rfl (by kernel_rfl) (by kernel_rfl) (by kernel_rfl) (fun _ _ _ h => h) (Or.inr ⟨by rfl, rfl⟩) (by assumption) ?_
      try simp only [List.getElem_toArray, List.getElem_cons_succ, List.getElem_cons_zero, Act.put, List.setIfInBounds_toArray, List.set_cons_zero, List.set_cons_succ]
      refine wpAnyH_take (i := 8) (v := _) rfl (by kernel_rfl) (by kernel_rfl) (by kernel_rfl) (fun _ _ _ h => h) (Or.inr ⟨by rfl, rfl⟩) (by assumption) ?_
      try simp only [List.getElem_toArray, List.getElem_cons_succ, List.getElem_cons_zero, Act.put, List.setIfInBounds_toArray, List.set_cons_zero, List.set_cons_succ]
      refine wpAnyH_take (i := 9) (v := _) rfl (by kernel_rfl) (by kernel_rfl) (by kernel_rfl) (fun _ _ _ h => h) (Or.inr ⟨by rfl, rfl⟩) (by assumption) ?_
      try simp only [List.getElem_toArray, List.getElem_cons_succ, List.getElem_cons_zero, Act.put, List.setIfInBounds_toArray, List.set_cons_zero, List.set_cons_succ]
      refine wpAnyH_take (i := 10) (v := _) rfl (by kernel_rfl) (by kernel_rfl) (by kernel_rfl) (fun _ _ _ h => h) (Or.inr ⟨by rfl, rfl⟩) (by assumption) ?_
      try simp only [List.getElem_toArray, List.getElem_cons_succ, List.getElem_cons_zero, Act.put, List.setIfInBounds_toArray, List.set_cons_zero, List.set_cons_succ]
      refine wpAnyH_take (i := 11) (v := _) rfl (by kernel_rfl) (by kernel_rfl) (by kernel_rfl) (fun _ _ _ h => h) (Or.inr ⟨by rfl, rfl⟩) (by assumption) ?_
      try simp only [List.getElem_toArray, List.getElem_cons_succ, List.getElem_cons_zero, Act.put, List.setIfInBounds_toArray, List.set_cons_zero, List.set_cons_succ]
      refine wpAnyH_take (i := 12) (v := _) rfl (by kernel_rfl) (by kernel_rfl) (by kernel_rfl) (fun _ _ _ h => h) (Or.inr ⟨by rfl, rfl⟩) (by assumption) ?_
      try simp only [List.getElem_toArray, List.getElem_cons_succ, List.getElem_cons_zero, Act.put, List.setIfInBounds_toArray, List.set_cons_zero, List.set_cons_succ]
      refine wpAnyH_take (i := 13) (v := _) rfl (by kernel_rfl) (by kernel_rfl) (by kernel_rfl) (fun _ _ _ h => h) (Or.inr ⟨by rfl, rfl⟩) (by assumption) ?_
      try simp only [List.getElem_toArray, List.getElem_cons_succ, List.getElem_cons_zero, Act.put, List.setIfInBounds_toArray, List.set_cons_zero, List.set_cons_succ]
      refine wpAnyH_take (i := 14) (v := _) rfl (by kernel_rfl) (by kernel_rfl) (by kernel_rfl) (fun _ _ _ h => h) (Or.inr ⟨by rfl, rfl⟩) (by assumption) ?_
      try simp only [List.getElem_toArray, List.getElem_cons_succ, List.getElem_cons_zero, Act.put, List.setIfInBounds_toArray, List.set_cons_zero, List.set_cons_succ]
      refine wpAnyH_take (i := 15) (v := _) rfl (by kernel_rfl) (by kernel_rfl) (by kernel_rfl) (fun _ _ _ h => h) (Or.inr ⟨by rfl, rfl⟩) (by assumption) ?_
      try simp only [List.getElem_toArray, List.getElem_cons_succ, List.getElem_cons_zero, Act.put, List.setIfInBounds_toArray, List.set_cons_zero, List.set_cons_succ]
      refine wpAnyH_take (i := 16) (v := _) rfl (by kernel_rfl) (by kernel_rfl) (by kernel_rfl) (fun _ _ _ h => h) (Or.inr ⟨by rfl, rfl⟩) (by assumption) ?_
      try simp only [List.getElem_toArray, List.getElem_cons_succ, List.getElem_cons_zero, Act.put, List.setIfInBounds_toArray, List.set_cons_zero, List.set_cons_succ]
      refine wpAnyH_take (i := 17) (v := _) rfl (by kernel_rfl) (by kernel_rfl) (by kernel_rfl) (fun _ _ _ h => h) (Or.inr ⟨by rfl, rfl⟩) (by assumption) ?_
      try simp only [List.getElem_toArray, List.getElem_cons_succ, List.getElem_cons_zero, Act.put, List.setIfInBounds_toArray, List.set_cons_zero, List.set_cons_succ]
      refine wpAnyH_take (i := 18) (v := ?_) rfl (by kernel_rfl) (by kernel_rfl) (by kernel_rfl) (fun _ _ _ h => h) (Or.inl ⟨by rfl, ?_⟩) (by assumption) ?_
      rotate_left
      · intro w' hSw
        try dsimp only at hSw
        go_simp
        first | done | (with_reducible rfl)
      try simp only [List.getElem_toArray, List.getElem_cons_succ, List.getElem_cons_zero, Act.put, List.setIfInBounds_toArray, List.set_cons_zero, List.set_cons_succ]
      refine wpAnyH_take (i := 19) (v := ?_) rfl (by kernel_rfl) (by kernel_rfl) (by kernel_rfl) (fun _ _ _ h => h) (Or.inl ⟨by rfl, ?_⟩) (by assumption) ?_
      rotate_left
      · intro w' hSw
        try dsimp only at hSw
        go_simp
        first | done | (with_reducible rfl)
      try simp only [List.getElem_toArray, List.getElem_cons_succ, List.getElem_cons_zero, Act.put, List.setIfInBounds_toArray, List.set_cons_zero, List.set_cons_succ]
      refine wpAnyH_take (i := 20) (v := ?_) rfl (by kernel_rfl) (by kernel_rfl) (by kernel_rfl) (fun _ _ _ h => h) (Or.inl ⟨by rfl, ?_⟩) (by assumption) ?_
      rotate_left
      · intro w' hSw
        try dsimp only at hSw
        go_simp
        first | done | (with_reducible rfl)
      try simp only [List.getElem_toArray, List.getElem_cons_succ, List.getElem_cons_zero, Act.put, List.setIfInBounds_toArray, List.set_cons_zero, List.set_cons_succ]
      refine wpAnyH_take (i := 21) (v := ?_) rfl (by kernel_rfl) (by kernel_rfl) (by kernel_rfl) (fun _ _ _ h => h) (Or.inl ⟨by rfl, ?_⟩) (by assumption) ?_
      rotate_left
      · intro w' hSw
        try dsimp only at hSw
        go_simp
        first | done | (with_reducible rfl)
      try simp only [List.getElem_toArray, List.getElem_cons_succ, List.getElem_cons_zero, Act.put, List.setIfInBounds_toArray, List.set_cons_zero, List.set_cons_succ]
      refine wpAnyH_take (i := 22) (v := ?_) rfl (by kernel_rfl) (by kernel_rfl) (by kernel_rfl) (fun _ _ _ h => h) (Or.inl ⟨by rfl, ?_⟩) (by assumption) ?_
      rotate_left
      · intro w' hSw
        try dsimp only at hSw
        go_simp
        first | done | (with_reducible rfl)
      try simp only [List.getElem_toArray, List.getElem_cons_succ, List.getElem_cons_zero, Act.put, List.setIfInBounds_toArray, List.set_cons_zero, List.set_cons_succ]
      refine wpAnyH_take (i := 23) (v := ?_) rfl (by kernel_rfl) (by kernel_rfl) (by kernel_rfl) (fun _ _ _ h => h) (Or.inl ⟨by rfl, ?_⟩) (by assumption) ?_
      rotate_left
      · intro w' hSw
        try dsimp only at hSw
        go_simp
        first | done | (with_reducible rfl)
      try simp only [List.getElem_toArray, List.getElem_cons_succ, List.getElem_cons_zero, Act.put, List.setIfInBounds_toArray, List.set_cons_zero, List.set_cons_succ]
      refine wpAnyH_take (i := 24) (v := ?_) rfl (by kernel_rfl) (by kernel_rfl) (by kernel_rfl) (fun _ _ _ h => h) (Or.inl ⟨by rfl, ?_⟩) (by assumption) ?_
      rotate_left
      · intro w' hSw
        try dsimp only at hSw
        go_simp
        first | done | (with_reducible rfl)
      try simp only [List.getElem_toArray, List.getElem_cons_succ, List.getElem_cons_zero, Act.put, List.setIfInBounds_toArray, List.set_cons_zero, List.set_cons_succ]
      refine wpAnyH_take (i := 25) (v := ?_) rfl (by kernel_rfl) (by kernel_rfl) (by kernel_rfl) (fun _ _ _ h => h) (Or.inl ⟨by rfl, ?_⟩) (by assumption) ?_
      rotate_left
      · intro w' hSw
        try dsimp only at hSw
        go_simp
        first | done | (with_reducible rfl)
      try simp only [List.getElem_toArray, List.getElem_cons_succ, List.getElem_cons_zero, Act.put, List.setIfInBounds_toArray, List.set_cons_zero, List.set_cons_succ]
      refine wpAnyH_take (i := 26) (v := ?_) rfl (by kernel_rfl) (by kernel_rfl) (by kernel_rfl) (fun _ _ _ h => h) (Or.inl ⟨by rfl, ?_⟩) (by assumption) ?_
      rotate_left
      · intro w' hSw
        try dsimp only at hSw
        go_simp
        first | done | (with_reducible rfl)
      try simp only [List.getElem_toArray, List.getElem_cons_succ, List.getElem_cons_zero, Act.put, List.setIfInBounds_toArray, List.set_cons_zero, List.set_cons_succ]
      refine wpAnyH_take (i := 27) (v := ?_) rfl (by kernel_rfl) (by kernel_rfl) (by kernel_rfl) (fun _ _ _ h => h) (Or.inl ⟨by rfl, ?_⟩) (by assumption) ?_
      rotate_left
      · intro w' hSw
        try dsimp only at hSw
        go_simp
        first | done | (with_reducible rfl)
      try simp only [List.getElem_toArray, List.getElem_cons_succ, List.getElem_cons_zero, Act.put, List.setIfInBounds_toArray, List.set_cons_zero, List.set_cons_succ]
      refine wpAnyH_take (i := 28) (v := ?_) rfl (by kernel_rfl) (by kernel_rfl) (by kernel_rfl) (fun _ _ _ h => h) (Or.inl ⟨by rfl, ?_⟩) (by assumption) ?_
      rotate_left
      · intro w' hSw
        try dsimp only at hSw
        go_simp
        first | done | (with_reducible rfl)
      try simp only [List.getElem_toArray, List.getElem_cons_succ, List.getElem_cons_zero, Act.put, List.setIfInBounds_toArray, List.set_cons_zero, List.set_cons_succ]
      refine wpAnyH_take (i := 29) (v := ?_) rfl (by kernel_rfl) (by kernel_rfl) (by kernel_rfl) (fun _ _ _ h => h) (Or.inl ⟨by rfl, ?_⟩) (by assumption) ?_
      rotate_left
      · intro w' hSw
        try dsimp only at hSw
        go_simp
        first | done | (with_reducible rfl)
      try simp only [List.getElem_toArray, List.getElem_cons_succ, List.getElem_cons_zero, Act.put, List.setIfInBounds_toArray, List.set_cons_zero, List.set_cons_succ]
      refine wpAnyH_take (i := 30) (v := ?_) rfl (by kernel_rfl) (by kernel_rfl) (by kernel_rfl) (fun _ _ _ h => h) (Or.inl ⟨by rfl, ?_⟩) (by assumption) ?_
      rotate_left
      · intro w' hSw
        try dsimp only at hSw
        go_simp
        first | done | (with_reducible rfl)
      try simp only [List.getElem_toArray, List.getElem_cons_succ, List.getElem_cons_zero, Act.put, List.setIfInBounds_toArray, List.set_cons_zero, List.set_cons_succ]
      refine wpAnyH_take (i := 31) (v := ?_) rfl (by kernel_rfl) (by kernel_rfl) (by kernel_rfl) (fun _ _ _ h => h) (Or.inl ⟨by rfl, ?_⟩) (by assumption) ?_
      rotate_left
      · intro w' hSw
        try dsimp only at hSw
        go_simp
        first | done | (with_reducible rfl)
      try simp only [List.getElem_toArray, List.getElem_cons_succ, List.getElem_cons_zero, Act.put, List.setIfInBounds_toArray, List.set_cons_zero, List.set_cons_succ]
      refine wpAnyH_take (i := 32) (v := ?_) rfl (by kernel_rfl) (by kernel_rfl) (by kernel_rfl) (fun _ _ _ h => h) (Or.inl ⟨by rfl, ?_⟩) (by assumption) ?_
      rotate_left
      · intro w' hSw
        try dsimp only at hSw
        go_simp
        first | done | (with_reducible rfl)
      try simp only [List.getElem_toArray, List.getElem_cons_succ, List.getElem_cons_zero, Act.put, List.setIfInBounds_toArray, List.set_cons_zero, List.set_cons_succ]
      refine wpAnyH_done (by kernel_rfl) ?_ _
      refine NoPanic.normal ?_
      clear hHeld s2
      go_wp2_with fail
      go_meet
      exact ⟨rfl, HX⟩
  case rest =>
    obtain ⟨rfl, HX6⟩ := hcut
    have HC6 := Lib.hid (HX5.out.trans HX6.out (fun _ _ e => e))
    have HQ6 := Lib.hid (HQ5.out.chg HX6.out id)
    have HR6 := Lib.hid (HR5.out.chg HX6.out (fun _ _ => id))
    have HB6 := Lib.hid (HB5.out.chg HX6.out (fun _ _ => id))
    have HD := Lib.hid (dec11_any E k4 ec mm _ _ HK4.out.symm (HO5.out.chg HX6.out (fun _ _ => id)) HNE.out HCP.out)
    clear HKEEP HOF HRI HO5 HX5 HQ5 HR5 HB5 HX6
    go_wp2_with fail
    refine HD.out.mono ?_
    rintro e w7 hp
    obtain ⟨lm, lp, la, ls, xm, lb, hj, hx, hlb, -⟩ := dec11_case mm
    unfold Dec11 at hp
    rw [hj, hx] at hp
    obtain ⟨F, fc, rfl, hrd, hc⟩ := hp
    have HBK := Lib.hid (show r = true → (⟨lm, lp, la, ls, lb⟩ : LV) = ⟨m, p, a, s, b⟩ ∧ xm = 0 from fun hr => by
      rcases HCASE.out with ⟨_, _, hmm⟩ | ⟨h0, _⟩
      · obtain ⟨g1, g2⟩ := dec11_back (m := m) (p := p) (a := a) (s := s) (l := b) (by rw [← HN.out]; rw [HLR.out]; exact hr)
        rw [← hmm] at g1 g2
        exact ⟨hj.symm.trans g1, hx.symm.trans g2⟩
      · rw [hr] at h0
        cases h0)
    simp only at hrd
    generalize hk7 : lb.length = k7 at *
    have HK7 := Lib.hid hk7
    have HLB := Lib.hid hlb
    have HC7 := Lib.hid (HC6.out.trans hc (fun _ _ e => e))
    have HQ7 := Lib.hid (HQ6.out.chg hc id)
    have HR7 := Lib.hid (HR6.out.chg hc (fun _ _ => id))
    have HB7 := Lib.hid (HB6.out.chg hc (fun _ _ => id))
    have HRD7 := Lib.hid hrd
    clear hj hx hlb hrd hc hk7 HD HC6 HQ6 HR6 HB6
    unfold ltC
    go_upto_region 8 with fail
    have hca := (Chg.refl (fun _ => False) w7).alloc (.cells #[.int .i64 lm, .int .i64 lp, .int .i64 la, .int .i64 ls, .slice F k7 fc] 24)
    have HC8 := Lib.hid (HC7.out.trans hca (fun _ _ e => e))
    have HQ8 := Lib.hid (HQ7.out.chg hca id)
    have HR8 := Lib.hid (HR7.out.chg hca (fun _ _ => id))
    have HB8 := Lib.hid (HB7.out.chg hca (fun _ _ => id))
    have HRD8 := Lib.hid (HRD7.out.chg hca (fun _ _ => id))
    have HP8 : Hid (Blk (w7.alloc (.cells #[.int .i64 lm, .int .i64 lp, .int .i64 la, .int .i64 ls, .slice F k7 fc] 24)) w7.heap.size 24 (ltC lm lp la ls F k7 fc)) := Lib.hid (blk_new rfl)
    clear hca HC7 HQ7 HR7 HB7 HRD7
    generalize w7.alloc (.cells #[.int .i64 lm, .int .i64 lp, .int .i64 la, .int .i64 ls, .slice F k7 fc] 24) = w8 at *
    generalize hg8 : w7.heap.size = g8 at *
    clear hg8
    have HOF := Lib.hid (fun (W : World) (hw : Chg (fun _ => False) w8 W) => of11_any m p a s A n c b S W HN.out (HR8.out.chg hw (fun _ _ => id)))
    have HOF2 := Lib.hid (fun (W : World) (hw : Chg (fun _ => False) w8 W) => of11_any lm lp la ls F k7 fc lb _ W HK7.out.symm (HRD8.out.chg hw (fun _ _ => id)))
    have HKEEP : Hid (∀ W : World, Chg (fun _ => False) w8 W → ((W.cell? ⟨g0, 0, none⟩ = some (.int .i64 m) ∧ W.cell? ⟨g0, 1, none⟩ = some (.int .i64 p) ∧ W.cell? ⟨g0, 2, none⟩ = some (.int .i64 a) ∧ W.cell? ⟨g0, 3, none⟩ = some (.int .i64 s) ∧ W.cell? ⟨g0, 4, none⟩ = some (.slice A n c)) ∧ (W.cell? ⟨g8, 0, none⟩ = some (.int .i64 lm) ∧ W.cell? ⟨g8, 1, none⟩ = some (.int .i64 lp) ∧ W.cell? ⟨g8, 2, none⟩ = some (.int .i64 la) ∧ W.cell? ⟨g8, 3, none⟩ = some (.int .i64 ls) ∧ W.cell? ⟨g8, 4, none⟩ = some (.slice F k7 fc)))) := Lib.hid (fun W hw => ⟨lt_cells (HQ8.out.chg hw id), lt_cells (HP8.out.chg hw id)⟩)
    unfold ltC rlC at HOF HOF2
    go_cut [83] (fun s83 wy => s83 = .bool false ∧ Hid (Chg (fun _ => False) w8 wy))
    case first =>
      cases r with
      | true =>
        obtain ⟨hl, rfl⟩ := HBK.out rfl
        injection hl with e0 e1 e2 e3 e4
        subst e0 e1 e2 e3 e4
        have hne := fun W => ne_rl11 W lm lp la ls ⟨lb.toArray⟩
        unfold rlC at hne
        have HX := Lib.hid (Chg.refl (fun _ => False) w8).drew
        have s2 := HKEEP.out _ HX.out
        refine wp_region_noPanic ?_
        refine wp_region_held_drew (S := (fun w' => (w'.cell? ⟨g0, 0, none⟩ = some (.int .i64 lm) ∧ w'.cell? ⟨g0, 1, none⟩ = some (.int .i64 lp) ∧ w'.cell? ⟨g0, 2, none⟩ = some (.int .i64 la) ∧ w'.cell? ⟨g0, 3, none⟩ = some (.int .i64 ls) ∧ w'.cell? ⟨g0, 4, none⟩ = some (.slice A n c)) ∧ (w'.cell? ⟨g8, 0, none⟩ = some (.int .i64 lm) ∧ w'.cell? ⟨g8, 1, none⟩ = some (.int .i64 lp) ∧ w'.cell? ⟨g8, 2, none⟩ = some (.int .i64 la) ∧ w'.cell? ⟨g8, 3, none⟩ = some (.int .i64 ls) ∧ w'.cell? ⟨g8, 4, none⟩ = some (.slice F k7 fc)))) (by kernel_rfl) s2 (fun hHeld => ?_)
        refine wpAnyH_take (i := 0) (v := ?_) rfl (by kernel_rfl) (by kernel_rfl) (by kernel_rfl) (fun _ _ _ h => h) (Or.inl ⟨by rfl, ?_⟩) (by assumption) ?_
        rotate_left
        · intro w' hSw
          try dsimp only at hSw
          go_simp
          first | done | (with_reducible rfl)
        try simp only [List.getElem_toArray, List.getElem_cons_succ, List.getElem_cons_zero, Act.put, List.setIfInBounds_toArray, List.set_cons_zero, List.set_cons_succ]
        refine wpAnyH_take (i := 1) (v := ?_) rfl (by kernel_rfl) (by kernel_rfl) (by kernel_rfl) (fun _ _ _ h => h) (Or.inl ⟨by rfl, ?_⟩) (by assumption) ?_
        rotate_left
        · intro w' hSw
          try dsimp only at hSw
          go_simp
          first | done | (with_reducible rfl)
        try simp only [List.getElem_toArray, List.getElem_cons_succ, List.getElem_cons_zero, Act.put, List.setIfInBounds_toArray, List.set_cons_zero, List.set_cons_succ]
        refine wpAnyH_take (i := 2) (v := ?_) rfl (by kernel_rfl) (by kernel_rfl) (by kernel_rfl) (fun _ _ _ h => h) (Or.inl ⟨by rfl, ?_⟩) (by assumption) ?_
        rotate_left
        · intro w' hSw
          try dsimp only at hSw
          go_simp
          first | done | (with_reducible rfl)
        try simp only [List.getElem_toArray, List.getElem_cons_succ, List.getElem_cons_zero, Act.put, List.setIfInBounds_toArray, List.set_cons_zero, List.set_cons_succ]
        refine wpAnyH_take (i := 3) (v := ?_) rfl (by kernel_rfl) (by kernel_rfl) (by kernel_rfl) (fun _ _ _ h => h) (Or.inl ⟨by rfl, ?_⟩) (by assumption) ?_
        rotate_left
        · intro w' hSw
          try dsimp only at hSw
          go_simp
          first | done | (with_reducible rfl)
        try simp only [List.getElem_toArray, List.getElem_cons_succ, List.getElem_cons_zero, Act.put, List.setIfInBounds_toArray, List.set_cons_zero, List.set_cons_succ]
        refine wpAnyH_take (i := 4) (v := ?_) rfl (by kernel_rfl) (by kernel_rfl) (by kernel_rfl) (fun _ _ _ h => h) (Or.inl ⟨by rfl, ?_⟩) (by assumption) ?_
        rotate_left
        · intro w' hSw
          try dsimp only at hSw
          go_simp
          first | done | (with_reducible rfl)
        try simp only [List.getElem_toArray, List.getElem_cons_succ, List.getElem_cons_zero, Act.put, List.setIfInBounds_toArray, List.set_cons_zero, List.set_cons_succ]
        refine wpAnyH_take (i := 5) (v := ?_) rfl (by kernel_rfl) (by kernel_rfl) (by kernel_rfl) (fun _ _ _ h => h) (Or.inl ⟨by rfl, ?_⟩) (by assumption) ?_
        rotate_left
        · intro w' hSw
          try dsimp only at hSw
          go_simp
          first | done | (with_reducible rfl)
        try simp only [List.getElem_toArray, List.getElem_cons_succ, List.getElem_cons_zero, Act.put, List.setIfInBounds_toArray, List.set_cons_zero, List.set_cons_succ]
        refine wpAnyH_take (i := 7) (v := ?_) rfl (by kernel_rfl) (by kernel_rfl) (by kernel_rfl) (fun _ _ _ h => h) (Or.inl ⟨by rfl, ?_⟩) (by assumption) ?_
        rotate_left
        · intro w' hSw
          try dsimp only at hSw
          go_simp
          first | done | (with_reducible rfl)
        try simp only [List.getElem_toArray, List.getElem_cons_succ, List.getElem_cons_zero, Act.put, List.setIfInBounds_toArray, List.set_cons_zero, List.set_cons_succ]
        refine wpAnyH_ready (rs := [6]) (by kernel_rfl) (by simp) ?_
        refine AllReadyH.cons rfl (fun K hK => ?_) AllReadyH.nil
        go_simp
        refine (HOF2.out _ HX.out).mono ?_
        rintro e wz ⟨rfl, hcz⟩
        have HX := Lib.hid (HX.out.trans hcz (fun _ _ e => e))
        have s2 := HKEEP.out _ HX.out
        clear hcz
        go_wp2_with fail
        refine hK.out _ _ s2 (fun hHeld => ?_)
        clear hK K
        try simp only [List.getElem_toArray, List.getElem_cons_succ, List.getElem_cons_zero, Act.put, List.setIfInBounds_toArray, List.set_cons_zero, List.set_cons_succ]
        refine wpAnyH_ready (rs := [8]) (by kernel_rfl) (by simp) ?_
        refine AllReadyH.cons rfl (fun K hK => ?_) AllReadyH.nil
        go_simp
        refine (HOF.out _ HX.out).mono ?_
        rintro e wz ⟨rfl, hcz⟩
        have HX := Lib.hid (HX.out.trans hcz (fun _ _ e => e))
        have s2 := HKEEP.out _ HX.out
        clear hcz
        go_wp2_with fail
        refine hK.out _ _ s2 (fun hHeld => ?_)
        clear hK K
        try simp only [List.getElem_toArray, List.getElem_cons_succ, List.getElem_cons_zero, Act.put, List.setIfInBounds_toArray, List.set_cons_zero, List.set_cons_succ]
        refine wpAnyH_ready (rs := [9]) (by kernel_rfl) (by simp) ?_
        refine AllReadyH.cons rfl (fun K hK => ?_) AllReadyH.nil
        go_simp
        refine hK.out _ _ s2 (fun hHeld => ?_)
        clear hK K
        try simp only [List.getElem_toArray, List.getElem_cons_succ, List.getElem_cons_zero, Act.put, List.setIfInBounds_toArray, List.set_cons_zero, List.set_cons_succ]
        refine wpAnyH_take (i := 10) (v := ?_) rfl (by kernel_rfl) (by kernel_rfl) (by kernel_rfl) (fun _ _ _ h => h) (Or.inl ⟨by rfl, ?_⟩) (by assumption) ?_
        rotate_left
        · intro w' hSw
          try dsimp only at hSw
          go_simp
          first | done | (with_reducible rfl)
        try simp only [List.getElem_toArray, List.getElem_cons_succ, List.getElem_cons_zero, Act.put, List.setIfInBounds_toArray, List.set_cons_zero, List.set_cons_succ]
        refine wpAnyH_take (i := 11) (v := ?_) rfl (by kernel_rfl) (by kernel_rfl) (by kernel_rfl) (fun _ _ _ h => h) (Or.inl ⟨by rfl, ?_⟩) (by assumption) ?_
        rotate_left
        · intro w' hSw
          try dsimp only at hSw
          go_simp
          first | done | (with_reducible rfl)
        try simp only [List.getElem_toArray, List.getElem_cons_succ, List.getElem_cons_zero, Act.put, List.setIfInBounds_toArray, List.set_cons_zero, List.set_cons_succ]
        refine wpAnyH_done (by kernel_rfl) ?_ _
        refine NoPanic.normal ?_
        clear hHeld s2
        go_wp2_with fail
        go_meet
        exact ⟨rfl, HX⟩
      | false =>
        have HX := Lib.hid (Chg.refl (fun _ => False) w8).drew
        have s2 := HKEEP.out _ HX.out
        refine wp_region_noPanic ?_
        refine wp_region_held_drew (S := (fun w' => (w'.cell? ⟨g0, 0, none⟩ = some (.int .i64 m) ∧ w'.cell? ⟨g0, 1, none⟩ = some (.int .i64 p) ∧ w'.cell? ⟨g0, 2, none⟩ = some (.int .i64 a) ∧ w'.cell? ⟨g0, 3, none⟩ = some (.int .i64 s) ∧ w'.cell? ⟨g0, 4, none⟩ = some (.slice A n c)) ∧ (w'.cell? ⟨g8, 0, none⟩ = some (.int .i64 lm) ∧ w'.cell? ⟨g8, 1, none⟩ = some (.int .i64 lp) ∧ w'.cell? ⟨g8, 2, none⟩ = some (.int .i64 la) ∧ w'.cell? ⟨g8, 3, none⟩ = some (.int .i64 ls) ∧ w'.cell? ⟨g8, 4, none⟩ = some (.slice F k7 fc)))) (by kernel_rfl) s2 (fun hHeld => ?_)
        refine wpAnyH_take (i := 0) (v := ?_) rfl (by kernel_rfl) (by kernel_rfl) (by kernel_rfl) (fun _ _ _ h => h) (Or.inl ⟨by rfl, ?_⟩) (by assumption) ?_
        rotate_left
        · intro w' hSw
          try dsimp only at hSw
          go_simp
          first | done | (with_reducible rfl)
        try simp only [List.getElem_toArray, List.getElem_cons_succ, List.getElem_cons_zero, Act.put, List.setIfInBounds_toArray, List.set_cons_zero, List.set_cons_succ]
        refine wpAnyH_take (i := 1) (v := ?_) rfl (by kernel_rfl) (by kernel_rfl) (by kernel_rfl) (fun _ _ _ h => h) (Or.inl ⟨by rfl, ?_⟩) (by assumption) ?_
        rotate_left
        · intro w' hSw
          try dsimp only at hSw
          go_simp
          first | done | (with_reducible rfl)
        try simp only [List.getElem_toArray, List.getElem_cons_succ, List.getElem_cons_zero, Act.put, List.setIfInBounds_toArray, List.set_cons_zero, List.set_cons_succ]
        refine wpAnyH_take (i := 2) (v := _) rfl (by kernel_rfl) (by kernel_rfl) (by kernel_rfl) (fun _ _ _ h => h) (Or.inr ⟨by rfl, rfl⟩) (by assumption) ?_
        try simp only [List.getElem_toArray, List.getElem_cons_succ, List.getElem_cons_zero, Act.put, List.setIfInBounds_toArray, List.set_cons_zero, List.set_cons_succ]
        refine wpAnyH_take (i := 3) (v := _) rfl (by kernel_rfl) (by kernel_rfl) (by kernel_rfl) (fun _ _ _ h => h) (Or.inr ⟨by rfl, rfl⟩) (by assumption) ?_
        try simp only [List.getElem_toArray, List.getElem_cons_succ, List.getElem_cons_zero, Act.put, List.setIfInBounds_toArray, List.set_cons_zero, List.set_cons_succ]
        refine wpAnyH_take (i := 4) (v := _) rfl (by kernel_rfl) (by kernel_rfl) (by kernel_rfl) (fun _ _ _ h => h) (Or.inr ⟨by rfl, rfl⟩) (by assumption) ?_
        try simp only [List.getElem_toArray, List.getElem_cons_succ, List.getElem_cons_zero, Act.put, List.setIfInBounds_toArray, List.set_cons_zero, List.set_cons_succ]
        refine wpAnyH_take (i := 5) (v := _) rfl (by kernel_rfl) (by kernel_rfl) (by kernel_rfl) (fun _ _ _ h => h) (Or.inr ⟨by rfl, rfl⟩) (by assumption) ?_
        try simp only [List.getElem_toArray, List.getElem_cons_succ, List.getElem_cons_zero, Act.put, List.setIfInBounds_toArray, List.set_cons_zero, List.set_cons_succ]
        refine wpAnyH_take (i := 6) (v := _) rfl (by kernel_rfl) (by kernel_rfl) (by kernel_rfl) (fun _ _ _ h => h) (Or.inr ⟨by rfl, rfl⟩) (by assumption) ?_
        try simp only [List.getElem_toArray, List.getElem_cons_succ, List.getElem_cons_zero, Act.put, List.setIfInBounds_toArray, List.set_cons_zero, List.set_cons_succ]
        refine wpAnyH_take (i := 7) (v := _) rfl (by kernel_rfl) (by kernel_rfl) (by kernel_rfl) (fun _ _ _ h => h) (Or.inr ⟨by rfl, rfl⟩) (by assumption) ?_
        try simp only [List.getElem_toArray, List.getElem_cons_succ, List.getElem_cons_zero, Act.put, List.setIfInBounds_toArray, List.set_cons_zero, List.set_cons_succ]
        refine wpAnyH_take (i := 8) (v := _) rfl (by kernel_rfl) (by kernel_rfl) (by kernel_rfl) (fun _ _ _ h => h) (Or.inr ⟨by rfl, rfl⟩) (by assumption) ?_
        try simp only [List.getElem_toArray, List.getElem_cons_succ, List.getElem_cons_zero, Act.put, List.setIfInBounds_toArray, List.set_cons_zero, List.set_cons_succ]
        refine wpAnyH_take (i := 9) (v := _) rfl (by kernel_rfl) (by kernel_rfl) (by kernel_rfl) (fun _ _ _ h => h) (Or.inr ⟨by rfl, rfl⟩) (by assumption) ?_
        try simp only [List.getElem_toArray, List.getElem_cons_succ, List.getElem_cons_zero, Act.put, List.setIfInBounds_toArray, List.set_cons_zero, List.set_cons_succ]
        refine wpAnyH_take (i := 10) (v := _) rfl (by kernel_rfl) (by kernel_rfl) (by kernel_rfl) (fun _ _ _ h => h) (Or.inr ⟨by rfl, rfl⟩) (by assumption) ?_
        try simp only [List.getElem_toArray, List.getElem_cons_succ, List.getElem_cons_zero, Act.put, List.setIfInBounds_toArray, List.set_cons_zero, List.set_cons_succ]
        refine wpAnyH_take (i := 11) (v := ?_) rfl (by kernel_rfl) (by kernel_rfl) (by kernel_rfl) (fun _ _ _ h => h) (Or.inl ⟨by rfl, ?_⟩) (by assumption) ?_
        rotate_left
        · intro w' hSw
          try dsimp only at hSw
          go_simp
          first | done | (with_reducible rfl)
        try simp only [List.getElem_toArray, List.getElem_cons_succ, List.getElem_cons_zero, Act.put, List.setIfInBounds_toArray, List.set_cons_zero, List.set_cons_succ]
        refine wpAnyH_done (by kernel_rfl) ?_ _
        refine NoPanic.normal ?_
        clear hHeld s2
        go_wp2_with fail
        go_meet
        exact ⟨rfl, HX⟩
    case rest =>
      obtain ⟨rfl, HX9⟩ := hcut
      have HC9 := Lib.hid (HC8.out.trans HX9.out (fun _ _ e => e))
      have HB9 := Lib.hid (HB8.out.chg HX9.out (fun _ _ => id))
      have HD := Lib.hid (dec11_any B k kc bb _ _ HKB.out HB9.out HZ.out (by omega))
      clear HKEEP HOF HOF2 HC8 HQ8 HR8 HB8 HRD8 HP8 HBK HCASE HX9
      go_wp2_with fail
      refine HD.out.mono ?_
      rintro e w10 hp
      obtain ⟨ym, yp, ya, ys, xb, yb, hj, hx, hyl, hcase2⟩ := dec11_case bb
      unfold Dec11 at hp
      rw [hj, hx] at hp
      obtain ⟨G, gc, rfl, hrd, hc⟩ := hp
      simp only at hrd
      generalize hk10 : yb.length = k10 at *
      have HK10 := Lib.hid hk10
      have HJ := Lib.hid (And.intro hj hx)
      have HYL := Lib.hid hyl
      have HCASE2 := Lib.hid hcase2
      have HC10 := Lib.hid (HC9.out.trans hc (fun _ _ e => e))
      have HB10 := Lib.hid (HB9.out.chg hc (fun _ _ => id))
      have HRD10 := Lib.hid hrd
      clear hj hx hyl hcase2 hrd hc hk10 HD HC9 HB9
      unfold ltC
      go_upto_region 11 with fail
      have hca := (Chg.refl (fun _ => False) w10).alloc (.cells #[.int .i64 ym, .int .i64 yp, .int .i64 ya, .int .i64 ys, .slice G k10 gc] 24)
      have HC11 := Lib.hid (HC10.out.trans hca (fun _ _ e => e))
      have HB11 := Lib.hid (HB10.out.chg hca (fun _ _ => id))
      have HRD11 := Lib.hid (HRD10.out.chg hca (fun _ _ => id))
      have HP11 : Hid (Blk (w10.alloc (.cells #[.int .i64 ym, .int .i64 yp, .int .i64 ya, .int .i64 ys, .slice G k10 gc] 24)) w10.heap.size 24 (ltC ym yp ya ys G k10 gc)) := Lib.hid (blk_new rfl)
      clear hca HC10 HB10 HRD10
      generalize w10.alloc (.cells #[.int .i64 ym, .int .i64 yp, .int .i64 ya, .int .i64 ys, .slice G k10 gc] 24) = w11 at *
      generalize hg10 : w10.heap.size = g10 at *
      clear hg10
      have HPA := Lib.hid (rparse11_any B k kc bb _ w11 HKB.out HB11.out (by omega))
      go_wp2_with fail
      refine HPA.out.mono ?_
      rintro e w12 hp
      unfold Par11 at hp
      rw [HJ.out.1, HJ.out.2] at hp
      obtain ⟨rfl, hc⟩ := hp
      have HC12 := Lib.hid (HC11.out.trans hc (fun _ _ e => e))
      have HB12 := Lib.hid (HB11.out.chg hc (fun _ _ => id))
      have HRD12 := Lib.hid (HRD11.out.chg hc (fun _ _ => id))
      have HP12 := Lib.hid (HP11.out.chg hc id)
      unfold rlC
      clear hc HPA HC11 HB11 HRD11 HP11
      go_upto_region 12 with fail
      have hca := (Chg.refl (fun _ => False) w12).alloc (.cells #[.int .i64 ym, .int .i64 yp, .int .i64 ya, .int .i64 ys, .string ⟨yb.toArray⟩] 28)
      have HC12a := Lib.hid (HC12.out.trans hca (fun _ _ e => e))
      have HB12a := Lib.hid (HB12.out.chg hca (fun _ _ => id))
      have HRD12a := Lib.hid (HRD12.out.chg hca (fun _ _ => id))
      have HP12a := Lib.hid (HP12.out.chg hca id)
      have HZ12 : Hid (Blk (w12.alloc (.cells #[.int .i64 ym, .int .i64 yp, .int .i64 ya, .int .i64 ys, .string ⟨yb.toArray⟩] 28)) w12.heap.size 28 (rlC ym yp ya ys ⟨yb.toArray⟩)) := Lib.hid (blk_new rfl)
      clear hca HC12 HB12 HRD12 HP12
      generalize w12.alloc (.cells #[.int .i64 ym, .int .i64 yp, .int .i64 ya, .int .i64 ys, .string ⟨yb.toArray⟩] 28) = w12b at *
      generalize hg12 : w12.heap.size = g12 at *
      clear hg12
      obtain ⟨hh, xh, rh, hrr, hmk, hcase3⟩ := enc11_case ym yp ya ys yb k10 HK10.out.symm
      have HE := Lib.hid ((enc11_any ym yp ya ys G k10 gc yb _ w12b HK10.out.symm HRD12a.out (by have := HYL.out; omega)).mono (hmk w12b))
      have HCASE3 := Lib.hid (And.intro hrr hcase3)
      obtain ⟨y0, y1, y2, y3, y4⟩ := lt_cells HP12a.out
      unfold ltC at HE
      clear hrr hmk hcase3
      go_wp2_with fail
      refine HE.out.mono ?_
      rintro e w13 ⟨H, hd, rfl, hown, hc⟩
      generalize hk12 : hh.length = k12 at *
      have HO13 := Lib.hid (own_rds2 hown)
      have HC13 := Lib.hid (HC12a.out.trans hc (fun _ _ e => e))
      have HB13 := Lib.hid (HB12a.out.chg hc (fun _ _ => id))
      have HRD13 := Lib.hid (HRD12a.out.chg hc (fun _ _ => id))
      have HP13 := Lib.hid (HP12a.out.chg hc id)
      have HZ13 := Lib.hid (HZ12.out.chg hc id)
      have HOF := Lib.hid (fun (W : World) (hw : Chg (fun _ => False) w13 W) => of11_any ym yp ya ys G k10 gc yb _ W HK10.out.symm (HRD13.out.chg hw (fun _ _ => id)))
      have HAL := Lib.hid (fun W => alive11_any W)
      have HKEEP : Hid (∀ W : World, Chg (fun _ => False) w13 W → ((W.cell? ⟨g10, 0, none⟩ = some (.int .i64 ym) ∧ W.cell? ⟨g10, 1, none⟩ = some (.int .i64 yp) ∧ W.cell? ⟨g10, 2, none⟩ = some (.int .i64 ya) ∧ W.cell? ⟨g10, 3, none⟩ = some (.int .i64 ys) ∧ W.cell? ⟨g10, 4, none⟩ = some (.slice G k10 gc)) ∧ (W.cell? ⟨g12, 0, none⟩ = some (.int .i64 ym) ∧ W.cell? ⟨g12, 1, none⟩ = some (.int .i64 yp) ∧ W.cell? ⟨g12, 2, none⟩ = some (.int .i64 ya) ∧ W.cell? ⟨g12, 3, none⟩ = some (.int .i64 ys) ∧ W.cell? ⟨g12, 4, none⟩ = some (.string ⟨yb.toArray⟩)) ∧ (convert 22 9 (.slice H k12 hd)).run Try.prog W = .ok (.string ⟨hh.toArray⟩) W ∧ (convert 22 9 (.slice B k kc)).run Try.prog W = .ok (.string ⟨bb.toArray⟩) W)) := Lib.hid (fun W hw => ⟨lt_cells (HP13.out.chg hw id), rl_cells (HZ13.out.chg hw id), conv_any (HO13.out.chg hw (fun _ _ => id)), conv_any (HB13.out.chg hw (fun _ _ => id))⟩)
      have heq := fun W => eq_rl11 W ym yp ya ys ⟨yb.toArray⟩
      unfold ltC rlC at HOF
      unfold rlC at heq
      clear hown hc hk12 HE HC12a HB12a HRD12a HP12a HZ12 HO13 HRD13 HP13 HZ13 HB13 y0 y1 y2 y3 y4
      go_upto_region 13 with fail
      rcases HCASE2.out with rfl | ⟨rfl, hlr, hlb⟩
      · clear HCASE2 HCASE3
        have HX := Lib.hid (Chg.refl (fun _ => False) w13).drew
        have s2 := HKEEP.out _ HX.out
        refine wp_region_noPanic ?_
        refine wp_region_held_drew (S := (fun w' => (w'.cell? ⟨g10, 0, none⟩ = some (.int .i64 ym) ∧ w'.cell? ⟨g10, 1, none⟩ = some (.int .i64 yp) ∧ w'.cell? ⟨g10, 2, none⟩ = some (.int .i64 ya) ∧ w'.cell? ⟨g10, 3, none⟩ = some (.int .i64 ys) ∧ w'.cell? ⟨g10, 4, none⟩ = some (.slice G k10 gc)) ∧ (w'.cell? ⟨g12, 0, none⟩ = some (.int .i64 ym) ∧ w'.cell? ⟨g12, 1, none⟩ = some (.int .i64 yp) ∧ w'.cell? ⟨g12, 2, none⟩ = some (.int .i64 ya) ∧ w'.cell? ⟨g12, 3, none⟩ = some (.int .i64 ys) ∧ w'.cell? ⟨g12, 4, none⟩ = some (.string ⟨yb.toArray⟩)) ∧ (convert 22 9 (.slice H k12 hd)).run Try.prog w' = .ok (.string ⟨hh.toArray⟩) w' ∧ (convert 22 9 (.slice B k kc)).run Try.prog w' = .ok (.string ⟨bb.toArray⟩) w')) (by kernel_rfl) s2 (fun hHeld => ?_)
        refine wpAnyH_ready (rs := [0]) (by kernel_rfl) (by simp) ?_
        refine AllReadyH.cons rfl (fun K hK => ?_) AllReadyH.nil
        go_simp
        refine (HAL.out _).mono ?_
        rintro e wz ⟨rfl, hcz⟩
        have HX := Lib.hid (HX.out.trans hcz (fun _ _ e => e))
        have s2 := HKEEP.out _ HX.out
        clear hcz
        go_wp2_with fail
        refine hK.out _ _ s2 (fun hHeld => ?_)
        clear hK K
        try simp only [List.getElem_toArray, List.getElem_cons_succ, List.getElem_cons_zero, Act.put, List.setIfInBounds_toArray, List.set_cons_zero, List.set_cons_succ]
        refine wpAnyH_take (i := 1) (v := ?_) rfl (by kernel_rfl) (by kernel_rfl) (by kernel_rfl) (fun _ _ _ h => h) (Or.inl ⟨by rfl, ?_⟩) (by assumption) ?_
        rotate_left
        · intro w' hSw
          try dsimp only at hSw
          go_simp
          first | done | (with_reducible rfl)
        try simp only [List.getElem_toArray, List.getElem_cons_succ, List.getElem_cons_zero, Act.put, List.setIfInBounds_toArray, List.set_cons_zero, List.set_cons_succ]
        refine wpAnyH_take (i := 2) (v := ?_) rfl (by kernel_rfl) (by kernel_rfl) (by kernel_rfl) (fun _ _ _ h => h) (Or.inl ⟨by rfl, ?_⟩) (by assumption) ?_
        rotate_left
        · intro w' hSw
          try dsimp only at hSw
          go_simp
          first | done | (with_reducible rfl)
        try simp only [List.getElem_toArray, List.getElem_cons_succ, List.getElem_cons_zero, Act.put, List.setIfInBounds_toArray, List.set_cons_zero, List.set_cons_succ]
        refine wpAnyH_take (i := 4) (v := ?_) rfl (by kernel_rfl) (by kernel_rfl) (by kernel_rfl) (fun _ _ _ h => h) (Or.inl ⟨by rfl, ?_⟩) (by assumption) ?_
        rotate_left
        · intro w' hSw
          try dsimp only at hSw
          go_simp
          first | done | (with_reducible rfl)
        try simp only [List.getElem_toArray, List.getElem_cons_succ, List.getElem_cons_zero, Act.put, List.setIfInBounds_toArray, List.set_cons_zero, List.set_cons_succ]
        refine wpAnyH_ready (rs := [3]) (by kernel_rfl) (by simp) ?_
        refine AllReadyH.cons rfl (fun K hK => ?_) AllReadyH.nil
        go_simp
        refine (HOF.out _ HX.out).mono ?_
        rintro e wz ⟨rfl, hcz⟩
        have HX := Lib.hid (HX.out.trans hcz (fun _ _ e => e))
        have s2 := HKEEP.out _ HX.out
        clear hcz
        go_wp2_with fail
        refine hK.out _ _ s2 (fun hHeld => ?_)
        clear hK K
        try simp only [List.getElem_toArray, List.getElem_cons_succ, List.getElem_cons_zero, Act.put, List.setIfInBounds_toArray, List.set_cons_zero, List.set_cons_succ]
        refine wpAnyH_ready (rs := [5]) (by kernel_rfl) (by simp) ?_
        refine AllReadyH.cons rfl (fun K hK => ?_) AllReadyH.nil
        go_simp
        refine hK.out _ _ s2 (fun hHeld => ?_)
        clear hK K
        try simp only [List.getElem_toArray, List.getElem_cons_succ, List.getElem_cons_zero, Act.put, List.setIfInBounds_toArray, List.set_cons_zero, List.set_cons_succ]
        refine wpAnyH_take (i := 6) (v := ?_) rfl (by kernel_rfl) (by kernel_rfl) (by kernel_rfl) (fun _ _ _ h => h) (Or.inl ⟨by rfl, ?_⟩) (by assumption) ?_
        rotate_left
        · intro w' hSw
          try dsimp only at hSw
          go_simp
          first | done | (with_reducible rfl)
        try simp only [List.getElem_toArray, List.getElem_cons_succ, List.getElem_cons_zero, Act.put, List.setIfInBounds_toArray, List.set_cons_zero, List.set_cons_succ]
        refine wpAnyH_take (i := 7) (v := ?_) rfl (by kernel_rfl) (by kernel_rfl) (by kernel_rfl) (fun _ _ _ h => h) (Or.inl ⟨by rfl, ?_⟩) (by assumption) ?_
        rotate_left
        · intro w' hSw
          try dsimp only at hSw
          go_simp
          first | done | (with_reducible rfl)
        try simp only [List.getElem_toArray, List.getElem_cons_succ, List.getElem_cons_zero, Act.put, List.setIfInBounds_toArray, List.set_cons_zero, List.set_cons_succ]
        refine wpAnyH_take (i := 8) (v := ?_) rfl (by kernel_rfl) (by kernel_rfl) (by kernel_rfl) (fun _ _ _ h => h) (Or.inl ⟨by rfl, ?_⟩) (by assumption) ?_
        rotate_left
        · intro w' hSw
          try dsimp only at hSw
          go_simp
          first | done | (with_reducible rfl)
        try simp only [List.getElem_toArray, List.getElem_cons_succ, List.getElem_cons_zero, Act.put, List.setIfInBounds_toArray, List.set_cons_zero, List.set_cons_succ]
        refine wpAnyH_take (i := 9) (v := ?_) rfl (by kernel_rfl) (by kernel_rfl) (by kernel_rfl) (fun _ _ _ h => h) (Or.inl ⟨by rfl, ?_⟩) (by assumption) ?_
        rotate_left
        · intro w' hSw
          try dsimp only at hSw
          go_simp
          first | done | (with_reducible rfl)
        try simp only [List.getElem_toArray, List.getElem_cons_succ, List.getElem_cons_zero, Act.put, List.setIfInBounds_toArray, List.set_cons_zero, List.set_cons_succ]
        refine wpAnyH_take (i := 10) (v := ?_) rfl (by kernel_rfl) (by kernel_rfl) (by kernel_rfl) (fun _ _ _ h => h) (Or.inl ⟨by rfl, ?_⟩) (by assumption) ?_
        rotate_left
        · intro w' hSw
          try dsimp only at hSw
          go_simp
          first | done | (with_reducible rfl)
        try simp only [List.getElem_toArray, List.getElem_cons_succ, List.getElem_cons_zero, Act.put, List.setIfInBounds_toArray, List.set_cons_zero, List.set_cons_succ]
        refine wpAnyH_take (i := 11) (v := ?_) rfl (by kernel_rfl) (by kernel_rfl) (by kernel_rfl) (fun _ _ _ h => h) (Or.inl ⟨by rfl, ?_⟩) (by assumption) ?_
        rotate_left
        · intro w' hSw
          try dsimp only at hSw
          go_simp
          first | done | (with_reducible rfl)
        try simp only [List.getElem_toArray, List.getElem_cons_succ, List.getElem_cons_zero, Act.put, List.setIfInBounds_toArray, List.set_cons_zero, List.set_cons_succ]
        refine wpAnyH_take (i := 12) (v := ?_) rfl (by kernel_rfl) (by kernel_rfl) (by kernel_rfl) (fun _ _ _ h => h) (Or.inl ⟨by rfl, ?_⟩) (by assumption) ?_
        rotate_left
        · intro w' hSw
          try dsimp only at hSw
          go_simp
          first | done | (with_reducible rfl)
        try simp only [List.getElem_toArray, List.getElem_cons_succ, List.getElem_cons_zero, Act.put, List.setIfInBounds_toArray, List.set_cons_zero, List.set_cons_succ]
        refine wpAnyH_take (i := 13) (v := ?_) rfl (by kernel_rfl) (by kernel_rfl) (by kernel_rfl) (fun _ _ _ h => h) (Or.inl ⟨by rfl, ?_⟩) (by assumption) ?_
        rotate_left
        · intro w' hSw
          try dsimp only at hSw
          go_simp
          first | done | (with_reducible rfl)
        try simp only [List.getElem_toArray, List.getElem_cons_succ, List.getElem_cons_zero, Act.put, List.setIfInBounds_toArray, List.set_cons_zero, List.set_cons_succ]
        refine wpAnyH_take (i := 14) (v := ?_) rfl (by kernel_rfl) (by kernel_rfl) (by kernel_rfl) (fun _ _ _ h => h) (Or.inl ⟨by rfl, ?_⟩) (by assumption) ?_
        rotate_left
        · intro w' hSw
          try dsimp only at hSw
          go_simp
          first | done | (with_reducible rfl)
        try simp only [List.getElem_toArray, List.getElem_cons_succ, List.getElem_cons_zero, Act.put, List.setIfInBounds_toArray, List.set_cons_zero, List.set_cons_succ]
        refine wpAnyH_take (i := 15) (v := ?_) rfl (by kernel_rfl) (by kernel_rfl) (by kernel_rfl) (fun _ _ _ h => h) (Or.inl ⟨by rfl, ?_⟩) (by assumption) ?_
        rotate_left
        · intro w' hSw
          try dsimp only at hSw
          go_simp
          first | done | (with_reducible rfl)
        try simp only [List.getElem_toArray, List.getElem_cons_succ, List.getElem_cons_zero, Act.put, List.setIfInBounds_toArray, List.set_cons_zero, List.set_cons_succ]
        refine wpAnyH_take (i := 16) (v := _) rfl (by kernel_rfl) (by kernel_rfl) (by kernel_rfl) (fun _ _ _ h => h) (Or.inr ⟨by rfl, rfl⟩) (by assumption) ?_
        try simp only [List.getElem_toArray, List.getElem_cons_succ, List.getElem_cons_zero, Act.put, List.setIfInBounds_toArray, List.set_cons_zero, List.set_cons_succ]
        refine wpAnyH_take (i := 17) (v := _) rfl (by kernel_rfl) (by kernel_rfl) (by kernel_rfl) (fun _ _ _ h => h) (Or.inr ⟨by rfl, rfl⟩) (by assumption) ?_
        try simp only [List.getElem_toArray, List.getElem_cons_succ, List.getElem_cons_zero, Act.put, List.setIfInBounds_toArray, List.set_cons_zero, List.set_cons_succ]
        refine wpAnyH_take (i := 18) (v := _) rfl (by kernel_rfl) (by kernel_rfl) (by kernel_rfl) (fun _ _ _ h => h) (Or.inr ⟨by rfl, rfl⟩) (by assumption) ?_
        try simp only [List.getElem_toArray, List.getElem_cons_succ, List.getElem_cons_zero, Act.put, List.setIfInBounds_toArray, List.set_cons_zero, List.set_cons_succ]
        refine wpAnyH_take (i := 19) (v := _) rfl (by kernel_rfl) (by kernel_rfl) (by kernel_rfl) (fun _ _ _ h => h) (Or.inr ⟨by rfl, rfl⟩) (by assumption) ?_
        try simp only [List.getElem_toArray, List.getElem_cons_succ, List.getElem_cons_zero, Act.put, List.setIfInBounds_toArray, List.set_cons_zero, List.set_cons_succ]
        refine wpAnyH_take (i := 20) (v := _) rfl (by kernel_rfl) (by kernel_rfl) (by kernel_rfl) (fun _ _ _ h => h) (Or.inr ⟨by rfl, rfl⟩) (by assumption) ?_
        try simp only [List.getElem_toArray, List.getElem_cons_succ, List.getElem_cons_zero, Act.put, List.setIfInBounds_toArray, List.set_cons_zero, List.set_cons_succ]
        refine wpAnyH_take (i := 21) (v := _) rfl (by kernel_rfl) (by kernel_rfl) (by kernel_rfl) (fun _ _ _ h => h) (Or.inr ⟨by rfl, rfl⟩) (by assumption) ?_
        try simp only [List.getElem_toArray, List.getElem_cons_succ, List.getElem_cons_zero, Act.put, List.setIfInBounds_toArray, List.set_cons_zero, List.set_cons_succ]
        refine wpAnyH_take (i := 22) (v := _) rfl (by kernel_rfl) (by kernel_rfl) (by kernel_rfl) (fun _ _ _ h => h) (Or.inr ⟨by rfl, rfl⟩) (by assumption) ?_
        try simp only [List.getElem_toArray, List.getElem_cons_succ, List.getElem_cons_zero, Act.put, List.setIfInBounds_toArray, List.set_cons_zero, List.set_cons_succ]
        refine wpAnyH_take (i := 23) (v := _) rfl (by kernel_rfl) (by kernel_rfl) (by kernel_rfl) (fun _ _ _ h => h) (Or.inr ⟨by rfl, rfl⟩) (by assumption) ?_
        try simp only [List.getElem_toArray, List.getElem_cons_succ, List.getElem_cons_zero, Act.put, List.setIfInBounds_toArray, List.set_cons_zero, List.set_cons_succ]
        refine wpAnyH_take (i := 24) (v := _) rfl (by kernel_rfl) (by kernel_rfl) (by kernel_rfl) (fun _ _ _ h => h) (Or.inr ⟨by rfl, rfl⟩) (by assumption) ?_
        try simp only [List.getElem_toArray, List.getElem_cons_succ, List.getElem_cons_zero, Act.put, List.setIfInBounds_toArray, List.set_cons_zero, List.set_cons_succ]
        refine wpAnyH_take (i := 25) (v := ?_) rfl (by kernel_rfl) (by kernel_rfl) (by kernel_rfl) (fun _ _ _ h => h) (Or.inl ⟨by rfl, ?_⟩) (by assumption) ?_
        rotate_left
        · intro w' hSw
          try dsimp only at hSw
          go_simp
          first | done | (with_reducible rfl)
        try simp only [List.getElem_toArray, List.getElem_cons_succ, List.getElem_cons_zero, Act.put, List.setIfInBounds_toArray, List.set_cons_zero, List.set_cons_succ]
        refine wpAnyH_take (i := 26) (v := ?_) rfl (by kernel_rfl) (by kernel_rfl) (by kernel_rfl) (fun _ _ _ h => h) (Or.inl ⟨by rfl, ?_⟩) (by assumption) ?_
        rotate_left
        · intro w' hSw
          try dsimp only at hSw
          go_simp
          first | done | (with_reducible rfl)
        try simp only [List.getElem_toArray, List.getElem_cons_succ, List.getElem_cons_zero, Act.put, List.setIfInBounds_toArray, List.set_cons_zero, List.set_cons_succ]
        refine wpAnyH_take (i := 27) (v := ?_) rfl (by kernel_rfl) (by kernel_rfl) (by kernel_rfl) (fun _ _ _ h => h) (Or.inl ⟨by rfl, ?_⟩) (by assumption) ?_
        rotate_left
        · intro w' hSw
          try dsimp only at hSw
          go_simp
          first | done | (with_reducible rfl)
        try simp only [List.getElem_toArray, List.getElem_cons_succ, List.getElem_cons_zero, Act.put, List.setIfInBounds_toArray, List.set_cons_zero, List.set_cons_succ]
        refine wpAnyH_done (by kernel_rfl) ?_ _
        refine NoPanic.normal ?_
        clear hHeld s2
        go_wp2_with fail
        go_ret
        exact ⟨rfl, HC13.out.trans HX.out (fun _ _ e => e)⟩
      · have hx2 : xh = 0 ∧ hh = bb := by
          rcases HCASE3.out.2 with ⟨_, h1, h2⟩ | ⟨h1, _⟩
          · exact ⟨h1, h2.trans hlb⟩
          · have h3 := HCASE3.out.1
            rw [hlr, h1] at h3
            cases h3
        obtain ⟨rfl, rfl⟩ := hx2
        clear HCASE2 HCASE3 hlr hlb
        have HX := Lib.hid (Chg.refl (fun _ => False) w13).drew
        have s2 := HKEEP.out _ HX.out
        refine wp_region_noPanic ?_
        refine wp_region_held_drew (S := (fun w' => (w'.cell? ⟨g10, 0, none⟩ = some (.int .i64 ym) ∧ w'.cell? ⟨g10, 1, none⟩ = some (.int .i64 yp) ∧ w'.cell? ⟨g10, 2, none⟩ = some (.int .i64 ya) ∧ w'.cell? ⟨g10, 3, none⟩ = some (.int .i64 ys) ∧ w'.cell? ⟨g10, 4, none⟩ = some (.slice G k10 gc)) ∧ (w'.cell? ⟨g12, 0, none⟩ = some (.int .i64 ym) ∧ w'.cell? ⟨g12, 1, none⟩ = some (.int .i64 yp) ∧ w'.cell? ⟨g12, 2, none⟩ = some (.int .i64 ya) ∧ w'.cell? ⟨g12, 3, none⟩ = some (.int .i64 ys) ∧ w'.cell? ⟨g12, 4, none⟩ = some (.string ⟨yb.toArray⟩)) ∧ (convert 22 9 (.slice H k12 hd)).run Try.prog w' = .ok (.string ⟨hh.toArray⟩) w' ∧ (convert 22 9 (.slice B k kc)).run Try.prog w' = .ok (.string ⟨hh.toArray⟩) w')) (by kernel_rfl) s2 (fun hHeld => ?_)
        refine wpAnyH_ready (rs := [0]) (by kernel_rfl) (by simp) ?_
        refine AllReadyH.cons rfl (fun K hK => ?_) AllReadyH.nil
        go_simp
        refine (HAL.out _).mono ?_
        rintro e wz ⟨rfl, hcz⟩
        have HX := Lib.hid (HX.out.trans hcz (fun _ _ e => e))
        have s2 := HKEEP.out _ HX.out
        clear hcz
        go_wp2_with fail
        refine hK.out _ _ s2 (fun hHeld => ?_)
        clear hK K
        try simp only [List.getElem_toArray, List.getElem_cons_succ, List.getElem_cons_zero, Act.put, List.setIfInBounds_toArray, List.set_cons_zero, List.set_cons_succ]
        refine wpAnyH_take (i := 1) (v := ?_) rfl (by kernel_rfl) (by kernel_rfl) (by kernel_rfl) (fun _ _ _ h => h) (Or.inl ⟨by rfl, ?_⟩) (by assumption) ?_
        rotate_left
        · intro w' hSw
          try dsimp only at hSw
          go_simp
          first | done | (with_reducible rfl)
        try simp only [List.getElem_toArray, List.getElem_cons_succ, List.getElem_cons_zero, Act.put, List.setIfInBounds_toArray, List.set_cons_zero, List.set_cons_succ]
        refine wpAnyH_take (i := 2) (v := ?_) rfl (by kernel_rfl) (by kernel_rfl) (by kernel_rfl) (fun _ _ _ h => h) (Or.inl ⟨by rfl, ?_⟩) (by assumption) ?_
        rotate_left
        · intro w' hSw
          try dsimp only at hSw
          go_simp
          first | done | (with_reducible rfl)
        try simp only [List.getElem_toArray, List.getElem_cons_succ, List.getElem_cons_zero, Act.put, List.setIfInBounds_toArray, List.set_cons_zero, List.set_cons_succ]
        refine wpAnyH_take (i := 4) (v := ?_) rfl (by kernel_rfl) (by kernel_rfl) (by kernel_rfl) (fun _ _ _ h => h) (Or.inl ⟨by rfl, ?_⟩) (by assumption) ?_
        rotate_left
        · intro w' hSw
          try dsimp only at hSw
          go_simp
          first | done | (with_reducible rfl)
        try simp only [List.getElem_toArray, List.getElem_cons_succ, List.getElem_cons_zero, Act.put, List.setIfInBounds_toArray, List.set_cons_zero, List.set_cons_succ]
        refine wpAnyH_ready (rs := [3]) (by kernel_rfl) (by simp) ?_
        refine AllReadyH.cons rfl (fun K hK => ?_) AllReadyH.nil
        go_simp
        refine (HOF.out _ HX.out).mono ?_
        rintro e wz ⟨rfl, hcz⟩
        have HX := Lib.hid (HX.out.trans hcz (fun _ _ e => e))
        have s2 := HKEEP.out _ HX.out
        clear hcz
        go_wp2_with fail
        refine hK.out _ _ s2 (fun hHeld => ?_)
        clear hK K
        try simp only [List.getElem_toArray, List.getElem_cons_succ, List.getElem_cons_zero, Act.put, List.setIfInBounds_toArray, List.set_cons_zero, List.set_cons_succ]
        refine wpAnyH_ready (rs := [5]) (by kernel_rfl) (by simp) ?_
        refine AllReadyH.cons rfl (fun K hK => ?_) AllReadyH.nil
        go_simp
        refine hK.out _ _ s2 (fun hHeld => ?_)
        clear hK K
        try simp only [List.getElem_toArray, List.getElem_cons_succ, List.getElem_cons_zero, Act.put, List.setIfInBounds_toArray, List.set_cons_zero, List.set_cons_succ]
        refine wpAnyH_take (i := 6) (v := ?_) rfl (by kernel_rfl) (by kernel_rfl) (by kernel_rfl) (fun _ _ _ h => h) (Or.inl ⟨by rfl, ?_⟩) (by assumption) ?_
        rotate_left
        · intro w' hSw
          try dsimp only at hSw
          go_simp
          first | done | (with_reducible rfl)
        try simp only [List.getElem_toArray, List.getElem_cons_succ, List.getElem_cons_zero, Act.put, List.setIfInBounds_toArray, List.set_cons_zero, List.set_cons_succ]
        refine wpAnyH_take (i := 7) (v := ?_) rfl (by kernel_rfl) (by kernel_rfl) (by kernel_rfl) (fun _ _ _ h => h) (Or.inl ⟨by rfl, ?_⟩) (by assumption) ?_
        rotate_left
        · intro w' hSw
          try dsimp only at hSw
          go_simp
          first | done | (with_reducible rfl)
        try simp only [List.getElem_toArray, List.getElem_cons_succ, List.getElem_cons_zero, Act.put, List.setIfInBounds_toArray, List.set_cons_zero, List.set_cons_succ]
        refine wpAnyH_take (i := 8) (v := ?_) rfl (by kernel_rfl) (by kernel_rfl) (by kernel_rfl) (fun _ _ _ h => h) (Or.inl ⟨by rfl, ?_⟩) (by assumption) ?_
        rotate_left
        · intro w' hSw
          try dsimp only at hSw
          go_simp
          first | done | (with_reducible rfl)
        try simp only [List.getElem_toArray, List.getElem_cons_succ, List.getElem_cons_zero, Act.put, List.setIfInBounds_toArray, List.set_cons_zero, List.set_cons_succ]
        refine wpAnyH_take (i := 9) (v := ?_) rfl (by kernel_rfl) (by kernel_rfl) (by kernel_rfl) (fun _ _ _ h => h) (Or.inl ⟨by rfl, ?_⟩) (by assumption) ?_
        rotate_left
        · intro w' hSw
          try dsimp only at hSw
          go_simp
          first | done | (with_reducible rfl)
        try simp only [List.getElem_toArray, List.getElem_cons_succ, List.getElem_cons_zero, Act.put, List.setIfInBounds_toArray, List.set_cons_zero, List.set_cons_succ]
        refine wpAnyH_take (i := 10) (v := ?_) rfl (by kernel_rfl) (by kernel_rfl) (by kernel_rfl) (fun _ _ _ h => h) (Or.inl ⟨by rfl, ?_⟩) (by assumption) ?_
        rotate_left
        · intro w' hSw
          try dsimp only at hSw
          go_simp
          first | done | (with_reducible rfl)
        try simp only [List.getElem_toArray, List.getElem_cons_succ, List.getElem_cons_zero, Act.put, List.setIfInBounds_toArray, List.set_cons_zero, List.set_cons_succ]
        refine wpAnyH_take (i := 11) (v := ?_) rfl (by kernel_rfl) (by kernel_rfl) (by kernel_rfl) (fun _ _ _ h => h) (Or.inl ⟨by rfl, ?_⟩) (by assumption) ?_
        rotate_left
        · intro w' hSw
          try dsimp only at hSw
          go_simp
          first | done | (with_reducible rfl)
        try simp only [List.getElem_toArray, List.getElem_cons_succ, List.getElem_cons_zero, Act.put, List.setIfInBounds_toArray, List.set_cons_zero, List.set_cons_succ]
        refine wpAnyH_take (i := 12) (v := ?_) rfl (by kernel_rfl) (by kernel_rfl) (by kernel_rfl) (fun _ _ _ h => h) (Or.inl ⟨by rfl, ?_⟩) (by assumption) ?_
        rotate_left
        · intro w' hSw
          try dsimp only at hSw
          go_simp
          first | done | (with_reducible rfl)
        try simp only [List.getElem_toArray, List.getElem_cons_succ, List.getElem_cons_zero, Act.put, List.setIfInBounds_toArray, List.set_cons_zero, List.set_cons_succ]
        refine wpAnyH_take (i := 13) (v := ?_) rfl (by kernel_rfl) (by kernel_rfl) (by kernel_rfl) (fun _ _ _ h => h) (Or.inl ⟨by rfl, ?_⟩) (by assumption) ?_
        rotate_left
        · intro w' hSw
          try dsimp only at hSw
          go_simp
          first | done | (with_reducible rfl)
        try simp only [List.getElem_toArray, List.getElem_cons_succ, List.getElem_cons_zero, Act.put, List.setIfInBounds_toArray, List.set_cons_zero, List.set_cons_succ]
        refine wpAnyH_take (i := 14) (v := ?_) rfl (by kernel_rfl) (by kernel_rfl) (by kernel_rfl) (fun _ _ _ h => h) (Or.inl ⟨by rfl, ?_⟩) (by assumption) ?_
        rotate_left
        · intro w' hSw
          try dsimp only at hSw
          go_simp
          first | done | (with_reducible rfl)
        try simp only [List.getElem_toArray, List.getElem_cons_succ, List.getElem_cons_zero, Act.put, List.setIfInBounds_toArray, List.set_cons_zero, List.set_cons_succ]
        refine wpAnyH_take (i := 15) (v := ?_) rfl (by kernel_rfl) (by kernel_rfl) (by kernel_rfl) (fun _ _ _ h => h) (Or.inl ⟨by rfl, ?_⟩) (by assumption) ?_
        rotate_left
        · intro w' hSw
          try dsimp only at hSw
          go_simp
          first | done | (with_reducible rfl)
        try simp only [List.getElem_toArray, List.getElem_cons_succ, List.getElem_cons_zero, Act.put, List.setIfInBounds_toArray, List.set_cons_zero, List.set_cons_succ]
        refine wpAnyH_take (i := 16) (v := ?_) rfl (by kernel_rfl) (by kernel_rfl) (by kernel_rfl) (fun _ _ _ h => h) (Or.inl ⟨by rfl, ?_⟩) (by assumption) ?_
        rotate_left
        · intro w' hSw
          try dsimp only at hSw
          go_simp
          first | done | (with_reducible rfl)
        try simp only [List.getElem_toArray, List.getElem_cons_succ, List.getElem_cons_zero, Act.put, List.setIfInBounds_toArray, List.set_cons_zero, List.set_cons_succ]
        refine wpAnyH_take (i := 17) (v := ?_) rfl (by kernel_rfl) (by kernel_rfl) (by kernel_rfl) (fun _ _ _ h => h) (Or.inl ⟨by rfl, ?_⟩) (by assumption) ?_
        rotate_left
        · intro w' hSw
          try dsimp only at hSw
          go_simp
          first | done | (with_reducible rfl)
        try simp only [List.getElem_toArray, List.getElem_cons_succ, List.getElem_cons_zero, Act.put, List.setIfInBounds_toArray, List.set_cons_zero, List.set_cons_succ]
        refine wpAnyH_take (i := 18) (v := ?_) rfl (by kernel_rfl) (by kernel_rfl) (by kernel_rfl) (fun _ _ _ h => h) (Or.inl ⟨by rfl, ?_⟩) (by assumption) ?_
        rotate_left
        · intro w' hSw
          try dsimp only at hSw
          go_simp
          first | done | (with_reducible rfl)
        try simp only [List.getElem_toArray, List.getElem_cons_succ, List.getElem_cons_zero, Act.put, List.setIfInBounds_toArray, List.set_cons_zero, List.set_cons_succ]
        refine wpAnyH_take (i := 19) (v := ?_) rfl (by kernel_rfl) (by kernel_rfl) (by kernel_rfl) (fun _ _ _ h => h) (Or.inl ⟨by rfl, ?_⟩) (by assumption) ?_
        rotate_left
        · intro w' hSw
          try dsimp only at hSw
          go_simp
          first | done | (with_reducible rfl)
        try simp only [List.getElem_toArray, List.getElem_cons_succ, List.getElem_cons_zero, Act.put, List.setIfInBounds_toArray, List.set_cons_zero, List.set_cons_succ]
        refine wpAnyH_take (i := 20) (v := ?_) rfl (by kernel_rfl) (by kernel_rfl) (by kernel_rfl) (fun _ _ _ h => h) (Or.inl ⟨by rfl, ?_⟩) (by assumption) ?_
        rotate_left
        · intro w' hSw
          try dsimp only at hSw
          go_simp
          first | done | (with_reducible rfl)
        try simp only [List.getElem_toArray, List.getElem_cons_succ, List.getElem_cons_zero, Act.put, List.setIfInBounds_toArray, List.set_cons_zero, List.set_cons_succ]
        refine wpAnyH_take (i := 21) (v := ?_) rfl (by kernel_rfl) (by kernel_rfl) (by kernel_rfl) (fun _ _ _ h => h) (Or.inl ⟨by rfl, ?_⟩) (by assumption) ?_
        rotate_left
        · intro w' hSw
          try dsimp only at hSw
          go_simp
          first | done | (with_reducible rfl)
        try simp only [List.getElem_toArray, List.getElem_cons_succ, List.getElem_cons_zero, Act.put, List.setIfInBounds_toArray, List.set_cons_zero, List.set_cons_succ]
        refine wpAnyH_take (i := 22) (v := ?_) rfl (by kernel_rfl) (by kernel_rfl) (by kernel_rfl) (fun _ _ _ h => h) (Or.inl ⟨by rfl, ?_⟩) (by assumption) ?_
        rotate_left
        · intro w' hSw
          try dsimp only at hSw
          go_simp
          first | done | (with_reducible rfl)
        try simp only [List.getElem_toArray, List.getElem_cons_succ, List.getElem_cons_zero, Act.put, List.setIfInBounds_toArray, List.set_cons_zero, List.set_cons_succ]
        refine wpAnyH_take (i := 23) (v := ?_) rfl (by kernel_rfl) (by kernel_rfl) (by kernel_rfl) (fun _ _ _ h => h) (Or.inl ⟨by rfl, ?_⟩) (by assumption) ?_
        rotate_left
        · intro w' hSw
          try dsimp only at hSw
          go_simp
          first | done | (with_reducible rfl)
        try simp only [List.getElem_toArray, List.getElem_cons_succ, List.getElem_cons_zero, Act.put, List.setIfInBounds_toArray, List.set_cons_zero, List.set_cons_succ]
        refine wpAnyH_take (i := 24) (v := ?_) rfl (by kernel_rfl) (by kernel_rfl) (by kernel_rfl) (fun _ _ _ h => h) (Or.inl ⟨by rfl, ?_⟩) (by assumption) ?_
        rotate_left
        · intro w' hSw
          try dsimp only at hSw
          go_simp
          first | done | (with_reducible rfl)
        try simp only [List.getElem_toArray, List.getElem_cons_succ, List.getElem_cons_zero, Act.put, List.setIfInBounds_toArray, List.set_cons_zero, List.set_cons_succ]
        refine wpAnyH_take (i := 25) (v := ?_) rfl (by kernel_rfl) (by kernel_rfl) (by kernel_rfl) (fun _ _ _ h => h) (Or.inl ⟨by rfl, ?_⟩) (by assumption) ?_
        rotate_left
        · intro w' hSw
          try dsimp only at hSw
          go_simp
          first | done | (with_reducible rfl)
        try simp only [List.getElem_toArray, List.getElem_cons_succ, List.getElem_cons_zero, Act.put, List.setIfInBounds_toArray, List.set_cons_zero, List.set_cons_succ]
        refine wpAnyH_take (i := 26) (v := ?_) rfl (by kernel_rfl) (by kernel_rfl) (by kernel_rfl) (fun _ _ _ h => h) (Or.inl ⟨by rfl, ?_⟩) (by assumption) ?_
        rotate_left
        · intro w' hSw
          try dsimp only at hSw
          go_simp
          first | done | (with_reducible rfl)
        try simp only [List.getElem_toArray, List.getElem_cons_succ, List.getElem_cons_zero, Act.put, List.setIfInBounds_toArray, List.set_cons_zero, List.set_cons_succ]
        refine wpAnyH_take (i := 27) (v := ?_) rfl (by kernel_rfl) (by kernel_rfl) (by kernel_rfl) (fun _ _ _ h => h) (Or.inl ⟨by rfl, ?_⟩) (by assumption) ?_
        rotate_left
        · intro w' hSw
          try dsimp only at hSw
          go_simp
          first | done | (with_reducible rfl)
        try simp only [List.getElem_toArray, List.getElem_cons_succ, List.getElem_cons_zero, Act.put, List.setIfInBounds_toArray, List.set_cons_zero, List.set_cons_succ]
        refine wpAnyH_done (by kernel_rfl) ?_ _
        refine NoPanic.normal ?_
        clear hHeld s2
        go_wp2_with fail
        go_ret
        exact ⟨rfl, HC13.out.trans HX.out (fun _ _ e => e)⟩

end Go.Proofs.Ytbbjecjhkjjbkaa
