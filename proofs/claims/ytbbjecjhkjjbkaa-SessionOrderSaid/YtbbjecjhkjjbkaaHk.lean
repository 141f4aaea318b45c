/-
  Walk: act, of two ends: letters are sent; any act. Conditions: both lie in memory.
-/
import Derived.Test.YtbbjecjhkjjbkaaHj
namespace Go.Proofs.Ytbbjecjhkjjbkaa
open Go.RowKit
set_option linter.unusedVariables false
set_option linter.unusedSimpArgs false

theorem flat_one : ∀ (zs : List LA), ∀ u ∈ (zs.flatMap fun y => y.cs.toList), u.oneCell' = true := fun zs u hu => by
  obtain ⟨y, _, hy⟩ := List.mem_flatMap.1 hu
  simp only [LA.cs, ltC, List.mem_cons, List.not_mem_nil, or_false] at hy
  rcases hy with rfl | rfl | rfl | rfl | rfl <;> rfl
theorem outS_pos (x : SV) : 1 ≤ (outS x).length := by
  unfold outS
  split
  · simp
  · rw [List.length_map, List.length_range]
    omega
set_option maxRecDepth 100000 in
set_option maxHeartbeats 4000000 in
theorem act_out (B j L M e d : Nat) (f : Nat → Option Nat) (x y : EV) (sec : Bool) (wh at_ n : Int) (w : World) (hf : FR B w f) (hx : EN11 B w f L e x) (hy : EN11 B w f M d y) (hT : Two11 j x y) (hj : j ≤ 120) (hL : L ≤ 90) (hM : M ≤ 90) (hLM : L + 5 < M ∨ M + 5 < L) (hn : 0 ≤ n ∧ n ≤ 255) (hwh : 0 ≤ wh ∧ wh ≤ 255) (hat : 0 ≤ at_ ∧ at_ ≤ 255) (h3 : ¬ wh % 10 < 3) (h5 : wh % 10 < 5) : Calls Try.prog 24 #[.pointer (some ⟨e, 0, none⟩), .pointer (some ⟨d, 0, none⟩), .agg #[.bool sec, .int .u8 wh, .int .u8 at_], .int .i64 n] w (ActP B j L M e d w) := by
  have hc0 := (Chg.refl (fun _ => False) w).alloc (.cells #[.bool sec, .int .u8 wh, .int .u8 at_] 68)
  have HF := Lib.hid (hf.size hc0.size)
  have HX := Lib.hid (hx.new hf hc0)
  have HY := Lib.hid (hy.new hf hc0)
  have HC := Lib.hid (hc0.mono (S' := fun k => B ≤ k) (fun _ _ h => h.elim))
  have HBX : Hid (KB B (w.alloc (.cells #[.bool sec, .int .u8 wh, .int .u8 at_] 68)) f w.heap.size 68 #[.bool sec, .int .u8 wh, .int .u8 at_]) := Lib.hid (KB.mk hf 68 _)
  have HT := Lib.hid hT
  clear hc0 hx hy hf hT
  obtain ⟨m0, m1, m2⟩ := mv_cells HBX.out.2
  obtain ⟨i0, hi0, hz0, hz1, hz2⟩ := info_parts infoLT11
  go_enter Try.func24, Try.ntmps24
  go_upto_region 1 with fail
  generalize w.alloc (.cells #[.bool sec, .int .u8 wh, .int .u8 at_] 68) = w1 at *
  generalize hb0 : w.heap.size = b0 at *
  clear hb0
  obtain ⟨p, I, ni, ic, O, m, oc, T0, t0, tc0, ys0, hx⟩ := HX.out
  obtain ⟨p2, I2, ni2, ic2, O2, m2', oc2, T, t, tc, ys, hy⟩ := HY.out
  have HEP := Lib.hid hx
  have HEY := Lib.hid hy
  have HTT := Lib.hid (show t ≤ 1000 by have h1 := hy.rno; have h2 := HT.out.b.ll; omega)
  clear hx HX hy HY
  have HOUT := Lib.hid (fun (W : World) (hw : Chg (fun _ => False) w1 W) => en_out (HEP.out.new HF.out hw) (HF.out.size hw.size) (HT.out.a.ok (by omega)))
  have q5 := (en_cells (HEY.out.new HF.out (Chg.refl _ _).drew).blk).2.2.2.2.2
  have s2 := en_first (HEP.out.new HF.out (Chg.refl _ _).drew).blk
  go_upto_region 5 with fail
  clear m0 m1 m2
  refine wp_region_noPanic ?_
  refine wp_region_held_drew (S := (fun w' => w'.cell? ⟨e, 0, none⟩ = some (.pointer (some ⟨p, 0, none⟩)))) (by kernel_rfl) s2 (fun hHeld => ?_)
  refine wpAnyH_take (i := 0) (v := ?_) rfl (by kernel_rfl) (by kernel_rfl) (by kernel_rfl) (fun _ _ _ h => h) (Or.inl ⟨by rfl, ?_⟩) (by assumption) ?_
  rotate_left
  · intro w' hSw
    try dsimp only at hSw
    go_simp
    first | done | (with_reducible rfl)
  try simp only [List.getElem_toArray, List.getElem_cons_succ, List.getElem_cons_zero, Act.put, List.setIfInBounds_toArray, List.set_cons_zero, List.set_cons_succ]
  refine wpAnyH_take (i := 1) (v := ?_) rfl (by kernel_rfl) (by kernel_rfl) (by kernel_rfl) (fun _ _ _ h => h) (Or.inl ⟨by rfl, ?_⟩) (by assumption) ?_
  rotate_left
  · intro w' hSw
    try dsimp only at hSw
    go_simp
    first | done | (with_reducible rfl)
  try simp only [List.getElem_toArray, List.getElem_cons_succ, List.getElem_cons_zero, Act.put, List.setIfInBounds_toArray, List.set_cons_zero, List.set_cons_succ]
  refine wpAnyH_take (i := 2) (v := ?_) rfl (by kernel_rfl) (by kernel_rfl) (by kernel_rfl) (fun _ _ _ h => h) (Or.inl ⟨by rfl, ?_⟩) (by assumption) ?_
  rotate_left
  · intro w' hSw
    try dsimp only at hSw
    go_simp
    first | done | (with_reducible rfl)
  try simp only [List.getElem_toArray, List.getElem_cons_succ, List.getElem_cons_zero, Act.put, List.setIfInBounds_toArray, List.set_cons_zero, List.set_cons_succ]
  refine wpAnyH_take (i := 3) (v := ?_) rfl (by kernel_rfl) (by kernel_rfl) (by kernel_rfl) (fun _ _ _ h => h) (Or.inl ⟨by rfl, ?_⟩) (by assumption) ?_
  rotate_left
  · intro w' hSw
    try dsimp only at hSw
    go_simp
    first | done | (with_reducible rfl)
  try simp only [List.getElem_toArray, List.getElem_cons_succ, List.getElem_cons_zero, Act.put, List.setIfInBounds_toArray, List.set_cons_zero, List.set_cons_succ]
  refine wpAnyH_take (i := 5) (v := ?_) rfl (by kernel_rfl) (by kernel_rfl) (by kernel_rfl) (fun _ _ _ h => h) (Or.inl ⟨by rfl, ?_⟩) (by assumption) ?_
  rotate_left
  · intro w' hSw
    try dsimp only at hSw
    go_simp
    first | done | (with_reducible rfl)
  try simp only [List.getElem_toArray, List.getElem_cons_succ, List.getElem_cons_zero, Act.put, List.setIfInBounds_toArray, List.set_cons_zero, List.set_cons_succ]
  refine wpAnyH_take (i := 6) (v := ?_) rfl (by kernel_rfl) (by kernel_rfl) (by kernel_rfl) (fun _ _ _ h => h) (Or.inl ⟨by rfl, ?_⟩) (by assumption) ?_
  rotate_left
  · intro w' hSw
    try dsimp only at hSw
    go_simp
    first | done | (with_reducible rfl)
  try simp only [List.getElem_toArray, List.getElem_cons_succ, List.getElem_cons_zero, Act.put, List.setIfInBounds_toArray, List.set_cons_zero, List.set_cons_succ]
  refine wpAnyH_take (i := 7) (v := ?_) rfl (by kernel_rfl) (by kernel_rfl) (by kernel_rfl) (fun _ _ _ h => h) (Or.inl ⟨by rfl, ?_⟩) (by assumption) ?_
  rotate_left
  · intro w' hSw
    try dsimp only at hSw
    go_simp
    first | done | (with_reducible rfl)
  try simp only [List.getElem_toArray, List.getElem_cons_succ, List.getElem_cons_zero, Act.put, List.setIfInBounds_toArray, List.set_cons_zero, List.set_cons_succ]
  refine wpAnyH_take (i := 8) (v := ?_) rfl (by kernel_rfl) (by kernel_rfl) (by kernel_rfl) (fun _ _ _ h => h) (Or.inl ⟨by rfl, ?_⟩) (by assumption) ?_
  rotate_left
  · intro w' hSw
    try dsimp only at hSw
    go_simp
    first | done | (with_reducible rfl)
  try simp only [List.getElem_toArray, List.getElem_cons_succ, List.getElem_cons_zero, Act.put, List.setIfInBounds_toArray, List.set_cons_zero, List.set_cons_succ]
  refine wpAnyH_ready (rs := [4, 9]) (by kernel_rfl) (by simp) ?_
  refine AllReadyH.cons rfl (fun K hK => ?_) (AllReadyH.cons rfl (fun K hK => ?_) AllReadyH.nil)
  · go_simp
    refine hK.out _ _ s2 (fun hHeld => ?_)
    clear hK K q5 s2
    try simp only [List.getElem_toArray, List.getElem_cons_succ, List.getElem_cons_zero, Act.put, List.setIfInBounds_toArray, List.set_cons_zero, List.set_cons_succ]
    refine wpAnyH_ready (rs := [9]) (by kernel_rfl) (by simp) ?_
    refine AllReadyH.cons rfl (fun K hK => ?_) AllReadyH.nil
    go_simp
    refine (HOUT.out _ (Chg.refl _ _).drew).mono ?_
    rintro E wz ⟨zA, zk, zc, zs, rfl, hzk, hoz, hlz, hcz⟩
    have hcq := (Chg.refl (fun _ => False) w1).drew.trans hcz (fun _ _ e => e)
    have HZK := Lib.hid hzk
    have HOZ := Lib.hid hoz
    have HLZ := Lib.hid hlz
    have HEP5 := Lib.hid (HEP.out.new HF.out hcq)
    have HEY5 := Lib.hid (HEY.out.new HF.out hcq)
    have HF5 := Lib.hid (HF.out.size hcq.size)
    have HBX5 := Lib.hid ((Keeps.new (L := L) HF.out hcq).blk _ _ _ HBX.out)
    have HC5 := Lib.hid (HC.out.trans (hcq.mono (S' := fun k => B ≤ k) (fun _ _ h => h.elim)) (fun _ _ e => e))
    have s3 := en_first HEP5.out.blk
    have q5 := (en_cells HEY5.out.blk).2.2.2.2.2
    clear hzk hoz hlz hcz hcq
    go_wp2_with fail
    refine hK.out _ _ s3 (fun hHeld => ?_)
    clear hK K
    try simp only [List.getElem_toArray, List.getElem_cons_succ, List.getElem_cons_zero, Act.put, List.setIfInBounds_toArray, List.set_cons_zero, List.set_cons_succ]
    clear q5
    clear s3
    have hk2 : 0 < zk := by have := outS_pos x.sv; have := HZK.out; omega
    obtain ⟨ga, rfl⟩ := own_at0 HOZ.out hk2
    refine wpAnyH_ready (rs := [10]) (by kernel_rfl) (by simp) ?_
    refine AllReadyH.cons rfl (fun K hK => ?_) AllReadyH.nil
    refine step_app11 _ rfl (.tmp 43) (.tmp 48) 59 rfl 0 24 i0 _ 5 56 Try.underlying59 hi0 hz0 hz1 hz2 rfl (by decide) (.slice T t tc) t _ rfl HEY5.out.row ⟨ga, 0, none⟩ zk zc _ rfl (by rw [flatL_len]; have := HLZ.out.1; have := HZK.out; omega) (fun j2 u hu => HOZ.out.cells (g := ga) rfl j2 u hu) (flat_one zs) (by have := HTT.out; have := outS_len x.sv; have := HZK.out; unfold maxLen; omega) (by have := HTT.out; have := outS_len x.sv; have := HZK.out; omega) (Nat.zero_le _) ?_
    intro v' w6 hown hg hat6
    obtain ⟨T', tc', rfl, _, _⟩ := own_form hown
    obtain ⟨hr6, hc6, _⟩ := app_ren (D := fun a => a = M + 5) HF5.out HEY5.out.rl hown hg hat6 rfl
    have HB6 := Lib.hid (HEY5.out.blk.chg hc6 (Tn.not HF5.out HEY5.out.le (by omega)))
    have s4 := en_first (HEP5.out.blk.chg hc6 (Tn.not HF5.out HEP5.out.le (by omega)))
    obtain ⟨f7, hen7, hr7, hc7⟩ := HEY5.out.sentTo HF5.out (ms := outS x.sv) (by rw [HEY5.out.rno, HZK.out]) hown HLZ.out hg hat6 rfl
    have s5 := en_first (HEP5.out.blk.chg hc7 (Tn.not HF5.out HEP5.out.le (by omega)))
    have HEN7 := Lib.hid hen7
    have HK7 := Lib.hid (Keeps.of (L := M) HF5.out hr7 hc7 (fun a ha => by omega))
    have HX7 : Hid (EN11 B _ f7 L e x) := Lib.hid (HK7.out.oth L hL (by omega) e x ⟨_, _, _, _, _, _, _, _, _, _, _, HEP5.out⟩)
    have e6 := (en_cells HB6.out).2.2.2.2.2
    have u6 := HB6.out.frozen 5
    clear hen7 hr7 hc7 hr6 hc6 hown hg hat6
    refine hK.out _ _ s4 (fun hHeld => ?_)
    clear hK K
    try simp only [List.getElem_toArray, List.getElem_cons_succ, List.getElem_cons_zero, Act.put, List.setIfInBounds_toArray, List.set_cons_zero, List.set_cons_succ]
    refine wpAnyH_take (i := 11) (v := ?_) rfl (by kernel_rfl) (by kernel_rfl) (by kernel_rfl) (fun _ _ _ h => h) (Or.inl ⟨by rfl, ?_⟩) (by assumption) ?_
    rotate_left
    · intro w' hSw
      try dsimp only at hSw
      go_simp
      first | done | (with_reducible rfl)
    try simp only [List.getElem_toArray, List.getElem_cons_succ, List.getElem_cons_zero, Act.put, List.setIfInBounds_toArray, List.set_cons_zero, List.set_cons_succ]
    refine wpAnyH_take (i := 12) (v := ?_) rfl (by kernel_rfl) (by kernel_rfl) (by kernel_rfl) (fun _ _ _ h => h) (Or.inl ⟨by rfl, ?_⟩) (by assumption) ?_
    rotate_left
    · intro w' hSw
      try dsimp only at hSw
      go_simp
      first | done | (with_reducible rfl)
    try simp only [List.getElem_toArray, List.getElem_cons_succ, List.getElem_cons_zero, Act.put, List.setIfInBounds_toArray, List.set_cons_zero, List.set_cons_succ]
    refine wpAnyH_ready (rs := [13]) (by kernel_rfl) (by simp) ?_
    refine AllReadyH.cons rfl (fun K hK => ?_) AllReadyH.nil
    go_simp
    refine hK.out _ _ s5 (fun hHeld => ?_)
    clear hK K
    try simp only [List.getElem_toArray, List.getElem_cons_succ, List.getElem_cons_zero, Act.put, List.setIfInBounds_toArray, List.set_cons_zero, List.set_cons_succ]
    clear e6 u6 s5 s4
    refine wpAnyH_done (by kernel_rfl) ?_ _
    refine NoPanic.normal ?_
    clear hHeld
    obtain ⟨m0, m1, m2⟩ := mv_cells (HK7.out.blk _ _ _ HBX5.out).2
    go_wp2_with fail
    go_ret
    exact ⟨rfl, f7, x, sentV x y, HX7.out, HEN7.out, HK7.out.fr, HT.out.sent (by omega), HC5.out.trans HK7.out.chg (fun _ _ e => e)⟩
  · clear q5 s2
    go_simp
    refine (HOUT.out _ (Chg.refl _ _).drew).mono ?_
    rintro E wz ⟨zA, zk, zc, zs, rfl, hzk, hoz, hlz, hcz⟩
    have hcq := (Chg.refl (fun _ => False) w1).drew.trans hcz (fun _ _ e => e)
    have HZK := Lib.hid hzk
    have HOZ := Lib.hid hoz
    have HLZ := Lib.hid hlz
    have HEP5 := Lib.hid (HEP.out.new HF.out hcq)
    have HEY5 := Lib.hid (HEY.out.new HF.out hcq)
    have HF5 := Lib.hid (HF.out.size hcq.size)
    have HBX5 := Lib.hid ((Keeps.new (L := L) HF.out hcq).blk _ _ _ HBX.out)
    have HC5 := Lib.hid (HC.out.trans (hcq.mono (S' := fun k => B ≤ k) (fun _ _ h => h.elim)) (fun _ _ e => e))
    have s3 := en_first HEP5.out.blk
    have q5 := (en_cells HEY5.out.blk).2.2.2.2.2
    clear hzk hoz hlz hcz hcq
    go_wp2_with fail
    refine hK.out _ _ s3 (fun hHeld => ?_)
    clear hK K
    try simp only [List.getElem_toArray, List.getElem_cons_succ, List.getElem_cons_zero, Act.put, List.setIfInBounds_toArray, List.set_cons_zero, List.set_cons_succ]
    refine wpAnyH_ready (rs := [4]) (by kernel_rfl) (by simp) ?_
    refine AllReadyH.cons rfl (fun K hK => ?_) AllReadyH.nil
    go_simp
    refine hK.out _ _ s3 (fun hHeld => ?_)
    clear hK K q5
    try simp only [List.getElem_toArray, List.getElem_cons_succ, List.getElem_cons_zero, Act.put, List.setIfInBounds_toArray, List.set_cons_zero, List.set_cons_succ]
    clear s3
    have hk2 : 0 < zk := by have := outS_pos x.sv; have := HZK.out; omega
    obtain ⟨ga, rfl⟩ := own_at0 HOZ.out hk2
    refine wpAnyH_ready (rs := [10]) (by kernel_rfl) (by simp) ?_
    refine AllReadyH.cons rfl (fun K hK => ?_) AllReadyH.nil
    refine step_app11 _ rfl (.tmp 43) (.tmp 48) 59 rfl 0 24 i0 _ 5 56 Try.underlying59 hi0 hz0 hz1 hz2 rfl (by decide) (.slice T t tc) t _ rfl HEY5.out.row ⟨ga, 0, none⟩ zk zc _ rfl (by rw [flatL_len]; have := HLZ.out.1; have := HZK.out; omega) (fun j2 u hu => HOZ.out.cells (g := ga) rfl j2 u hu) (flat_one zs) (by have := HTT.out; have := outS_len x.sv; have := HZK.out; unfold maxLen; omega) (by have := HTT.out; have := outS_len x.sv; have := HZK.out; omega) (Nat.zero_le _) ?_
    intro v' w6 hown hg hat6
    obtain ⟨T', tc', rfl, _, _⟩ := own_form hown
    obtain ⟨hr6, hc6, _⟩ := app_ren (D := fun a => a = M + 5) HF5.out HEY5.out.rl hown hg hat6 rfl
    have HB6 := Lib.hid (HEY5.out.blk.chg hc6 (Tn.not HF5.out HEY5.out.le (by omega)))
    have s4 := en_first (HEP5.out.blk.chg hc6 (Tn.not HF5.out HEP5.out.le (by omega)))
    obtain ⟨f7, hen7, hr7, hc7⟩ := HEY5.out.sentTo HF5.out (ms := outS x.sv) (by rw [HEY5.out.rno, HZK.out]) hown HLZ.out hg hat6 rfl
    have s5 := en_first (HEP5.out.blk.chg hc7 (Tn.not HF5.out HEP5.out.le (by omega)))
    have HEN7 := Lib.hid hen7
    have HK7 := Lib.hid (Keeps.of (L := M) HF5.out hr7 hc7 (fun a ha => by omega))
    have HX7 : Hid (EN11 B _ f7 L e x) := Lib.hid (HK7.out.oth L hL (by omega) e x ⟨_, _, _, _, _, _, _, _, _, _, _, HEP5.out⟩)
    have e6 := (en_cells HB6.out).2.2.2.2.2
    have u6 := HB6.out.frozen 5
    clear hen7 hr7 hc7 hr6 hc6 hown hg hat6
    refine hK.out _ _ s4 (fun hHeld => ?_)
    clear hK K
    try simp only [List.getElem_toArray, List.getElem_cons_succ, List.getElem_cons_zero, Act.put, List.setIfInBounds_toArray, List.set_cons_zero, List.set_cons_succ]
    refine wpAnyH_take (i := 11) (v := ?_) rfl (by kernel_rfl) (by kernel_rfl) (by kernel_rfl) (fun _ _ _ h => h) (Or.inl ⟨by rfl, ?_⟩) (by assumption) ?_
    rotate_left
    · intro w' hSw
      try dsimp only at hSw
      go_simp
      first | done | (with_reducible rfl)
    try simp only [List.getElem_toArray, List.getElem_cons_succ, List.getElem_cons_zero, Act.put, List.setIfInBounds_toArray, List.set_cons_zero, List.set_cons_succ]
    refine wpAnyH_take (i := 12) (v := ?_) rfl (by kernel_rfl) (by kernel_rfl) (by kernel_rfl) (fun _ _ _ h => h) (Or.inl ⟨by rfl, ?_⟩) (by assumption) ?_
    rotate_left
    · intro w' hSw
      try dsimp only at hSw
      go_simp
      first | done | (with_reducible rfl)
    try simp only [List.getElem_toArray, List.getElem_cons_succ, List.getElem_cons_zero, Act.put, List.setIfInBounds_toArray, List.set_cons_zero, List.set_cons_succ]
    refine wpAnyH_ready (rs := [13]) (by kernel_rfl) (by simp) ?_
    refine AllReadyH.cons rfl (fun K hK => ?_) AllReadyH.nil
    go_simp
    refine hK.out _ _ s5 (fun hHeld => ?_)
    clear hK K
    try simp only [List.getElem_toArray, List.getElem_cons_succ, List.getElem_cons_zero, Act.put, List.setIfInBounds_toArray, List.set_cons_zero, List.set_cons_succ]
    clear e6 u6 s5 s4
    refine wpAnyH_done (by kernel_rfl) ?_ _
    refine NoPanic.normal ?_
    clear hHeld
    obtain ⟨m0, m1, m2⟩ := mv_cells (HK7.out.blk _ _ _ HBX5.out).2
    go_wp2_with fail
    go_ret
    exact ⟨rfl, f7, x, sentV x y, HX7.out, HEN7.out, HK7.out.fr, HT.out.sent (by omega), HC5.out.trans HK7.out.chg (fun _ _ e => e)⟩

theorem act11_any (B j L M e d : Nat) (f : Nat → Option Nat) (x y : EV) (sec : Bool) (wh at_ n : Int) (w : World) (hf : FR B w f) (hx : EN11 B w f L e x) (hy : EN11 B w f M d y) (hT : Two11 j x y) (hj : j ≤ 120) (hL : L ≤ 90) (hM : M ≤ 90) (hLM : L + 5 < M ∨ M + 5 < L) (hn : 0 ≤ n ∧ n ≤ 255) (hwh : 0 ≤ wh ∧ wh ≤ 255) (hat : 0 ≤ at_ ∧ at_ ≤ 255)  : Calls Try.prog 24 #[.pointer (some ⟨e, 0, none⟩), .pointer (some ⟨d, 0, none⟩), .agg #[.bool sec, .int .u8 wh, .int .u8 at_], .int .i64 n] w (ActP B j L M e d w) := by
  by_cases h3 : wh % 10 < 3
  · exact act_push B j L M e d f x y sec wh at_ n w hf hx hy hT hj hL hM hLM hn hwh hat h3
  · by_cases h5 : wh % 10 < 5
    · exact act_out B j L M e d f x y sec wh at_ n w hf hx hy hT hj hL hM hLM hn hwh hat h3 h5
    · exact act_take B j L M e d f x y sec wh at_ n w hf hx hy hT hj hL hM hLM hn hwh hat h5


end Go.Proofs.Ytbbjecjhkjjbkaa
