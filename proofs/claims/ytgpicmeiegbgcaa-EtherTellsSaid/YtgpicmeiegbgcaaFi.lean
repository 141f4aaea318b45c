/-
  Walk: rutterlaw02.EtherTells. Conditions: the arguments are read in memory.
-/
import Derived.Test.YtgpicmeiegbgcaaFh
namespace Go.Proofs.Ytgpicmeiegbgcaa
open Go.RowKit
set_option linter.unusedVariables false
set_option linter.unusedSimpArgs false

theorem two_cells {w1 w' : World} {p q : Nat} {d s t d2 s2 t2 : Int} {v v2 : Value} (hb : Blk w1 p 25 #[.int .u64 d, .int .u64 s, .int .i64 t, v]) (hb2 : Blk w1 q 25 #[.int .u64 d2, .int .u64 s2, .int .i64 t2, v2]) (h : Chg (fun _ => False) w1 w') :
    (w'.cell? ⟨p, 0, none⟩ = some (.int .u64 d) ∧ w'.cell? ⟨p, 1, none⟩ = some (.int .u64 s) ∧ w'.cell? ⟨p, 2, none⟩ = some (.int .i64 t) ∧ w'.cell? ⟨p, 3, none⟩ = some v) ∧
    w'.cell? ⟨q, 0, none⟩ = some (.int .u64 d2) ∧ w'.cell? ⟨q, 1, none⟩ = some (.int .u64 s2) ∧ w'.cell? ⟨q, 2, none⟩ = some (.int .i64 t2) ∧ w'.cell? ⟨q, 3, none⟩ = some v2 := by
  have hp := hb.chg h id
  have hq := hb2.chg h id
  have x0 := hp.cell 0
  have x1 := hp.cell 1
  have x2 := hp.cell 2
  have x3 := hp.cell 3
  have y0 := hq.cell 0
  have y1 := hq.cell 1
  have y2 := hq.cell 2
  have y3 := hq.cell 3
  simp only [List.getElem?_toArray, List.getElem?_cons_zero, List.getElem?_cons_succ] at x0 x1 x2 x3 y0 y1 y2 y3
  exact ⟨⟨x0, x1, x2, x3⟩, y0, y1, y2, y3⟩

set_option maxRecDepth 100000 in
set_option maxHeartbeats 2000000 in
theorem etells_big (d s t d2 s2 t2 p : Int) (A A2 : Option Addr) (n n2 c c2 : Nat) (w : World) (hn : n ≤ 9223372036854775807) (hn2 : n2 ≤ 9223372036854775807) (hbig : 3000 < n ∨ 3000 < n2) :
    Calls Try.prog 3 #[.agg #[.int .u64 d, .int .u64 s, .int .i64 t, .slice A n c], .agg #[.int .u64 d2, .int .u64 s2, .int .i64 t2, .slice A2 n2 c2], .int .i64 p] w fun e w' =>
      e = .returned (.bool true) ∧ Chg (fun _ => False) w w' := by
  have hf0 : Blk ((w.alloc (.cells #[.int .u64 d, .int .u64 s, .int .i64 t, .slice A n c] 25)).alloc (.cells #[.int .u64 d2, .int .u64 s2, .int .i64 t2, .slice A2 n2 c2] 25)) w.heap.size _ _ := (Blk.new _ _ _).alloc _
  have hg0 : Blk ((w.alloc (.cells #[.int .u64 d, .int .u64 s, .int .i64 t, .slice A n c] 25)).alloc (.cells #[.int .u64 d2, .int .u64 s2, .int .i64 t2, .slice A2 n2 c2] 25)) (w.heap.size + 1) _ _ := blk_new (by simp)
  have hC0 := ((Chg.refl (fun _ => False) w).alloc (.cells #[.int .u64 d, .int .u64 s, .int .i64 t, .slice A n c] 25)).alloc (.cells #[.int .u64 d2, .int .u64 s2, .int .i64 t2, .slice A2 n2 c2] 25)
  have HF0 := Lib.hid hf0
  have HG0 := Lib.hid hg0
  have HC0 := Lib.hid hC0
  clear hf0 hg0 hC0
  by_cases h1 : n ≤ 3000
  · have e1 : decide (n ≤ 3000) = true := by simpa using h1
    have e2 : decide (n2 ≤ 3000) = false := by simp; omega
    have HB1 := Lib.hid e1
    have HB2 := Lib.hid e2
    clear e1 e2 h1 hbig
    go_enter Try.func3, Try.ntmps3
    go_wp2_with fail
    refine (ffits_any d s t A n c _ hn).mono ?_
    rw [HB1.out]
    rintro e w1 ⟨rfl, hc1⟩
    obtain ⟨_, y0, y1, y2, y3⟩ := two_cells HF0.out HG0.out hc1
    have HC1 := Lib.hid (HC0.out.trans hc1 (fun _ _ e => e))
    clear hc1
    go_wp2_with fail
    refine (ffits_any d2 s2 t2 A2 n2 c2 _ hn2).mono ?_
    rw [HB2.out]
    rintro e w2 ⟨rfl, hc2⟩
    have HC2 := Lib.hid (HC1.out.trans hc2 (fun _ _ e => e))
    have HAL := Lib.hid (alive2_any w2)
    clear hc2 y0 y1 y2 y3
    go_wp2_with fail
    refine HAL.out.mono ?_
    rintro e w3 ⟨rfl, hc3⟩
    go_wp2_with fail
    go_ret
    exact ⟨rfl, HC2.out.trans hc3 (fun _ _ e => e)⟩
  · have e1 : decide (n ≤ 3000) = false := by simpa using h1
    have HB1 := Lib.hid e1
    have hv : ∃ b2, b2 = decide (n2 ≤ 3000) := ⟨_, rfl⟩
    obtain ⟨b2, hb2⟩ := hv
    have HB2 := Lib.hid hb2
    clear e1 h1 hbig hb2
    go_enter Try.func3, Try.ntmps3
    go_wp2_with fail
    refine (ffits_any d s t A n c _ hn).mono ?_
    rw [HB1.out]
    rintro e w1 ⟨rfl, hc1⟩
    obtain ⟨_, y0, y1, y2, y3⟩ := two_cells HF0.out HG0.out hc1
    have HC1 := Lib.hid (HC0.out.trans hc1 (fun _ _ e => e))
    clear hc1
    go_wp2_with fail
    refine (ffits_any d2 s2 t2 A2 n2 c2 _ hn2).mono ?_
    rw [← HB2.out]
    rintro e w2 ⟨rfl, hc2⟩
    have HC2 := Lib.hid (HC1.out.trans hc2 (fun _ _ e => e))
    have HAL := Lib.hid (alive2_any w2)
    clear hc2 y0 y1 y2 y3
    go_wp2_with fail
    refine HAL.out.mono ?_
    rintro e w3 ⟨rfl, hc3⟩
    go_wp2_with fail
    go_ret
    exact ⟨rfl, HC2.out.trans hc3 (fun _ _ e => e)⟩

set_option maxRecDepth 100000 in
set_option maxHeartbeats 8000000 in
theorem etells_any (d s t d2 s2 t2 p : Int) (A A2 : Option Addr) (n n2 c c2 : Nat) (l l2 : List UInt8) (w : World) (hn : n = l.length) (h : Rds w (fun _ => True) A n (bcs l)) (hn2 : n2 = l2.length) (h2 : Rds w (fun _ => True) A2 n2 (bcs l2))
    (hd : 0 ≤ d) (hdm : d ≤ 18446744073709551615) (hs : 0 ≤ s) (h3 : n ≤ 3000) (h4 : n2 ≤ 3000) (hz : A = none → c = 0) :
    Calls Try.prog 3 #[.agg #[.int .u64 d, .int .u64 s, .int .i64 t, .slice A n c], .agg #[.int .u64 d2, .int .u64 s2, .int .i64 t2, .slice A2 n2 c2], .int .i64 p] w fun e w' =>
      e = .returned (.bool true) ∧ Chg (fun _ => False) w w' := by
  have hf0 : Blk ((w.alloc (.cells #[.int .u64 d, .int .u64 s, .int .i64 t, .slice A n c] 25)).alloc (.cells #[.int .u64 d2, .int .u64 s2, .int .i64 t2, .slice A2 n2 c2] 25)) w.heap.size _ _ := (Blk.new _ _ _).alloc _
  have hg0 : Blk ((w.alloc (.cells #[.int .u64 d, .int .u64 s, .int .i64 t, .slice A n c] 25)).alloc (.cells #[.int .u64 d2, .int .u64 s2, .int .i64 t2, .slice A2 n2 c2] 25)) (w.heap.size + 1) _ _ := blk_new (by simp)
  have hC0 := ((Chg.refl (fun _ => False) w).alloc (.cells #[.int .u64 d, .int .u64 s, .int .i64 t, .slice A n c] 25)).alloc (.cells #[.int .u64 d2, .int .u64 s2, .int .i64 t2, .slice A2 n2 c2] 25)
  have HF0 := Lib.hid hf0
  have HG0 := Lib.hid hg0
  have HC0 := Lib.hid hC0
  have HB1 := Lib.hid (show decide (n ≤ 3000) = true by simpa using h3)
  have HB2 := Lib.hid (show decide (n2 ≤ 3000) = true by simpa using h4)
  have HN := Lib.hid hn
  have HN2 := Lib.hid hn2
  have hv : ∃ r, rightB d s t n = r := ⟨_, rfl⟩
  obtain ⟨r, hr⟩ := hv
  have HR := Lib.hid hr
  have HZ := Lib.hid hz
  have hp : (0 ≤ p ∧ p ≤ 65535 ∧ macI p = 2199023255552 + p) ∨ (¬ 0 ≤ p ∧ macI p = 0) ∨ (0 ≤ p ∧ ¬ p ≤ 65535 ∧ macI p = 0) := by
    unfold macI
    split <;> omega
  clear hf0 hg0 hC0 hn hn2 hr hz
  have hm9 : ∃ m, macI p = m := ⟨_, rfl⟩
  obtain ⟨m, hm9⟩ := hm9
  have HMC := Lib.hid (fun W : World => mac_any p W)
  have hmv : ∃ mb, (d / 1099511627776 % 2 == 1) = mb := ⟨_, rfl⟩
  obtain ⟨mb, hmb⟩ := hmv
  have HMA0 : ∀ W : World, Calls Try.prog 11 #[.int .u64 d] W fun e w' => e = .returned (.bool mb) ∧ W = w' := fun W => by
    have h := many_any d W hd hdm
    unfold manyB at h
    rw [hmb] at h
    exact h
  have HMA := Lib.hid HMA0
  have q1 : IntKind.u64.wrap (d.tdiv 1099511627776) = d / 1099511627776 := by
    rw [Int.tdiv_eq_ediv_of_nonneg hd, IntKind.wrap_u64]
    omega
  have q0 : 0 ≤ d / 1099511627776 := by omega
  have q2 : IntKind.u64.wrap ((d / 1099511627776).tmod 2) = d / 1099511627776 % 2 := by
    rw [Int.tmod_eq_emod_of_nonneg q0, IntKind.wrap_u64]
    omega
  have q4 : ((d / 1099511627776).tmod 2 == 1) = mb := by rw [Int.tmod_eq_emod_of_nonneg q0]; exact hmb
  have HQ := Lib.hid (And.intro q1 q4)
  clear HMA0 q1 q2 q4 q0 hmb
  have HRI := Lib.hid (fun W : World => right_any d s t A n c W hd hs (by omega))
  have HSA := Lib.hid (fun (W : World) (hc : Chg (fun _ => False) w W) => same_any d s t d2 s2 t2 A A2 n n2 c c2 l l2 _ _ W (h.chg hc (fun _ _ => id)) (h2.chg hc (fun _ _ => id)))
  have HSB := Lib.hid (fun (W : World) (hc : Chg (fun _ => False) w W) => rsame_any d s t d2 s2 t2 A A2 n n2 c c2 l l2 _ _ W (h.chg hc (fun _ _ => id)) (h2.chg hc (fun _ _ => id)))
  rcases hp with ⟨hp1, hp2, hmm⟩ | ⟨hp1, hmm⟩ | ⟨hp1, hp2, hmm⟩
  all_goals
    have HM := Lib.hid hmm
    clear hm9 hmm
    go_enter Try.func3, Try.ntmps3
    go_wp2_with fail
    refine (ffits_any d s t A n c _ (by omega)).mono ?_
    rw [HB1.out]
    rintro e w1 ⟨rfl, hc1⟩
    obtain ⟨⟨x0, x1, x2, x3⟩, y0, y1, y2, y3⟩ := two_cells HF0.out HG0.out hc1
    have HC1 := Lib.hid hc1
    clear hc1
    go_wp2_with fail
    refine (ffits_any d2 s2 t2 A2 n2 c2 _ (by omega)).mono ?_
    rw [HB2.out]
    rintro e w2 ⟨rfl, hc2⟩
    have hc2 := HC1.out.trans hc2 (fun _ _ e => e)
    clear x0 x1 x2 x3 y0 y1 y2 y3
    obtain ⟨⟨x0, x1, x2, x3⟩, y0, y1, y2, y3⟩ := two_cells HF0.out HG0.out hc2
    have HC2 := Lib.hid hc2
    clear hc2 HC1
    go_wp2_with fail
    refine (rright_any d s t A n c _ hd hs (by omega)).mono ?_
    rw [HR.out]
    rintro e w3 ⟨rfl, hc3⟩
    have hc3 := HC2.out.trans hc3 (fun _ _ e => e)
    clear x0 x1 x2 x3 y0 y1 y2 y3
    have q3 := two_cells HF0.out HG0.out hc3
    obtain ⟨⟨x0, x1, x2, x3⟩, y0, y1, y2, y3⟩ := q3
    clear HC2
    go_wp2_with fail
    obtain ⟨q1, q4⟩ := HQ.out
    go_region_held3 (fun w' => (w'.cell? ⟨w.heap.size, 0, none⟩ = some (.int .u64 d) ∧ w'.cell? ⟨w.heap.size, 1, none⟩ = some (.int .u64 s) ∧ w'.cell? ⟨w.heap.size, 2, none⟩ = some (.int .i64 t) ∧ w'.cell? ⟨w.heap.size, 3, none⟩ = some (.slice A n c)) ∧
        w'.cell? ⟨w.heap.size + 1, 0, none⟩ = some (.int .u64 d2) ∧ w'.cell? ⟨w.heap.size + 1, 1, none⟩ = some (.int .u64 s2) ∧ w'.cell? ⟨w.heap.size + 1, 2, none⟩ = some (.int .i64 t2) ∧ w'.cell? ⟨w.heap.size + 1, 3, none⟩ = some (.slice A2 n2 c2))
      (first | exact two_cells HF0.out HG0.out hc3 | exact two_cells HF0.out HG0.out hc3.drew | exact two_cells HF0.out HG0.out hc4 | exact two_cells HF0.out HG0.out hc5 | exact two_cells HF0.out HG0.out hc6 | exact two_cells HF0.out HG0.out hc7)
      (first
        | (go_at_call 8; with_reducible refine (HRI.out _).mono ?_; rw [HR.out]; rintro e w4 ⟨rfl, hc4⟩; have hc4 := hc3.drew.trans hc4 (fun _ _ e => e))
        | (go_at_call 9; (refine (HSA.out _ (HC0.out.trans hc4 (fun _ _ e => e))).mono ?_); rintro e w5 ⟨rfl, hc5⟩; have hc5 := hc4.trans hc5 (fun _ _ e => e))
        | (go_at_call 10; (refine (HSB.out _ (HC0.out.trans hc5 (fun _ _ e => e))).mono ?_); rintro e w6 ⟨rfl, hc6⟩; have hc6 := hc5.trans hc6 (fun _ _ e => e))
        | (go_at_call 11; refine (HMA.out _).mono ?_; rintro e w7 ⟨rfl, rfl⟩)
        | (go_at_call 12; refine (HMC.out _).mono ?_; rw [HM.out]; rintro e w7 ⟨rfl, hc7⟩; have hc7 := hc6.trans hc7 (fun _ _ e => e)))
    have HC7 := Lib.hid (HC0.out.trans hc7 (fun _ _ e => e))
    have HD7 := Lib.hid hc7
    obtain ⟨⟨x0, x1, x2, x3⟩, _⟩ := two_cells HF0.out HG0.out hc7
    clear q1 q4 hc3 hc4 hc5 hc6 hc7 y0 y1 y2 y3 HMC HMA HRI HSA HSB
    cases r with
    | false =>
      go_wp2_with fail
      refine (encode_bad d s t A n c _ hd hs (by omega) HR.out).mono ?_
      rintro e w8 ⟨rfl, hc8⟩
      have HC8 := Lib.hid (HC7.out.trans hc8 (fun _ _ e => e))
      have HAL := Lib.hid (alive2_any w8)
      clear hc8
      go_wp2_with fail
      refine HAL.out.mono ?_
      rintro e w9 ⟨rfl, hc9⟩
      go_wp2_with fail
      go_ret
      exact ⟨rfl, HC8.out.trans hc9 (fun _ _ e => e)⟩
    | true =>
      have HEN := Lib.hid (encode_ok d s t A n c l _ _ HN.out (h.chg HC7.out (fun _ _ => id)) hd hs HR.out)
      have hrr := HR.out
      unfold rightB at hrr
      simp only [Bool.and_eq_true, decide_eq_true_eq] at hrr
      obtain ⟨⟨⟨⟨r1, r2⟩, r3⟩, r4⟩, r5⟩ := hrr
      have HQ1 := Lib.hid (frame_fD d s t l hd r1)
      have HQ2 := Lib.hid (frame_fS d s t l hs r2)
      have HQ3 := Lib.hid (frame_fT d s t l r3 r4)
      have HQ4 := Lib.hid (frame_drop14 d s t l)
      have HQ5 := Lib.hid (frame_len d s t l)
      go_wp2_with fail
      refine HEN.out.mono ?_
      rintro e w8 ⟨E, k, ec, rfl, hk, hez, hr8, hc8⟩
      have hk14 : k = 14 + n := by rw [hk, HQ5.out, HN.out]
      have hde := decode_ok E k ec _ _ w8 hk hr8 (by omega) (by omega)
      have HDE := Lib.hid hde
      have HC8 := Lib.hid (HC7.out.trans hc8 (fun _ _ e => e))
      have HD8 := Lib.hid (HD7.out.trans hc8 (fun _ _ e => e))
      have HR8 := Lib.hid hr8
      have HK14 := Lib.hid hk14
      have HK := Lib.hid hk
      clear hde hk hk14 hr8 hc8 hez HEN HC7 HD7 x0 x1 x2 x3
      go_wp2_with fail
      refine HDE.out.mono ?_
      rintro e w9 ⟨D, m9, dc, rfl, hm9, hr9, hc9⟩
      rw [HQ4.out] at hm9 hr9
      rw [HQ1.out, HQ2.out, HQ3.out]
      have hh9 : Blk (w9.alloc (.cells #[.int .u64 d, .int .u64 s, .int .i64 t, .slice D m9 dc] 25)) w9.heap.size _ _ := Blk.new _ _ _
      have hd9 := (HD8.out.trans hc9 (fun _ _ e => e)).alloc (.cells #[.int .u64 d, .int .u64 s, .int .i64 t, .slice D m9 dc] 25)
      obtain ⟨⟨x0, x1, x2, x3⟩, _⟩ := two_cells HF0.out HG0.out hd9
      have hr8 := (HR8.out.chg hc9 (fun _ _ => id)).alloc (.cells #[.int .u64 d, .int .u64 s, .int .i64 t, .slice D m9 dc] 25)
      have hsa := rsame_any d s t d s t A D n m9 c dc l l _ _ _ (h.chg (HC0.out.trans hd9 (fun _ _ e => e)) (fun _ _ => id)) (hr9.alloc (.cells #[.int .u64 d, .int .u64 s, .int .i64 t, .slice D m9 dc] 25))
      have e5 : sameB d s t l d s t l = true := by simp [sameB]
      rw [e5] at hsa
      have HSA := Lib.hid hsa
      have HD9 := Lib.hid hd9
      have HR9 := Lib.hid hr8
      clear hm9 hr9 hc9 hh9 hd9 hr8 hsa e5 HDE HC8 HD8 HR8
      go_wp2_with fail
      refine HSA.out.mono ?_
      rintro e w10 ⟨rfl, hc10⟩
      have hc10' := HD9.out.trans hc10 (fun _ _ e => e)
      have hr10 := HR9.out.chg hc10 (fun _ _ => id)
      have HBY := Lib.hid (fun (W : World) (hc : Chg (fun _ => False) w W) => rbytes2_any d s t A n c l _ W HN.out (h.chg hc (fun _ _ => id)) hd r1 hs r2 r3 r4 r5)
      generalize frameB d s t l = B at *
      have HAL := Lib.hid (fun W : World => alive2_any W)
      clear hc10 HSA HD9 HR9 x0 x1 x2 x3
      go_wp2_with fail
      have s0 := two_cells HF0.out HG0.out hc10'.drew
      have s1 := conv_any (c := ec) hr10.drew
      refine wp_region_noPanic ?_
      refine wp_region_held_drew (S := (fun w' => (w'.cell? ⟨w.heap.size, 0, none⟩ = some (.int .u64 d) ∧ w'.cell? ⟨w.heap.size, 1, none⟩ = some (.int .u64 s) ∧ w'.cell? ⟨w.heap.size, 2, none⟩ = some (.int .i64 t) ∧ w'.cell? ⟨w.heap.size, 3, none⟩ = some (.slice A n c)) ∧
          (convert 23 9 (.slice E k ec)).run Try.prog w' = .ok (.string ⟨B.toArray⟩) w')) (by kernel_rfl) ⟨s0.1, s1⟩ (fun hHeld => ?_)
      refine wpAnyH_ready (rs := [0]) (by kernel_rfl) (by simp) ?_
      refine AllReadyH.cons rfl (fun K hK => ?_) AllReadyH.nil
      go_simp
      refine (HAL.out _).mono ?_
      rintro e w11 ⟨rfl, hc11⟩
      have u2 := two_cells HF0.out HG0.out (hc10'.drew.trans hc11 (fun _ _ e => e))
      have s3 := conv_any (c := ec) (hr10.drew.chg hc11 (fun _ _ => id))
      go_wp2_with fail
      refine hK.out _ _ ⟨u2.1, s3⟩ (fun hHeld => ?_)
      clear hK K
      try simp only [List.getElem_toArray, List.getElem_cons_succ, List.getElem_cons_zero, Act.put, List.setIfInBounds_toArray, List.set_cons_zero, List.set_cons_succ]
      refine wpAnyH_take (i := 1) (v := ?_) rfl (by kernel_rfl) (by kernel_rfl) (by kernel_rfl) (fun _ _ _ h => h) (Or.inl ⟨by rfl, ?_⟩) (by assumption) ?_
      rotate_left
      · intro w' hSw
        try dsimp only at hSw
        go_simp
        first | done | (with_reducible rfl)
      try simp only [List.getElem_toArray, List.getElem_cons_succ, List.getElem_cons_zero, Act.put, List.setIfInBounds_toArray, List.set_cons_zero, List.set_cons_succ]
      refine wpAnyH_take (i := 2) (v := ?_) rfl (by kernel_rfl) (by kernel_rfl) (by kernel_rfl) (fun _ _ _ h => h) (Or.inl ⟨by rfl, ?_⟩) (by assumption) ?_
      rotate_left
      · intro w' hSw
        try dsimp only at hSw
        go_simp
        first | done | (with_reducible rfl)
      try simp only [List.getElem_toArray, List.getElem_cons_succ, List.getElem_cons_zero, Act.put, List.setIfInBounds_toArray, List.set_cons_zero, List.set_cons_succ]
      refine wpAnyH_take (i := 3) (v := ?_) rfl (by kernel_rfl) (by kernel_rfl) (by kernel_rfl) (fun _ _ _ h => h) (Or.inl ⟨by rfl, ?_⟩) (by assumption) ?_
      rotate_left
      · intro w' hSw
        try dsimp only at hSw
        go_simp
        first | done | (with_reducible rfl)
      try simp only [List.getElem_toArray, List.getElem_cons_succ, List.getElem_cons_zero, Act.put, List.setIfInBounds_toArray, List.set_cons_zero, List.set_cons_succ]
      refine wpAnyH_take (i := 4) (v := ?_) rfl (by kernel_rfl) (by kernel_rfl) (by kernel_rfl) (fun _ _ _ h => h) (Or.inl ⟨by rfl, ?_⟩) (by assumption) ?_
      rotate_left
      · intro w' hSw
        try dsimp only at hSw
        go_simp
        first | done | (with_reducible rfl)
      try simp only [List.getElem_toArray, List.getElem_cons_succ, List.getElem_cons_zero, Act.put, List.setIfInBounds_toArray, List.set_cons_zero, List.set_cons_succ]
      refine wpAnyH_take (i := 5) (v := ?_) rfl (by kernel_rfl) (by kernel_rfl) (by kernel_rfl) (fun _ _ _ h => h) (Or.inl ⟨by rfl, ?_⟩) (by assumption) ?_
      rotate_left
      · intro w' hSw
        try dsimp only at hSw
        go_simp
        first | done | (with_reducible rfl)
      try simp only [List.getElem_toArray, List.getElem_cons_succ, List.getElem_cons_zero, Act.put, List.setIfInBounds_toArray, List.set_cons_zero, List.set_cons_succ]
      refine wpAnyH_take (i := 6) (v := ?_) rfl (by kernel_rfl) (by kernel_rfl) (by kernel_rfl) (fun _ _ _ h => h) (Or.inl ⟨by rfl, ?_⟩) (by assumption) ?_
      rotate_left
      · intro w' hSw
        try dsimp only at hSw
        go_simp
        first | done | (with_reducible rfl)
      try simp only [List.getElem_toArray, List.getElem_cons_succ, List.getElem_cons_zero, Act.put, List.setIfInBounds_toArray, List.set_cons_zero, List.set_cons_succ]
      refine wpAnyH_take (i := 7) (v := ?_) rfl (by kernel_rfl) (by kernel_rfl) (by kernel_rfl) (fun _ _ _ h => h) (Or.inl ⟨by rfl, ?_⟩) (by assumption) ?_
      rotate_left
      · intro w' hSw
        try dsimp only at hSw
        go_simp
        first | done | (with_reducible rfl)
      try simp only [List.getElem_toArray, List.getElem_cons_succ, List.getElem_cons_zero, Act.put, List.setIfInBounds_toArray, List.set_cons_zero, List.set_cons_succ]
      refine wpAnyH_take (i := 8) (v := ?_) rfl (by kernel_rfl) (by kernel_rfl) (by kernel_rfl) (fun _ _ _ h => h) (Or.inl ⟨by rfl, ?_⟩) (by assumption) ?_
      rotate_left
      · intro w' hSw
        try dsimp only at hSw
        go_simp
        first | done | (with_reducible rfl)
      try simp only [List.getElem_toArray, List.getElem_cons_succ, List.getElem_cons_zero, Act.put, List.setIfInBounds_toArray, List.set_cons_zero, List.set_cons_succ]
      refine wpAnyH_ready (rs := [9]) (by kernel_rfl) (by simp) ?_
      refine AllReadyH.cons rfl (fun K hK => ?_) AllReadyH.nil
      go_simp
      refine (HBY.out _ (HC0.out.trans (hc10'.drew.trans hc11 (fun _ _ e => e)) (fun _ _ e => e))).mono ?_
      rintro e w12 ⟨G, gk, gc, rfl, hg, hc12⟩
      have s4 := two_cells HF0.out HG0.out ((hc10'.drew.trans hc11 (fun _ _ e => e)).trans hc12 (fun _ _ e => e))
      have s5 := conv_any (c := ec) ((hr10.drew.chg hc11 (fun _ _ => id)).chg hc12 (fun _ _ => id))
      have s6 := conv_any (c := gc) hg
      go_wp2_with fail
      refine hK.out _ _ ⟨s4.1, s5⟩ (fun hHeld => ?_)
      clear hK K
      try simp only [List.getElem_toArray, List.getElem_cons_succ, List.getElem_cons_zero, Act.put, List.setIfInBounds_toArray, List.set_cons_zero, List.set_cons_succ]
      refine wpAnyH_ready (rs := [10]) (by kernel_rfl) (by simp) ?_
      refine AllReadyH.cons rfl (fun K hK => ?_) AllReadyH.nil
      go_simp
      refine hK.out _ _ ⟨s4.1, s5⟩ (fun hHeld => ?_)
      clear hK K
      try simp only [List.getElem_toArray, List.getElem_cons_succ, List.getElem_cons_zero, Act.put, List.setIfInBounds_toArray, List.set_cons_zero, List.set_cons_succ]
      refine wpAnyH_take (i := 11) (v := ?_) rfl (by kernel_rfl) (by kernel_rfl) (by kernel_rfl) (fun _ _ _ h => h) (Or.inl ⟨by rfl, ?_⟩) (by assumption) ?_
      rotate_left
      · intro w' hSw
        try dsimp only at hSw
        go_simp
        first | done | (with_reducible rfl)
      try simp only [List.getElem_toArray, List.getElem_cons_succ, List.getElem_cons_zero, Act.put, List.setIfInBounds_toArray, List.set_cons_zero, List.set_cons_succ]
      refine wpAnyH_take (i := 12) (v := ?_) rfl (by kernel_rfl) (by kernel_rfl) (by kernel_rfl) (fun _ _ _ h => h) (Or.inl ⟨by rfl, ?_⟩) (by assumption) ?_
      rotate_left
      · intro w' hSw
        try dsimp only at hSw
        go_simp
        first | done | (with_reducible rfl)
      try simp only [List.getElem_toArray, List.getElem_cons_succ, List.getElem_cons_zero, Act.put, List.setIfInBounds_toArray, List.set_cons_zero, List.set_cons_succ]
      refine wpAnyH_take (i := 13) (v := ?_) rfl (by kernel_rfl) (by kernel_rfl) (by kernel_rfl) (fun _ _ _ h => h) (Or.inl ⟨by rfl, ?_⟩) (by assumption) ?_
      rotate_left
      · intro w' hSw
        try dsimp only at hSw
        go_simp
        first | done | (with_reducible rfl)
      try simp only [List.getElem_toArray, List.getElem_cons_succ, List.getElem_cons_zero, Act.put, List.setIfInBounds_toArray, List.set_cons_zero, List.set_cons_succ]
      refine wpAnyH_take (i := 14) (v := ?_) rfl (by kernel_rfl) (by kernel_rfl) (by kernel_rfl) (fun _ _ _ h => h) (Or.inl ⟨by rfl, ?_⟩) (by assumption) ?_
      rotate_left
      · intro w' hSw
        try dsimp only at hSw
        go_simp
        first | done | (with_reducible rfl)
      try simp only [List.getElem_toArray, List.getElem_cons_succ, List.getElem_cons_zero, Act.put, List.setIfInBounds_toArray, List.set_cons_zero, List.set_cons_succ]
      refine wpAnyH_take (i := 15) (v := ?_) rfl (by kernel_rfl) (by kernel_rfl) (by kernel_rfl) (fun _ _ _ h => h) (Or.inl ⟨by rfl, ?_⟩) (by assumption) ?_
      rotate_left
      · intro w' hSw
        try dsimp only at hSw
        go_simp
        first | done | (with_reducible rfl)
      try simp only [List.getElem_toArray, List.getElem_cons_succ, List.getElem_cons_zero, Act.put, List.setIfInBounds_toArray, List.set_cons_zero, List.set_cons_succ]
      refine wpAnyH_take (i := 16) (v := ?_) rfl (by kernel_rfl) (by kernel_rfl) (by kernel_rfl) (fun _ _ _ h => h) (Or.inl ⟨by rfl, ?_⟩) (by assumption) ?_
      rotate_left
      · intro w' hSw
        try dsimp only at hSw
        go_simp
        first | done | (with_reducible rfl)
      try simp only [List.getElem_toArray, List.getElem_cons_succ, List.getElem_cons_zero, Act.put, List.setIfInBounds_toArray, List.set_cons_zero, List.set_cons_succ]
      refine wpAnyH_take (i := 17) (v := ?_) rfl (by kernel_rfl) (by kernel_rfl) (by kernel_rfl) (fun _ _ _ h => h) (Or.inl ⟨by rfl, ?_⟩) (by assumption) ?_
      rotate_left
      · intro w' hSw
        try dsimp only at hSw
        go_simp
        first | done | (with_reducible rfl)
      try simp only [List.getElem_toArray, List.getElem_cons_succ, List.getElem_cons_zero, Act.put, List.setIfInBounds_toArray, List.set_cons_zero, List.set_cons_succ]
      refine wpAnyH_take (i := 18) (v := ?_) rfl (by kernel_rfl) (by kernel_rfl) (by kernel_rfl) (fun _ _ _ h => h) (Or.inl ⟨by rfl, ?_⟩) (by assumption) ?_
      rotate_left
      · intro w' hSw
        try dsimp only at hSw
        go_simp
        first | done | (with_reducible rfl)
      try simp only [List.getElem_toArray, List.getElem_cons_succ, List.getElem_cons_zero, Act.put, List.setIfInBounds_toArray, List.set_cons_zero, List.set_cons_succ]
      refine wpAnyH_take (i := 19) (v := ?_) rfl (by kernel_rfl) (by kernel_rfl) (by kernel_rfl) (fun _ _ _ h => h) (Or.inl ⟨by rfl, ?_⟩) (by assumption) ?_
      rotate_left
      · intro w' hSw
        try dsimp only at hSw
        go_simp
        first | done | (with_reducible rfl)
      try simp only [List.getElem_toArray, List.getElem_cons_succ, List.getElem_cons_zero, Act.put, List.setIfInBounds_toArray, List.set_cons_zero, List.set_cons_succ]
      refine wpAnyH_take (i := 20) (v := ?_) rfl (by kernel_rfl) (by kernel_rfl) (by kernel_rfl) (fun _ _ _ h => h) (Or.inl ⟨by rfl, ?_⟩) (by assumption) ?_
      rotate_left
      · intro w' hSw
        try dsimp only at hSw
        go_simp
        first | done | (with_reducible rfl)
      try simp only [List.getElem_toArray, List.getElem_cons_succ, List.getElem_cons_zero, Act.put, List.setIfInBounds_toArray, List.set_cons_zero, List.set_cons_succ]
      refine wpAnyH_done (by kernel_rfl) ?_ _
      refine NoPanic.normal ?_
      all_goals
        go_wp2_with fail
        go_ret
        exact ⟨by simp, HC0.out.trans ((hc10'.drew.trans hc11 (fun _ _ e => e)).trans hc12 (fun _ _ e => e)) (fun _ _ e => e)⟩

end Go.Proofs.Ytgpicmeiegbgcaa
