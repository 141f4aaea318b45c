/-
  Walk: rutterlaw05.TunnelNever. Conditions: the frame is read in memory, no more of it than there is room.
-/
import Derived.Test.YtnboilombfnpkaaQj
namespace Go.Proofs.Ytnboilombfnpkaa
open Go.RowKit
set_option linter.unusedVariables false

theorem arr_cells {w w' : World} {q : Nat} {T : TypeId} {x y : Int} (hb : Blk w q T #[.int .i64 x, .int .i64 y]) (h : Chg (fun _ => False) w w') : w'.cell? ⟨q, 0, none⟩ = some (.int .i64 x) ∧ w'.cell? ⟨q, 1, none⟩ = some (.int .i64 y) := by
  have x0 := (hb.chg h id).cell 0
  have x1 := (hb.chg h id).cell 1
  simp only [List.getElem?_toArray, List.getElem?_cons_zero, List.getElem?_cons_succ] at x0 x1
  exact ⟨x0, x1⟩
theorem goB_far {o t z : Int} (h : goB 2 o t z = true) : (o != t) = true ∧ (t != z) = true ∧ (o != z) = true := by
  unfold goB at h
  simp at h
  obtain ⟨h1, h2, h3⟩ := h
  refine ⟨?_, ?_, ?_⟩ <;> simp <;> omega

set_option maxHeartbeats 1000000 in
theorem tnever_big (k o f t p g i a0 a1 b0 b1 : Int) (A : Option Addr) (n c : Nat) (w : World) (h3 : 3000 < n) (hn : n ≤ 9223372036854775807) :
    Calls Try.prog 5 #[.agg (pkC k o f t p g i A n c), .agg #[.int .i64 a0, .int .i64 a1], .agg #[.int .i64 b0, .int .i64 b1]] w fun e w' => e = .returned (.bool true) ∧ Chg (fun _ => False) w w' := by
  have HC0 := Lib.hid ((((Chg.refl (fun _ => False) w).alloc (.cells #[.int .i64 k, .int .i64 o, .int .i64 f, .int .i64 t, .int .i64 p, .int .i64 g, .int .i64 i, .slice A n c] 25)).alloc (.cells #[.int .i64 a0, .int .i64 a1] 26)).alloc (.cells #[.int .i64 b0, .int .i64 b1] 26))
  have hfi := fun W => fits5_any k o f t p g i A n c W hn
  rw [show decide (n ≤ 3000) = false by simp; omega] at hfi
  unfold pkC at hfi ⊢
  have HFI := Lib.hid hfi
  clear hfi
  go_enter Try.func5, Try.ntmps5
  go_wp2_with fail
  refine (HFI.out _).mono ?_
  rintro e w1 ⟨rfl, hc1⟩
  have HA := Lib.hid (alive5_any w1)
  clear HFI
  go_wp2_with fail
  refine HA.out.mono ?_
  rintro e w2 ⟨rfl, hc2⟩
  go_wp2_with fail
  go_ret
  exact ⟨rfl, (HC0.out.trans hc1 (fun _ _ e => e)).trans hc2 (fun _ _ e => e)⟩

set_option maxHeartbeats 4000000 in
theorem tnever_any (k o f t p g i a0 a1 b0 b1 : Int) (A : Option Addr) (n c : Nat) (l : List UInt8) (S : Nat → Prop) (w : World) (hl : n = l.length) (h : Rds w S A n (bcs l)) (hz : A = none → c = 0) (h3 : n ≤ 3000) :
    Calls Try.prog 5 #[.agg (pkC k o f t p g i A n c), .agg #[.int .i64 a0, .int .i64 a1], .agg #[.int .i64 b0, .int .i64 b1]] w fun e w' => e = .returned (.bool true) ∧ Chg (fun _ => False) w w' := by
  have hn : n ≤ 9223372036854775807 := by omega
  have hC0 := (((Chg.refl (fun _ => False) w).alloc (.cells #[.int .i64 k, .int .i64 o, .int .i64 f, .int .i64 t, .int .i64 p, .int .i64 g, .int .i64 i, .slice A n c] 25)).alloc (.cells #[.int .i64 a0, .int .i64 a1] 26)).alloc (.cells #[.int .i64 b0, .int .i64 b1] 26)
  have hP0 : Blk (((w.alloc (.cells #[.int .i64 k, .int .i64 o, .int .i64 f, .int .i64 t, .int .i64 p, .int .i64 g, .int .i64 i, .slice A n c] 25)).alloc (.cells #[.int .i64 a0, .int .i64 a1] 26)).alloc (.cells #[.int .i64 b0, .int .i64 b1] 26)) w.heap.size 25 (pkC k o f t p g i A n c) := ((blk_new rfl).alloc _).alloc _
  have hA0 : Blk (((w.alloc (.cells #[.int .i64 k, .int .i64 o, .int .i64 f, .int .i64 t, .int .i64 p, .int .i64 g, .int .i64 i, .slice A n c] 25)).alloc (.cells #[.int .i64 a0, .int .i64 a1] 26)).alloc (.cells #[.int .i64 b0, .int .i64 b1] 26)) (w.heap.size + 1) 26 #[.int .i64 a0, .int .i64 a1] := (blk_new (by simp)).alloc _
  have hB0 : Blk (((w.alloc (.cells #[.int .i64 k, .int .i64 o, .int .i64 f, .int .i64 t, .int .i64 p, .int .i64 g, .int .i64 i, .slice A n c] 25)).alloc (.cells #[.int .i64 a0, .int .i64 a1] 26)).alloc (.cells #[.int .i64 b0, .int .i64 b1] 26)) (w.heap.size + 2) 26 #[.int .i64 b0, .int .i64 b1] := blk_new (by simp)
  have hfi := fun W => fits5_any k o f t p g i A n c W hn
  rw [show decide (n ≤ 3000) = true by simp; omega] at hfi
  obtain ⟨k', o', f', t', p', g', i', m, x, hag, _, htag, _⟩ := agains k o f t p g i a0 a1 A n c l S w hn hl h hz
  have HC0 := Lib.hid hC0
  have HP0 := Lib.hid hP0
  have HA0 := Lib.hid hA0
  have HB0 := Lib.hid hB0
  have HH := Lib.hid h
  have HL := Lib.hid hl
  have HAG := Lib.hid hag
  unfold pkC at hfi htag ⊢
  have HFI := Lib.hid hfi
  have HTAG := Lib.hid htag
  clear hC0 hP0 hA0 hB0 h hl hag hfi htag hz
  go_enter Try.func5, Try.ntmps5
  go_wp2_with fail
  refine (HFI.out _).mono ?_
  rintro e w1 ⟨rfl, hc1⟩
  have HC1 := Lib.hid (HC0.out.trans hc1 (fun _ _ e => e))
  have HP1 := Lib.hid (HP0.out.chg hc1 id)
  have HB1 := Lib.hid (HB0.out.chg hc1 id)
  obtain ⟨y0, y1, y2, y3, y4, y5, y6, y7⟩ := pk_kept HP0.out hc1
  obtain ⟨e0, e1⟩ := arr_cells HA0.out hc1
  clear hc1 HFI HC0 HP0 HA0 HB0
  have HT1 := Lib.hid (HTAG.out _ HC1.out)
  clear HTAG
  go_wp2_with fail
  refine HT1.out.mono ?_
  rintro e w2 ⟨D, dc, rfl, hdn, hr2, hc2⟩
  clear y0 y1 y2 y3 y4 y5 y6 y7 e0 e1 HT1
  rcases HAG.out with ⟨rfl, rfl, rfl, rfl, rfl, rfl, rfl, rfl, hx⟩ | ⟨rfl, rfl, rfl, rfl, rfl, rfl, rfl, rfl, rfl, hpr, hk, hpr2⟩
  · have hx0 : (x != 0) = true := by rcases hx with rfl | rfl <;> rfl
    have HX2 := Lib.hid (show Blk (w2.alloc (.cells #[.int .i64 0, .int .i64 0, .int .i64 0, .int .i64 0, .int .i64 0, .int .i64 0, .int .i64 0, .slice D 0 dc] 25)) w2.heap.size 25 (pkC 0 0 0 0 0 0 0 D 0 dc) from blk_new rfl)
    have HC2 := Lib.hid ((HC1.out.trans hc2 (fun _ _ e => e)).alloc (.cells #[.int .i64 0, .int .i64 0, .int .i64 0, .int .i64 0, .int .i64 0, .int .i64 0, .int .i64 0, .slice D 0 dc] 25))
    have HA := Lib.hid (alive5_any (w2.alloc (.cells #[.int .i64 0, .int .i64 0, .int .i64 0, .int .i64 0, .int .i64 0, .int .i64 0, .int .i64 0, .slice D 0 dc] 25)))
    simp only [pkC, List.length_nil]
    clear hdn hr2 hc2 HC1 HP1 HB1 HAG hx
    go_wp2_with fail
    refine HA.out.mono ?_
    rintro e w3 ⟨rfl, hc3⟩
    obtain ⟨y0, y1, y2, y3, y4, y5, y6, y7⟩ := pk_kept HX2.out hc3
    go_wp2_with fail
    go_ret
    exact ⟨rfl, HC2.out.trans hc3 (fun _ _ e => e)⟩
  · rw [← HL.out] at hpr2 hr2 ⊢
    have hca := hc2.alloc (.cells #[.int .i64 2, .int .i64 o, .int .i64 t, .int .i64 a0, .int .i64 p, .int .i64 a1, .int .i64 i, .slice D n dc] 25)
    have HC2 := Lib.hid (HC1.out.trans hca (fun _ _ e => e))
    have HP2 := Lib.hid (HP1.out.chg hca id)
    have HX2 := Lib.hid (show Blk (w2.alloc (.cells #[.int .i64 2, .int .i64 o, .int .i64 t, .int .i64 a0, .int .i64 p, .int .i64 a1, .int .i64 i, .slice D n dc] 25)) w2.heap.size 25 (pkC 2 o t a0 p a1 i D n dc) from blk_new rfl)
    have HR2 := Lib.hid (hr2.alloc (.cells #[.int .i64 2, .int .i64 o, .int .i64 t, .int .i64 a0, .int .i64 p, .int .i64 a1, .int .i64 i, .slice D n dc] 25))
    obtain ⟨e0, e1⟩ := arr_cells HB1.out hca
    obtain ⟨q1, q2, q3⟩ := goB_far (pkR_parts hpr2).2.2.2.2.2.2.2.2
    have HT2 := Lib.hid (tag_state 2 o t a0 p a1 i b0 b1 D n dc (w2.alloc (.cells #[.int .i64 2, .int .i64 o, .int .i64 t, .int .i64 a0, .int .i64 p, .int .i64 a1, .int .i64 i, .slice D n dc] 25)) hn hpr2 rfl)
    unfold pkC at HT2 ⊢
    clear hdn hr2 hc2 hca HC1 HP1 HB1 HAG hpr hk hpr2
    go_wp2_with fail
    refine HT2.out.mono ?_
    rintro e w3 ⟨rfl, hc3⟩
    have hca := hc3.alloc (.cells #[.int .i64 0, .int .i64 0, .int .i64 0, .int .i64 0, .int .i64 0, .int .i64 0, .int .i64 0, .slice none 0 0] 25)
    have HC3 := Lib.hid (HC2.out.trans hca (fun _ _ e => e))
    have HP3 := Lib.hid (HP2.out.chg hca id)
    have HX3 := Lib.hid (HX2.out.chg hca id)
    have HR3 := Lib.hid (HR2.out.chg hca (fun _ _ => id))
    have HA := Lib.hid (alive5_any (w3.alloc (.cells #[.int .i64 0, .int .i64 0, .int .i64 0, .int .i64 0, .int .i64 0, .int .i64 0, .int .i64 0, .slice none 0 0] 25)))
    unfold zeroP pkC
    clear e0 e1 hc3 hca HC2 HP2 HX2 HR2 HT2
    go_wp2_with fail
    refine HA.out.mono ?_
    rintro e w4 ⟨rfl, hc4⟩
    have HC4 := Lib.hid (HC3.out.trans hc4 (fun _ _ e => e))
    obtain ⟨y0, y1, y2, y3, y4, y5, y6, y7⟩ := pk_kept HP3.out hc4
    obtain ⟨z0, z1, z2, z3, z4, z5, z6, z7⟩ := pk_kept HX3.out hc4
    have s1 := conv_any (c := dc) (HR3.out.chg hc4 (fun _ _ => id))
    have s2 := conv_any (c := c) (HH.out.chg HC4.out (fun _ _ => id))
    clear hc4 HA HC3 HP3 HX3 HR3
    go_wp2_with fail
    go_ret
    exact ⟨rfl, HC4.out⟩

end Go.Proofs.Ytnboilombfnpkaa
