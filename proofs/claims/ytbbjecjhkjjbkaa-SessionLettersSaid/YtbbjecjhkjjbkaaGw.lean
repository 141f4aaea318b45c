/-
  Walk: session.Encode. Conditions: the body is read in memory.
-/
import Derived.Test.YtbbjecjhkjjbkaaGv
import Derived.Test.YtbbjecjhkjjbkaaQe
import Derived.Test.YtbbjecjhkjjbkaaCh
import Derived.Deep.RegionHeld3
namespace Go.Proofs.Ytbbjecjhkjjbkaa
open Go.RowKit
set_option linter.unusedVariables false
set_option linter.unusedSimpArgs false

theorem lt_cells5 {w : World} {q : Nat} {T : TypeId} {m p a s : Int} {A : Option Addr} {n c : Nat} (h : Blk w q T (ltC m p a s A n c)) :
    w.cell? ⟨q, 0, none⟩ = some (.int .i64 m) ∧ w.cell? ⟨q, 1, none⟩ = some (.int .i64 p) ∧ w.cell? ⟨q, 2, none⟩ = some (.int .i64 a) ∧ w.cell? ⟨q, 3, none⟩ = some (.int .i64 s) ∧ w.cell? ⟨q, 4, none⟩ = some (.slice A n c) := by
  have h0 := h.cell 0
  have h1 := h.cell 1
  have h2 := h.cell 2
  have h3 := h.cell 3
  have h4 := h.cell 4
  simp only [ltC, List.getElem?_toArray, List.getElem?_cons_zero, List.getElem?_cons_succ] at h0 h1 h2 h3 h4
  exact ⟨h0, h1, h2, h3, h4⟩
theorem jok_in {x hi : Int} (h : 0 ≤ x ∧ x ≤ hi) (hh : hi ≤ 9223372036854775807) : -9223372036854775808 ≤ x ∧ x ≤ 9223372036854775807 := by omega
set_option maxRecDepth 100000 in
set_option maxHeartbeats 1000000 in
theorem enc11_bad (m p a s : Int) (A : Option Addr) (n c : Nat) (w : World) (hn : n ≤ 9223372036854775807) (hr : ltR m p a s n = false) : Calls Try.prog 9 #[.agg (ltC m p a s A n c)] w (Mk5 [] 1 w) := by
  have HC0 := Lib.hid ((Chg.refl (fun _ => False) w).alloc (.cells #[.int .i64 m, .int .i64 p, .int .i64 a, .int .i64 s, .slice A n c] 24))
  have hrt := fun W => right11_any m p a s A n c W hn
  rw [hr] at hrt
  have HRT := Lib.hid hrt
  clear hr hrt
  unfold ltC at HRT ⊢
  go_enter Try.func9, Try.ntmps9
  go_wp2_with fail
  refine (HRT.out _).mono ?_
  rintro e w1 ⟨rfl, hc1⟩
  go_wp2_with fail
  go_ret2
  exact mk5_no ⟨rfl, HC0.out.trans hc1 (fun _ _ e => e)⟩
set_option maxRecDepth 100000 in
set_option maxHeartbeats 4000000 in
theorem enc11_ok (m p a s : Int) (A : Option Addr) (n c : Nat) (l : List UInt8) (S : Nat → Prop) (w : World) (hl : n = l.length) (h : Rds w S A n (bcs l)) (hr : ltR m p a s n = true) : Calls Try.prog 9 #[.agg (ltC m p a s A n c)] w (Mk5 (ltB m p a s l) 0 w) := by
  obtain ⟨hm, hp, ha, hs, hn, _⟩ := ltR_parts hr
  have HMM := Lib.hid (jok_in (x := m) ⟨by omega, hm.2⟩ (by decide))
  have HPP := Lib.hid (jok_in hp (by decide))
  have HAA := Lib.hid (jok_in ha (by decide))
  have HSS := Lib.hid (jok_in hs (by decide))
  have HN2 := Lib.hid hn
  have hrt := fun W => right11_any m p a s A n c W (by omega)
  have HST := Lib.hid (lt_state (l := l) (by rw [← hl]; exact hr))
  rw [hr] at hrt
  have HRT := Lib.hid hrt
  have HC0 := Lib.hid ((Chg.refl (fun _ => False) w).alloc (.cells #[.int .i64 m, .int .i64 p, .int .i64 a, .int .i64 s, .slice A n c] 24))
  have HQ0 : Hid (Blk (w.alloc (.cells #[.int .i64 m, .int .i64 p, .int .i64 a, .int .i64 s, .slice A n c] 24)) w.heap.size 24 (ltC m p a s A n c)) := Lib.hid (blk_new rfl)
  have HL := Lib.hid hl
  have HH := Lib.hid h
  clear hr hrt hl h hm hp ha hs hn
  unfold ltC at HRT ⊢
  go_enter Try.func9, Try.ntmps9
  go_wp2_with fail
  refine (HRT.out _).mono ?_
  rintro e w1 ⟨rfl, hc1⟩
  have HC1 := Lib.hid (HC0.out.trans hc1 (fun _ _ e => e))
  have HQ1 := Lib.hid (HQ0.out.chg hc1 id)
  have HKEEP := Lib.hid (fun (w' : World) (hw : Chg (fun _ => False) w1 w') => (show w'.cell? ⟨w.heap.size, 0, none⟩ = some (.int .i64 m) ∧ w'.cell? ⟨w.heap.size, 1, none⟩ = some (.int .i64 p) ∧ w'.cell? ⟨w.heap.size, 2, none⟩ = some (.int .i64 a) ∧ w'.cell? ⟨w.heap.size, 3, none⟩ = some (.int .i64 s) ∧ w'.cell? ⟨w.heap.size, 4, none⟩ = some (.slice A n c) from lt_cells5 (HQ1.out.chg hw id)))
  have hzz := hc1.size
  clear hc1 HRT HC0 HQ0
  go_upto_region 3 with fail
  go_region_held3 (fun w' => w'.cell? ⟨w.heap.size, 0, none⟩ = some (.int .i64 m) ∧ w'.cell? ⟨w.heap.size, 1, none⟩ = some (.int .i64 p) ∧ w'.cell? ⟨w.heap.size, 2, none⟩ = some (.int .i64 a) ∧ w'.cell? ⟨w.heap.size, 3, none⟩ = some (.int .i64 s) ∧ w'.cell? ⟨w.heap.size, 4, none⟩ = some (.slice A n c))
    (first | with_reducible exact HKEEP.out _ HX5.out | with_reducible exact HKEEP.out _ HX.out | with_reducible exact HKEEP.out _ (HX.out.alloc _) | exact HKEEP.out _ (Chg.refl _ _) | exact HKEEP.out _ (Chg.refl _ _).drew | exact HKEEP.out _ ((Chg.refl _ _).alloc _).drew | exact HKEEP.out _ (((Chg.refl _ _).alloc _).alloc _).drew | exact HKEEP.out _ ((((Chg.refl _ _).alloc _).alloc _).alloc _).drew | fail)
    (first
      | (go_at_call 27; (with_reducible refine (wat_two _ _ 16 6 a s _ w1 _ HAA.out HSS.out (by decide) (by first | with_reducible exact HW4.out | with_reducible exact HW4.out.alloc _) (by first | with_reducible exact blk_new rfl | exact HK4.out.blk (by first | exact blk_new rfl | exact (blk_new (by first | rfl | (simp; done) | (simp; omega))).drew | exact ((blk_new (by first | rfl | (simp; done) | (simp; omega))).alloc _).drew | exact (((blk_new (by first | rfl | (simp; done) | (simp; omega))).alloc _).alloc _).drew))).mono ?_); rintro e w5 ⟨rfl, hw5, _⟩; have HW5 := Lib.hid hw5; have HX5 := Lib.hid hw5.was; clear hw5)
      | (go_at_call 28; (with_reducible refine (wat_bytes5 _ 32 _ A n c l S w w1 _ (by have := HN2.out; omega) HW5.out HL.out HH.out HC1.out).mono ?_); rintro e w6 ⟨rfl, hw6⟩; have HW6 := Lib.hid (HST.out ▸ hw6); have HX5 := Lib.hid hw6.was; clear hw6)
      | (go_at_call 29; (with_reducible refine (wat_done5 _ _ _ w1 _ (by have := HN2.out; omega) HW6.out).mono ?_); rintro e w7 ⟨D, dc, rfl, hown7, hc7⟩; have HO7 := Lib.hid hown7; have HX5 := Lib.hid hc7; clear hown7 hc7)
      | (go_at_call 27; (with_reducible refine (wat_two _ _ 0 5 m p (some []) w1 _ HMM.out HPP.out (by decide) (Wat.start (by first | exact (((Chg.refl _ _).alloc _).alloc _).drew | exact ((((Chg.refl _ _).alloc _).alloc _).alloc _).drew) (by first | omega | (simp; done) | (simp; omega)) (by first | exact blk_new rfl | exact (blk_new (by first | rfl | (simp; done) | (simp; omega))).drew | exact ((blk_new (by first | rfl | (simp; done) | (simp; omega))).alloc _).drew | exact (((blk_new (by first | rfl | (simp; done) | (simp; omega))).alloc _).alloc _).drew)) (by first | exact blk_new rfl | exact (blk_new (by first | rfl | (simp; done) | (simp; omega))).drew | exact ((blk_new (by first | rfl | (simp; done) | (simp; omega))).alloc _).drew | exact (((blk_new (by first | rfl | (simp; done) | (simp; omega))).alloc _).alloc _).drew)).mono ?_); rintro e w4 ⟨rfl, hw4, hk4⟩; have HW4 := Lib.hid hw4; have HK4 := Lib.hid hk4; have HX := Lib.hid hw4.was; clear hw4 hk4)
      | fail)
  all_goals
    go_wp2_with fail
    go_ret2
    exact ⟨D, dc, rfl, own_base HO7.out HC1.out.size, HC1.out.trans HX5.out (fun _ _ e => e)⟩

/-- Encode, of any letter. -/
theorem enc11_any (m p a s : Int) (A : Option Addr) (n c : Nat) (l : List UInt8) (S : Nat → Prop) (w : World) (hl : n = l.length) (h : Rds w S A n (bcs l)) (hn : n ≤ 9223372036854775807) :
    Calls Try.prog 9 #[.agg (ltC m p a s A n c)] w (Mk5 (if ltR m p a s n = true then ltB m p a s l else []) (if ltR m p a s n = true then 0 else 1) w) := by
  by_cases hr : ltR m p a s n = true
  · rw [if_pos hr, if_pos hr]
    exact enc11_ok m p a s A n c l S w hl h hr
  · rw [if_neg hr, if_neg hr]
    exact enc11_bad m p a s A n c w hn (by simpa using hr)


end Go.Proofs.Ytbbjecjhkjjbkaa
