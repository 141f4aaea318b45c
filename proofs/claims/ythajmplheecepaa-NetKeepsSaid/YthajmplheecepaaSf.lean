/-
  Walks: net.within, Item.right, Item.another, New, Len, Lost, lacks, each on nil too; what the atomic number's Load and Add do. Conditions: the net lies in memory.
-/
import Derived.Test.YthajmplheecepaaSe
import Derived.Laws.LoneSync
namespace Go.Proofs.Ythajmplheecepaa
open Go.RowKit
set_option linter.unusedVariables false
set_option linter.unusedSimpArgs false

set_option maxRecDepth 100000 in
set_option maxHeartbeats 400000 in
theorem within18 (m n : Int) (w : World) : Calls Try.prog 18 #[.int .i64 m, .int .i64 n] w fun e w' => e = .returned (.bool (decide (0 ≤ n) && decide (n ≤ m))) ∧ w = w' := by
  by_cases h : 0 ≤ n
  · have HR := Lib.hid (show (decide (0 ≤ n) && decide (n ≤ m)) = decide (n ≤ m) by simp [h])
    go_enter Try.func18, Try.ntmps18
    go_wp2_with fail
    go_ret
    exact ⟨by rw [HR.out]; rfl, rfl⟩
  · have HR := Lib.hid (show (decide (0 ≤ n) && decide (n ≤ m)) = false by simp [h])
    go_enter Try.func18, Try.ntmps18
    go_wp2_with fail
    go_ret
    exact ⟨by rw [HR.out]; rfl, rfl⟩
theorem it_cells {w : World} {q : Nat} {a b : Int} {v : Value} {T : TypeId} (h : Blk w q T #[.int .i64 a, .int .i64 b, v]) :
    w.cell? ⟨q, 0, none⟩ = some (.int .i64 a) ∧ w.cell? ⟨q, 1, none⟩ = some (.int .i64 b) ∧ w.cell? ⟨q, 2, none⟩ = some v := by
  have h0 := h.cell 0
  have h1 := h.cell 1
  have h2 := h.cell 2
  simp only [List.getElem?_toArray, List.getElem?_cons_zero, List.getElem?_cons_succ] at h0 h1 h2
  exact ⟨h0, h1, h2⟩
set_option maxRecDepth 100000 in
set_option maxHeartbeats 1000000 in
theorem right18 (ki ch : Int) (A : Option Addr) (n c : Nat) (w : World) : Calls Try.prog 31 #[.agg #[.int .i64 ki, .int .i64 ch, .slice A n c]] w fun e w' => e = .returned (.bool (((decide (0 ≤ ki) && decide (ki ≤ 2)) && (decide (0 ≤ ch) && decide (ch ≤ 15))) && decide ((n : Int) ≤ 2000))) ∧ Chg (fun _ => False) w w' := by
  have HX := Lib.hid ((Chg.refl (fun _ => False) w).alloc (.cells #[.int .i64 ki, .int .i64 ch, .slice A n c] 40))
  have H1 := Lib.hid (within18 2 ki)
  have H2 := Lib.hid (within18 15 ch)
  generalize (decide (0 ≤ ki) && decide (ki ≤ 2)) = b1 at *
  generalize (decide (0 ≤ ch) && decide (ch ≤ 15)) = b2 at *
  cases b1
  · go_enter Try.func31, Try.ntmps31
    go_wp2_with fail
    refine (H1.out _).mono ?_
    rintro e _ ⟨rfl, rfl⟩
    go_wp2_with fail
    go_ret
    exact ⟨by simp, HX.out⟩
  · cases b2
    all_goals
      go_enter Try.func31, Try.ntmps31
      go_wp2_with fail
      refine (H1.out _).mono ?_
      rintro e _ ⟨rfl, rfl⟩
      go_wp2_with fail
      refine (H2.out _).mono ?_
      rintro e _ ⟨rfl, rfl⟩
      go_wp2_with fail
      go_ret
      exact ⟨by simp, HX.out⟩
/-- What another hands back. -/
def AnoP18 (ki ch : Int) (n : Nat) (bs : List UInt8) (w : World) (e : Ending) (w' : World) : Prop := ∃ A c, e = .returned (.agg #[.int .i64 ki, .int .i64 ch, .slice A n c]) ∧ w'.ownsRow w.heap.size 5 1 (.slice A n c) n (bcs bs) ∧ Chg (fun _ => False) w w'
set_option maxRecDepth 100000 in
set_option maxHeartbeats 2000000 in
theorem another18 (ki ch : Int) (A : Option Addr) (n c : Nat) (bs : List UInt8) (S : Nat → Prop) (w : World) (hn : n = bs.length) (hr : Rds w S A n (bcs bs)) (hz : A = none → c = 0) (hb : n ≤ 140737488355328) :
    Calls Try.prog 26 #[.agg #[.int .i64 ki, .int .i64 ch, .slice A n c]] w (AnoP18 ki ch n bs w) := by
  have HX0 := Lib.hid (((Chg.refl (fun _ => False) w).alloc (.cells #[.int .i64 ki, .int .i64 ch, .slice A n c] 40)).alloc (.cells #[.int .i64 0, .int .i64 0, .slice none 0 0] 40))
  have HB0 : Blk ((w.alloc (.cells #[.int .i64 ki, .int .i64 ch, .slice A n c] 40)).alloc (.cells #[.int .i64 0, .int .i64 0, .slice none 0 0] 40)) w.heap.size 40 #[.int .i64 ki, .int .i64 ch, .slice A n c] := Blk.alloc (blk_new rfl) _
  have HB1 : Blk ((w.alloc (.cells #[.int .i64 ki, .int .i64 ch, .slice A n c] 40)).alloc (.cells #[.int .i64 0, .int .i64 0, .slice none 0 0] 40)) (w.heap.size + 1) 40 #[.int .i64 0, .int .i64 0, .slice none 0 0] := blk_new (by simp)
  have HC := Lib.hid (fun W (hw : Chg (fun _ => False) w W) => clone7_any A n c bs S W hn (hr.chg hw (fun _ _ => id)) hz hb)
  replace HB0 := Lib.hid HB0
  replace HB1 := Lib.hid HB1
  clear hr hz hn
  go_enter Try.func26, Try.ntmps26
  go_upto_region 1 with fail
  generalize ((w.alloc (.cells #[.int .i64 ki, .int .i64 ch, .slice A n c] 40)).alloc (.cells #[.int .i64 0, .int .i64 0, .slice none 0 0] 40)) = w1 at *
  have hsz := HX0.out.size
  generalize hQ1 : w.heap.size + 1 = Q1 at *
  generalize hQ0 : w.heap.size = Q0 at *
  have HQ := Lib.hid (show Q0 ≤ Q1 ∧ Q0 ≠ Q1 ∧ w.heap.size = Q0 ∧ Q0 ≤ w1.heap.size by omega)
  clear hQ1 hQ0 hsz
  obtain ⟨y0, y1, y2⟩ := it_cells HB0.out
  go_wp2_with fail
  refine (HC.out _ HX0.out).mono ?_
  rintro e w2 ⟨E, d, rfl, hown, hc⟩
  have HX1 := Lib.hid (HX0.out.trans hc (fun _ _ e => e))
  have HO := Lib.hid (own_base hown HQ.out.2.2.2)
  replace HB0 := Lib.hid (HB0.out.chg hc id)
  replace HB1 := Lib.hid (HB1.out.chg hc id)
  clear hc hown y0 y1 y2
  have hne : ¬ Q0 = Q1 := HQ.out.2.1
  have HB2 := Lib.hid (HB0.out.set 2 (.slice E n d))
  simp only [List.setIfInBounds_toArray, List.set_cons_zero, List.set_cons_succ] at HB2
  have HB3 := Lib.hid (HB1.out.chg ((Chg.refl (fun k => k = Q0) w2).put Q0 2 (fun _ => rfl) (.slice E n d)) (fun e => hne e.symm))
  have HX2 := Lib.hid (fresh_set HX1.out ((Chg.refl (fun k => k = Q0) w2).put Q0 2 (fun _ => rfl) (.slice E n d)) (by have := HQ.out; omega))
  have HO2 := Lib.hid (own_chg HO.out ((Chg.refl (fun k => k = Q0) w2).put Q0 2 (fun _ => rfl) (.slice E n d)) (fun k hk e => by
    subst e
    obtain ⟨cs, hh⟩ := own_ty18 HO.out hk
    have hb := HB0.out
    unfold Blk at hb
    rw [hh] at hb
    injection hb with hb
    injection hb with _ hb
    exact absurd hb (by decide)))
  obtain ⟨-, -, v2⟩ := it_cells HB0.out
  have f2 := HB0.out.frozen 2
  clear HB0 HB1 HX1 HO
  go_upto_region 2 with fail
  generalize w2.setCell ⟨Q0, 2, none⟩ (.slice E n d) = w3 at *
  obtain ⟨y0, y1, y2⟩ := it_cells HB2.out
  have HBR := Lib.hid (((HB3.out.set 0 (.int .i64 ki)).set 1 (.int .i64 ch)).set 2 (.slice E n d))
  simp only [List.setIfInBounds_toArray, List.set_cons_zero, List.set_cons_succ] at HBR
  obtain ⟨x0, x1, x2⟩ := it_cells HB3.out
  have g0 := HB3.out.frozen 0
  have g1 := HB3.out.frozen 1
  have g2 := HB3.out.frozen 2
  have hcs := (((Chg.refl (fun k => k = Q1) w3).put Q1 0 (fun _ => rfl) (.int .i64 ki)).put Q1 1 (fun _ => rfl) (.int .i64 ch)).put Q1 2 (fun _ => rfl) (.slice E n d)
  have HX3 := Lib.hid (fresh_set HX2.out hcs (by have := HQ.out; omega))
  have HO3 := Lib.hid (own_chg HO2.out hcs (fun k hk e => by
    subst e
    obtain ⟨cs, hh⟩ := own_ty18 HO2.out hk
    have hb := HB3.out
    unfold Blk at hb
    rw [hh] at hb
    injection hb with hb
    injection hb with _ hb
    exact absurd hb (by decide)))
  clear hcs
  go_wp2_with fail
  obtain ⟨r0, r1, r2⟩ := it_cells HBR.out
  refine bodyPost_ret (v := .agg #[.int .i64 ki, .int .i64 ch, .slice E n d]) ?_ rfl ?_
  · simp [results, Try.results26, go_sem, r0, r1, r2]
  · exact ⟨E, d, rfl, by rw [HQ.out.2.2.1]; exact HO3.out, HX3.out⟩

theorem nnew18_bad (r : Int) (w : World) (h : r < 0 ∨ 4096 < r) : Calls Try.prog 7 #[.int .i64 r] w fun e w' => e = .returned (.tuple #[.pointer none, .int .i64 1]) ∧ w = w' := by
  have H1 := Lib.hid (within18 4096 r w)
  rw [show (decide (0 ≤ r) && decide (r ≤ 4096)) = false by simp; omega] at H1
  go_enter Try.func7, Try.ntmps7
  go_wp2_with fail
  refine H1.out.mono ?_
  rintro e _ ⟨rfl, rfl⟩
  go_wp2_with fail
  go_ret2
  exact ⟨rfl, rfl⟩
theorem nnew18_ok (r : Int) (w : World) (b : Nat) (hb : b ≤ w.heap.size) (h : 0 ≤ r ∧ r ≤ 4096) : Calls Try.prog 7 #[.int .i64 r] w fun e w' => e = .returned (.tuple #[.pointer (some ⟨w.heap.size, 0, none⟩), .int .i64 0]) ∧
    NN w' b w.heap.size none ⟨r, 0, []⟩ ∧ Chg (fun _ => False) w w' := by
  have H1 := Lib.hid (within18 4096 r w)
  rw [show (decide (0 ≤ r) && decide (r ≤ 4096)) = true by simp; omega] at H1
  go_enter Try.func7, Try.ntmps7
  go_wp2_with fail
  refine H1.out.mono ?_
  rintro e _ ⟨rfl, rfl⟩
  go_wp2_with fail
  go_ret2
  exact ⟨rfl, ⟨none, 0, 0, [], blk_new rfl, World.ownsRow_nil _ _ _ _, rfl, rfl, Its.nil _ _, hb, fun t ht => by cases ht⟩, (Chg.refl _ w).alloc _⟩

set_option maxRecDepth 100000 in
set_option maxHeartbeats 400000 in
theorem nlen18 {w : World} {b p : Nat} {o : Option Nat} {x : NV18} (h : NN w b p o x) : Calls Try.prog 9 #[.pointer (some ⟨p, 0, none⟩)] w fun e w' => e = .returned (.int .i64 (x.l.length : Int)) ∧ w = w' := by
  obtain ⟨A, n, c, l, hb, ho, hn, -⟩ := h
  rw [← hn]
  obtain ⟨c0, c1, c2, -, -⟩ := nn_cells hb
  clear hb ho hn
  go_enter Try.func9, Try.ntmps9
  go_wp2_with fail
  go_ret
  exact ⟨rfl, rfl⟩
set_option maxRecDepth 100000 in
set_option maxHeartbeats 400000 in
theorem nlen18_nil (w : World) : Calls Try.prog 9 #[.pointer none] w fun e w' => e = .returned (.int .i64 0) ∧ w = w' := by
  go_enter Try.func9, Try.ntmps9
  go_wp2_with fail
  go_ret
  exact ⟨rfl, rfl⟩
set_option maxRecDepth 100000 in
set_option maxHeartbeats 400000 in
theorem load18 {p : Nat} {s : Int} {w : World} (h : w.cell? ⟨p, 2, none⟩ = some (.int .i64 s)) : Calls Try.prog 24 #[.pointer (some ⟨p, 2, none⟩)] w fun e w' => e = .returned (.int .i64 s) ∧ w = w' := by
  have hl := run_call_load (P := Try.prog) Try.func34 (by kernel_rfl) (by kernel_rfl) (by kernel_rfl) .i64 (by kernel_rfl) h
  go_enter Try.func24, Try.ntmps24
  go_wp2_with fail
  go_ret
  exact ⟨rfl, rfl⟩
set_option maxRecDepth 100000 in
set_option maxHeartbeats 400000 in
theorem add18 {p : Nat} {s d : Int} {w : World} (h : w.cell? ⟨p, 2, none⟩ = some (.int .i64 s)) (hf : w.frozen? ⟨p, 2, none⟩ = false) (hs : -9223372036854775808 ≤ s + d ∧ s + d ≤ 9223372036854775807) : Calls Try.prog 32 #[.pointer (some ⟨p, 2, none⟩), .int .i64 d] w fun e w' => e = .returned (.int .i64 (s + d)) ∧ w' = w.setCell ⟨p, 2, none⟩ (.int .i64 (s + d)) := by
  have hw : IntKind.i64.wrap (s + d) = s + d := IntWalk.i64_in _ (by omega)
  have hl := run_call_add (P := Try.prog) Try.func36 (by kernel_rfl) (by kernel_rfl) (by kernel_rfl) .i64 (by kernel_rfl) (y := d) (s := s + d) h hf (by simp [go_sem, hw])
  go_enter Try.func32, Try.ntmps32
  go_wp2_with fail
  go_ret
  exact ⟨rfl, rfl⟩
set_option maxRecDepth 100000 in
set_option maxHeartbeats 400000 in
theorem nlost18 {w : World} {b p : Nat} {o : Option Nat} {x : NV18} (h : NN w b p o x) : Calls Try.prog 10 #[.pointer (some ⟨p, 0, none⟩)] w fun e w' => e = .returned (.int .i64 x.lost) ∧ w = w' := by
  obtain ⟨A, n, c, l, hb, ho, hn, -⟩ := h
  obtain ⟨c0, c1, c2, -, -⟩ := nn_cells hb
  have HL := Lib.hid (load18 c2)
  clear hb ho hn
  go_enter Try.func10, Try.ntmps10
  go_wp2_with fail
  refine HL.out.mono ?_
  rintro e _ ⟨rfl, rfl⟩
  go_wp2_with fail
  go_ret
  exact ⟨rfl, rfl⟩
set_option maxRecDepth 100000 in
set_option maxHeartbeats 400000 in
theorem nlost18_nil (w : World) : Calls Try.prog 10 #[.pointer none] w fun e w' => e = .returned (.int .i64 0) ∧ w = w' := by
  go_enter Try.func10, Try.ntmps10
  go_wp2_with fail
  go_ret
  exact ⟨rfl, rfl⟩
set_option maxRecDepth 100000 in
set_option maxHeartbeats 800000 in
theorem lacks18 {w : World} {b p : Nat} {o : Option Nat} {x : NV18} (h : NN w b p o x) (i : Int) : Calls Try.prog 25 #[.pointer (some ⟨p, 0, none⟩), .int .i64 i] w fun e w' => e = .returned (.int .i64 (lackE x i)) ∧ w = w' := by
  obtain ⟨A, n, c, l, hb, ho, hn, -⟩ := h
  obtain ⟨c0, c1, c2, -, -⟩ := nn_cells hb
  have hcap := own_cap ho
  unfold maxLen at hcap
  have H1 := Lib.hid (within18 ((n : Int) - 1) i w)
  unfold lackE
  rw [← hn]
  clear hb ho hn
  by_cases hi : 0 ≤ i ∧ i < (n : Int)
  · rw [show (decide (0 ≤ i) && decide (i ≤ (n : Int) - 1)) = true by simp; omega] at H1
    rw [if_pos hi]
    clear hi
    go_enter Try.func25, Try.ntmps25
    go_wp2_with fail
    refine H1.out.mono ?_
    rintro e _ ⟨rfl, rfl⟩
    go_wp2_with fail
    go_ret
    exact ⟨rfl, rfl⟩
  · rw [show (decide (0 ≤ i) && decide (i ≤ (n : Int) - 1)) = false by simp; omega] at H1
    rw [if_neg hi]
    clear hi
    go_enter Try.func25, Try.ntmps25
    go_wp2_with fail
    refine H1.out.mono ?_
    rintro e _ ⟨rfl, rfl⟩
    go_wp2_with fail
    go_ret
    exact ⟨rfl, rfl⟩
set_option maxRecDepth 100000 in
set_option maxHeartbeats 400000 in
theorem lacks18_nil (i : Int) (w : World) : Calls Try.prog 25 #[.pointer none, .int .i64 i] w fun e w' => e = .returned (.int .i64 1) ∧ w = w' := by
  go_enter Try.func25, Try.ntmps25
  go_wp2_with fail
  go_ret
  exact ⟨rfl, rfl⟩

end Go.Proofs.Ythajmplheecepaa
