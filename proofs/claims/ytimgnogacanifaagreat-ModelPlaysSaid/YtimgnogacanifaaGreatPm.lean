/-
  Walks: the document's Rows, Chassis. Conditions: the store lies in memory.
-/
import Derived.Test.YtimgnogacanifaaGreatPl
import Derived.Test.YtimgnogacanifaaGreatPg
import Derived.Deep.RegionHeld3
namespace Go.Proofs.YtimgnogacanifaaGreat
open Go.RowKit
set_option linter.unusedVariables false
set_option linter.unusedSimpArgs false

set_option maxRecDepth 20000 in
set_option maxRecDepth 100000 in
set_option maxHeartbeats 8000000 in
theorem dsrows_any {w : World} {q : Nat} {C : Int → Bool} {R : Int → Option RV} (h : DS w q C R) (hw : WF C R) : Calls Tryz.prog 26 #[.pointer (some ⟨q, 0, none⟩)] w (NewS 40 9 RV.cs (rowsP R) w) := by
  have HD := Lib.hid h
  have HW := Lib.hid hw
  clear h hw
  obtain ⟨i0, hi, hz0, hz1, hz2⟩ := info_parts infoRow10
  have HI := Lib.hid (And.intro hi (And.intro hz0 (And.intro hz1 hz2)))
  clear hi hz0 hz1 hz2
  go_enter Tryz.func26, Tryz.ntmps26
  go_wp2_with fail
  go_loopg [3, 4] 32 (fun g s3 i wr => ∃ (j n c : Nat) (A : Option Addr), g = 32 - j ∧ j ≤ 32 ∧ i = .int .i64 (j : Int) ∧ s3 = .slice A n c ∧ Hid (n = (rowsK R j).length) ∧ Hid (wr.ownsRow w.heap.size 40 9 (.slice A n c) n ((rowsK R j).flatMap fun x => x.cs.toList)) ∧ Hid (Chg (fun _ => False) w wr))
  case atStart => exact ⟨0, 0, 0, none, rfl, by omega, rfl, rfl, Lib.hid rfl, Lib.hid own_nilv, Lib.hid (Chg.refl _ _)⟩
  case round =>
    obtain ⟨j, n, c, A, rfl, hj, rfl, rfl, HN, HO, HX0⟩ := hrel
    have hkl := rowsK_len R j
    have hn32 : n ≤ 32 := by have := HN.out; omega
    clear hkl
    by_cases hlt : j < 32
    · have hd := (HD.out.keep HX0.out).row hlt
      have hk := rowsK_succ R j
      rcases HW.out.cell (j : Int) with ⟨h1, h2⟩ | ⟨x, h1, h2, h3⟩
      · rw [h2] at hd
        obtain ⟨-, -, -, -, -, -, -, y7, -⟩ := hd
        simp only [z9] at y7
        rw [h1] at hk
        simp only [Option.toList_none, List.append_nil] at hk
        have HK := Lib.hid hk
        clear hk h1 h2
        go_wp2_with fail
        go_roundg (32 - (j + 1))
        case measure => omega
        case rel => exact ⟨j + 1, n, c, A, rfl, by omega, by go_num, rfl, Lib.hid (by rw [HK.out]; exact HN.out), Lib.hid (by rw [HK.out]; exact HO.out), HX0⟩
      · obtain ⟨po, ma, ow, ta, ol, ge, ph, ve, si, rfl⟩ := rv_letters x
        rw [h2] at hd
        obtain ⟨y0, y1, y2, y3, y4, y5, y6, y7, y8⟩ := hd
        have hv : 0 < ve := by change 1 ≤ ve at h3; omega
        rw [h1] at hk
        simp only [Option.toList_some] at hk
        have HK := Lib.hid hk
        clear hk h1 h2 h3
        have hown := own_chg HO.out ((Chg.refl (fun _ => False) wr).alloc (.cells #[.int .i64 po, .int .u64 ma, .int .i64 ow, .int .i64 ta, .int .i64 ol, .int .i64 ge, .int .i64 ph, .int .i64 ve, .int .i64 si] 40)) (fun _ _ => id)
        have hsz : w.heap.size ≤ (wr.alloc (.cells #[.int .i64 po, .int .u64 ma, .int .i64 ow, .int .i64 ta, .int .i64 ol, .int .i64 ge, .int .i64 ph, .int .i64 ve, .int .i64 si] 40)).heap.size := by have := HX0.out.size; simp; omega
        have hxa := HX0.out.alloc (.cells #[.int .i64 po, .int .u64 ma, .int .i64 ow, .int .i64 ta, .int .i64 ol, .int .i64 ge, .int .i64 ph, .int .i64 ve, .int .i64 si] 40)
        obtain ⟨hi, hz0, hz1, hz2⟩ := HI.out
        go_wp2_with (at_builtin; refine wpList_own_appendN _ rfl (.tmp 17) (.tmp 24) 71 rfl w.heap.size 40 i0 _ 9 72 Tryz.underlying71 hi hz0 hz1 hz2 rfl (by decide) (.slice A n c) n _ rfl hown ⟨wr.heap.size, 0, none⟩ 1 1 [.int .i64 po, .int .u64 ma, .int .i64 ow, .int .i64 ta, .int .i64 ol, .int .i64 ge, .int .i64 ph, .int .i64 ve, .int .i64 si] rfl rfl (new_cells rfl) (by simp [Value.oneCell']) (by unfold maxLen; omega) (by omega) hsz ?_; intro v3 w3 hown3 hg3 hat3; obtain ⟨A3, c3, rfl, _, _⟩ := own_form hown3; have HX3 := Lib.hid (grown_keep (S := fun _ => False) hxa hg3 hown (Nat.le_refl _)); have HO3 := Lib.hid hown3; clear hown3 hg3 hat3 hown hxa)
        go_roundg (32 - (j + 1))
        case measure => omega
        case rel =>
          refine ⟨j + 1, n + 1, c3, A3, rfl, by omega, by go_num, rfl, Lib.hid ?_, Lib.hid ?_, HX3⟩
          · rw [HK.out, List.length_append, HN.out]; rfl
          · rw [HK.out, List.flatMap_append]; exact HO3.out
    · have : j = 32 := by omega
      subst this
      go_wp2_with fail
      go_ret
      exact ⟨A, n, c, rfl, HN.out, HO.out, HX0.out⟩

def chasK (C : Int → Bool) (k : Nat) : List Int := ((List.range k).map Int.ofNat).filter C
theorem chasK_succ (C : Int → Bool) (k : Nat) : chasK C (k + 1) = chasK C k ++ (if C (k : Int) = true then [(k : Int)] else []) := by
  unfold chasK
  rw [List.range_succ, List.map_append, List.filter_append]
  congr 1
  cases h : C (k : Int) <;> simp [h]
theorem chasK_len (C : Int → Bool) (k : Nat) : (chasK C k).length ≤ k := by
  have := List.length_filter_le C ((List.range k).map Int.ofNat)
  rw [List.length_map, List.length_range] at this
  exact this
theorem chasK_more {C : Int → Bool} {R : Int → Option RV} (hw : WF C R) : ∀ k : Nat, chasK C (16 + k) = chasK C 16
  | 0 => rfl
  | k + 1 => by
    rw [← Nat.add_assoc, chasK_succ, chasK_more hw k]
    have : ¬ C ((16 + k : Nat) : Int) = true := fun h => by have := hw.ch _ h; omega
    rw [if_neg this, List.append_nil]
theorem chasK_all {C : Int → Bool} {R : Int → Option RV} (hw : WF C R) : chasP C = chasK C 16 := chasK_more hw 16
theorem infoInt10 : (Tryz.prog.info? 3).map (fun i => (i.zero, i.size, i.bytes)) = some (some (.int .i64 0), 1, 8) := by kernel_rfl
theorem ics_flat (l : List Int) (x : Int) : ics l ++ [.int .i64 x] = ics (l ++ [x]) := by simp [ics]
set_option maxRecDepth 20000 in
set_option maxRecDepth 100000 in
set_option maxHeartbeats 8000000 in
theorem dschas_any {w : World} {q : Nat} {C : Int → Bool} {R : Int → Option RV} (h : DS w q C R) (hw : WF C R) : Calls Tryz.prog 27 #[.pointer (some ⟨q, 0, none⟩)] w (NumP (chasP C) w) := by
  have HD := Lib.hid h
  have HCA := Lib.hid (chasK_all hw)
  clear h hw
  obtain ⟨i0, hi, hz0, hz1, hz2⟩ := info_parts infoInt10
  have HI := Lib.hid (And.intro hi (And.intro hz0 (And.intro hz1 hz2)))
  clear hi hz0 hz1 hz2
  go_enter Tryz.func27, Tryz.ntmps27
  go_wp2_with fail
  go_loopg [3, 4] 16 (fun g s3 i wr => ∃ (j n c : Nat) (A : Option Addr), g = 16 - j ∧ j ≤ 16 ∧ i = .int .i64 (j : Int) ∧ s3 = .slice A n c ∧ Hid (n = (chasK C j).length) ∧ Hid (wr.ownsRow w.heap.size 3 1 (.slice A n c) n (ics (chasK C j))) ∧ Hid (Chg (fun _ => False) w wr))
  case atStart => exact ⟨0, 0, 0, none, rfl, by omega, rfl, rfl, Lib.hid rfl, Lib.hid own_nilv, Lib.hid (Chg.refl _ _)⟩
  case round =>
    obtain ⟨j, n, c, A, rfl, hj, rfl, rfl, HN, HO, HX0⟩ := hrel
    have hkl := chasK_len C j
    have hn32 : n ≤ 32 := by have := HN.out; omega
    clear hkl
    by_cases hlt : j < 16
    · have y0 := (HD.out.keep HX0.out).cellC hlt
      have hk := chasK_succ C j
      cases hC : C (j : Int) with
      | false =>
        rw [hC] at y0 hk
        rw [if_neg (by decide), List.append_nil] at hk
        have HK := Lib.hid hk
        clear hk hC
        go_wp2_with fail
        go_roundg (16 - (j + 1))
        case measure => omega
        case rel => exact ⟨j + 1, n, c, A, rfl, by omega, by go_num, rfl, Lib.hid (by rw [HK.out]; exact HN.out), Lib.hid (by rw [HK.out]; exact HO.out), HX0⟩
      | true =>
        rw [hC] at y0 hk
        rw [if_pos rfl] at hk
        have HK := Lib.hid hk
        clear hk hC
        have hown := own_chg HO.out ((Chg.refl (fun _ => False) wr).alloc (.cells #[.int .i64 (j : Int)] 3)) (fun _ _ => id)
        have hsz : w.heap.size ≤ (wr.alloc (.cells #[.int .i64 (j : Int)] 3)).heap.size := by have := HX0.out.size; simp; omega
        have hxa := HX0.out.alloc (.cells #[.int .i64 (j : Int)] 3)
        obtain ⟨hi, hz0, hz1, hz2⟩ := HI.out
        go_wp2_with (at_builtin; refine wpList_own_appendN _ rfl (.tmp 15) (.tmp 17) 49 rfl w.heap.size 3 i0 _ 1 8 Tryz.underlying49 hi hz0 hz1 hz2 rfl (by decide) (.slice A n c) n _ rfl hown ⟨wr.heap.size, 0, none⟩ 1 1 [.int .i64 (j : Int)] rfl rfl (new_cells rfl) (by simp [Value.oneCell']) (by unfold maxLen; omega) (by omega) hsz ?_; intro v3 w3 hown3 hg3 hat3; obtain ⟨A3, c3, rfl, _, _⟩ := own_form hown3; have HX3 := Lib.hid (grown_keep (S := fun _ => False) hxa hg3 hown (Nat.le_refl _)); have HO3 := Lib.hid hown3; clear hown3 hg3 hat3 hown hxa)
        go_roundg (16 - (j + 1))
        case measure => omega
        case rel =>
          refine ⟨j + 1, n + 1, c3, A3, rfl, by omega, by go_num, rfl, Lib.hid ?_, Lib.hid ?_, HX3⟩
          · rw [HK.out, List.length_append, HN.out]; rfl
          · rw [HK.out, ← ics_flat]; exact HO3.out
    · have : j = 16 := by omega
      subst this
      go_wp2_with fail
      go_ret
      exact ⟨A, n, c, rfl, by rw [HCA.out]; exact HN.out, by rw [HCA.out]; exact (own_rds2 HO.out).mono (fun k hk => hk.1), HX0.out⟩


end Go.Proofs.YtimgnogacanifaaGreat
