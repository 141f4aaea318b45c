/-
  Walks: rutterlaw10.sound, StoreWhole. Conditions: the store, and the acts, lie in memory.
-/
import Derived.Test.YtbajcdmcjmkieaaPu
import Derived.Test.YtbajcdmcjmkieaaPt
namespace Go.Proofs.Ytbajcdmcjmkieaa
open Go.RowKit
set_option linter.unusedVariables false
set_option linter.unusedSimpArgs false

theorem lack_three {C : Int → Bool} {R : Int → Option RV} (h : WF C R) {x : RV} (hx : lackP C x = false) : (x.ow = -1 ∨ (C x.ow = true ∧ 0 ≤ x.ow)) ∧ (x.ta = -1 ∨ (C x.ta = true ∧ 0 ≤ x.ta)) ∧ (x.ol = -1 ∨ (C x.ol = true ∧ 0 ≤ x.ol)) := by
  obtain ⟨h1, h2, h3⟩ := lack_iff.1 hx
  have hm : ∀ n, gapP C n = false → (n = -1 ∨ (C n = true ∧ 0 ≤ n)) := by
    intro n hn
    rcases gap_of.1 hn with hn | hn
    · exact .inl hn
    · exact .inr ⟨hn, (h.ch n hn).1⟩
  exact ⟨hm _ h1, hm _ h2, hm _ h3⟩
theorem WF.rows_at {C : Int → Bool} {R : Int → Option RV} (h : WF C R) {j : Nat} {x : RV} (hx : (rowsP R)[j]? = some x) : R x.po = some x ∧ lackP C x = false ∧ (1 ≤ x.ve ∧ x.ve ≤ 1099511627776) := by
  obtain ⟨z, hz⟩ := h.mem.1 (List.mem_of_getElem? hx)
  obtain ⟨h1, h2, h3⟩ := h.row z x hz
  rw [← h2] at hz
  exact ⟨hz, h3, h.ver hz⟩
theorem WF.pair_at {C : Int → Bool} {R : Int → Option RV} (h : WF C R) {i j : Nat} {x y : RV} (hij : i < j) (hx : (rowsP R)[j]? = some x) (hy : (rowsP R)[i]? = some y) : y.po < x.po ∧ (x.ph = 3 ∨ (x.ph ≠ 3 ∧ y.ph = 3) ∨ (x.ph ≠ 3 ∧ y.ph ≠ 3 ∧ x.ma ≠ y.ma)) := by
  obtain ⟨hl, rfl⟩ := List.getElem?_eq_some_iff.1 hx
  obtain ⟨hl2, rfl⟩ := List.getElem?_eq_some_iff.1 hy
  obtain ⟨h1, h2⟩ := List.pairwise_iff_getElem.1 h.pair i j hl2 hl hij
  refine ⟨h1, ?_⟩
  by_cases e1 : (rowsP R)[j].ph = 3
  · exact .inl e1
  · by_cases e2 : (rowsP R)[i].ph = 3
    · exact .inr (.inl ⟨e1, e2⟩)
    · exact .inr (.inr ⟨e1, e2, fun e3 => h2 ⟨e2, e1, e3.symm⟩⟩)
/-- What an act leaves, plain: v = 0, or nothing has turned; no version falls. -/
def Law10 (v : Int) (C C2 : Int → Bool) (R R2 : Int → Option RV) : Prop := WF C2 R2 ∧ (v ≠ 0 → C2 = C ∧ R2 = R) ∧ ∀ z x, R z = some x → ∃ r, R2 z = some r ∧ x.ve ≤ r.ve
theorem law_add {C : Int → Bool} {R : Int → Option RV} (h : WF C R) (z : Int) : Law10 (addP C z) C (addK C z) R R := ⟨h.addK z, fun hv => ⟨by unfold addK; rw [if_neg hv], rfl⟩, fun y x hy => ⟨x, hy, Int.le_refl _⟩⟩
theorem law_rem {C : Int → Bool} {R : Int → Option RV} (h : WF C R) (z : Int) : Law10 (remP C R z) C (remK C R z) R R := ⟨h.remK z, fun hv => ⟨by unfold remK; rw [if_neg hv], rfl⟩, fun y x hy => ⟨x, hy, Int.le_refl _⟩⟩
theorem law_app {C : Int → Bool} {R : Int → Option RV} (h : WF C R) (l : List CV) : Law10 (appP C l R).1 C C R (appK C l R) := ⟨h.appK l, fun hv => ⟨rfl, by unfold appK; rw [if_neg hv]⟩, fun y x hy => by
  unfold appK
  split
  · exact app_ver l R y x hy
  · exact ⟨x, hy, Int.le_refl _⟩⟩
set_option maxRecDepth 20000 in
set_option maxHeartbeats 4000000 in
theorem sound10_any {B : Nat} {w : World} {p bc br : Nat} {C : Int → Bool} {R : Int → Option RV} (hs : CS B w p bc br C R) (hw : WF C R) : Calls Try.prog 21 #[.pointer (some ⟨p, 0, none⟩)] w fun e w' => e = .returned (.bool true) ∧ Chg (fun _ => False) w w' := by
  have HS := Lib.hid hs
  have HW := Lib.hid hw
  clear hs hw
  go_enter Try.func21, Try.ntmps21
  go_wp2_with fail
  refine (srows_any HS.out).mono ?_
  rintro e w2 ⟨A, m, c, rfl, hm, hown, hc⟩
  have HX0 := Lib.hid hc
  replace HS := Lib.hid (HS.out.keep hc)
  have HL := Lib.hid (own_sr rv_size hown hm)
  have hm32 : m ≤ 32 := by have := rows_len R; omega
  have HM := Lib.hid hm
  clear hown hc hm
  have HS2 := HS
  clear HS
  go_wp2_with fail
  go_loopg [4, 5, 6] m (fun g i s5 s6 wr => ∃ (j : Nat), g = m - j ∧ j ≤ m ∧ i = .int .i64 (j : Int) ∧ Hid (Chg (fun _ => False) w2 wr))
  case atStart => exact ⟨0, rfl, Nat.zero_le _, rfl, Lib.hid (Chg.refl _ _)⟩
  case round =>
    obtain ⟨j, rfl, hj, rfl, HX2⟩ := hrel
    by_cases hlt : j < m
    · have hh := HL.out.chg HX2.out (fun _ _ => id)
      obtain ⟨ad, rfl, -⟩ := hh.2 (by omega)
      have hjl : j < (rowsP R).length := by have := HM.out; omega
      have hx : (rowsP R)[j]? = some (rowsP R)[j] := List.getElem?_eq_getElem hjl
      generalize (rowsP R)[j] = x at *
      obtain ⟨po, ma, ow, ta, ol, ge, ph, ve, si, rfl⟩ := rv_letters x
      obtain ⟨z0, z1, z2, z3, z4, z5, z6, z7, z8⟩ := sr_at9 hh hx
      have HJ := Lib.hid hx
      clear hx hh hjl
      go_upto_region 6 with fail
      clear z0 z1 z2 z3 z4 z5 z6 z7 z8
      have HN : Blk (wr.alloc (.cells #[.int .i64 po, .int .u64 ma, .int .i64 ow, .int .i64 ta, .int .i64 ol, .int .i64 ge, .int .i64 ph, .int .i64 ve, .int .i64 si] 33)) wr.heap.size 33 (rvC po ma ow ta ol ge ph ve si) := blk_new rfl
      replace HN := Lib.hid HN
      replace HX2 := Lib.hid (HX2.out.alloc (.cells #[.int .i64 po, .int .u64 ma, .int .i64 ow, .int .i64 ta, .int .i64 ol, .int .i64 ge, .int .i64 ph, .int .i64 ve, .int .i64 si] 33))
      generalize (wr.alloc (.cells #[.int .i64 po, .int .u64 ma, .int .i64 ow, .int .i64 ta, .int .i64 ol, .int .i64 ge, .int .i64 ph, .int .i64 ve, .int .i64 si] 33)) = w3 at *
      generalize wr.heap.size = q at *
      have HS := Lib.hid (HS2.out.keep HX2.out)
      obtain ⟨y0, y1, y2, y3, y4, y5, y6, y7, y8⟩ := rv_cells HN.out
      have h3 := lack_three HW.out (HW.out.rows_at HJ.out).2.1
      obtain ⟨how, hta, hol⟩ := h3
      replace how : ow = -1 ∨ (C ow = true ∧ 0 ≤ ow) := how
      replace hta : ta = -1 ∨ (C ta = true ∧ 0 ≤ ta) := hta
      replace hol : ol = -1 ∨ (C ol = true ∧ 0 ≤ ol) := hol
      go_cut [52] (fun s52 wx => s52 = .bool false ∧ wx = w3)
      case first =>
        rcases how with how | ⟨how, gow⟩
        · replace how : ¬ 0 ≤ ow := by omega
          rcases hta with hta | ⟨hta, gta⟩
          · replace hta : ¬ 0 ≤ ta := by omega
            rcases hol with hol | ⟨hol, gol⟩
            · replace hol : ¬ 0 ≤ ol := by omega
              go_wp2_with fail
              go_meet
              exact ⟨rfl, rfl⟩
            · have hcol := shas_any HS.out ol
              rw [hol] at hcol
              clear hol
              go_wp2_with fail
              refine (hcol).mono ?_
              rintro e wz ⟨rfl, hwz⟩
              subst hwz
              go_wp2_with fail
              go_meet
              exact ⟨rfl, rfl⟩
          · have hcta := shas_any HS.out ta
            rw [hta] at hcta
            clear hta
            rcases hol with hol | ⟨hol, gol⟩
            · replace hol : ¬ 0 ≤ ol := by omega
              go_wp2_with fail
              refine (hcta).mono ?_
              rintro e wz ⟨rfl, hwz⟩
              subst hwz
              go_wp2_with fail
              go_meet
              exact ⟨rfl, rfl⟩
            · have hcol := shas_any HS.out ol
              rw [hol] at hcol
              clear hol
              go_wp2_with fail
              refine (hcta).mono ?_
              rintro e wz ⟨rfl, hwz⟩
              subst hwz
              go_wp2_with fail
              refine (hcol).mono ?_
              rintro e wz ⟨rfl, hwz⟩
              subst hwz
              go_wp2_with fail
              go_meet
              exact ⟨rfl, rfl⟩
        · have hcow := shas_any HS.out ow
          rw [how] at hcow
          clear how
          rcases hta with hta | ⟨hta, gta⟩
          · replace hta : ¬ 0 ≤ ta := by omega
            rcases hol with hol | ⟨hol, gol⟩
            · replace hol : ¬ 0 ≤ ol := by omega
              go_wp2_with fail
              refine (hcow).mono ?_
              rintro e wz ⟨rfl, hwz⟩
              subst hwz
              go_wp2_with fail
              go_meet
              exact ⟨rfl, rfl⟩
            · have hcol := shas_any HS.out ol
              rw [hol] at hcol
              clear hol
              go_wp2_with fail
              refine (hcow).mono ?_
              rintro e wz ⟨rfl, hwz⟩
              subst hwz
              go_wp2_with fail
              refine (hcol).mono ?_
              rintro e wz ⟨rfl, hwz⟩
              subst hwz
              go_wp2_with fail
              go_meet
              exact ⟨rfl, rfl⟩
          · have hcta := shas_any HS.out ta
            rw [hta] at hcta
            clear hta
            rcases hol with hol | ⟨hol, gol⟩
            · replace hol : ¬ 0 ≤ ol := by omega
              go_wp2_with fail
              refine (hcow).mono ?_
              rintro e wz ⟨rfl, hwz⟩
              subst hwz
              go_wp2_with fail
              refine (hcta).mono ?_
              rintro e wz ⟨rfl, hwz⟩
              subst hwz
              go_wp2_with fail
              go_meet
              exact ⟨rfl, rfl⟩
            · have hcol := shas_any HS.out ol
              rw [hol] at hcol
              clear hol
              go_wp2_with fail
              refine (hcow).mono ?_
              rintro e wz ⟨rfl, hwz⟩
              subst hwz
              go_wp2_with fail
              refine (hcta).mono ?_
              rintro e wz ⟨rfl, hwz⟩
              subst hwz
              go_wp2_with fail
              refine (hcol).mono ?_
              rintro e wz ⟨rfl, hwz⟩
              subst hwz
              go_wp2_with fail
              go_meet
              exact ⟨rfl, rfl⟩
      case rest =>
        obtain ⟨rfl, rfl⟩ := hcut
        clear how hta hol HS y0 y1 y2 y3 y4 y5 y6 y7 y8
        go_wp2_with fail
        go_loopg [6] j (fun g k wr2 => ∃ (i : Nat), g = j - i ∧ i ≤ j ∧ k = .int .i64 (i : Int) ∧ Hid (Chg (fun _ => False) wc wr2))
        case atStart => exact ⟨0, rfl, Nat.zero_le _, rfl, Lib.hid (Chg.refl _ _)⟩
        case round =>
          obtain ⟨i, rfl, hi, rfl, HX3⟩ := hrel
          by_cases hlt2 : i < j
          · have hh := HL.out.chg (HX2.out.trans HX3.out (fun _ _ e => e)).drew (fun _ _ => id)
            have hil : i < (rowsP R).length := by have := HM.out; omega
            have hy : (rowsP R)[i]? = some (rowsP R)[i] := List.getElem?_eq_getElem hil
            generalize (rowsP R)[i] = y at *
            have hpr := HW.out.pair_at hlt2 HJ.out hy
            obtain ⟨qo, qa, qw, qt, ql, qg, qp, qv, qs, rfl⟩ := rv_letters y
            obtain ⟨z0, z1, z2, z3, z4, z5, z6, z7, z8⟩ := sr_at9 hh hy
            have HN3 := Lib.hid (HN.out.chg HX3.out.drew id)
            obtain ⟨y0, y1, y2, y3, y4, y5, y6, y7, y8⟩ := rv_cells HN3.out
            obtain ⟨hpo, hway⟩ := hpr
            replace hpo : qo < po := hpo
            replace hway : ph = 3 ∨ (ph ≠ 3 ∧ qp = 3) ∨ (ph ≠ 3 ∧ qp ≠ 3 ∧ ma ≠ qa) := hway
            clear hy hh hil HN3
            rcases hway with h1 | ⟨h1, h2⟩ | ⟨h1, h2, h4⟩
            · have t1 : (ph == 3) = true := by simpa using h1
              have t2 : (ph != 3) = false := by simpa using h1
              clear h1
              go_wp2_with fail
              go_region
              clear z0 z1 z2 z3 z4 z5 z6 z7 z8 y0 y1 y2 y3 y4 y5 y6 y7 y8
              replace HX3 := Lib.hid HX3.out.drew
              generalize World.drew wr = w5 at *
              go_wp2_with fail
              go_roundg (j - (i + 1))
              case measure => omega
              case rel => exact ⟨i + 1, rfl, by omega, by go_num, HX3⟩
            · have t1 : (ph == 3) = false := by simpa using h1
              have t2 : (ph != 3) = true := by simpa using h1
              have t3 : (qp == 3) = true := by simpa using h2
              have t4 : (qp != 3) = false := by simpa using h2
              clear h1 h2
              go_wp2_with fail
              go_region
              clear z0 z1 z2 z3 z4 z5 z6 z7 z8 y0 y1 y2 y3 y4 y5 y6 y7 y8
              replace HX3 := Lib.hid HX3.out.drew
              generalize World.drew wr = w5 at *
              go_wp2_with fail
              go_roundg (j - (i + 1))
              case measure => omega
              case rel => exact ⟨i + 1, rfl, by omega, by go_num, HX3⟩
            · have t1 : (ph == 3) = false := by simpa using h1
              have t2 : (ph != 3) = true := by simpa using h1
              have t3 : (qp == 3) = false := by simpa using h2
              have t4 : (qp != 3) = true := by simpa using h2
              have t5 : (ma == qa) = false := by simpa using h4
              clear h1 h2 h4
              go_wp2_with fail
              go_region
              clear z0 z1 z2 z3 z4 z5 z6 z7 z8 y0 y1 y2 y3 y4 y5 y6 y7 y8
              replace HX3 := Lib.hid HX3.out.drew
              generalize World.drew wr = w5 at *
              go_wp2_with fail
              go_roundg (j - (i + 1))
              case measure => omega
              case rel => exact ⟨i + 1, rfl, by omega, by go_num, HX3⟩
          · have : i = j := by omega
            subst this
            go_wp2_with fail
            go_roundg (m - (i + 1))
            case measure => omega
            case rel => exact ⟨i + 1, rfl, by omega, by go_num, Lib.hid (HX2.out.trans HX3.out (fun _ _ e => e))⟩
    · have : j = m := by omega
      subst this
      go_wp2_with fail
      go_ret
      exact ⟨rfl, HX0.out.trans HX2.out (fun _ _ e => e)⟩


end Go.Proofs.Ytbajcdmcjmkieaa
