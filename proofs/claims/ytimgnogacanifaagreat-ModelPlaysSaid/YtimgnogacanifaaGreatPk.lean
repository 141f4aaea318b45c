/-
  The document's store in memory. Walks: its Has, used, Add, Remove. Conditions: the store lies in memory.
-/
import Derived.Test.YtimgnogacanifaaGreatPe
import Derived.RegionTactic
import Derived.Deep.MidRow
namespace Go.Proofs.YtimgnogacanifaaGreat
open Go.RowKit
set_option linter.unusedVariables false
set_option linter.unusedSimpArgs false

def dsB (C : Int → Bool) : List Value := (List.range 16).map (fun i : Nat => Value.bool (C (i : Int)))
def dsR (R : Int → Option RV) : List Value := (List.range 32).flatMap (fun i : Nat => ((R (i : Int)).getD z9).cs.toList)
/-- The document's store: block q: 16 bools, 32 rows of nine cells. -/
def DS (w : World) (q : Nat) (C : Int → Bool) (R : Int → Option RV) : Prop := Blk w q 59 (dsB C ++ dsR R).toArray
theorem dsB_len (C : Int → Bool) : (dsB C).length = 16 := by simp [dsB]
theorem dsR_len (R : Int → Option RV) : (dsR R).length = 288 := by
  unfold dsR
  have e : (List.range 32).flatMap (fun i : Nat => ((R (i : Int)).getD z9).cs.toList) = ((List.range 32).map (fun i : Nat => (R (i : Int)).getD z9)).flatMap (fun x => x.cs.toList) := by rw [List.flatMap_map]
  rw [e, flat_len rv_size, List.length_map, List.length_range]
theorem dsB_at (C : Int → Bool) {i : Nat} (h : i < 16) : (dsB C)[i]? = some (.bool (C (i : Int))) := by simp [dsB, h]
theorem dsR_at (R : Int → Option RV) {i j : Nat} (h : i < 32) (hj : j < 9) : (dsR R)[i * 9 + j]? = ((R (i : Int)).getD z9).cs[j]? := by
  unfold dsR
  have e : (List.range 32).flatMap (fun i : Nat => ((R (i : Int)).getD z9).cs.toList) = ((List.range 32).map (fun i : Nat => (R (i : Int)).getD z9)).flatMap (fun x => x.cs.toList) := by rw [List.flatMap_map]
  rw [e]
  exact flat_at rv_size _ i ((R (i : Int)).getD z9) (by simp [h]) j hj
section
variable {w w' : World} {q : Nat} {C : Int → Bool} {R : Int → Option RV}
theorem DS.chg {S : Nat → Prop} (h : DS w q C R) (hc : Chg S w w') (hn : ¬ S q) : DS w' q C R := Blk.chg h hc hn
theorem DS.keep (h : DS w q C R) (hc : Chg (fun _ => False) w w') : DS w' q C R := Blk.chg h hc id
theorem DS.cellC (h : DS w q C R) {i : Nat} (hi : i < 16) : w.cell? ⟨q, i, none⟩ = some (.bool (C (i : Int))) := by
  rw [Blk.cell h, List.getElem?_toArray, List.getElem?_append_left (by rw [dsB_len]; exact hi), dsB_at C hi]
theorem DS.cellR (h : DS w q C R) {i j : Nat} (hi : i < 32) (hj : j < 9) : w.cell? ⟨q, 16 + (i * 9 + j), none⟩ = ((R (i : Int)).getD z9).cs[j]? := by
  rw [Blk.cell h, List.getElem?_toArray, List.getElem?_append_right (by rw [dsB_len]; omega), dsB_len, ← dsR_at R hi hj]
  congr 1
  omega
/-- The nine cells of a row. -/
theorem DS.row (h : DS w q C R) {i : Nat} (hi : i < 32) : w.cell? ⟨q, 16 + i * 9, none⟩ = some (.int .i64 ((R (i : Int)).getD z9).po) ∧ w.cell? ⟨q, 16 + i * 9 + 1, none⟩ = some (.int .u64 ((R (i : Int)).getD z9).ma) ∧ w.cell? ⟨q, 16 + i * 9 + 2, none⟩ = some (.int .i64 ((R (i : Int)).getD z9).ow) ∧ w.cell? ⟨q, 16 + i * 9 + 3, none⟩ = some (.int .i64 ((R (i : Int)).getD z9).ta) ∧ w.cell? ⟨q, 16 + i * 9 + 4, none⟩ = some (.int .i64 ((R (i : Int)).getD z9).ol) ∧ w.cell? ⟨q, 16 + i * 9 + 5, none⟩ = some (.int .i64 ((R (i : Int)).getD z9).ge) ∧ w.cell? ⟨q, 16 + i * 9 + 6, none⟩ = some (.int .i64 ((R (i : Int)).getD z9).ph) ∧ w.cell? ⟨q, 16 + i * 9 + 7, none⟩ = some (.int .i64 ((R (i : Int)).getD z9).ve) ∧ w.cell? ⟨q, 16 + i * 9 + 8, none⟩ = some (.int .i64 ((R (i : Int)).getD z9).si) := by
  have g0 := h.cellR hi (j := 0) (by decide)
  have g1 := h.cellR hi (j := 1) (by decide)
  have g2 := h.cellR hi (j := 2) (by decide)
  have g3 := h.cellR hi (j := 3) (by decide)
  have g4 := h.cellR hi (j := 4) (by decide)
  have g5 := h.cellR hi (j := 5) (by decide)
  have g6 := h.cellR hi (j := 6) (by decide)
  have g7 := h.cellR hi (j := 7) (by decide)
  have g8 := h.cellR hi (j := 8) (by decide)
  simp only [← Nat.add_assoc, Nat.add_zero] at g0 g1 g2 g3 g4 g5 g6 g7 g8
  exact ⟨g0, g1, g2, g3, g4, g5, g6, g7, g8⟩
theorem DS.new (w : World) : DS (w.alloc (.cells (dsB (fun _ => false) ++ dsR (fun _ => none)).toArray 59)) w.heap.size (fun _ => false) (fun _ => none) := Blk.new w _ _
end
theorem dsB_set (C : Int → Bool) (z : Int) (i : Nat) (hz : z = (i : Int)) (hi : i < 16) (b : Bool) (C' : Int → Bool) (hC : ∀ y, C' y = if y = z then b else C y) : (dsB C).set i (.bool b) = dsB C' := by
  apply List.ext_getElem?
  intro k
  rw [List.getElem?_set]
  by_cases hk : k < 16
  · rw [dsB_at C' hk, hC]
    by_cases e : i = k
    · subst e
      rw [if_pos rfl, if_pos (by rw [dsB_len]; exact hi), if_pos hz.symm]
    · rw [if_neg e, dsB_at C hk, if_neg (by omega)]
  · have h1 : ¬ i = k := by omega
    rw [if_neg h1, List.getElem?_eq_none (by rw [dsB_len]; omega), List.getElem?_eq_none (by rw [dsB_len]; omega)]
theorem DS.setC {w : World} {q : Nat} {C C' : Int → Bool} {R : Int → Option RV} (h : DS w q C R) (z : Int) (i : Nat) (hz : z = (i : Int)) (hi : i < 16) (b : Bool) (hC : ∀ y, C' y = if y = z then b else C y) : DS (w.setCell ⟨q, i, none⟩ (.bool b)) q C' R := by
  have := Blk.set h i (.bool b)
  unfold DS
  rw [List.setIfInBounds_toArray, List.set_append_left _ _ (by rw [dsB_len]; exact hi), dsB_set C z i hz hi b C' hC] at this
  exact this
set_option maxRecDepth 20000 in
set_option maxRecDepth 100000 in
set_option maxHeartbeats 1000000 in
theorem dshas_any {w : World} {q : Nat} {C : Int → Bool} {R : Int → Option RV} (h : DS w q C R) (hw : WF C R) (z : Int) : Calls Tryz.prog 86 #[.pointer (some ⟨q, 0, none⟩), .int .i64 z] w fun e w' => e = .returned (.bool (C z)) ∧ w = w' := by
  by_cases hb : 0 ≤ z ∧ z ≤ 15
  case pos =>
    obtain ⟨i, rfl⟩ := Int.eq_ofNat_of_zero_le hb.1
    have hi : i < 16 := by omega
    have c := h.cellC hi
    clear h hw hb
    generalize C (i : Int) = b at *
    go_enter Tryz.func86, Tryz.ntmps86
    go_wp2_with fail
    go_ret
    exact ⟨rfl, rfl⟩
  case neg =>
    have hc : C z = false := by
      cases hz : C z with
      | false => rfl
      | true => exact absurd (hw.ch z hz) hb
    rw [hc]
    clear h hw hc
    by_cases h0 : 0 ≤ z
    · have h1 : ¬ z < 16 := by omega
      clear hb
      go_enter Tryz.func86, Tryz.ntmps86
      go_wp2_with fail
      go_ret
      exact ⟨rfl, rfl⟩
    · clear hb
      go_enter Tryz.func86, Tryz.ntmps86
      go_wp2_with fail
      go_ret
      exact ⟨rfl, rfl⟩

set_option maxRecDepth 20000 in
set_option maxRecDepth 100000 in
set_option maxHeartbeats 2000000 in
theorem dsused_any (po ma ow ta ol ge ph ve si c : Int) (w : World) : Calls Tryz.prog 87 #[.agg #[.int .i64 po, .int .u64 ma, .int .i64 ow, .int .i64 ta, .int .i64 ol, .int .i64 ge, .int .i64 ph, .int .i64 ve, .int .i64 si], .int .i64 c] w fun e w' => e = .returned (.bool (decide (0 < ve) && namesP c ⟨po, ma, ow, ta, ol, ge, ph, ve, si⟩)) ∧ Chg (fun _ => False) w w' := by
  have HQ0 : Blk (w.alloc (.cells #[.int .i64 po, .int .u64 ma, .int .i64 ow, .int .i64 ta, .int .i64 ol, .int .i64 ge, .int .i64 ph, .int .i64 ve, .int .i64 si] 40)) w.heap.size 40 (rvC po ma ow ta ol ge ph ve si) := blk_new rfl
  replace HQ0 := Lib.hid HQ0
  have HX0 := Lib.hid ((Chg.refl (fun _ => False) w).alloc (.cells #[.int .i64 po, .int .u64 ma, .int .i64 ow, .int .i64 ta, .int .i64 ol, .int .i64 ge, .int .i64 ph, .int .i64 ve, .int .i64 si] 40))
  have hnm : namesP c ⟨po, ma, ow, ta, ol, ge, ph, ve, si⟩ = (ow == c || (ta == c || ol == c)) := by
    rw [Bool.eq_iff_iff, names_iff]
    simp
  rw [hnm]
  clear hnm
  go_enter Tryz.func87, Tryz.ntmps87
  go_upto_region 1 with fail
  generalize (w.alloc (.cells #[.int .i64 po, .int .u64 ma, .int .i64 ow, .int .i64 ta, .int .i64 ol, .int .i64 ge, .int .i64 ph, .int .i64 ve, .int .i64 si] 40)) = w1 at *
  obtain ⟨y0, y1, y2, y3, y4, y5, y6, y7, y8⟩ := rv_cells HQ0.out
  by_cases hv : 0 < ve
  · by_cases h1 : ow = c
    · subst h1
      go_wp2_with fail
      go_ret
      exact ⟨ret_b (by simp [hv]), HX0.out⟩
    · have t1 : (ow == c) = false := by simpa using h1
      by_cases h2 : ta = c
      · subst h2
        go_wp2_with fail
        go_ret
        exact ⟨ret_b (by simp [hv]), HX0.out⟩
      · have t2 : (ta == c) = false := by simpa using h2
        by_cases h3 : ol = c
        · subst h3
          clear h1 h2
          go_wp2_with fail
          go_ret
          exact ⟨ret_b (by simp [hv]), HX0.out⟩
        · have t3 : (ol == c) = false := by simpa using h3
          clear h1 h2 h3
          go_wp2_with fail
          go_ret
          exact ⟨ret_b (by simp [hv, t1, t2, t3]), HX0.out⟩
  · go_wp2_with fail
    go_ret
    exact ⟨ret_b (by have hv2 : ¬ 0 < ve := (by omega); rw [decide_eq_false hv2]; rfl), HX0.out⟩

set_option maxRecDepth 20000 in
set_option maxRecDepth 100000 in
set_option maxHeartbeats 2000000 in
theorem dsadd_any {w : World} {q : Nat} {C : Int → Bool} {R : Int → Option RV} (h : DS w q C R) (hw : WF C R) (z : Int) : Calls Tryz.prog 58 #[.pointer (some ⟨q, 0, none⟩), .int .i64 z] w fun e w' => e = .returned (.int .i64 (addP C z)) ∧ DS w' q (addK C z) R ∧ Chg (fun k => k = q) w w' := by
  have HH := Lib.hid h
  by_cases hb : 0 ≤ z ∧ z ≤ 15
  case neg =>
    have HV : addP C z = 1 := by
      unfold addP
      rw [if_pos (by simp only [Bool.or_eq_true, decide_eq_true_eq]; omega)]
    rw [show addK C z = C from by unfold addK; rw [HV]; rfl, HV]
    clear h HV hw
    by_cases h0 : z < 0
    · go_enter Tryz.func58, Tryz.ntmps58
      go_wp2_with fail
      go_ret
      exact ⟨rfl, HH.out, Chg.refl _ _⟩
    · have h1 : 15 < z := by omega
      clear hb
      go_enter Tryz.func58, Tryz.ntmps58
      go_wp2_with fail
      go_ret
      exact ⟨rfl, HH.out, Chg.refl _ _⟩
  case pos =>
    obtain ⟨i, rfl⟩ := Int.eq_ofNat_of_zero_le hb.1
    have hi : i < 16 := by omega
    have hg : (decide (((i : Nat) : Int) < 0) || decide (15 < ((i : Nat) : Int))) = false := by simp only [Bool.or_eq_false_iff, decide_eq_false_iff_not]; omega
    have c := h.cellC hi
    cases hC : C (i : Int) with
    | true =>
      have HV : addP C (i : Int) = 5 := by unfold addP; rw [if_neg (by rw [hg]; decide), if_pos hC]
      rw [show addK C (i : Int) = C from by unfold addK; rw [HV]; rfl, HV]
      rw [hC] at c
      clear h HV hg hC hw hb
      go_enter Tryz.func58, Tryz.ntmps58
      go_wp2_with fail
      go_ret
      exact ⟨rfl, HH.out, Chg.refl _ _⟩
    | false =>
      have HV : addP C (i : Int) = 0 := by unfold addP; rw [if_neg (by rw [hg]; decide), if_neg (by rw [hC]; decide)]
      rw [show addK C (i : Int) = addC C (i : Int) from by unfold addK; rw [if_pos HV], HV]
      rw [hC] at c
      have fz := Blk.frozen h i
      have HD := Lib.hid (h.setC (i : Int) i rfl hi true (C' := addC C (i : Int)) (fun y => rfl))
      have HC := Lib.hid ((Chg.refl (fun k => k = q) w).put q i (fun _ => rfl) (.bool true))
      clear h HV hg hC hw hb
      go_enter Tryz.func58, Tryz.ntmps58
      go_wp2_with fail
      go_ret
      exact ⟨rfl, HD.out, HC.out⟩

theorem ret_i11b {a b : Int} (h : a = b) : Ending.returned (.int .i64 a) = .returned (.int .i64 b) := by rw [h]
theorem uses_k {R : Int → Option RV} {C : Int → Bool} (hw : WF C R) (c : Int) : usesP R c = true ↔ ∃ i : Nat, i < 32 ∧ (decide (0 < ((R (i : Int)).getD z9).ve) && namesP c ((R (i : Int)).getD z9)) = true := by
  unfold usesP
  rw [List.any_eq_true]
  constructor
  · rintro ⟨x, hx, hn⟩
    obtain ⟨z, hz⟩ := hw.mem.1 hx
    have hb := hw.bounds hz
    have hv := hw.ver hz
    refine ⟨z.toNat, by omega, ?_⟩
    rw [show ((z.toNat : Nat) : Int) = z by omega, hz]
    simp only [Option.getD_some, Bool.and_eq_true, decide_eq_true_eq]
    exact ⟨by omega, hn⟩
  · rintro ⟨i, hi, h⟩
    cases hz : R (i : Int) with
    | none => rw [hz] at h; simp [z9] at h
    | some x =>
      rw [hz] at h
      simp only [Option.getD_some, Bool.and_eq_true, decide_eq_true_eq] at h
      exact ⟨x, hw.mem.2 ⟨_, hz⟩, h.2⟩
set_option maxRecDepth 20000 in
set_option maxRecDepth 100000 in
set_option maxHeartbeats 4000000 in
theorem dsrem_any {w : World} {q : Nat} {C : Int → Bool} {R : Int → Option RV} (h : DS w q C R) (hw : WF C R) (z : Int) : Calls Tryz.prog 59 #[.pointer (some ⟨q, 0, none⟩), .int .i64 z] w fun e w' => e = .returned (.int .i64 (remP C R z)) ∧ DS w' q (remK C R z) R ∧ Chg (fun k => k = q) w w' := by
  have HH := Lib.hid h
  have HHS := Lib.hid (dshas_any h hw z)
  have HW := Lib.hid hw
  cases hC : C z with
  | false =>
    have HV : remP C R z = 4 := by unfold remP; rw [if_pos hC]
    rw [show remK C R z = C from by unfold remK; rw [HV]; rfl, HV]
    rw [hC] at HHS
    clear h HV hC hw
    go_enter Tryz.func59, Tryz.ntmps59
    go_wp2_with fail
    refine HHS.out.mono ?_
    rintro e w1 ⟨rfl, rfl⟩
    go_wp2_with fail
    go_ret
    exact ⟨rfl, HH.out, Chg.refl _ _⟩
  | true =>
    rw [hC] at HHS
    have hb := hw.ch z hC
    obtain ⟨k, rfl⟩ := Int.eq_ofNat_of_zero_le hb.1
    have hk : k < 16 := by omega
    have HVV : Hid (usesP R (k : Int) = true → remP C R (k : Int) = 11) := Lib.hid (fun hu => by unfold remP; rw [if_neg (by rw [hC]; decide), if_pos hu])
    have HVN : Hid (usesP R (k : Int) = false → remP C R (k : Int) = 0) := Lib.hid (fun hu => by unfold remP; rw [if_neg (by rw [hC]; decide), if_neg (by rw [hu]; decide)])
    clear h hC hw hb
    go_enter Tryz.func59, Tryz.ntmps59
    go_wp2_with fail
    refine HHS.out.mono ?_
    rintro e w1 ⟨rfl, rfl⟩
    go_wp2_with fail
    go_loopg [6, 7] 32 (fun g i s7 wr => ∃ (j : Nat), g = 32 - j ∧ j ≤ 32 ∧ i = .int .i64 (j : Int) ∧ Hid (∀ i : Nat, i < j → (decide (0 < ((R (i : Int)).getD z9).ve) && namesP (k : Int) ((R (i : Int)).getD z9)) = false) ∧ Hid (Chg (fun _ => False) w wr))
    case atStart => exact ⟨0, rfl, by omega, rfl, Lib.hid (fun i hi => absurd hi (by omega)), Lib.hid (Chg.refl _ _)⟩
    case round =>
      obtain ⟨j, rfl, hj, rfl, HA, HX0⟩ := hrel
      by_cases hlt : j < 32
      · have hd := (HH.out.keep HX0.out).row hlt
        obtain ⟨y, hy⟩ : ∃ y, (R (j : Int)).getD z9 = y := ⟨_, rfl⟩
        rw [hy] at hd
        obtain ⟨po, ma, ow, ta, ol, ge, ph, ve, si, rfl⟩ := rv_letters y
        obtain ⟨y0, y1, y2, y3, y4, y5, y6, y7, y8⟩ := hd
        have hu := fun W => dsused_any po ma ow ta ol ge ph ve si (k : Int) W
        obtain ⟨b, hb⟩ : ∃ b, (decide (0 < ve) && namesP (k : Int) ⟨po, ma, ow, ta, ol, ge, ph, ve, si⟩) = b := ⟨_, rfl⟩
        rw [hb] at hu
        have HU := Lib.hid hu
        have HB : Hid ((decide (0 < ((R (j : Int)).getD z9).ve) && namesP (k : Int) ((R (j : Int)).getD z9)) = b) := Lib.hid (by rw [hy]; exact hb)
        clear hu hb hy
        go_wp2_with fail
        refine (HU.out _).mono ?_
        rintro e w2 ⟨rfl, hc⟩
        replace HX0 := Lib.hid (HX0.out.trans hc (fun _ _ e => e))
        clear hc y0 y1 y2 y3 y4 y5 y6 y7 y8
        cases b with
        | true =>
          have HV := Lib.hid (HVV.out ((uses_k HW.out _).2 ⟨j, hlt, HB.out⟩))
          go_wp2_with fail
          go_ret
          exact ⟨ret_i11b HV.out.symm, by unfold remK; rw [HV.out, if_neg (by decide)]; exact HH.out.keep HX0.out, HX0.out.mono (fun _ _ e => e.elim)⟩
        | false =>
          go_wp2_with fail
          go_roundg (32 - (j + 1))
          case measure => omega
          case rel =>
            refine ⟨j + 1, rfl, by omega, by go_num, Lib.hid (fun i hi => ?_), HX0⟩
            by_cases e : i < j
            · exact HA.out i e
            · have : i = j := by omega
              subst this
              exact HB.out
      · have : j = 32 := by omega
        subst this
        have hnu : usesP R (k : Int) = false := by
          rw [Bool.eq_false_iff]
          intro hu
          obtain ⟨i, hi, h1⟩ := (uses_k HW.out _).1 hu
          rw [HA.out i hi] at h1
          cases h1
        have HV := Lib.hid (HVN.out hnu)
        have h := HH.out.keep HX0.out
        have fz := Blk.frozen h k
        have cz := h.cellC hk
        have HD := Lib.hid (h.setC (k : Int) k rfl hk false (C' := remC C (k : Int)) (fun y => rfl))
        have HC := Lib.hid ((HX0.out.mono (S' := fun k => k = q) (fun _ _ e => e.elim)).trans ((Chg.refl (fun k => k = q) wr).put q k (fun _ => rfl) (.bool false)) (fun _ _ e => e))
        clear h hnu
        go_wp2_with fail
        go_ret
        exact ⟨ret_i11b HV.out.symm, by unfold remK; rw [HV.out, if_pos rfl]; exact HD.out, HC.out⟩


end Go.Proofs.YtimgnogacanifaaGreat
