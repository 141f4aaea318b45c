/-
  Walks: the document's named, wrong. Conditions: the store lies in memory.
-/
import Derived.Test.YtimgnogacanifaaGreatPm
namespace Go.Proofs.YtimgnogacanifaaGreat
open Go.RowKit
set_option linter.unusedVariables false
set_option linter.unusedSimpArgs false

def namD (C : Int → Bool) (x : RV) : Bool := (decide (x.ow < 0) || C x.ow) && ((decide (x.ta < 0) || C x.ta) && (decide (x.ol < 0) || C x.ol))
theorem nam_one {C : Int → Bool} {n : Int} (h : n = -1 ∨ 0 ≤ n) : (decide (n < 0) || C n) = !gapP C n := by
  unfold gapP
  rcases h with rfl | h
  · simp
  · have h1 : ¬ n < 0 := by omega
    have h2 : (n != -1) = true := by rw [bne_iff_ne]; omega
    rw [decide_eq_false h1, h2]
    cases C n <;> rfl
theorem ok_who {x : RV} (h : x.ok = true) : (x.ow = -1 ∨ 0 ≤ x.ow) ∧ (x.ta = -1 ∨ 0 ≤ x.ta) ∧ (x.ol = -1 ∨ 0 ≤ x.ol) := by
  obtain ⟨po, ma, ow, ta, ol, ge, ph, ve, si⟩ := x
  have h1 : rwR po ma ow ta ol ge ph ve si = true := h
  simp only [rwR, Bool.and_eq_true] at h1
  have h2 := h1.2.2.2.2
  rw [held_who] at h2
  unfold whoB at h2
  simp only [wi_one] at h2
  change (ow = -1 ∨ 0 ≤ ow) ∧ (ta = -1 ∨ 0 ≤ ta) ∧ (ol = -1 ∨ 0 ≤ ol)
  repeat' split at h2
  all_goals simp only [Bool.and_eq_true, decide_eq_true_eq, beq_iff_eq, Bool.false_eq_true, bne_iff_ne, ne_eq] at h2
  all_goals omega
theorem nam_lack {C : Int → Bool} {x : RV} (h : x.ok = true) : namD C x = !lackP C x := by
  obtain ⟨h1, h2, h3⟩ := ok_who h
  unfold namD lackP
  rw [nam_one h1, nam_one h2, nam_one h3]
  simp [Bool.not_or, Bool.and_assoc]
set_option maxRecDepth 20000 in
set_option maxRecDepth 100000 in
set_option maxHeartbeats 4000000 in
theorem dsnamed_any {w : World} {q : Nat} {C : Int → Bool} {R : Int → Option RV} (h : DS w q C R) (hw : WF C R) (po ma ow ta ol ge ph ve si : Int) : Calls Tryz.prog 124 #[.pointer (some ⟨q, 0, none⟩), .agg #[.int .i64 po, .int .u64 ma, .int .i64 ow, .int .i64 ta, .int .i64 ol, .int .i64 ge, .int .i64 ph, .int .i64 ve, .int .i64 si]] w fun e w' => e = .returned (.bool (namD C ⟨po, ma, ow, ta, ol, ge, ph, ve, si⟩)) ∧ Chg (fun _ => False) w w' := by
  have HQ0 : Blk (w.alloc (.cells #[.int .i64 po, .int .u64 ma, .int .i64 ow, .int .i64 ta, .int .i64 ol, .int .i64 ge, .int .i64 ph, .int .i64 ve, .int .i64 si] 40)) w.heap.size 40 (rvC po ma ow ta ol ge ph ve si) := blk_new rfl
  replace HQ0 := Lib.hid HQ0
  have HX0 := Lib.hid ((Chg.refl (fun _ => False) w).alloc (.cells #[.int .i64 po, .int .u64 ma, .int .i64 ow, .int .i64 ta, .int .i64 ol, .int .i64 ge, .int .i64 ph, .int .i64 ve, .int .i64 si] 40))
  have HD := Lib.hid (h.keep HX0.out)
  have HN : namD C ⟨po, ma, ow, ta, ol, ge, ph, ve, si⟩ = ((decide (ow < 0) || C ow) && ((decide (ta < 0) || C ta) && (decide (ol < 0) || C ol))) := rfl
  go_enter Tryz.func124, Tryz.ntmps124
  go_upto_region 1 with fail
  generalize (w.alloc (.cells #[.int .i64 po, .int .u64 ma, .int .i64 ow, .int .i64 ta, .int .i64 ol, .int .i64 ge, .int .i64 ph, .int .i64 ve, .int .i64 si] 40)) = w1 at *
  have h1 := Lib.hid (dshas_any HD.out hw ow)
  have h2 := Lib.hid (dshas_any HD.out hw ta)
  have h3 := Lib.hid (dshas_any HD.out hw ol)
  clear h hw
  generalize C ow = b1 at *
  generalize C ta = b2 at *
  generalize C ol = b3 at *
  replace HN := Lib.hid HN
  obtain ⟨y0, y1, y2, y3, y4, y5, y6, y7, y8⟩ := rv_cells HQ0.out
  go_wp2_with fail
  refine h1.out.mono ?_
  rintro e w2 ⟨rfl, rfl⟩
  go_wp2_with fail
  refine h2.out.mono ?_
  rintro e w2 ⟨rfl, rfl⟩
  go_wp2_with fail
  refine h3.out.mono ?_
  rintro e w2 ⟨rfl, rfl⟩
  clear h1 h2 h3
  go_upto_region 4 with fail
  by_cases how : ow < 0
  · have Eow := Lib.hid (decide_eq_true how)
    by_cases hta : ta < 0
    · have Eta := Lib.hid (decide_eq_true hta)
      by_cases hol : ol < 0
      · have Eol := Lib.hid (decide_eq_true hol)
        go_wp2_with fail
        go_ret
        exact ⟨ret_b (by rw [HN.out, Eow.out, Eta.out, Eol.out]; simp), HX0.out⟩
      · have Eol := Lib.hid (decide_eq_false hol)
        cases b3 with
        | false =>
          go_wp2_with fail
          go_ret
          exact ⟨ret_b (by rw [HN.out, Eow.out, Eta.out, Eol.out]; simp), HX0.out⟩
        | true =>
          go_wp2_with fail
          go_ret
          exact ⟨ret_b (by rw [HN.out, Eow.out, Eta.out, Eol.out]; simp), HX0.out⟩
    · have Eta := Lib.hid (decide_eq_false hta)
      cases b2 with
      | false =>
        go_wp2_with fail
        go_ret
        exact ⟨ret_b (by rw [HN.out, Eow.out, Eta.out]; simp), HX0.out⟩
      | true =>
        by_cases hol : ol < 0
        · have Eol := Lib.hid (decide_eq_true hol)
          go_wp2_with fail
          go_ret
          exact ⟨ret_b (by rw [HN.out, Eow.out, Eta.out, Eol.out]; simp), HX0.out⟩
        · have Eol := Lib.hid (decide_eq_false hol)
          cases b3 with
          | false =>
            go_wp2_with fail
            go_ret
            exact ⟨ret_b (by rw [HN.out, Eow.out, Eta.out, Eol.out]; simp), HX0.out⟩
          | true =>
            go_wp2_with fail
            go_ret
            exact ⟨ret_b (by rw [HN.out, Eow.out, Eta.out, Eol.out]; simp), HX0.out⟩
  · have Eow := Lib.hid (decide_eq_false how)
    cases b1 with
    | false =>
      go_wp2_with fail
      go_ret
      exact ⟨ret_b (by rw [HN.out, Eow.out]; simp), HX0.out⟩
    | true =>
      by_cases hta : ta < 0
      · have Eta := Lib.hid (decide_eq_true hta)
        by_cases hol : ol < 0
        · have Eol := Lib.hid (decide_eq_true hol)
          go_wp2_with fail
          go_ret
          exact ⟨ret_b (by rw [HN.out, Eow.out, Eta.out, Eol.out]; simp), HX0.out⟩
        · have Eol := Lib.hid (decide_eq_false hol)
          cases b3 with
          | false =>
            go_wp2_with fail
            go_ret
            exact ⟨ret_b (by rw [HN.out, Eow.out, Eta.out, Eol.out]; simp), HX0.out⟩
          | true =>
            go_wp2_with fail
            go_ret
            exact ⟨ret_b (by rw [HN.out, Eow.out, Eta.out, Eol.out]; simp), HX0.out⟩
      · have Eta := Lib.hid (decide_eq_false hta)
        cases b2 with
        | false =>
          go_wp2_with fail
          go_ret
          exact ⟨ret_b (by rw [HN.out, Eow.out, Eta.out]; simp), HX0.out⟩
        | true =>
          by_cases hol : ol < 0
          · have Eol := Lib.hid (decide_eq_true hol)
            go_wp2_with fail
            go_ret
            exact ⟨ret_b (by rw [HN.out, Eow.out, Eta.out, Eol.out]; simp), HX0.out⟩
          · have Eol := Lib.hid (decide_eq_false hol)
            cases b3 with
            | false =>
              go_wp2_with fail
              go_ret
              exact ⟨ret_b (by rw [HN.out, Eow.out, Eta.out, Eol.out]; simp), HX0.out⟩
            | true =>
              go_wp2_with fail
              go_ret
              exact ⟨ret_b (by rw [HN.out, Eow.out, Eta.out, Eol.out]; simp), HX0.out⟩

theorem take_k {C : Int → Bool} {R : Int → Option RV} (hw : WF C R) (x : RV) : takeP R x = true ↔ ∃ i : Nat, i < 32 ∧ ∃ u, R (i : Int) = some u ∧ (i : Int) ≠ x.po ∧ u.ph ≠ 3 ∧ x.ph ≠ 3 ∧ u.ma = x.ma := by
  rw [hw.take]
  constructor
  · rintro ⟨h1, z, u, hz, h2, h3, h4⟩
    have hb := hw.bounds hz
    have e : ((z.toNat : Nat) : Int) = z := by omega
    exact ⟨z.toNat, by omega, u, by rw [e]; exact hz, by rw [e]; exact h2, h3, h1, h4⟩
  · rintro ⟨i, hi, u, hu, h2, h3, h1, h4⟩
    exact ⟨h1, _, u, hu, h2, h3, h4⟩
section
variable {C : Int → Bool} {R : Int → Option RV} {c : CV}
theorem wv_1 (h : c.r.ok = false) : wrongP C R c = 1 := by unfold wrongP; rw [if_pos (by rw [h]; rfl)]
theorem wv_2 (h : c.r.ok = true) (h2 : c.r.ve ≤ c.was) : wrongP C R c = 1 := by unfold wrongP; rw [if_pos (by rw [h, decide_eq_true h2]; rfl)]
theorem wv_n (h : c.r.ok = true) (h2 : ¬ c.r.ve ≤ c.was) : ¬ (!c.r.ok || decide (c.r.ve ≤ c.was)) = true := by rw [h, decide_eq_false h2]; decide
theorem wv_3 (h : c.r.ok = true) (h2 : ¬ c.r.ve ≤ c.was) (h3 : namD C c.r = false) : wrongP C R c = 4 := by
  rw [nam_lack h] at h3
  have h3 : lackP C c.r = true := by simpa using h3
  unfold wrongP; rw [if_neg (wv_n h h2), if_pos h3]
theorem wv_l (h : c.r.ok = true) (h3 : namD C c.r = true) : lackP C c.r = false := by
  rw [nam_lack h] at h3
  simpa using h3
theorem wv_4 (h : c.r.ok = true) (h2 : ¬ c.r.ve ≤ c.was) (h3 : namD C c.r = true) (h4 : verP R c.r.po ≠ c.was) : wrongP C R c = 7 := by
  unfold wrongP; rw [if_neg (wv_n h h2), if_neg (by rw [wv_l h h3]; decide), if_pos (by simpa using h4)]
theorem wv_5 (h : c.r.ok = true) (h2 : ¬ c.r.ve ≤ c.was) (h3 : namD C c.r = true) (h4 : verP R c.r.po = c.was) (h5 : takeP R c.r = true) : wrongP C R c = 5 := by
  unfold wrongP; rw [if_neg (wv_n h h2), if_neg (by rw [wv_l h h3]; decide), if_neg (by simpa using h4), if_pos h5]
theorem wv_6 (h : c.r.ok = true) (h2 : ¬ c.r.ve ≤ c.was) (h3 : namD C c.r = true) (h4 : verP R c.r.po = c.was) (h5 : takeP R c.r = false) : wrongP C R c = 0 := by
  unfold wrongP; rw [if_neg (wv_n h h2), if_neg (by rw [wv_l h h3]; decide), if_neg (by simpa using h4), if_neg (by rw [h5]; decide)]
end
theorem cvx_cells {w : World} {q : Nat} {po ma ow ta ol ge ph ve si was : Int} {T : TypeId} (hb : Blk w q T #[.int .i64 po, .int .u64 ma, .int .i64 ow, .int .i64 ta, .int .i64 ol, .int .i64 ge, .int .i64 ph, .int .i64 ve, .int .i64 si, .int .i64 was]) :
    w.cell? ⟨q, 0, none⟩ = some (.int .i64 po) ∧ w.cell? ⟨q, 1, none⟩ = some (.int .u64 ma) ∧ w.cell? ⟨q, 2, none⟩ = some (.int .i64 ow) ∧ w.cell? ⟨q, 3, none⟩ = some (.int .i64 ta) ∧ w.cell? ⟨q, 4, none⟩ = some (.int .i64 ol) ∧ w.cell? ⟨q, 5, none⟩ = some (.int .i64 ge) ∧ w.cell? ⟨q, 6, none⟩ = some (.int .i64 ph) ∧ w.cell? ⟨q, 7, none⟩ = some (.int .i64 ve) ∧ w.cell? ⟨q, 8, none⟩ = some (.int .i64 si) ∧ w.cell? ⟨q, 9, none⟩ = some (.int .i64 was) := by
  have x0 := hb.cell 0
  have x1 := hb.cell 1
  have x2 := hb.cell 2
  have x3 := hb.cell 3
  have x4 := hb.cell 4
  have x5 := hb.cell 5
  have x6 := hb.cell 6
  have x7 := hb.cell 7
  have x8 := hb.cell 8
  have x9 := hb.cell 9
  simp only [List.getElem?_toArray, List.getElem?_cons_zero, List.getElem?_cons_succ] at x0 x1 x2 x3 x4 x5 x6 x7 x8 x9
  exact ⟨x0, x1, x2, x3, x4, x5, x6, x7, x8, x9⟩
set_option maxRecDepth 20000 in
set_option maxRecDepth 100000 in
set_option maxHeartbeats 16000000 in
theorem dswrong_any {w : World} {q : Nat} {C : Int → Bool} {R : Int → Option RV} (h : DS w q C R) (hw : WF C R) (po ma ow ta ol ge ph ve si was : Int) : Calls Tryz.prog 101 #[.pointer (some ⟨q, 0, none⟩), .agg #[.int .i64 po, .int .u64 ma, .int .i64 ow, .int .i64 ta, .int .i64 ol, .int .i64 ge, .int .i64 ph, .int .i64 ve, .int .i64 si, .int .i64 was]] w fun e w' => e = .returned (.int .i64 (wrongP C R ⟨⟨po, ma, ow, ta, ol, ge, ph, ve, si⟩, was⟩)) ∧ Chg (fun _ => False) w w' := by
  have HQ0 : Blk (w.alloc (.cells #[.int .i64 po, .int .u64 ma, .int .i64 ow, .int .i64 ta, .int .i64 ol, .int .i64 ge, .int .i64 ph, .int .i64 ve, .int .i64 si, .int .i64 was] 80)) w.heap.size 80 #[.int .i64 po, .int .u64 ma, .int .i64 ow, .int .i64 ta, .int .i64 ol, .int .i64 ge, .int .i64 ph, .int .i64 ve, .int .i64 si, .int .i64 was] := blk_new rfl
  replace HQ0 := Lib.hid HQ0
  have HX0 := Lib.hid ((Chg.refl (fun _ => False) w).alloc (.cells #[.int .i64 po, .int .u64 ma, .int .i64 ow, .int .i64 ta, .int .i64 ol, .int .i64 ge, .int .i64 ph, .int .i64 ve, .int .i64 si, .int .i64 was] 80))
  have HDW := Lib.hid h
  have HD := Lib.hid (h.keep HX0.out)
  have HW := Lib.hid hw
  clear h hw
  have hr := fun W => rrow_any po ma ow ta ol ge ph ve si W
  unfold rvC at hr
  obtain ⟨ok, hok⟩ : ∃ ok, rwR po ma ow ta ol ge ph ve si = ok := ⟨_, rfl⟩
  rw [hok] at hr
  have HRW := Lib.hid hr
  have HOK : Hid (RV.ok ⟨po, ma, ow, ta, ol, ge, ph, ve, si⟩ = ok) := Lib.hid hok
  clear hr hok
  go_enter Tryz.func101, Tryz.ntmps101
  go_upto_region 1 with fail
  generalize (w.alloc (.cells #[.int .i64 po, .int .u64 ma, .int .i64 ow, .int .i64 ta, .int .i64 ol, .int .i64 ge, .int .i64 ph, .int .i64 ve, .int .i64 si, .int .i64 was] 80)) = w1 at *
  obtain ⟨y0, y1, y2, y3, y4, y5, y6, y7, y8, y9⟩ := cvx_cells HQ0.out
  go_wp2_with fail
  refine (HRW.out _).mono ?_
  rintro e w2 ⟨rfl, hc⟩
  replace HX0 := Lib.hid (HX0.out.trans hc (fun _ _ e => e))
  replace HQ0 := Lib.hid (HQ0.out.chg hc id)
  replace HD := Lib.hid (HD.out.keep hc)
  clear hc y0 y1 y2 y3 y4 y5 y6 y7 y8 y9
  obtain ⟨y0, y1, y2, y3, y4, y5, y6, y7, y8, y9⟩ := cvx_cells HQ0.out
  cases ok with
  | false =>
    have HV := Lib.hid (wv_1 (C := C) (R := R) (c := ⟨⟨po, ma, ow, ta, ol, ge, ph, ve, si⟩, was⟩) HOK.out)
    go_wp2_with fail
    go_ret
    exact ⟨ret_i11b HV.out.symm, HX0.out⟩
  | true =>
    by_cases hv : ve ≤ was
    · have HV := Lib.hid (wv_2 (C := C) (R := R) (c := ⟨⟨po, ma, ow, ta, ol, ge, ph, ve, si⟩, was⟩) HOK.out hv)
      go_wp2_with fail
      go_ret
      exact ⟨ret_i11b HV.out.symm, HX0.out⟩
    · have HNV := Lib.hid hv
      have hl := fun (W : World) (hW : DS W q C R) => dsnamed_any hW HW.out po ma ow ta ol ge ph ve si
      obtain ⟨lk, hlk⟩ : ∃ lk, namD C ⟨po, ma, ow, ta, ol, ge, ph, ve, si⟩ = lk := ⟨_, rfl⟩
      rw [hlk] at hl
      have HL := Lib.hid hl
      have HLK := Lib.hid hlk
      clear hl hlk
      go_wp2_with fail
      refine (HL.out _ HD.out).mono ?_
      rintro e w3 ⟨rfl, hc⟩
      replace HX0 := Lib.hid (HX0.out.trans hc (fun _ _ e => e))
      replace HQ0 := Lib.hid (HQ0.out.chg hc id)
      replace HD := Lib.hid (HD.out.keep hc)
      clear hc y0 y1 y2 y3 y4 y5 y6 y7 y8 y9
      obtain ⟨y0, y1, y2, y3, y4, y5, y6, y7, y8, y9⟩ := cvx_cells HQ0.out
      cases lk with
      | false =>
        have HV := Lib.hid (wv_3 (C := C) (R := R) (c := ⟨⟨po, ma, ow, ta, ol, ge, ph, ve, si⟩, was⟩) HOK.out (Int.not_le.2 HNV.out) HLK.out)
        go_wp2_with fail
        go_ret
        exact ⟨ret_i11b HV.out.symm, HX0.out⟩
      | true =>
        have hbd := (RV.bd HOK.out).1
        change 0 ≤ po ∧ po ≤ 31 at hbd
        obtain ⟨k, rfl⟩ := Int.eq_ofNat_of_zero_le hbd.1
        have hk : k < 32 := by omega
        have hd := HD.out.row hk
        obtain ⟨-, -, -, -, -, -, -, r7, -⟩ := hd
        have HVV : verP R (k : Int) = ((R (k : Int)).getD z9).ve := rfl
        generalize ((R (k : Int)).getD z9).ve = vr at *
        replace HVV := Lib.hid HVV
        clear hbd
        by_cases hwv : vr = was
        case neg =>
          have tw : (vr == was) = false := by simpa using hwv
          have sw : (vr != was) = true := by simpa using hwv
          have HV := Lib.hid (wv_4 (C := C) (R := R) (c := ⟨⟨(k : Int), ma, ow, ta, ol, ge, ph, ve, si⟩, was⟩) HOK.out (Int.not_le.2 HNV.out) HLK.out (show verP R (k : Int) ≠ was by rw [HVV.out]; exact hwv))
          clear hwv
          go_wp2_with fail
          go_region
          go_wp2_with fail
          go_ret
          exact ⟨ret_i11b HV.out.symm, HX0.out.drew⟩
        case pos =>
          subst hwv
          go_wp2_with fail
          go_region
          replace HQ0 := Lib.hid HQ0.out.drew
          replace HX0 := Lib.hid HX0.out.drew
          clear r7 y0 y1 y2 y3 y4 y5 y6 y7 y8 y9
          generalize World.drew w3 = w4 at *
          go_wp2_with fail
          go_loopg [7, 8] 32 (fun g i s8 wr => ∃ (j : Nat), g = 32 - j ∧ j ≤ 32 ∧ i = .int .i64 (j : Int) ∧ Hid (∀ i : Nat, i < j → ∀ u, R (i : Int) = some u → ¬ ((i : Int) ≠ (k : Int) ∧ u.ph ≠ 3 ∧ ph ≠ 3 ∧ u.ma = ma)) ∧ Hid (Blk wr w.heap.size 80 #[.int .i64 ((k : Int)), .int .u64 ma, .int .i64 ow, .int .i64 ta, .int .i64 ol, .int .i64 ge, .int .i64 ph, .int .i64 ve, .int .i64 si, .int .i64 vr]) ∧ Hid (Chg (fun _ => False) w wr))
          case atStart => exact ⟨0, rfl, by omega, rfl, Lib.hid (fun i hi => absurd hi (by omega)), HQ0, HX0⟩
          case round =>
            clear HQ0 HX0
            obtain ⟨j, rfl, hj, rfl, HA, HQ0, HX0⟩ := hrel
            by_cases hlt : j < 32
            · have hd := (HDW.out.keep HX0.out).row hlt
              have HLT := Lib.hid hlt
              obtain ⟨y, hy⟩ : ∃ y, (R (j : Int)).getD z9 = y := ⟨_, rfl⟩
              rw [hy] at hd
              obtain ⟨a0, a1, a2, a3, a4, a5, a6, a7, a8, rfl⟩ := rv_letters y
              obtain ⟨d0, d1, d2, d3, d4, d5, d6, d7, d8⟩ := hd
              have HC := Lib.hid (HW.out.cell (j : Int))
              have HY := Lib.hid hy
              clear hy
              go_upto_region 13 with fail
              have HN0 : Blk (wr.alloc (.cells #[.int .i64 a0, .int .u64 a1, .int .i64 a2, .int .i64 a3, .int .i64 a4, .int .i64 a5, .int .i64 a6, .int .i64 a7, .int .i64 a8] 40)) wr.heap.size 40 (rvC a0 a1 a2 a3 a4 a5 a6 a7 a8) := blk_new rfl
              replace HN0 := Lib.hid HN0
              replace HX0 := Lib.hid (HX0.out.alloc (.cells #[.int .i64 a0, .int .u64 a1, .int .i64 a2, .int .i64 a3, .int .i64 a4, .int .i64 a5, .int .i64 a6, .int .i64 a7, .int .i64 a8] 40))
              replace HQ0 := Lib.hid (HQ0.out.alloc (.cells #[.int .i64 a0, .int .u64 a1, .int .i64 a2, .int .i64 a3, .int .i64 a4, .int .i64 a5, .int .i64 a6, .int .i64 a7, .int .i64 a8] 40))
              clear d0 d1 d2 d3 d4 d5 d6 d7 d8
              generalize (wr.alloc (.cells #[.int .i64 a0, .int .u64 a1, .int .i64 a2, .int .i64 a3, .int .i64 a4, .int .i64 a5, .int .i64 a6, .int .i64 a7, .int .i64 a8] 40)) = w5 at *
              obtain ⟨x0, x1, x2, x3, x4, x5, x6, x7, x8⟩ := rv_cells HN0.out
              obtain ⟨y0, y1, y2, y3, y4, y5, y6, y7, y8, y9⟩ := cvx_cells HQ0.out
              have HNO : (∀ u, R (j : Int) = some u → ¬ ((j : Int) ≠ (k : Int) ∧ u.ph ≠ 3 ∧ ph ≠ 3 ∧ u.ma = ma)) → Hid (∀ i : Nat, i < j + 1 → ∀ u, R (i : Int) = some u → ¬ ((i : Int) ≠ (k : Int) ∧ u.ph ≠ 3 ∧ ph ≠ 3 ∧ u.ma = ma)) := fun hf => Lib.hid (fun i hi u hu => by
                by_cases e : i < j
                · exact HA.out i e u hu
                · have : i = j := by omega
                  subst this
                  exact hf u hu)
              have HU : ∀ u, R (j : Int) = some u → u = ⟨a0, a1, a2, a3, a4, a5, a6, a7, a8⟩ := fun u hu => by
                have := HY.out
                rw [hu] at this
                exact this
              by_cases hjk : (j : Int) = (k : Int)
              · have HNO2 := HNO (fun u hu hh => hh.1 hjk)
                have tj : ((j : Int) == (k : Int)) = true := by simpa using hjk
                have sj : ((j : Int) != (k : Int)) = false := by simpa using hjk
                clear HNO HU hjk
                go_wp2_with fail
                go_roundg (32 - (j + 1))
                case measure => omega
                case rel => exact ⟨j + 1, rfl, by omega, by go_num, HNO2, HQ0, HX0⟩
              · have tj : ((j : Int) == (k : Int)) = false := by simpa using hjk
                have sj : ((j : Int) != (k : Int)) = true := by simpa using hjk
                rcases HC.out with ⟨hc1, hc2⟩ | ⟨u, hc1, hc2, hc3⟩
                · have HNO2 := HNO (fun u hu hh => by rw [hc1] at hu; cases hu)
                  have ha7 : a7 = 0 := by
                    have := HY.out
                    rw [hc2] at this
                    simp only [z9, RV.mk.injEq] at this
                    exact this.2.2.2.2.2.2.2.1.symm
                  subst ha7
                  clear HNO HU hjk hc1 hc2
                  go_wp2_with fail
                  go_roundg (32 - (j + 1))
                  case measure => omega
                  case rel => exact ⟨j + 1, rfl, by omega, by go_num, HNO2, HQ0, HX0⟩
                · have hua := HU u hc1
                  subst hua
                  have hv7 : 0 < a7 := by change 1 ≤ a7 at hc3; omega
                  have HR1 := Lib.hid hc1
                  clear hc2 hc3 hc1
                  by_cases h6 : a6 = 3
                  · have HNO2 := HNO (fun u hu hh => by rw [HU u hu] at hh; exact hh.2.1 h6)
                    subst h6
                    clear HNO HU hjk
                    go_wp2_with fail
                    go_roundg (32 - (j + 1))
                    case measure => omega
                    case rel => exact ⟨j + 1, rfl, by omega, by go_num, HNO2, HQ0, HX0⟩
                  · have t6 : (a6 == 3) = false := by simpa using h6
                    have s6 : (a6 != 3) = true := by simpa using h6
                    by_cases hp : ph = 3
                    · have HNO2 := HNO (fun u hu hh => hh.2.2.1 hp)
                      have tp : (ph == 3) = true := by simpa using hp
                      have sp : (ph != 3) = false := by simpa using hp
                      clear HNO HU hjk hp h6
                      go_wp2_with fail
                      go_roundg (32 - (j + 1))
                      case measure => omega
                      case rel => exact ⟨j + 1, rfl, by omega, by go_num, HNO2, HQ0, HX0⟩
                    · have tp : (ph == 3) = false := by simpa using hp
                      have sp : (ph != 3) = true := by simpa using hp
                      by_cases hm : a1 = ma
                      · have tm : (a1 == ma) = true := by simpa using hm
                        have HV := Lib.hid (wv_5 (C := C) (R := R) (c := ⟨⟨(k : Int), ma, ow, ta, ol, ge, ph, ve, si⟩, vr⟩) HOK.out (Int.not_le.2 HNV.out) HLK.out HVV.out ((take_k HW.out _).2 ⟨j, HLT.out, _, HR1.out, hjk, h6, hp, hm⟩))
                        clear HNO HU hjk hp h6 hm
                        go_wp2_with fail
                        go_ret
                        exact ⟨ret_i11b HV.out.symm, HX0.out⟩
                      · have tm : (a1 == ma) = false := by simpa using hm
                        have HNO2 := HNO (fun u hu hh => by rw [HU u hu] at hh; exact hm hh.2.2.2)
                        clear HNO HU hjk hp h6 hm
                        go_wp2_with fail
                        go_roundg (32 - (j + 1))
                        case measure => omega
                        case rel => exact ⟨j + 1, rfl, by omega, by go_num, HNO2, HQ0, HX0⟩
            · have : j = 32 := by omega
              subst this
              have HV := Lib.hid (wv_6 (C := C) (R := R) (c := ⟨⟨(k : Int), ma, ow, ta, ol, ge, ph, ve, si⟩, vr⟩) HOK.out (Int.not_le.2 HNV.out) HLK.out HVV.out (by
                rw [Bool.eq_false_iff]
                intro ht
                obtain ⟨i, hi, u, hu, h1, h2, h3, h4⟩ := (take_k HW.out _).1 ht
                exact HA.out i hi u hu ⟨h1, h2, h3, h4⟩))
              go_wp2_with fail
              go_ret
              exact ⟨ret_i11b HV.out.symm, HX0.out⟩


end Go.Proofs.YtimgnogacanifaaGreat
