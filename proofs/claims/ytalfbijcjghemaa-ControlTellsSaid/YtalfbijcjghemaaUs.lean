/-
  Walks: rutterlaw06.Fits, alive. Conditions: none.
-/
import Derived.Test.YtalfbijcjghemaaUr
import Derived.Test.YtalfbijcjghemaaUj
namespace Go.Proofs.Ytalfbijcjghemaa
open Go.RowKit
set_option linter.unusedVariables false

set_option maxHeartbeats 400000 in
theorem fits6_any (kd po ma ow ta ol ge ph ve si pt vr : Int) (A : Option Addr) (n c : Nat) (w : World) (hn : n ≤ 9223372036854775807) :
    Calls Try.prog 5 #[.agg (msC kd po ma ow ta ol ge ph ve si pt vr A n c)] w fun e w' => e = .returned (.bool (decide (n ≤ 60))) ∧ Chg (fun _ => False) w w' := by
  have hC := (Chg.refl (fun _ => False) w).alloc (.cells #[.int .i64 kd, .int .i64 po, .int .u64 ma, .int .i64 ow, .int .i64 ta, .int .i64 ol, .int .i64 ge, .int .i64 ph, .int .i64 ve, .int .i64 si, .int .i64 pt, .int .i64 vr, .slice A n c] 28)
  unfold msC
  go_enter Try.func5, Try.ntmps5
  go_wp2_with fail
  go_ret
  exact ⟨ret_b (by simp; try omega), hC⟩
theorem dec6_back {m : MV} (h : m.ok = true) (hn : m.nm) {w w' : World} {e : Ending} (hd : Dec6 m.bs w e w') : Hd6 m 0 w e w' := by
  obtain ⟨h1, h2⟩ := cdc_back h hn
  unfold Dec6 at hd
  rw [cM_yes h1, cX_yes h1, h2] at hd
  exact hd
theorem enc_lit (m : MV) (hr : m.ok = true) (hN : m.nm) (k : Nat) (hk : m.bs.length = k) (A : Option Addr) (n c : Nat) (S : Nat → Prop) (w : World) (h : RcR w S A n m.l) (hn2 : n ≤ 9223372036854775807) :
    Calls Try.prog 13 #[.agg (msC m.kd m.po m.ma m.ow m.ta m.ol m.ge m.ph m.ve m.si m.pt m.vr A n c)] w fun e w' => ∃ D dc, e = .returned (.tuple #[.slice D k dc, .int .i64 0]) ∧ w'.ownsRow w.heap.size 5 1 (.slice D k dc) k (bcs m.bs) ∧ Chg (fun _ => False) w w' := by
  subst hk
  have h1 := cenc_any m.kd m.po m.ma m.ow m.ta m.ol m.ge m.ph m.ve m.si m.pt m.vr A n c m.l S w h hn2 hN
  have hr' : msR m.kd m.po m.ma m.ow m.ta m.ol m.ge m.ph m.ve m.si m.pt m.vr m.l = true := hr
  rw [hr'] at h1
  exact h1
def ma0 : MV := ⟨1, 2, 7, 3, (-1), 4, 258, 2, 9, 5, 0, 0, []⟩
def mt0 : MV := ⟨3, 0, 0, 0, 0, 0, 0, 0, 0, 0, 1, 6, [⟨6, 0, 0, 0, 0, 8⟩]⟩
theorem ma0_ok : ma0.ok = true := by decide
theorem mt0_ok : mt0.ok = true := by decide
theorem ma0_nm : ma0.nm := ⟨by decide, fun x hx => by cases hx⟩
theorem mt0_nm : mt0.nm := ⟨by decide, fun x hx => by simp [mt0] at hx; subst hx; exact ⟨by decide, by decide⟩⟩
theorem ma0_len : ma0.bs.length = 29 := rfl
theorem mt0_len : mt0.bs.length = 28 := rfl
theorem mt0_rcr (w : World) (g : Nat) (hb : Blk w g 46 #[.int .i64 6, .int .u32 0, .int .u32 0, .int .i64 0, .int .i64 0, .int .i64 8]) : RcR w (fun _ => True) (some ⟨g, 0, none⟩) 1 mt0.l := by
  refine ⟨rfl, fun _ => ⟨⟨g, 0, none⟩, rfl, trivial, hb.lt, fun i x hi j u hu => ?_⟩⟩
  have hi0 : i = 0 := by
    have := (List.getElem?_eq_some_iff.1 hi).1
    have e : mt0.l.length = 1 := rfl
    omega
  subst hi0
  have hx : (⟨6, 0, 0, 0, 0, 8⟩ : Rc) = x := by
    have e : mt0.l[0]? = some ⟨6, 0, 0, 0, 0, 8⟩ := rfl
    rw [e] at hi
    injection hi
  subst hx
  have e : (⟨g, 0, none⟩ : Addr).add (0 * 6 + j) = ⟨g, j, none⟩ := by unfold Addr.add; split <;> simp_all
  rw [e, hb.cell, ← hu]
  rfl

set_option maxHeartbeats 4000000 in
theorem alive6_any (w : World) : Calls Try.prog 6 #[] w fun e w' => e = .returned (.bool true) ∧ Chg (fun _ => False) w w' := by
  have HC := Lib.hid ((Chg.refl (fun _ => False) w).alloc (.cells #[.int .i64 1, .int .i64 2, .int .u64 7, .int .i64 3, .int .i64 (-1), .int .i64 4, .int .i64 258, .int .i64 2, .int .i64 9, .int .i64 5, .int .i64 0, .int .i64 0, .slice none 0 0] 28))
  have HM : Hid (Blk (w.alloc (.cells #[.int .i64 1, .int .i64 2, .int .u64 7, .int .i64 3, .int .i64 (-1), .int .i64 4, .int .i64 258, .int .i64 2, .int .i64 9, .int .i64 5, .int .i64 0, .int .i64 0, .slice none 0 0] 28)) w.heap.size 28 (msC 1 2 7 3 (-1) 4 258 2 9 5 0 0 none 0 0)) := Lib.hid (blk_new rfl)
  have HE := Lib.hid (enc_lit ma0 ma0_ok ma0_nm 29 ma0_len none 0 0 (fun _ => True) (w.alloc (.cells #[.int .i64 1, .int .i64 2, .int .u64 7, .int .i64 3, .int .i64 (-1), .int .i64 4, .int .i64 258, .int .i64 2, .int .i64 9, .int .i64 5, .int .i64 0, .int .i64 0, .slice none 0 0] 28)) (RcR.nil _ _ _) (by decide))
  have e1 : msC ma0.kd ma0.po ma0.ma ma0.ow ma0.ta ma0.ol ma0.ge ma0.ph ma0.ve ma0.si ma0.pt ma0.vr none 0 0 = #[.int .i64 1, .int .i64 2, .int .u64 7, .int .i64 3, .int .i64 (-1), .int .i64 4, .int .i64 258, .int .i64 2, .int .i64 9, .int .i64 5, .int .i64 0, .int .i64 0, .slice none 0 0] := rfl
  rw [e1] at HE
  clear e1
  go_enter Try.func6, Try.ntmps6
  go_wp2_with fail
  refine HE.out.mono ?_
  rintro e w1 ⟨D, dc, rfl, hown, hc⟩
  have hnil := own_nil hown
  have HD := Lib.hid (cdec_any D 29 dc ma0.bs _ w1 ma0_len.symm (own_rds2 hown) hnil (by decide))
  replace HC := Lib.hid (HC.out.trans hc (fun _ _ e => e))
  replace HM := Lib.hid (HM.out.chg hc id)
  clear HE hown hc hnil
  go_wp2_with fail
  refine HD.out.mono ?_
  intro e w2 hd
  obtain ⟨A2, c2, he, hrc, hc⟩ := dec6_back ma0_ok ma0_nm hd
  have he : e = .returned (.tuple #[.agg #[.int .i64 1, .int .i64 2, .int .u64 7, .int .i64 3, .int .i64 (-1), .int .i64 4, .int .i64 258, .int .i64 2, .int .i64 9, .int .i64 5, .int .i64 0, .int .i64 0, .slice A2 0 c2], .int .i64 0]) := he
  subst he
  replace hrc : RcR w2 (fun _ => True) A2 0 [] := hrc
  replace HC := Lib.hid (HC.out.trans hc (fun _ _ e => e))
  replace HM := Lib.hid (HM.out.chg hc id)
  clear HD hd hc
  have hca := ((Chg.refl (fun _ => False) w2).alloc (.cells #[.int .i64 1, .int .i64 2, .int .u64 7, .int .i64 3, .int .i64 (-1), .int .i64 4, .int .i64 258, .int .i64 2, .int .i64 9, .int .i64 5, .int .i64 0, .int .i64 0, .slice A2 0 c2] 28))
  have HN : Hid (Blk (w2.alloc (.cells #[.int .i64 1, .int .i64 2, .int .u64 7, .int .i64 3, .int .i64 (-1), .int .i64 4, .int .i64 258, .int .i64 2, .int .i64 9, .int .i64 5, .int .i64 0, .int .i64 0, .slice A2 0 c2] 28)) w2.heap.size 28 (msC 1 2 7 3 (-1) 4 258 2 9 5 0 0 A2 0 c2)) := Lib.hid (blk_new rfl)
  have HRC := Lib.hid (hrc.alloc (.cells #[.int .i64 1, .int .i64 2, .int .u64 7, .int .i64 3, .int .i64 (-1), .int .i64 4, .int .i64 258, .int .i64 2, .int .i64 9, .int .i64 5, .int .i64 0, .int .i64 0, .slice A2 0 c2] 28))
  replace HC := Lib.hid (HC.out.trans hca (fun _ _ e => e))
  replace HM := Lib.hid (HM.out.chg hca id)
  clear hca hrc
  go_upto_region 4 with fail
  generalize w2.alloc (.cells #[.int .i64 1, .int .i64 2, .int .u64 7, .int .i64 3, .int .i64 (-1), .int .i64 4, .int .i64 258, .int .i64 2, .int .i64 9, .int .i64 5, .int .i64 0, .int .i64 0, .slice A2 0 c2] 28) = w3 at *
  have hct := ((Chg.refl (fun _ => False) w3).alloc (.cells #[.int .i64 6, .int .u32 0, .int .u32 0, .int .i64 0, .int .i64 0, .int .i64 8] 46)).alloc (.cells #[.int .i64 3, .int .i64 0, .int .u64 0, .int .i64 0, .int .i64 0, .int .i64 0, .int .i64 0, .int .i64 0, .int .i64 0, .int .i64 0, .int .i64 1, .int .i64 6, .slice (some ⟨w3.heap.size, 0, none⟩) 1 1] 28)
  have HE := Lib.hid (enc_lit mt0 mt0_ok mt0_nm 28 mt0_len (some ⟨w3.heap.size, 0, none⟩) 1 1 (fun _ => True) ((w3.alloc (.cells #[.int .i64 6, .int .u32 0, .int .u32 0, .int .i64 0, .int .i64 0, .int .i64 8] 46)).alloc (.cells #[.int .i64 3, .int .i64 0, .int .u64 0, .int .i64 0, .int .i64 0, .int .i64 0, .int .i64 0, .int .i64 0, .int .i64 0, .int .i64 0, .int .i64 1, .int .i64 6, .slice (some ⟨w3.heap.size, 0, none⟩) 1 1] 28)) ((mt0_rcr _ _ (blk_new rfl)).alloc _) (by decide))
  have e1 : msC mt0.kd mt0.po mt0.ma mt0.ow mt0.ta mt0.ol mt0.ge mt0.ph mt0.ve mt0.si mt0.pt mt0.vr (some ⟨w3.heap.size, 0, none⟩) 1 1 = #[.int .i64 3, .int .i64 0, .int .u64 0, .int .i64 0, .int .i64 0, .int .i64 0, .int .i64 0, .int .i64 0, .int .i64 0, .int .i64 0, .int .i64 1, .int .i64 6, .slice (some ⟨w3.heap.size, 0, none⟩) 1 1] := rfl
  rw [e1] at HE
  clear e1
  replace HC := Lib.hid (HC.out.trans hct (fun _ _ e => e))
  replace HM := Lib.hid (HM.out.chg hct id)
  replace HN := Lib.hid (HN.out.chg hct id)
  replace HRC := Lib.hid (HRC.out.chg hct (fun _ _ => id))
  clear hct
  go_wp2_with fail
  refine HE.out.mono ?_
  rintro e w4 ⟨D2, dc2, rfl, _, hc⟩
  replace HC := Lib.hid (HC.out.trans hc (fun _ _ e => e))
  replace HM := Lib.hid (HM.out.chg hc id)
  replace HN := Lib.hid (HN.out.chg hc id)
  replace HRC := Lib.hid (HRC.out.chg hc (fun _ _ => id))
  clear HE hc
  obtain ⟨y0, y1, y2, y3, y4, y5, y6, y7, y8, y9, y10, y11, y12⟩ := ms_cells HM.out
  obtain ⟨z0, z1, z2, z3, z4, z5, z6, z7, z8, z9, z10, z11, z12⟩ := ms_cells HN.out
  have hs := csame_any 1 2 7 3 (-1) 4 258 2 9 5 0 0 1 2 7 3 (-1) 4 258 2 9 5 0 0 none A2 0 0 0 c2 [] [] (fun _ => True) (fun _ => True) w4 (RcR.nil _ _ _) HRC.out (by decide) (by decide)
  rw [msS_refl] at hs
  unfold msC at hs
  have HS := Lib.hid hs
  clear hs
  go_wp2_with fail
  refine HS.out.mono ?_
  rintro e w5 ⟨rfl, hc⟩
  replace HC := Lib.hid (HC.out.trans hc (fun _ _ e => e))
  replace HM := Lib.hid (HM.out.chg hc id)
  clear HS hc y0 y1 y2 y3 y4 y5 y6 y7 y8 y9 y10 y11 y12 z0 z1 z2 z3 z4 z5 z6 z7 z8 z9 z10 z11 z12
  obtain ⟨y0, y1, y2, y3, y4, y5, y6, y7, y8, y9, y10, y11, y12⟩ := ms_cells HM.out
  have hr := crow_any 2 7 3 (-1) 4 258 2 9 5 w5
  rw [show rwR 2 7 3 (-1) 4 258 2 9 5 = true by decide] at hr
  unfold rvC at hr
  have HR := Lib.hid hr
  clear hr
  go_wp2_with fail
  refine HR.out.mono ?_
  rintro e w6 ⟨rfl, hc⟩
  replace HC := Lib.hid (HC.out.trans hc (fun _ _ e => e))
  clear HR hc y0 y1 y2 y3 y4 y5 y6 y7 y8 y9 y10 y11 y12
  have h1 := cright_any 2 0 0 0 0 0 0 0 0 0 0 0 none 0 0 [] (fun _ => True) w6 (RcR.nil _ _ _) (by decide)
  rw [show msR 2 0 0 0 0 0 0 0 0 0 0 0 [] = false by decide] at h1
  unfold msC at h1
  have H1 := Lib.hid h1
  clear h1
  go_wp2_with fail
  refine H1.out.mono ?_
  rintro e w7 ⟨rfl, hc⟩
  replace HC := Lib.hid (HC.out.trans hc (fun _ _ e => e))
  clear H1 hc
  have h1 := cright_any 2 0 0 0 0 0 0 0 0 0 0 1 none 0 0 [] (fun _ => True) w7 (RcR.nil _ _ _) (by decide)
  rw [show msR 2 0 0 0 0 0 0 0 0 0 0 1 [] = true by decide] at h1
  unfold msC at h1
  have H1 := Lib.hid h1
  clear h1
  go_wp2_with fail
  refine H1.out.mono ?_
  rintro e w8 ⟨rfl, hc⟩
  replace HC := Lib.hid (HC.out.trans hc (fun _ _ e => e))
  clear H1 hc
  go_wp2_with fail
  go_ret
  exact ⟨rfl, HC.out⟩

end Go.Proofs.Ytalfbijcjghemaa
