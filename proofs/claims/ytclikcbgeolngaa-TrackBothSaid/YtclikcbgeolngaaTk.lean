/-
  Walks: the document's Note, Import. Conditions: the table lies in memory, with at most 16 records; the records that come in are read in memory, apart from it.
-/
import Derived.Test.YtclikcbgeolngaaTj
namespace Go.Proofs.Ytclikcbgeolngaa
open Go.RowKit
set_option linter.unusedVariables false
set_option linter.unusedSimpArgs false

set_option maxRecDepth 100000 in
set_option maxHeartbeats 4000000 in
theorem rtnote_any {w : World} {q : Nat} {o : Option Nat} {life : Int} {l : List Rc} (h : TN 32 w q o life l) (h16 : l.length ≤ 16) (hl : 0 ≤ life ∧ life ≤ 2147483648) (p s d sp dp t : Int) : Calls Try.prog 9 #[.pointer (some ⟨q, 0, none⟩), .agg (flC p s d sp dp), .int .i64 t] w fun e w' => e = .returned (.int .i64 (noA life t l p s d sp dp)) ∧ ∃ o', TN 32 w' q o' life (noL life t l p s d sp dp) ∧ Mvd q o o' w w' := by
  have HX0 := Lib.hid ((Chg.refl (fun _ => False) w).alloc (.cells #[.int .i64 p, .int .u32 s, .int .u32 d, .int .i64 sp, .int .i64 dp] 35))
  have HQ0 : Hid (Blk (w.alloc (.cells #[.int .i64 p, .int .u32 s, .int .u32 d, .int .i64 sp, .int .i64 dp] 35)) w.heap.size 35 (flC p s d sp dp)) := Lib.hid (blk_new rfl)
  have HT := Lib.hid (h.new HX0.out)
  have HRI := Lib.hid (fun W => rright4_any p s d sp dp W)
  have HTM := Lib.hid (fun W => rtime12_any t W)
  have HOB := Lib.hid (show (∀ k, o = some k → k < w.heap.size) ∧ q < w.heap.size from ⟨h.lt.2, h.lt.1⟩)
  clear h
  unfold flC
  unfold flC at HRI
  generalize hfr : flR p sp dp = b1 at *
  have HFR := Lib.hid hfr
  clear hfr
  cases b1 with
  | false =>
    go_enter Try.func9, Try.ntmps9
    go_upto_region 1 with fail
    generalize (w.alloc (.cells #[.int .i64 p, .int .u32 s, .int .u32 d, .int .i64 sp, .int .i64 dp] 35)) = w1 at *
    generalize w.heap.size = B at *
    obtain ⟨y0, y1, y2, y3, y4⟩ := fl_cells HQ0.out
    go_wp2_with fail
    refine (HRI.out _).mono ?_
    rintro e w2 ⟨rfl, hc⟩
    have HX2 := Lib.hid (HX0.out.trans hc (fun _ _ e => e))
    have HQ2 := Lib.hid (HQ0.out.chg hc id)
    have HT2 := Lib.hid (HT.out.new hc)
    clear hc y0 y1 y2 y3 y4
    go_wp2_with fail
    go_ret
    exact ⟨ret_i12 (by unfold noA; rw [HFR.out]; rfl), o, by unfold noL; rw [HFR.out]; exact HT2.out, ⟨HX2.out.mono (fun _ _ e => e.elim), .inl rfl⟩⟩
  | true =>
    generalize htm : tmB t = b2 at *
    have HTB := Lib.hid htm
    cases b2 with
    | false =>
      clear htm
      go_enter Try.func9, Try.ntmps9
      go_upto_region 1 with fail
      generalize (w.alloc (.cells #[.int .i64 p, .int .u32 s, .int .u32 d, .int .i64 sp, .int .i64 dp] 35)) = w1 at *
      generalize w.heap.size = B at *
      obtain ⟨y0, y1, y2, y3, y4⟩ := fl_cells HQ0.out
      go_wp2_with fail
      refine (HRI.out _).mono ?_
      rintro e w2 ⟨rfl, hc⟩
      have HX2 := Lib.hid (HX0.out.trans hc (fun _ _ e => e))
      have HQ2 := Lib.hid (HQ0.out.chg hc id)
      have HT2 := Lib.hid (HT.out.new hc)
      clear hc y0 y1 y2 y3 y4
      go_wp2_with fail
      refine (HTM.out _).mono ?_
      rintro e w3 ⟨rfl, rfl⟩
      go_wp2_with fail
      go_ret
      exact ⟨ret_i12 (by unfold noA; rw [HFR.out, HTB.out]; rfl), o, by unfold noL; rw [HFR.out, HTB.out]; exact HT2.out, ⟨HX2.out.mono (fun _ _ e => e.elim), .inl rfl⟩⟩
    | true =>
      have htt : 0 ≤ t ∧ t ≤ 1099511627776 := by simpa [tmB] using htm
      clear htm
      have HRI2 := Lib.hid (show (flR p sp dp && tmB t) = true by rw [HFR.out, HTB.out]; rfl)
      have HL16 := Lib.hid (ex12_len (t := t) h16)
      have hwr : IntKind.i64.wrap (t + life) = t + life := IntWalk.i64_in _ (by omega)
      go_enter Try.func9, Try.ntmps9
      go_upto_region 1 with fail
      generalize (w.alloc (.cells #[.int .i64 p, .int .u32 s, .int .u32 d, .int .i64 sp, .int .i64 dp] 35)) = w1 at *
      generalize w.heap.size = B at *
      obtain ⟨y0, y1, y2, y3, y4⟩ := fl_cells HQ0.out
      go_wp2_with fail
      refine (HRI.out _).mono ?_
      rintro e w2 ⟨rfl, hc⟩
      have HX2 := Lib.hid (HX0.out.trans hc (fun _ _ e => e))
      have HQ2 := Lib.hid (HQ0.out.chg hc id)
      have HT2 := Lib.hid (HT.out.new hc)
      clear hc y0 y1 y2 y3 y4
      have HB2 := Lib.hid HQ2.out.lt
      go_wp2_with fail
      refine (HTM.out _).mono ?_
      rintro e w3 ⟨rfl, rfl⟩
      have HRE := Lib.hid (rtrecords_any HT2.out h16 t)
      obtain ⟨LA, c, hbq, -, -, -⟩ := HT2.out
      have HBQ := Lib.hid hbq
      clear hbq
      go_wp2_with fail
      refine HRE.out.mono ?_
      rintro e w4 ⟨E, k, dd, rfl, hk, hown, hc⟩
      have HBQ4 := Lib.hid (HBQ.out.chg hc id)
      obtain ⟨o4, hT4, hM4⟩ := TN.fresh (o := o) HBQ4.out HBQ.out.lt hown hk (Chg.refl (fun _ => False) w2) hc
      have HT4 := Lib.hid hT4
      have HM4 := Lib.hid (Mvd.pre HX2.out hM4)
      have HBN4 := Lib.hid (show ¬ (B = q ∨ o4 = some B) from fun e => by
        have h1 := HOB.out
        have h2 := HB2.out
        rcases e with e | e
        · omega
        · rcases hM4.2 with e2 | e2 | ⟨k2, e2, hk2⟩
          · have := h1.1 B (by rw [← e2, e])
            omega
          · rw [e] at e2
            cases e2
          · rw [e] at e2
            injection e2 with e2
            omega)
      have HQ4 := Lib.hid ((HQ2.out.chg hc id).chg ((Chg.refl (fun k => k = q) w4).put q 1 (fun _ => rfl) (.slice E k dd)) (fun e => HBN4.out (.inl e)))
      obtain ⟨c0, c1, f1⟩ := tb_cells HBQ4.out
      clear hT4 hM4 hown hc hk HRE
      go_upto_region 5 with fail
      generalize w4.setCell ⟨q, 1, none⟩ (.slice E k dd) = w9 at *
      clear c0 c1 f1
      by_cases htl : 1099511627776 < t + life
      · skip
        have htk := fun (W : World) (hT : TN 32 W q o4 life (ex12 t l)) => rtput_any hT HL16.out p s d sp dp 1099511627776
        unfold rcC at htk
        have HNR := Lib.hid (show nr12 life t p s d sp dp = ⟨p, s, d, sp, dp, 1099511627776⟩ by unfold nr12; congr 1; omega)
        have HS4 := Lib.hid (show ∀ W : World, W.cell? ⟨q, 0, none⟩ = some (.int .i64 life) → Blk W B 35 (flC p s d sp dp) → (W.cell? ⟨q, 0, none⟩ = some (.int .i64 life) ∧ W.cell? ⟨B, 0, none⟩ = some (.int .i64 p) ∧ W.cell? ⟨B, 1, none⟩ = some (.int .u32 s) ∧ W.cell? ⟨B, 2, none⟩ = some (.int .u32 d) ∧ W.cell? ⟨B, 3, none⟩ = some (.int .i64 sp) ∧ W.cell? ⟨B, 4, none⟩ = some (.int .i64 dp)) from fun W h1 h2 => ⟨h1, fl_cells h2⟩)
        go_wp2_with fail
        have HM4 : Hid (Mvd q o o4 w w9.drew) := Lib.hid ⟨HM4.out.1.drew, HM4.out.2⟩
        have HT4 : Hid (TN 32 w9.drew q o4 life (ex12 t l)) := Lib.hid HT4.out
        have HQ4 : Hid (Blk w9.drew B 35 (flC p s d sp dp)) := Lib.hid HQ4.out
        obtain ⟨s0, s1, s2, s3, s4, s5⟩ := HS4.out _ (TN.life0 HT4.out) HQ4.out
        cases hpb : pb12 (ex12 t l) ⟨p, s, d, sp, dp, 1099511627776⟩ with
        | false =>
          rw [hpb] at htk
          have HTK := Lib.hid htk
          have HPB := Lib.hid hpb
          clear htk hpb
          go_region_held3 (fun w' => w'.cell? ⟨q, 0, none⟩ = some (.int .i64 life) ∧ w'.cell? ⟨B, 0, none⟩ = some (.int .i64 p) ∧ w'.cell? ⟨B, 1, none⟩ = some (.int .u32 s) ∧ w'.cell? ⟨B, 2, none⟩ = some (.int .u32 d) ∧ w'.cell? ⟨B, 3, none⟩ = some (.int .i64 sp) ∧ w'.cell? ⟨B, 4, none⟩ = some (.int .i64 dp))
            (first | with_reducible exact HS4.out _ (TN.life0 HT4.out) HQ4.out | with_reducible exact HS4.out _ (TN.life0 HT5.out) HQ5.out | fail)
            (first
              | (go_at_call 24; (with_reducible refine (HTK.out _ HT4.out).mono ?_); rintro e w5 ⟨rfl, o5, hT5, hM5⟩; have HT5 := Lib.hid hT5; have HM5 := Lib.hid hM5; have HQ5 := Lib.hid (HQ4.out.chg hM5.1 HBN4.out); clear hT5 hM5)
              | fail)
          all_goals
            go_wp2_with fail
            go_ret
            refine ⟨ret_i12 (by unfold noA; rw [HRI2.out, HNR.out, HPB.out]; rfl), o5, ?_, ?_⟩
            · unfold noL
              rw [HRI2.out, HNR.out]
              exact HT5.out
            · exact HM4.out.trans HM5.out
        | true =>
          rw [hpb] at htk
          have HTK := Lib.hid htk
          have HPB := Lib.hid hpb
          clear htk hpb
          go_region_held3 (fun w' => w'.cell? ⟨q, 0, none⟩ = some (.int .i64 life) ∧ w'.cell? ⟨B, 0, none⟩ = some (.int .i64 p) ∧ w'.cell? ⟨B, 1, none⟩ = some (.int .u32 s) ∧ w'.cell? ⟨B, 2, none⟩ = some (.int .u32 d) ∧ w'.cell? ⟨B, 3, none⟩ = some (.int .i64 sp) ∧ w'.cell? ⟨B, 4, none⟩ = some (.int .i64 dp))
            (first | with_reducible exact HS4.out _ (TN.life0 HT4.out) HQ4.out | with_reducible exact HS4.out _ (TN.life0 HT5.out) HQ5.out | fail)
            (first
              | (go_at_call 24; (with_reducible refine (HTK.out _ HT4.out).mono ?_); rintro e w5 ⟨rfl, o5, hT5, hM5⟩; have HT5 := Lib.hid hT5; have HM5 := Lib.hid hM5; have HQ5 := Lib.hid (HQ4.out.chg hM5.1 HBN4.out); clear hT5 hM5)
              | fail)
          all_goals
            go_wp2_with fail
            go_ret
            refine ⟨ret_i12 (by unfold noA; rw [HRI2.out, HNR.out, HPB.out]; rfl), o5, ?_, ?_⟩
            · unfold noL
              rw [HRI2.out, HNR.out]
              exact HT5.out
            · exact HM4.out.trans HM5.out
      · have htn : (1099511627776 < t + life) = False := eq_false htl
        have htk := fun (W : World) (hT : TN 32 W q o4 life (ex12 t l)) => rtput_any hT HL16.out p s d sp dp (t + life)
        unfold rcC at htk
        have HNR := Lib.hid (show nr12 life t p s d sp dp = ⟨p, s, d, sp, dp, t + life⟩ by unfold nr12; congr 1; omega)
        have HS4 := Lib.hid (show ∀ W : World, W.cell? ⟨q, 0, none⟩ = some (.int .i64 life) → Blk W B 35 (flC p s d sp dp) → (W.cell? ⟨q, 0, none⟩ = some (.int .i64 life) ∧ W.cell? ⟨B, 0, none⟩ = some (.int .i64 p) ∧ W.cell? ⟨B, 1, none⟩ = some (.int .u32 s) ∧ W.cell? ⟨B, 2, none⟩ = some (.int .u32 d) ∧ W.cell? ⟨B, 3, none⟩ = some (.int .i64 sp) ∧ W.cell? ⟨B, 4, none⟩ = some (.int .i64 dp)) from fun W h1 h2 => ⟨h1, fl_cells h2⟩)
        go_wp2_with fail
        have HM4 : Hid (Mvd q o o4 w w9.drew) := Lib.hid ⟨HM4.out.1.drew, HM4.out.2⟩
        have HT4 : Hid (TN 32 w9.drew q o4 life (ex12 t l)) := Lib.hid HT4.out
        have HQ4 : Hid (Blk w9.drew B 35 (flC p s d sp dp)) := Lib.hid HQ4.out
        obtain ⟨s0, s1, s2, s3, s4, s5⟩ := HS4.out _ (TN.life0 HT4.out) HQ4.out
        cases hpb : pb12 (ex12 t l) ⟨p, s, d, sp, dp, t + life⟩ with
        | false =>
          rw [hpb] at htk
          have HTK := Lib.hid htk
          have HPB := Lib.hid hpb
          clear htk hpb
          go_region_held3 (fun w' => w'.cell? ⟨q, 0, none⟩ = some (.int .i64 life) ∧ w'.cell? ⟨B, 0, none⟩ = some (.int .i64 p) ∧ w'.cell? ⟨B, 1, none⟩ = some (.int .u32 s) ∧ w'.cell? ⟨B, 2, none⟩ = some (.int .u32 d) ∧ w'.cell? ⟨B, 3, none⟩ = some (.int .i64 sp) ∧ w'.cell? ⟨B, 4, none⟩ = some (.int .i64 dp))
            (first | with_reducible exact HS4.out _ (TN.life0 HT4.out) HQ4.out | with_reducible exact HS4.out _ (TN.life0 HT5.out) HQ5.out | fail)
            (first
              | (go_at_call 24; (with_reducible refine (HTK.out _ HT4.out).mono ?_); rintro e w5 ⟨rfl, o5, hT5, hM5⟩; have HT5 := Lib.hid hT5; have HM5 := Lib.hid hM5; have HQ5 := Lib.hid (HQ4.out.chg hM5.1 HBN4.out); clear hT5 hM5)
              | fail)
          all_goals
            go_wp2_with fail
            go_ret
            refine ⟨ret_i12 (by unfold noA; rw [HRI2.out, HNR.out, HPB.out]; rfl), o5, ?_, ?_⟩
            · unfold noL
              rw [HRI2.out, HNR.out]
              exact HT5.out
            · exact HM4.out.trans HM5.out
        | true =>
          rw [hpb] at htk
          have HTK := Lib.hid htk
          have HPB := Lib.hid hpb
          clear htk hpb
          go_region_held3 (fun w' => w'.cell? ⟨q, 0, none⟩ = some (.int .i64 life) ∧ w'.cell? ⟨B, 0, none⟩ = some (.int .i64 p) ∧ w'.cell? ⟨B, 1, none⟩ = some (.int .u32 s) ∧ w'.cell? ⟨B, 2, none⟩ = some (.int .u32 d) ∧ w'.cell? ⟨B, 3, none⟩ = some (.int .i64 sp) ∧ w'.cell? ⟨B, 4, none⟩ = some (.int .i64 dp))
            (first | with_reducible exact HS4.out _ (TN.life0 HT4.out) HQ4.out | with_reducible exact HS4.out _ (TN.life0 HT5.out) HQ5.out | fail)
            (first
              | (go_at_call 24; (with_reducible refine (HTK.out _ HT4.out).mono ?_); rintro e w5 ⟨rfl, o5, hT5, hM5⟩; have HT5 := Lib.hid hT5; have HM5 := Lib.hid hM5; have HQ5 := Lib.hid (HQ4.out.chg hM5.1 HBN4.out); clear hT5 hM5)
              | fail)
          all_goals
            go_wp2_with fail
            go_ret
            refine ⟨ret_i12 (by unfold noA; rw [HRI2.out, HNR.out, HPB.out]; rfl), o5, ?_, ?_⟩
            · unfold noL
              rw [HRI2.out, HNR.out]
              exact HT5.out
            · exact HM4.out.trans HM5.out
set_option maxRecDepth 100000 in
set_option maxHeartbeats 8000000 in
theorem rtimport_any {w : World} {q : Nat} {o : Option Nat} {life : Int} {l : List Rc} (h : TN 32 w q o life l) (h16 : l.length ≤ 16) (t : Int) (L : Option Addr) (m lc : Nat) (rs : List Rc) (S : Nat → Prop) (hr : RcR w S L m rs) (hS : ∀ k, S k → ¬ (k = q ∨ o = some k)) (hmc : m ≤ 9223372036854775806) : Calls Try.prog 11 #[.pointer (some ⟨q, 0, none⟩), .int .i64 t, .slice L m lc] w fun e w' => e = .returned (.int .i64 (imA t l rs : Int)) ∧ ∃ o', TN 32 w' q o' life (imL t l rs) ∧ Mvd q o o' w w' := by
  have HTM := Lib.hid (fun W => rtime12_any t W)
  have HRR := Lib.hid hr
  have HS := Lib.hid hS
  have HH := Lib.hid h
  have HRL := Lib.hid hr.1
  generalize htm : tmB t = b2 at *
  have HTB := Lib.hid htm
  clear h hr hS htm
  cases b2 with
  | false =>
    go_enter Try.func11, Try.ntmps11
    go_wp2_with fail
    refine (HTM.out _).mono ?_
    rintro e w3 ⟨rfl, rfl⟩
    go_wp2_with fail
    go_ret
    exact ⟨ret_i12 (by unfold imA; rw [HTB.out]; rfl), o, by unfold imL; rw [HTB.out]; exact HH.out, Mvd.refl _ _ _⟩
  | true =>
    have H16 := Lib.hid (ex12_len (t := t) h16)
    have HRE := Lib.hid (rtrecords_any HH.out h16 t)
    obtain ⟨LA, c, hbq, -, -, -⟩ := HH.out
    have HBQ := Lib.hid hbq
    clear hbq
    go_enter Try.func11, Try.ntmps11
    go_wp2_with fail
    refine (HTM.out _).mono ?_
    rintro e w3 ⟨rfl, rfl⟩
    go_wp2_with fail
    refine HRE.out.mono ?_
    rintro e w4 ⟨E, k, dd, rfl, hk, hown, hc⟩
    have HBQ4 := Lib.hid (HBQ.out.chg hc id)
    obtain ⟨o4, hT4, hM4⟩ := TN.fresh (o := o) HBQ4.out HBQ.out.lt hown hk (Chg.refl (fun _ => False) w) hc
    have HT4 := Lib.hid hT4
    have HM4 := Lib.hid hM4
    obtain ⟨c0, c1, f1⟩ := tb_cells HBQ4.out
    clear hT4 hM4 hown hc hk HRE
    go_upto_region 5 with fail
    generalize w4.setCell ⟨q, 1, none⟩ (.slice E k dd) = w9 at *
    clear c0 c1 f1
    go_wp2_with fail
    go_loopg [7, 8, 9, 10] m (fun g' s7 i s9 s10 wr => ∃ (j n : Nat) (o1 : Option Nat) (l1 : List Rc), g' = m - j ∧ j ≤ m ∧ i = .int .i64 (j : Int) ∧ s7 = .int .i64 (n : Int) ∧ n ≤ j ∧ Hid (imF t (ex12 t l) (rs.take j) = (l1, n)) ∧ Hid (TN 32 wr q o1 life l1) ∧ Hid (Mvd q o o1 w wr))
    case atStart => exact ⟨0, 0, o4, ex12 t l, rfl, Nat.zero_le _, rfl, rfl, Nat.le_refl _, Lib.hid rfl, HT4, HM4⟩
    case round =>
      obtain ⟨j, n, o1, l1, rfl, hj, rfl, rfl, hnj, HMF, HT, HM⟩ := hrel
      by_cases hlt : j < m
      · have hh := HRR.out.chg HM.out.1 HS.out
        obtain ⟨ad, rfl, -⟩ := hh.2 (by omega)
        have hjl : j < rs.length := by have := HRL.out; omega
        have hx : rs[j]? = some rs[j] := List.getElem?_eq_getElem hjl
        generalize rs[j] = x at *
        obtain ⟨z0, z1, z2, z3, z4, z5⟩ := hh.at hx
        have HIF := Lib.hid (imF_take (t := t) (l := ex12 t l) hx)
        have hri := fun W => rright4_any x.pr x.sr x.ds x.sp x.dp W
        unfold flC at hri
        cases hb : flR x.pr x.sp x.dp with
        | false =>
          have HIR := Lib.hid (show imR t x = false by unfold imR; rw [hb]; rfl)
          rw [hb] at hri
          have HRI := Lib.hid hri
          clear hri hb
          go_wp2_with fail
          refine (HRI.out _).mono ?_
          rintro e w5 ⟨rfl, hc⟩
          have HC := Lib.hid hc
          have hh5 := hh.chg hc (fun _ _ => id)
          clear hc z0 z1 z2 z3 z4 z5
          obtain ⟨z0, z1, z2, z3, z4, z5⟩ := hh5.at hx
          have HJ := Lib.hid hx
          clear hh5 hh hx hjl
          go_wp2_with fail
          go_roundg (m - (j + 1))
          case measure => omega
          case rel => exact ⟨j + 1, n, o1, l1, rfl, by omega, by go_num, by go_num, by omega, Lib.hid (by rw [HIF.out, HMF.out]; unfold imS; rw [HIR.out]; rfl), Lib.hid (HT.out.new HC.out), Lib.hid (HM.out.post HC.out)⟩
        | true =>
          rw [hb] at hri
          have HRI := Lib.hid hri
          have HFR := Lib.hid hb
          clear hri hb
          by_cases hlu : t < x.un
          case neg =>
            have HIR := Lib.hid (show imR t x = false by unfold imR lv12; simp [hlu])
            have hlu' : x.un ≤ t := by omega
            clear hlu
            go_wp2_with fail
            refine (HRI.out _).mono ?_
            rintro e w5 ⟨rfl, hc⟩
            have HC := Lib.hid hc
            have hh5 := hh.chg hc (fun _ _ => id)
            clear hc z0 z1 z2 z3 z4 z5
            obtain ⟨z0, z1, z2, z3, z4, z5⟩ := hh5.at hx
            have HJ := Lib.hid hx
            clear hh5 hh hx hjl
            go_wp2_with fail
            go_roundg (m - (j + 1))
            case measure => omega
            case rel => exact ⟨j + 1, n, o1, l1, rfl, by omega, by go_num, by go_num, by omega, Lib.hid (by rw [HIF.out, HMF.out]; unfold imS; rw [HIR.out]; rfl), Lib.hid (HT.out.new HC.out), Lib.hid (HM.out.post HC.out)⟩
          case pos =>
            have hlu' : ¬ x.un ≤ t := by omega
            by_cases hun : x.un ≤ 1099511627776
            · have HIR := Lib.hid (show imR t x = true by unfold imR lv12; rw [HFR.out]; simp [hlu, hun])
              have hun' : ¬ 1099511627776 < x.un := by omega
              clear hlu hun
              go_wp2_with fail
              refine (HRI.out _).mono ?_
              rintro e w5 ⟨rfl, hc⟩
              have HC := Lib.hid hc
              have hh5 := hh.chg hc (fun _ _ => id)
              clear hc z0 z1 z2 z3 z4 z5
              obtain ⟨z0, z1, z2, z3, z4, z5⟩ := hh5.at hx
              have HJ := Lib.hid hx
              clear hh5 hh hx hjl
              have h1 : l1.length ≤ 16 := by have h2 := imF_len (t := t) (l := ex12 t l) (rs := rs.take j) H16.out; rw [HMF.out] at h2; exact h2
              have htk := rtput_any (HT.out.new HC.out) h1 x.pr x.sr x.ds x.sp x.dp x.un
              replace htk : Calls _ _ _ w5 (fun e w' => e = .returned (.bool (pb12 l1 x)) ∧ ∃ o', TN 32 w' q o' life (pu12 l1 x) ∧ Mvd q o1 o' w5 w') := htk
              unfold rcC at htk
              clear h1
              cases hpb : pb12 l1 x with
              | false =>
                rw [hpb] at htk
                have HTK := Lib.hid htk
                have HPB := Lib.hid hpb
                clear htk hpb
                go_wp2_with fail
                refine HTK.out.mono ?_
                rintro e w7 ⟨rfl, o7, hT7, hM7⟩
                have HT7 := Lib.hid hT7
                have HM7 := Lib.hid ((HM.out.post HC.out).trans hM7)
                clear hT7 hM7 HTK
                go_wp2_with fail
                go_roundg (m - (j + 1))
                case measure => omega
                case rel => exact ⟨j + 1, n, o7, pu12 l1 x, rfl, by omega, by go_num, by go_num, by omega, Lib.hid (by rw [HIF.out, HMF.out]; unfold imS; rw [HIR.out, HPB.out]; rfl), Lib.hid (HT7.out), Lib.hid (HM7.out)⟩
              | true =>
                rw [hpb] at htk
                have HTK := Lib.hid htk
                have HPB := Lib.hid hpb
                clear htk hpb
                go_wp2_with fail
                refine HTK.out.mono ?_
                rintro e w7 ⟨rfl, o7, hT7, hM7⟩
                have HT7 := Lib.hid hT7
                have HM7 := Lib.hid ((HM.out.post HC.out).trans hM7)
                clear hT7 hM7 HTK
                go_wp2_with fail
                go_roundg (m - (j + 1))
                case measure => omega
                case rel => exact ⟨j + 1, n + 1, o7, pu12 l1 x, rfl, by omega, by go_num, by go_num, by omega, Lib.hid (by rw [HIF.out, HMF.out]; unfold imS; rw [HIR.out, HPB.out]; rfl), Lib.hid (HT7.out), Lib.hid (HM7.out)⟩
            · have HIR := Lib.hid (show imR t x = false by unfold imR; simp [hun])
              have hun' : 1099511627776 < x.un := by omega
              clear hlu hun
              go_wp2_with fail
              refine (HRI.out _).mono ?_
              rintro e w5 ⟨rfl, hc⟩
              have HC := Lib.hid hc
              have hh5 := hh.chg hc (fun _ _ => id)
              clear hc z0 z1 z2 z3 z4 z5
              obtain ⟨z0, z1, z2, z3, z4, z5⟩ := hh5.at hx
              have HJ := Lib.hid hx
              clear hh5 hh hx hjl
              go_wp2_with fail
              go_roundg (m - (j + 1))
              case measure => omega
              case rel => exact ⟨j + 1, n, o1, l1, rfl, by omega, by go_num, by go_num, by omega, Lib.hid (by rw [HIF.out, HMF.out]; unfold imS; rw [HIR.out]; rfl), Lib.hid (HT.out.new HC.out), Lib.hid (HM.out.post HC.out)⟩
      · have hjm : j = m := by omega
        subst hjm
        have e1 := Lib.hid (show imF t (ex12 t l) rs = (l1, n) by rw [← HMF.out, List.take_of_length_le (by have := HRL.out; omega)])
        go_wp2_with fail
        go_ret
        exact ⟨ret_i12 (by unfold imA; rw [HTB.out, e1.out]; rfl), o1, by unfold imL; rw [HTB.out, e1.out]; exact HT.out, HM.out⟩

end Go.Proofs.Ytclikcbgeolngaa
