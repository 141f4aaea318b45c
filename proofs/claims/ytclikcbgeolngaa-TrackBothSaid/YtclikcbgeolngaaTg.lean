/-
  Walks: track's New, Note, Records, each on nil too. Conditions: the table lies in memory, with at most 16 records.
-/
import Derived.Test.YtclikcbgeolngaaTf
namespace Go.Proofs.Ytclikcbgeolngaa
open Go.RowKit
set_option linter.unusedVariables false
set_option linter.unusedSimpArgs false

theorem ret_i12 {x y : Int} (h : x = y) : Ending.returned (.int .i64 y) = Ending.returned (.int .i64 x) := by rw [h]
theorem TN.life0 {T : TypeId} {w : World} {q : Nat} {o : Option Nat} {life : Int} {l : List Rc} (h : TN T w q o life l) : w.cell? ⟨q, 0, none⟩ = some (.int .i64 life) := by
  obtain ⟨A, c, hb, -⟩ := h
  exact (tb_cells hb).1
theorem Mvd.pre2 {q : Nat} {o o1 : Option Nat} {w w1 w2 : World} (h : Chg (fun k => k = q ∨ o = some k) w w1) (m : Mvd q o o1 w1 w2) : Mvd q o o1 w w2 := Mvd.trans ⟨h, .inl rfl⟩ m
set_option maxRecDepth 100000 in
set_option maxHeartbeats 400000 in
theorem tnew_bad (life : Int) (h : life < 1 ∨ 2147483648 < life) (w : World) : Calls Try.prog 7 #[.int .i64 life] w fun e w' => e = .returned (.tuple #[.pointer none, .int .i64 1]) ∧ w = w' := by
  by_cases h1 : life < 1
  · clear h
    go_enter Try.func7, Try.ntmps7
    go_wp2_with fail
    exact bodyPost_ret (v := .tuple #[.pointer none, .int .i64 1]) (by simp [results, Try.results7, go_sem]) rfl ⟨rfl, rfl⟩
  · have h2 : 2147483648 < life := h.resolve_left h1
    clear h
    go_enter Try.func7, Try.ntmps7
    go_wp2_with fail
    exact bodyPost_ret (v := .tuple #[.pointer none, .int .i64 1]) (by simp [results, Try.results7, go_sem]) rfl ⟨rfl, rfl⟩
set_option maxRecDepth 100000 in
set_option maxHeartbeats 400000 in
theorem tnew_ok (life : Int) (h1 : 1 ≤ life) (h2 : life ≤ 2147483648) (w : World) : Calls Try.prog 7 #[.int .i64 life] w fun e w' => e = .returned (.tuple #[.pointer (some ⟨w.heap.size, 0, none⟩), .int .i64 0]) ∧ w' = w.alloc (.cells (tbC life none 0 0) 51) := by
  have h3 : ¬ life < 1 := by omega
  have h4 : ¬ 2147483648 < life := by omega
  unfold tbC
  go_enter Try.func7, Try.ntmps7
  go_wp2_with fail
  exact bodyPost_ret (v := .tuple #[.pointer (some ⟨w.heap.size, 0, none⟩), .int .i64 0]) (by simp [results, Try.results7, go_sem]) rfl ⟨rfl, rfl⟩
set_option maxRecDepth 100000 in
set_option maxHeartbeats 4000000 in
theorem tnote_any {w : World} {q : Nat} {o : Option Nat} {life : Int} {l : List Rc} (h : TN 51 w q o life l) (h16 : l.length ≤ 16) (hl : 0 ≤ life ∧ life ≤ 2147483648) (p s d sp dp t : Int) : Calls Try.prog 8 #[.pointer (some ⟨q, 0, none⟩), .agg (flC p s d sp dp), .int .i64 t] w fun e w' => e = .returned (.int .i64 (noA life t l p s d sp dp)) ∧ ∃ o', TN 51 w' q o' life (noL life t l p s d sp dp) ∧ Mvd q o o' w w' := by
  have HX0 := Lib.hid ((Chg.refl (fun _ => False) w).alloc (.cells #[.int .i64 p, .int .u32 s, .int .u32 d, .int .i64 sp, .int .i64 dp] 35))
  have HQ0 : Hid (Blk (w.alloc (.cells #[.int .i64 p, .int .u32 s, .int .u32 d, .int .i64 sp, .int .i64 dp] 35)) w.heap.size 35 (flC p s d sp dp)) := Lib.hid (blk_new rfl)
  have HT := Lib.hid (h.new HX0.out)
  have HRI := Lib.hid (fun W => iright_any p s d sp dp W)
  have HTM := Lib.hid (fun W => ttimely_any t W)
  have HBN := Lib.hid (show ¬ (w.heap.size = q ∨ o = some w.heap.size) from fun e => by
    have h1 := h.lt
    rcases e with e | e
    · omega
    · have := h1.2 _ e
      omega)
  have HQN := Lib.hid h.lt.1
  clear h
  unfold flC
  unfold flC at HRI
  generalize hfr : flR p sp dp = b1 at *
  have HFR := Lib.hid hfr
  clear hfr
  cases b1 with
  | false =>
    go_enter Try.func8, Try.ntmps8
    go_upto_region 1 with fail
    generalize (w.alloc (.cells #[.int .i64 p, .int .u32 s, .int .u32 d, .int .i64 sp, .int .i64 dp] 35)) = w1 at *
    generalize w.heap.size = B at *
    obtain ⟨y0, y1, y2, y3, y4⟩ := fl_cells HQ0.out
    go_wp2_with fail
    refine (HRI.out _).mono ?_
    rintro e w2 ⟨rfl, hc⟩
    have HX2 := Lib.hid (HX0.out.trans hc (fun _ _ e => e))
    have HQ2 := Lib.hid (HQ0.out.chg hc id)
    have HT2 := Lib.hid (HT.out.new hc)
    clear hc y0 y1 y2 y3 y4
    go_wp2_with fail
    go_ret
    exact ⟨ret_i12 (by unfold noA; rw [HFR.out]; rfl), o, by unfold noL; rw [HFR.out]; exact HT2.out, ⟨HX2.out.mono (fun _ _ e => e.elim), .inl rfl⟩⟩
  | true =>
    generalize htm : tmB t = b2 at *
    have HTB := Lib.hid htm
    cases b2 with
    | false =>
      clear htm
      go_enter Try.func8, Try.ntmps8
      go_upto_region 1 with fail
      generalize (w.alloc (.cells #[.int .i64 p, .int .u32 s, .int .u32 d, .int .i64 sp, .int .i64 dp] 35)) = w1 at *
      generalize w.heap.size = B at *
      obtain ⟨y0, y1, y2, y3, y4⟩ := fl_cells HQ0.out
      go_wp2_with fail
      refine (HRI.out _).mono ?_
      rintro e w2 ⟨rfl, hc⟩
      have HX2 := Lib.hid (HX0.out.trans hc (fun _ _ e => e))
      have HQ2 := Lib.hid (HQ0.out.chg hc id)
      have HT2 := Lib.hid (HT.out.new hc)
      clear hc y0 y1 y2 y3 y4
      go_wp2_with fail
      refine (HTM.out _).mono ?_
      rintro e w3 ⟨rfl, rfl⟩
      go_wp2_with fail
      go_ret
      exact ⟨ret_i12 (by unfold noA; rw [HFR.out, HTB.out]; rfl), o, by unfold noL; rw [HFR.out, HTB.out]; exact HT2.out, ⟨HX2.out.mono (fun _ _ e => e.elim), .inl rfl⟩⟩
    | true =>
      have htt : 0 ≤ t ∧ t ≤ 1099511627776 := by simpa [tmB] using htm
      clear htm
      have HRI2 := Lib.hid (show (flR p sp dp && tmB t) = true by rw [HFR.out, HTB.out]; rfl)
      have HL16 := Lib.hid (ex12_len (t := t) h16)
      have hwr : IntKind.i64.wrap (t + life) = t + life := IntWalk.i64_in _ (by omega)
      go_enter Try.func8, Try.ntmps8
      go_upto_region 1 with fail
      generalize (w.alloc (.cells #[.int .i64 p, .int .u32 s, .int .u32 d, .int .i64 sp, .int .i64 dp] 35)) = w1 at *
      generalize w.heap.size = B at *
      obtain ⟨y0, y1, y2, y3, y4⟩ := fl_cells HQ0.out
      go_wp2_with fail
      refine (HRI.out _).mono ?_
      rintro e w2 ⟨rfl, hc⟩
      have HX2 := Lib.hid (HX0.out.trans hc (fun _ _ e => e))
      have HQ2 := Lib.hid (HQ0.out.chg hc id)
      have HT2 := Lib.hid (HT.out.new hc)
      clear hc y0 y1 y2 y3 y4
      go_wp2_with fail
      refine (HTM.out _).mono ?_
      rintro e w3 ⟨rfl, rfl⟩
      have HEX := Lib.hid (texpire_any HT2.out t)
      go_wp2_with fail
      refine HEX.out.mono ?_
      rintro e w4 ⟨rfl, hT4, hc4⟩
      have HT4 := Lib.hid hT4
      have HQ4 := Lib.hid (HQ2.out.chg hc4 HBN.out)
      have HC4 := Lib.hid ((HX2.out.mono (S' := fun k => k = q ∨ o = some k) (fun _ _ e => e.elim)).trans hc4 (fun _ _ e => e))
      clear hT4 hc4 HEX
      by_cases htl : 1099511627776 < t + life
      · skip
        have htk := fun (W : World) (hT : TN 51 W q o life (ex12 t l)) => ttake_any hT HL16.out p s d sp dp 1099511627776
        unfold rcC at htk
        have HNR := Lib.hid (show nr12 life t p s d sp dp = ⟨p, s, d, sp, dp, 1099511627776⟩ by unfold nr12; congr 1; omega)
        have HS4 := Lib.hid (show ∀ W : World, W.cell? ⟨q, 0, none⟩ = some (.int .i64 life) → Blk W B 35 (flC p s d sp dp) → (W.cell? ⟨q, 0, none⟩ = some (.int .i64 life) ∧ W.cell? ⟨B, 0, none⟩ = some (.int .i64 p) ∧ W.cell? ⟨B, 1, none⟩ = some (.int .u32 s) ∧ W.cell? ⟨B, 2, none⟩ = some (.int .u32 d) ∧ W.cell? ⟨B, 3, none⟩ = some (.int .i64 sp) ∧ W.cell? ⟨B, 4, none⟩ = some (.int .i64 dp)) from fun W h1 h2 => ⟨h1, fl_cells h2⟩)
        go_wp2_with fail
        have HT4 : Hid (TN 51 w4.drew q o life (ex12 t l)) := Lib.hid HT4.out
        have HQ4 : Hid (Blk w4.drew B 35 (flC p s d sp dp)) := Lib.hid HQ4.out
        have hS0 := HS4.out _ (TN.life0 HT4.out) HQ4.out
        obtain ⟨s0, s1, s2, s3, s4, s5⟩ := hS0
        cases hpb : pb12 (ex12 t l) ⟨p, s, d, sp, dp, 1099511627776⟩ with
        | false =>
          rw [hpb] at htk
          have HTK := Lib.hid htk
          have HPB := Lib.hid hpb
          clear htk hpb
          go_region_held3 (fun w' => w'.cell? ⟨q, 0, none⟩ = some (.int .i64 life) ∧ w'.cell? ⟨B, 0, none⟩ = some (.int .i64 p) ∧ w'.cell? ⟨B, 1, none⟩ = some (.int .u32 s) ∧ w'.cell? ⟨B, 2, none⟩ = some (.int .u32 d) ∧ w'.cell? ⟨B, 3, none⟩ = some (.int .i64 sp) ∧ w'.cell? ⟨B, 4, none⟩ = some (.int .i64 dp))
            (first | with_reducible exact HS4.out _ (TN.life0 HT4.out) HQ4.out | with_reducible exact HS4.out _ (TN.life0 HT5.out) HQ5.out | fail)
            (first
              | (go_at_call 21; (with_reducible refine (HTK.out _ HT4.out).mono ?_); rintro e w5 ⟨rfl, o5, hT5, hM5⟩; have HT5 := Lib.hid hT5; have HM5 := Lib.hid hM5; have HQ5 := Lib.hid (HQ4.out.chg hM5.1 HBN.out); clear hT5 hM5)
              | fail)
          all_goals
            go_wp2_with fail
            go_ret
            refine ⟨ret_i12 (by unfold noA; rw [HRI2.out, HNR.out, HPB.out]; rfl), o5, ?_, ?_⟩
            · unfold noL
              rw [HRI2.out, HNR.out]
              exact HT5.out
            · exact Mvd.pre2 HC4.out.drew HM5.out
        | true =>
          rw [hpb] at htk
          have HTK := Lib.hid htk
          have HPB := Lib.hid hpb
          clear htk hpb
          go_region_held3 (fun w' => w'.cell? ⟨q, 0, none⟩ = some (.int .i64 life) ∧ w'.cell? ⟨B, 0, none⟩ = some (.int .i64 p) ∧ w'.cell? ⟨B, 1, none⟩ = some (.int .u32 s) ∧ w'.cell? ⟨B, 2, none⟩ = some (.int .u32 d) ∧ w'.cell? ⟨B, 3, none⟩ = some (.int .i64 sp) ∧ w'.cell? ⟨B, 4, none⟩ = some (.int .i64 dp))
            (first | with_reducible exact HS4.out _ (TN.life0 HT4.out) HQ4.out | with_reducible exact HS4.out _ (TN.life0 HT5.out) HQ5.out | fail)
            (first
              | (go_at_call 21; (with_reducible refine (HTK.out _ HT4.out).mono ?_); rintro e w5 ⟨rfl, o5, hT5, hM5⟩; have HT5 := Lib.hid hT5; have HM5 := Lib.hid hM5; have HQ5 := Lib.hid (HQ4.out.chg hM5.1 HBN.out); clear hT5 hM5)
              | fail)
          all_goals
            go_wp2_with fail
            go_ret
            refine ⟨ret_i12 (by unfold noA; rw [HRI2.out, HNR.out, HPB.out]; rfl), o5, ?_, ?_⟩
            · unfold noL
              rw [HRI2.out, HNR.out]
              exact HT5.out
            · exact Mvd.pre2 HC4.out.drew HM5.out
      · have htn : (1099511627776 < t + life) = False := eq_false htl
        have htk := fun (W : World) (hT : TN 51 W q o life (ex12 t l)) => ttake_any hT HL16.out p s d sp dp (t + life)
        unfold rcC at htk
        have HNR := Lib.hid (show nr12 life t p s d sp dp = ⟨p, s, d, sp, dp, t + life⟩ by unfold nr12; congr 1; omega)
        have HS4 := Lib.hid (show ∀ W : World, W.cell? ⟨q, 0, none⟩ = some (.int .i64 life) → Blk W B 35 (flC p s d sp dp) → (W.cell? ⟨q, 0, none⟩ = some (.int .i64 life) ∧ W.cell? ⟨B, 0, none⟩ = some (.int .i64 p) ∧ W.cell? ⟨B, 1, none⟩ = some (.int .u32 s) ∧ W.cell? ⟨B, 2, none⟩ = some (.int .u32 d) ∧ W.cell? ⟨B, 3, none⟩ = some (.int .i64 sp) ∧ W.cell? ⟨B, 4, none⟩ = some (.int .i64 dp)) from fun W h1 h2 => ⟨h1, fl_cells h2⟩)
        go_wp2_with fail
        have HT4 : Hid (TN 51 w4.drew q o life (ex12 t l)) := Lib.hid HT4.out
        have HQ4 : Hid (Blk w4.drew B 35 (flC p s d sp dp)) := Lib.hid HQ4.out
        have hS0 := HS4.out _ (TN.life0 HT4.out) HQ4.out
        obtain ⟨s0, s1, s2, s3, s4, s5⟩ := hS0
        cases hpb : pb12 (ex12 t l) ⟨p, s, d, sp, dp, t + life⟩ with
        | false =>
          rw [hpb] at htk
          have HTK := Lib.hid htk
          have HPB := Lib.hid hpb
          clear htk hpb
          go_region_held3 (fun w' => w'.cell? ⟨q, 0, none⟩ = some (.int .i64 life) ∧ w'.cell? ⟨B, 0, none⟩ = some (.int .i64 p) ∧ w'.cell? ⟨B, 1, none⟩ = some (.int .u32 s) ∧ w'.cell? ⟨B, 2, none⟩ = some (.int .u32 d) ∧ w'.cell? ⟨B, 3, none⟩ = some (.int .i64 sp) ∧ w'.cell? ⟨B, 4, none⟩ = some (.int .i64 dp))
            (first | with_reducible exact HS4.out _ (TN.life0 HT4.out) HQ4.out | with_reducible exact HS4.out _ (TN.life0 HT5.out) HQ5.out | fail)
            (first
              | (go_at_call 21; (with_reducible refine (HTK.out _ HT4.out).mono ?_); rintro e w5 ⟨rfl, o5, hT5, hM5⟩; have HT5 := Lib.hid hT5; have HM5 := Lib.hid hM5; have HQ5 := Lib.hid (HQ4.out.chg hM5.1 HBN.out); clear hT5 hM5)
              | fail)
          all_goals
            go_wp2_with fail
            go_ret
            refine ⟨ret_i12 (by unfold noA; rw [HRI2.out, HNR.out, HPB.out]; rfl), o5, ?_, ?_⟩
            · unfold noL
              rw [HRI2.out, HNR.out]
              exact HT5.out
            · exact Mvd.pre2 HC4.out.drew HM5.out
        | true =>
          rw [hpb] at htk
          have HTK := Lib.hid htk
          have HPB := Lib.hid hpb
          clear htk hpb
          go_region_held3 (fun w' => w'.cell? ⟨q, 0, none⟩ = some (.int .i64 life) ∧ w'.cell? ⟨B, 0, none⟩ = some (.int .i64 p) ∧ w'.cell? ⟨B, 1, none⟩ = some (.int .u32 s) ∧ w'.cell? ⟨B, 2, none⟩ = some (.int .u32 d) ∧ w'.cell? ⟨B, 3, none⟩ = some (.int .i64 sp) ∧ w'.cell? ⟨B, 4, none⟩ = some (.int .i64 dp))
            (first | with_reducible exact HS4.out _ (TN.life0 HT4.out) HQ4.out | with_reducible exact HS4.out _ (TN.life0 HT5.out) HQ5.out | fail)
            (first
              | (go_at_call 21; (with_reducible refine (HTK.out _ HT4.out).mono ?_); rintro e w5 ⟨rfl, o5, hT5, hM5⟩; have HT5 := Lib.hid hT5; have HM5 := Lib.hid hM5; have HQ5 := Lib.hid (HQ4.out.chg hM5.1 HBN.out); clear hT5 hM5)
              | fail)
          all_goals
            go_wp2_with fail
            go_ret
            refine ⟨ret_i12 (by unfold noA; rw [HRI2.out, HNR.out, HPB.out]; rfl), o5, ?_, ?_⟩
            · unfold noL
              rw [HRI2.out, HNR.out]
              exact HT5.out
            · exact Mvd.pre2 HC4.out.drew HM5.out

end Go.Proofs.Ytclikcbgeolngaa
