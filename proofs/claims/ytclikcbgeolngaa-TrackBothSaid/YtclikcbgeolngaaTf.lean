/-
  Walks: track's expire, take. Conditions: the table lies in memory, with at most 16 records.
-/
import Derived.Test.YtclikcbgeolngaaTe
import Derived.Deep.RegionLaw
namespace Go.Proofs.Ytclikcbgeolngaa
open Go.RowKit
set_option linter.unusedVariables false
set_option linter.unusedSimpArgs false

theorem TN.cells {T : TypeId} {w : World} {q : Nat} {o : Option Nat} {life : Int} {l : List Rc} (h : TN T w q o life l) : ∃ A c, w.cell? ⟨q, 0, none⟩ = some (.int .i64 life) ∧ w.cell? ⟨q, 1, none⟩ = some (.slice A l.length c) ∧ w.frozen? ⟨q, 1, none⟩ = false ∧ w.ownsRow 0 48 6 (.slice A l.length c) l.length (rcF l) ∧ A.map (·.block) = o ∧ o ≠ some q := by
  obtain ⟨A, c, hb, hown, h1, h2⟩ := h
  obtain ⟨c0, c1, f1⟩ := tb_cells hb
  exact ⟨A, c, c0, c1, f1, hown, h1, h2⟩
/-- Behind an append of a record onto a table's row, and the store of what it gave. -/
theorem TN.pushed {T : TypeId} {w0 w4 w5 : World} {q m c c5 : Nat} {o : Option Nat} {life : Int} {l : List Rc} {LA A5 : Option Addr} (r : Rc) (hb : Blk w0 q T (tbC life LA m c)) (hA : LA.map (·.block) = o) (hoq : o ≠ some q) (hl : l.length = m) (hc : Chg (fun _ => False) w0 w4)
    (hg : w4.grownBy w5 (Value.slice LA m c).ownBlock) (hat : (Value.slice A5 (m + 1) c5).ownBlock = (Value.slice LA m c).ownBlock ∨ (Value.slice A5 (m + 1) c5).ownBlock = some w4.heap.size)
    (hown : w5.ownsRow 0 48 6 (.slice A5 (m + 1) c5) (m + 1) (rcF l ++ r.cs.toList)) :
    (w5.cell? ⟨q, 0, none⟩ = some (.int .i64 life) ∧ w5.cell? ⟨q, 1, none⟩ = some (.slice LA m c) ∧ w5.frozen? ⟨q, 1, none⟩ = false) ∧ TN T (w5.setCell ⟨q, 1, none⟩ (.slice A5 (m + 1) c5)) q (A5.map (·.block)) life (l ++ [r]) ∧ Mvd q o (A5.map (·.block)) w0 (w5.setCell ⟨q, 1, none⟩ (.slice A5 (m + 1) c5)) := by
  rw [own_block, own_block, hA] at hat
  rw [own_block, hA] at hg
  have hq := hb.lt
  have hz := hc.size
  have hb5 := blk_grown (hb.chg hc id) hg hoq
  have hne : A5.map (·.block) ≠ some q := by
    rcases hat with e | e
    · rw [e]; exact hoq
    · rw [e]
      intro e
      injection e with e
      omega
  have hown' : w5.ownsRow 0 48 6 (.slice A5 (m + 1) c5) (m + 1) (rcF (l ++ [r])) := by
    rw [rcF_app]
    have e : rcF [r] = r.cs.toList := by simp [rcF]
    rw [e]
    exact hown
  refine ⟨tb_cells hb5, TN.put hb5 hown' (by simp [hl]) hne, ⟨((hc.mono (fun _ _ h => h.elim)).grown hg (fun k hk _ => .inr hk)).put q 1 (fun _ => .inl rfl) _, ?_⟩⟩
  rcases hat with e | e
  · exact .inl e
  · exact .inr (.inr ⟨_, e, hz⟩)
set_option maxRecDepth 100000 in
set_option maxHeartbeats 2000000 in
theorem texpire_any {w : World} {q : Nat} {o : Option Nat} {life : Int} {l : List Rc} (h : TN 51 w q o life l) (t : Int) : Calls Try.prog 20 #[.pointer (some ⟨q, 0, none⟩), .int .i64 t] w fun e w' => e = .returned (.tuple #[]) ∧ TN 51 w' q o life (ex12 t l) ∧ Chg (fun k => k = q ∨ o = some k) w w' := by
  obtain ⟨LA, c, hb, hown, hA, hoq⟩ := h
  have HX0 := Lib.hid ((Chg.refl (fun _ => False) w).alloc (.cells #[.int .i64 t] 3))
  have HB0 : Hid (Blk (w.alloc (.cells #[.int .i64 t] 3)) w.heap.size 3 #[.int .i64 t]) := Lib.hid (blk_new rfl)
  have hw0 := hb.lt
  have HA := Lib.hid hA
  have HOQ := Lib.hid hoq
  have hol : ∀ k, o = some k → k < w.heap.size := fun k hk => (own_low hown (by rw [hA]; exact hk)).2
  have HP := Lib.hid (hb.chg HX0.out id)
  have HD := Lib.hid (tdelete_any (own_chg hown HX0.out (fun _ _ => id)) rfl HB0.out (by rw [hA]; intro e; have := hol _ e; omega))
  generalize hm : l.length = m at *
  clear hb hown hA hoq hol hm
  go_enter Try.func20, Try.ntmps20
  go_upto_region 1 with fail
  generalize w.alloc (.cells #[.int .i64 t] 3) = w1 at *
  obtain ⟨c0, c1, f1⟩ := tb_cells HP.out
  go_wp2_with fail
  refine HD.out.mono ?_
  rintro e w2 ⟨k, rfl, hk, hown, hc⟩
  have hc' : Chg (fun k => o = some k) w1 w2 := by rw [← HA.out]; exact hc
  have HP2 := Lib.hid (HP.out.chg hc' HOQ.out)
  have HR := Lib.hid (TN.put HP2.out hown hk (by rw [HA.out]; exact HOQ.out))
  have HC := Lib.hid ((HX0.out.mono (S' := fun k => k = q ∨ o = some k) (fun _ _ e => e.elim)).trans ((hc'.mono (S' := fun k => k = q ∨ o = some k) (fun _ _ e => .inr e)).put q 1 (fun _ => .inl rfl) (.slice LA k c)) (fun _ _ e => e))
  have HK := Lib.hid hk
  clear c0 c1 f1 hown hc hc' hk
  obtain ⟨c0, c1, f1⟩ := tb_cells HP2.out
  go_wp2_with fail
  exact bodyPost_end (results_none rfl _ _ _) rfl ⟨rfl, by rw [← HA.out]; exact HR.out, HC.out⟩
set_option maxRecDepth 100000 in
set_option maxHeartbeats 8000000 in
theorem ttake_any {w : World} {q : Nat} {o : Option Nat} {life : Int} {l : List Rc} (h : TN 51 w q o life l) (h16 : l.length ≤ 16) (p s d sp dp un : Int) : Calls Try.prog 21 #[.pointer (some ⟨q, 0, none⟩), .agg (rcC p s d sp dp un)] w fun e w' => e = .returned (.bool (pb12 l (⟨p, s, d, sp, dp, un⟩ : Rc))) ∧ ∃ o', TN 51 w' q o' life (pu12 l (⟨p, s, d, sp, dp, un⟩ : Rc)) ∧ Mvd q o o' w w' := by
  obtain ⟨i0, hi0, hz0, hz1, hz2⟩ := info_parts infoRc12
  obtain ⟨LA, c, hb, hown, hA, hoq⟩ := h
  have HX0 := Lib.hid ((Chg.refl (fun _ => False) w).alloc (.cells #[.int .i64 p, .int .u32 s, .int .u32 d, .int .i64 sp, .int .i64 dp, .int .i64 un] 48))
  have HB0 : Hid (Blk (w.alloc (.cells #[.int .i64 p, .int .u32 s, .int .u32 d, .int .i64 sp, .int .i64 dp, .int .i64 un] 48)) w.heap.size 48 (rcC p s d sp dp un)) := Lib.hid (blk_new rfl)
  have hq0 := hb.lt
  have HA := Lib.hid hA
  have HOQ := Lib.hid hoq
  have hol : ∀ k, o = some k → k < w.heap.size := fun k hk => (own_low hown (by rw [hA]; exact hk)).2
  have HOL := Lib.hid hol
  have HP := Lib.hid (hb.chg HX0.out id)
  have HO := Lib.hid (own_chg hown HX0.out (fun _ _ => id))
  have HR := Lib.hid (own_rcr HO.out rfl)
  have hcap := own_cap hown
  have HCAP := Lib.hid hcap
  generalize hm : l.length = m at *
  have HL := Lib.hid hm
  clear hb hown hA hoq hol hm hcap
  unfold rcC
  go_enter Try.func21, Try.ntmps21
  go_upto_region 1 with fail
  generalize (w.alloc (.cells #[.int .i64 p, .int .u32 s, .int .u32 d, .int .i64 sp, .int .i64 dp, .int .i64 un] 48)) = w1 at *
  generalize w.heap.size = B at *
  obtain ⟨c0, c1, f1⟩ := tb_cells HP.out
  go_wp2_with fail
  go_loopg [5, 6, 12] m (fun g' s5 s6 i wr => ∃ j : Nat, g' = m - j ∧ j ≤ m ∧ i = .int .i64 (j : Int) ∧ Hid (∀ (i : Nat) (y : Rc), i < j → l[i]? = some y → al12 y (⟨p, s, d, sp, dp, un⟩ : Rc) = false) ∧ Hid (Chg (fun _ => False) w1 wr))
  case atStart => exact ⟨0, rfl, Nat.zero_le _, rfl, Lib.hid (fun i x hi => absurd hi (by omega)), Lib.hid (Chg.refl _ _)⟩
  case round =>
    obtain ⟨j, rfl, hj, rfl, HN, HX⟩ := hrel
    by_cases hlt : j < m
    · obtain ⟨g, rfl⟩ := own_form12 HO.out (by omega)
      have hjl : j < l.length := by have := HL.out; omega
      have hx : l[j]? = some l[j] := List.getElem?_eq_getElem hjl
      generalize l[j] = x at *
      have HOr := Lib.hid (own_chg HO.out HX.out (fun _ _ => id))
      obtain ⟨z0, z1, z2, z3, z4, z5⟩ := own_at12 HOr.out hx
      have HJ := Lib.hid hx
      clear hx hjl c0 c1 f1
      have HXB : Hid (Blk (wr.alloc (.cells #[.int .i64 x.pr, .int .u32 x.sr, .int .u32 x.ds, .int .i64 x.sp, .int .i64 x.dp, .int .i64 x.un] 48)) wr.heap.size 48 (rcC x.pr x.sr x.ds x.sp x.dp x.un)) := Lib.hid (blk_new rfl)
      have HC0 := Lib.hid (HX.out.alloc (.cells #[.int .i64 x.pr, .int .u32 x.sr, .int .u32 x.ds, .int .i64 x.sp, .int .i64 x.dp, .int .i64 x.un] 48))
      have HB1 := Lib.hid (HB0.out.chg HC0.out id)
      obtain ⟨x0, x1, x2, x3, x4, x5⟩ := rc_cells HXB.out
      obtain ⟨y0, y1, y2, y3, y4, y5⟩ := rc_cells HB1.out
      have HAL := Lib.hid (show ∀ W, Calls _ _ _ W _ from fun W => talike_any x.pr x.sr x.ds x.sp x.dp p s d sp dp W)
      have hal : alB x.pr x.sr x.ds x.sp x.dp p s d sp dp = al12 x (⟨p, s, d, sp, dp, un⟩ : Rc) := rfl
      rw [hal] at HAL
      clear hal
      unfold flC at HAL
      cases hb : al12 x (⟨p, s, d, sp, dp, un⟩ : Rc) with
      | false =>
        rw [hb] at HAL
        have HBF := Lib.hid hb
        clear hb
        go_wp2_with fail
        refine (HAL.out _).mono ?_
        rintro e w2 ⟨rfl, hc1⟩
        have HX2 := Lib.hid (HC0.out.trans hc1 (fun _ _ e => e))
        clear hc1
        go_wp2_with fail
        go_roundg (m - (j + 1))
        case measure => omega
        case rel =>
          refine ⟨j + 1, rfl, by omega, by go_num, Lib.hid (fun i y hi hy => ?_), HX2⟩
          by_cases e : i < j
          · exact HN.out i y e hy
          · have : i = j := by omega
            subst this
            have := HJ.out
            rw [hy] at this
            injection this with this
            subst this
            exact HBF.out
      | true =>
        rw [hb] at HAL
        have HPU := Lib.hid (pu12_at HJ.out hb HN.out)
        clear hb
        have HG := Lib.hid (show o = some g from HA.out.symm)
        have HQG := Lib.hid (show q ≠ g from fun e => HOQ.out (by rw [HG.out, e]))
        have hwr := HX.out.size
        have hw1 := HO.out
        have hB1 := HB0.out.lt
        go_wp2_with fail
        refine (HAL.out _).mono ?_
        rintro e w2 ⟨rfl, hc1⟩
        have HX2 := Lib.hid (HC0.out.trans hc1 (fun _ _ e => e))
        have HXB2 := Lib.hid (HXB.out.chg hc1 id)
        have HB2 := Lib.hid (HB0.out.chg HX2.out id)
        have HP2 := HP
        have HP3 := Lib.hid (HP.out.chg HX2.out id)
        have HO2 := Lib.hid (own_chg HO.out HX2.out (fun _ _ => id))
        clear hc1 x0 x1 x2 x3 x4 x5 y0 y1 y2 y3 y4 y5 z0 z1 z2 z3 z4 z5 hw1
        obtain ⟨-, -, -, -, -, x5⟩ := rc_cells HXB2.out
        obtain ⟨-, -, -, -, -, y5⟩ := rc_cells HB2.out
        obtain ⟨c0, c1, f1⟩ := tb_cells HP3.out
        obtain ⟨-, -, -, -, -, z5⟩ := own_at12 HO2.out HJ.out
        have f5 := own_free12 HO2.out (j * 6 + 5)
        rcases Int.lt_trichotomy x.un un with hmax | hmax | hmax
        · skip
          have HP := Lib.hid (own_cell12 HO2.out (j * 6 + 5) (.int .i64 (un)))
          have hmx : max x.un un = un := by omega
          have HST := Lib.hid (show rcF (l.set j (mx12 x (⟨p, s, d, sp, dp, un⟩ : Rc))) = (rcF l).set (j * 6 + 5) (.int .i64 (un)) by rw [mx12_set _ HJ.out]; simp [hmx])
          have HC3 : Hid (Chg (fun k => k = q ∨ o = some k) w1 (w2.setCell ⟨g, j * 6 + 5, none⟩ (.int .i64 (un)))) := Lib.hid ((HX2.out.mono (fun _ _ e => e.elim)).put g _ (fun _ => .inr HG.out) _)
          clear hmx
          go_wp2_with fail
          go_region
          all_goals (try (exfalso; omega))
          all_goals go_wp2_with fail
          all_goals (try (exfalso; omega))
          all_goals
            go_ret
            refine ⟨ret_b HPU.out.2.symm, o, ?_, ⟨(HX0.out.mono (fun _ _ e => e.elim)).trans HC3.out.drew (fun _ _ e => e), .inl rfl⟩⟩
            rw [HPU.out.1]
            refine ⟨some ⟨g, 0, none⟩, c, ?_, ?_, HG.out.symm, HOQ.out⟩
            · rw [List.length_set, HL.out]
              exact ((HP2.out.chg HX2.out id).chg ((Chg.refl (fun k => k = g) w2).put g _ (fun _ => rfl) _) HQG.out).drew
            · rw [HST.out, List.length_set, HL.out]
              exact HP.out.drew
        · subst hmax
          have HP := Lib.hid (own_cell12 HO2.out (j * 6 + 5) (.int .i64 (x.un)))
          have hmx : max x.un x.un = x.un := by omega
          have HST := Lib.hid (show rcF (l.set j (mx12 x (⟨p, s, d, sp, dp, x.un⟩ : Rc))) = (rcF l).set (j * 6 + 5) (.int .i64 (x.un)) by rw [mx12_set _ HJ.out]; simp [hmx])
          have HC3 : Hid (Chg (fun k => k = q ∨ o = some k) w1 (w2.setCell ⟨g, j * 6 + 5, none⟩ (.int .i64 (x.un)))) := Lib.hid ((HX2.out.mono (fun _ _ e => e.elim)).put g _ (fun _ => .inr HG.out) _)
          clear hmx
          go_wp2_with fail
          go_region
          all_goals (try (exfalso; omega))
          all_goals go_wp2_with fail
          all_goals (try (exfalso; omega))
          all_goals
            go_ret
            refine ⟨ret_b HPU.out.2.symm, o, ?_, ⟨(HX0.out.mono (fun _ _ e => e.elim)).trans HC3.out.drew (fun _ _ e => e), .inl rfl⟩⟩
            rw [HPU.out.1]
            refine ⟨some ⟨g, 0, none⟩, c, ?_, ?_, HG.out.symm, HOQ.out⟩
            · rw [List.length_set, HL.out]
              exact ((HP2.out.chg HX2.out id).chg ((Chg.refl (fun k => k = g) w2).put g _ (fun _ => rfl) _) HQG.out).drew
            · rw [HST.out, List.length_set, HL.out]
              exact HP.out.drew
        · skip
          have HP := Lib.hid (own_cell12 HO2.out (j * 6 + 5) (.int .i64 (x.un)))
          have hmx : max x.un un = x.un := by omega
          have HST := Lib.hid (show rcF (l.set j (mx12 x (⟨p, s, d, sp, dp, un⟩ : Rc))) = (rcF l).set (j * 6 + 5) (.int .i64 (x.un)) by rw [mx12_set _ HJ.out]; simp [hmx])
          have HC3 : Hid (Chg (fun k => k = q ∨ o = some k) w1 (w2.setCell ⟨g, j * 6 + 5, none⟩ (.int .i64 (x.un)))) := Lib.hid ((HX2.out.mono (fun _ _ e => e.elim)).put g _ (fun _ => .inr HG.out) _)
          clear hmx
          go_wp2_with fail
          go_region
          all_goals (try (exfalso; omega))
          all_goals go_wp2_with fail
          all_goals (try (exfalso; omega))
          all_goals
            go_ret
            refine ⟨ret_b HPU.out.2.symm, o, ?_, ⟨(HX0.out.mono (fun _ _ e => e.elim)).trans HC3.out.drew (fun _ _ e => e), .inl rfl⟩⟩
            rw [HPU.out.1]
            refine ⟨some ⟨g, 0, none⟩, c, ?_, ?_, HG.out.symm, HOQ.out⟩
            · rw [List.length_set, HL.out]
              exact ((HP2.out.chg HX2.out id).chg ((Chg.refl (fun k => k = g) w2).put g _ (fun _ => rfl) _) HQG.out).drew
            · rw [HST.out, List.length_set, HL.out]
              exact HP.out.drew
    · have hjm : j = m := by omega
      subst hjm
      have HNN := Lib.hid (show ∀ (i : Nat) (y : Rc), i < l.length → l[i]? = some y → al12 y (⟨p, s, d, sp, dp, un⟩ : Rc) = false from fun i y hi hy => HN.out i y (by have := HL.out; omega) hy)
      clear c0 c1 f1
      have HP3 := Lib.hid (HP.out.chg HX.out id)
      have HO2 := Lib.hid (own_chg HO.out HX.out (fun _ _ => id))
      have HB2 := Lib.hid (HB0.out.chg HX.out id)
      obtain ⟨c0, c1, f1⟩ := tb_cells HP3.out
      obtain ⟨y0, y1, y2, y3, y4, y5⟩ := rc_cells HB2.out
      by_cases hfull : 16 ≤ j
      · have HPU := Lib.hid (pu12_full HNN.out (by have := HL.out; omega))
        go_wp2_with fail
        go_ret
        refine ⟨ret_b HPU.out.2.symm, o, ?_, ⟨(HX0.out.mono (fun _ _ e => e.elim)).trans (HX.out.mono (S' := fun k => k = q ∨ o = some k) (fun _ _ e => e.elim)) (fun _ _ e => e), .inl rfl⟩⟩
        rw [HPU.out.1]
        exact ⟨LA, c, by rw [HL.out]; exact HP3.out, by rw [HL.out]; exact HO2.out, HA.out, HOQ.out⟩
      · have HPU := Lib.hid (pu12_new HNN.out (by have := HL.out; omega))
        have HQ := Lib.hid hq0
        have c1a : (wr.alloc (.cells #[.int .i64 p, .int .u32 s, .int .u32 d, .int .i64 sp, .int .i64 dp, .int .i64 un] 48)).drew.cell? ⟨q, 1, none⟩ = some (.slice LA j c) := (tb_cells (HP3.out.alloc (.cells #[.int .i64 p, .int .u32 s, .int .u32 d, .int .i64 sp, .int .i64 dp, .int .i64 un] 48))).2.1
        go_wp2_with fail
        go_region_law? (refine step_app12 _ rfl (.tmp 45) (.tmp 47) 30 rfl 0 48 i0 _ 6 40 Try.underlying30 hi0 hz0 hz1 hz2 rfl (by decide) (.slice LA j c) j (rcF l) (by simp [Act.eval, Act.put]) (own_chg HO2.out ((Chg.refl (fun _ => False) wr).alloc _).drew (fun _ _ => id)) ⟨wr.heap.size, 0, none⟩ 1 1 (rcC p s d sp dp un).toList (by simp [Act.eval, Act.put]) rfl (fun j u hu => by rw [show (⟨wr.heap.size, 0, none⟩ : Addr).add j = ⟨wr.heap.size, j, none⟩ from by unfold Addr.add; split <;> simp_all]; exact ((Blk.new wr 48 (rcC p s d sp dp un)).cell j).trans (by simpa using hu)) (by simp [rcC, Value.oneCell']) (by unfold maxLen; omega) (by omega) (Nat.zero_le _) ?_; intro v5 w5 hown5 hg5 hat5; obtain ⟨A5, c5, rfl, -, -⟩ := own_form hown5; have HBP5 := Lib.hid (TN.pushed (⟨p, s, d, sp, dp, un⟩ : Rc) HP3.out HA.out HOQ.out HL.out ((Chg.refl (fun _ => False) wr).alloc _).drew hg5 hat5 hown5); obtain ⟨⟨v0, v1, v2⟩, -⟩ := HBP5.out; clear hown5 hg5 hat5)
        all_goals
          go_wp2_with fail
          go_ret
          refine ⟨ret_b HPU.out.2.symm, _, by rw [HPU.out.1]; exact HBP5.out.2.1, ?_⟩
          exact Mvd.pre (HX0.out.trans HX.out (fun _ _ e => e)) HBP5.out.2.2

end Go.Proofs.Ytclikcbgeolngaa
