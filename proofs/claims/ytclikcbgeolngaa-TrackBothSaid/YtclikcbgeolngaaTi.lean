/-
  Walks: the document's Records, Known of a table. Conditions: the table lies in memory, with at most 16 records.
-/
import Derived.Test.YtclikcbgeolngaaTh
namespace Go.Proofs.Ytclikcbgeolngaa
open Go.RowKit
set_option linter.unusedVariables false
set_option linter.unusedSimpArgs false

set_option maxRecDepth 100000 in
set_option maxHeartbeats 4000000 in
theorem rtrecords_any {w : World} {q : Nat} {o : Option Nat} {life : Int} {l : List Rc} (h : TN 32 w q o life l) (h16 : l.length ≤ 16) (t : Int) : Calls Try.prog 14 #[.pointer (some ⟨q, 0, none⟩), .int .i64 t] w (RecP12 (ex12 t l) w) := by
  obtain ⟨i0, hi0, hz0, hz1, hz2⟩ := info_parts infoRc12
  obtain ⟨LA, c, hb, hown, -, -⟩ := h
  have HR := Lib.hid (own_rcr hown rfl)
  have HP := Lib.hid hb
  have hm16 := h16
  generalize hm : l.length = m at *
  have HL := Lib.hid hm
  clear hb hown hm h16
  go_enter Try.func14, Try.ntmps14
  go_wp2_with fail
  go_loopg [5, 6] m (fun g' s5 i wr => ∃ (j k d : Nat) (E : Option Addr), g' = m - j ∧ j ≤ m ∧ i = .int .i64 (j : Int) ∧ s5 = .slice E k d ∧ k ≤ j ∧ Hid (k = (ex12 t (l.take j)).length) ∧ Hid (wr.ownsRow w.heap.size 48 6 (.slice E k d) k (rcF (ex12 t (l.take j)))) ∧ Hid (Chg (fun _ => False) w wr))
  case atStart => exact ⟨0, 0, 0, none, rfl, Nat.zero_le _, rfl, rfl, Nat.le_refl _, Lib.hid rfl, Lib.hid (World.ownsRow_nil _ _ _ _), Lib.hid (Chg.refl _ _)⟩
  case round =>
    obtain ⟨j, k, d, E, rfl, hj, rfl, rfl, hkj, HK, HO, HX⟩ := hrel
    obtain ⟨-, c1, -⟩ := tb_cells (HP.out.chg HX.out id)
    by_cases hlt : j < m
    · have hh := HR.out.chg HX.out (fun _ _ => id)
      obtain ⟨ad, rfl, -⟩ := hh.2 (by omega)
      have hjl : j < l.length := by have := HL.out; omega
      have hx : l[j]? = some l[j] := List.getElem?_eq_getElem hjl
      generalize l[j] = x at *
      obtain ⟨z0, z1, z2, z3, z4, z5⟩ := hh.at hx
      have HE := Lib.hid (ex12_take (t := t) hx)
      clear hx hh hjl
      cases hb : lv12 t x with
      | false =>
        rw [hb] at HE
        have htu : ¬ t < x.un := by simpa [lv12] using hb
        clear hb
        go_wp2_with fail
        go_roundg (m - (j + 1))
        case measure => omega
        case rel =>
          have e1 : ex12 t (l.take (j + 1)) = ex12 t (l.take j) := by rw [HE.out]; simp
          refine ⟨j + 1, k, d, E, rfl, by omega, by go_num, rfl, by omega, Lib.hid (by rw [e1]; exact HK.out), Lib.hid ?_, HX⟩
          rw [e1]
          exact HO.out
      | true =>
        rw [hb] at HE
        have htu : t < x.un := by simpa [lv12] using hb
        clear hb
        have HZ := Lib.hid (show w.heap.size ≤ (wr.alloc (.cells #[.int .i64 x.pr, .int .u32 x.sr, .int .u32 x.ds, .int .i64 x.sp, .int .i64 x.dp, .int .i64 x.un] 48)).heap.size by have := HX.out.size; simp; omega)
        generalize ex12 t (l.take j) = l1 at *
        go_wp2_with (at_builtin; refine wpList_app12 _ rfl (.tmp 26) (.tmp 34) 30 rfl w.heap.size 48 i0 _ 6 40 Try.underlying30 hi0 hz0 hz1 hz2 rfl (by decide) (.slice E k d) k (rcF l1) rfl (own_chg HO.out ((Chg.refl (fun _ => False) wr).alloc _) (fun _ _ => id)) ⟨wr.heap.size, 0, none⟩ 1 1 x.cs.toList rfl rfl (fun j u hu => by rw [show (⟨wr.heap.size, 0, none⟩ : Addr).add j = ⟨wr.heap.size, j, none⟩ from by unfold Addr.add; split <;> simp_all]; exact ((Blk.new wr 48 x.cs).cell j).trans (by simpa using hu)) (by simp [Rc.cs, rcC, Value.oneCell']) (by unfold maxLen; omega) (by omega) HZ.out ?_; intro v5 w5 hown5 hg5 hat5; obtain ⟨A5, c5, rfl, -, -⟩ := own_form hown5; have HO5 := Lib.hid hown5; have HX5 := Lib.hid (grown_fresh (HX.out.alloc _) hg5 (own_chg HO.out ((Chg.refl (fun _ => False) wr).alloc (.cells #[.int .i64 x.pr, .int .u32 x.sr, .int .u32 x.ds, .int .i64 x.sp, .int .i64 x.dp, .int .i64 x.un] 48)) (fun _ _ => id)) (Nat.le_refl _)); clear hown5 hg5 hat5)
        go_roundg (m - (j + 1))
        case measure => omega
        case rel =>
          have e1 : ex12 t (l.take (j + 1)) = l1 ++ [x] := by rw [HE.out]; simp
          have e2 : rcF (l1 ++ [x]) = rcF l1 ++ x.cs.toList := by rw [rcF_app]; simp [rcF]
          exact ⟨j + 1, k + 1, c5, A5, rfl, by omega, by go_num, rfl, by omega, Lib.hid (by rw [e1, List.length_append, ← HK.out]; rfl), Lib.hid (by rw [e1, e2]; exact HO5.out), HX5⟩
    · have hjm : j = m := by omega
      subst hjm
      have e1 := Lib.hid (show ex12 t (l.take j) = ex12 t l by rw [List.take_of_length_le (by have := HL.out; omega)])
      go_wp2_with fail
      go_ret
      exact ⟨E, k, d, rfl, by rw [← e1.out]; exact HK.out, by rw [← e1.out]; exact HO.out, HX.out⟩
set_option maxRecDepth 100000 in
set_option maxHeartbeats 4000000 in
theorem rtknown_any {w : World} {q : Nat} {o : Option Nat} {life : Int} {l : List Rc} (h : TN 32 w q o life l) (h16 : l.length ≤ 16) (p2 s2 d2 sp2 dp2 t : Int) : Calls Try.prog 16 #[.pointer (some ⟨q, 0, none⟩), .agg (flC p2 s2 d2 sp2 dp2), .int .i64 t] w fun e w' => e = .returned (.bool (kn12 t l p2 s2 d2 sp2 dp2)) ∧ Chg (fun _ => False) w w' := by
  have HX0 := Lib.hid ((Chg.refl (fun _ => False) w).alloc (.cells #[.int .i64 p2, .int .u32 s2, .int .u32 d2, .int .i64 sp2, .int .i64 dp2] 35))
  have HQ0 : Hid (Blk (w.alloc (.cells #[.int .i64 p2, .int .u32 s2, .int .u32 d2, .int .i64 sp2, .int .i64 dp2] 35)) w.heap.size 35 (flC p2 s2 d2 sp2 dp2)) := Lib.hid (blk_new rfl)
  have HRE := Lib.hid (rtrecords_any (h.new HX0.out) h16 t)
  have HK12 := Lib.hid (kn12_ex (t := t) (l := l) (p := p2) (s := s2) (d := d2) (sp := sp2) (dp := dp2))
  have HL16 := Lib.hid (ex12_len (t := t) h16)
  generalize ex12 t l = l1 at *
  clear h h16
  unfold flC
  go_enter Try.func16, Try.ntmps16
  go_upto_region 1 with fail
  generalize (w.alloc (.cells #[.int .i64 p2, .int .u32 s2, .int .u32 d2, .int .i64 sp2, .int .i64 dp2] 35)) = w1 at *
  generalize w.heap.size = B at *
  go_wp2_with fail
  refine HRE.out.mono ?_
  rintro e w2 ⟨E, m, d, rfl, hm, hown, hc⟩
  have hm16 : m ≤ 16 := by rw [hm]; exact HL16.out
  have HR := Lib.hid (own_rcr hown hm)
  have HL := Lib.hid hm
  have HX2 := Lib.hid (HX0.out.trans hc (fun _ _ e => e))
  have HQ2 := Lib.hid (HQ0.out.chg hc id)
  clear hm hown hc HRE
  go_wp2_with fail
  go_loopg [8, 9] m (fun g' i s9 wr => ∃ (j : Nat), g' = m - j ∧ j ≤ m ∧ i = .int .i64 (j : Int) ∧ Hid (∀ (i : Nat) (y : Rc), i < j → l1[i]? = some y → alB y.pr y.sr y.ds y.sp y.dp p2 s2 d2 sp2 dp2 = false) ∧ Hid (Chg (fun _ => False) w2 wr))
  case atStart => exact ⟨0, rfl, Nat.zero_le _, rfl, Lib.hid (fun i x hi => absurd hi (by omega)), Lib.hid (Chg.refl _ _)⟩
  case round =>
    obtain ⟨j, rfl, hj, rfl, HN, HX⟩ := hrel
    by_cases hlt : j < m
    · have hh := HR.out.chg HX.out (fun _ _ => id)
      obtain ⟨ad, rfl, -⟩ := hh.2 (by omega)
      have hjl : j < l1.length := by have := HL.out; omega
      have hx : l1[j]? = some l1[j] := List.getElem?_eq_getElem hjl
      generalize l1[j] = x at *
      obtain ⟨z0, z1, z2, z3, z4, z5⟩ := hh.at hx
      have HJ := Lib.hid hx
      have HKEEP : Hid (∀ W : World, Chg (fun _ => False) w2 W → (W.cell? ⟨B, 0, none⟩ = some (.int .i64 p2) ∧ W.cell? ⟨B, 1, none⟩ = some (.int .u32 s2) ∧ W.cell? ⟨B, 2, none⟩ = some (.int .u32 d2) ∧ W.cell? ⟨B, 3, none⟩ = some (.int .i64 sp2) ∧ W.cell? ⟨B, 4, none⟩ = some (.int .i64 dp2) ∧ W.cell? (ad.add (j * 6)) = some (.int .i64 x.pr) ∧ W.cell? ⟨(ad.add (j * 6)).block, (ad.add (j * 6)).off + 1, none⟩ = some (.int .u32 x.sr) ∧ W.cell? ⟨(ad.add (j * 6)).block, (ad.add (j * 6)).off + 2, none⟩ = some (.int .u32 x.ds) ∧ W.cell? ⟨(ad.add (j * 6)).block, (ad.add (j * 6)).off + 3, none⟩ = some (.int .i64 x.sp) ∧ W.cell? ⟨(ad.add (j * 6)).block, (ad.add (j * 6)).off + 4, none⟩ = some (.int .i64 x.dp))) := Lib.hid (fun W hw => by
        obtain ⟨v0, v1, v2, v3, v4⟩ := fl_cells (HQ2.out.chg hw id)
        obtain ⟨x0, x1, x2, x3, x4, -⟩ := (HR.out.chg hw (fun _ _ => id)).at hx
        exact ⟨v0, v1, v2, v3, v4, x0, x1, x2, x3, x4⟩)
      clear hx hh hjl
      have hal := fun W => ralike_any x.pr x.sr x.ds x.sp x.dp p2 s2 d2 sp2 dp2 W
      unfold flC at hal
      cases hb : alB x.pr x.sr x.ds x.sp x.dp p2 s2 d2 sp2 dp2 with
      | false =>
        rw [hb] at hal
        have HB := Lib.hid hb
        clear hb
        go_wp2_with fail
        have HXA := Lib.hid (HX.out.drew)
        have HNA := Lib.hid (hal wr.drew)
        clear hal
        clear z0 z1 z2 z3 z4 z5
        obtain ⟨y0, y1, y2, y3, y4, u0, u1, u2, u3, u4⟩ := HKEEP.out _ HXA.out
        go_region_held3 (fun w' => w'.cell? ⟨B, 0, none⟩ = some (.int .i64 p2) ∧ w'.cell? ⟨B, 1, none⟩ = some (.int .u32 s2) ∧ w'.cell? ⟨B, 2, none⟩ = some (.int .u32 d2) ∧ w'.cell? ⟨B, 3, none⟩ = some (.int .i64 sp2) ∧ w'.cell? ⟨B, 4, none⟩ = some (.int .i64 dp2) ∧ w'.cell? (ad.add (j * 6)) = some (.int .i64 x.pr) ∧ w'.cell? ⟨(ad.add (j * 6)).block, (ad.add (j * 6)).off + 1, none⟩ = some (.int .u32 x.sr) ∧ w'.cell? ⟨(ad.add (j * 6)).block, (ad.add (j * 6)).off + 2, none⟩ = some (.int .u32 x.ds) ∧ w'.cell? ⟨(ad.add (j * 6)).block, (ad.add (j * 6)).off + 3, none⟩ = some (.int .i64 x.sp) ∧ w'.cell? ⟨(ad.add (j * 6)).block, (ad.add (j * 6)).off + 4, none⟩ = some (.int .i64 x.dp))
          (first | with_reducible exact HKEEP.out _ HXA.out | with_reducible exact HKEEP.out _ HXB.out | fail)
          (first
            | (go_at_call 29; (with_reducible refine (HNA.out).mono ?_); rintro e wz ⟨rfl, hc⟩; have HXB := Lib.hid (HXA.out.trans hc (fun _ _ e => e)); clear hc)
            | fail)
        all_goals
          go_wp2_with fail
          go_roundg (m - (j + 1))
          case measure => omega
          case rel =>
            refine ⟨j + 1, rfl, by omega, by go_num, Lib.hid (fun i y hi hy => ?_), HXB⟩
            by_cases e : i < j
            · exact HN.out i y e hy
            · have : i = j := by omega
              subst this
              have := HJ.out
              rw [hy] at this
              injection this with this
              subst this
              exact HB.out
      | true =>
        rw [hb] at hal
        have HB := Lib.hid hb
        clear hb
        go_wp2_with fail
        have HXA := Lib.hid (HX.out.drew)
        have HNA := Lib.hid (hal wr.drew)
        clear hal
        clear z0 z1 z2 z3 z4 z5
        obtain ⟨y0, y1, y2, y3, y4, u0, u1, u2, u3, u4⟩ := HKEEP.out _ HXA.out
        go_region_held3 (fun w' => w'.cell? ⟨B, 0, none⟩ = some (.int .i64 p2) ∧ w'.cell? ⟨B, 1, none⟩ = some (.int .u32 s2) ∧ w'.cell? ⟨B, 2, none⟩ = some (.int .u32 d2) ∧ w'.cell? ⟨B, 3, none⟩ = some (.int .i64 sp2) ∧ w'.cell? ⟨B, 4, none⟩ = some (.int .i64 dp2) ∧ w'.cell? (ad.add (j * 6)) = some (.int .i64 x.pr) ∧ w'.cell? ⟨(ad.add (j * 6)).block, (ad.add (j * 6)).off + 1, none⟩ = some (.int .u32 x.sr) ∧ w'.cell? ⟨(ad.add (j * 6)).block, (ad.add (j * 6)).off + 2, none⟩ = some (.int .u32 x.ds) ∧ w'.cell? ⟨(ad.add (j * 6)).block, (ad.add (j * 6)).off + 3, none⟩ = some (.int .i64 x.sp) ∧ w'.cell? ⟨(ad.add (j * 6)).block, (ad.add (j * 6)).off + 4, none⟩ = some (.int .i64 x.dp))
          (first | with_reducible exact HKEEP.out _ HXA.out | with_reducible exact HKEEP.out _ HXB.out | fail)
          (first
            | (go_at_call 29; (with_reducible refine (HNA.out).mono ?_); rintro e wz ⟨rfl, hc⟩; have HXB := Lib.hid (HXA.out.trans hc (fun _ _ e => e)); clear hc)
            | fail)
        all_goals
          go_wp2_with fail
          go_ret
          exact ⟨ret_b (by rw [HK12.out]; exact (List.any_eq_true.2 ⟨x, List.mem_of_getElem? HJ.out, HB.out⟩).symm), HX2.out.trans HXB.out (fun _ _ e => e)⟩
    · have hjm : j = m := by omega
      subst hjm
      go_wp2_with fail
      go_ret
      refine ⟨ret_b ?_, HX2.out.trans HX.out (fun _ _ e => e)⟩
      rw [HK12.out]
      symm
      rw [List.any_eq_false]
      intro y hy
      obtain ⟨i, hi⟩ := List.getElem?_of_mem hy
      rw [HN.out i y (by have := (List.getElem?_eq_some_iff.1 hi).1; have := HL.out; omega) hi]
      decide

end Go.Proofs.Ytclikcbgeolngaa
