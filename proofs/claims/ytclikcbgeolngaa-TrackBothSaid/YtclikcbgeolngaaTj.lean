/-
  Walk: the document's put. Conditions: the table lies in memory, with at most 16 records.
-/
import Derived.Test.YtclikcbgeolngaaTi
namespace Go.Proofs.Ytclikcbgeolngaa
open Go.RowKit
set_option linter.unusedVariables false
set_option linter.unusedSimpArgs false

/-- append of any slice of structs onto what is owned: nothing is asked of the slice's address where it is empty. -/
theorem wpList_appo12 {P : Program} (w : World) {ops : Array Oper} {rest : List Oper} {o : Oper} {a : Act} {Q : Exit → Act → World → Prop} (hgd : o.guard = none) (s x : Operand) (t : TypeId)
    (ho : o.op = .call { callee := .builtin .append, args := #[s, x], argTypes := #[t, t] })
    (base : Nat) (e : TypeId) (i : TypeInfo) (z : Value) (size bytes : Nat) (ht : P.underlying t = some (.slice e)) (hi : P.info? e = some i) (hz : i.zero = some z)
    (hsize : i.size = size) (hby : i.bytes = bytes) (hzs : z.cells.size = size) (hpos : 0 < size)
    (v : Value) (n : Nat) (xs : List Value) (hs : a.eval s = v) (hown : w.ownsRow base e size v n xs)
    (A : Option Addr) (m c : Nat) (news : List Value) (hx : a.eval x = .slice A m c) (hl : news.length = m * size) (hA : A = none → m = 0) (hnews : ∀ ad, A = some ad → ∀ j u, news[j]? = some u → w.cell? (ad.add j) = some u) (h1 : ∀ u ∈ news, u.oneCell' = true)
    (h63 : n + m ≤ maxLen) (hbytes : (n + m) * bytes ≤ 140737488355328) (hbase : base ≤ w.heap.size)
    (h : ∀ v' w', w'.ownsRow base e size v' (n + m) (xs ++ news) → w.grownBy w' v.ownBlock → (v'.ownBlock = v.ownBlock ∨ v'.ownBlock = some w.heap.size) → wpList P ops Q rest (a.put o.dst v') w') : wpList P ops Q (o :: rest) a w := by
  rcases A with _ | ad
  · obtain rfl := hA rfl
    have hn : news = [] := List.eq_nil_of_length_eq_zero (by simpa using hl)
    subst hn
    have hrun : (Builtin.append_ #[t, t] o.type #[v, .slice none 0 c]).run P w = .ok v w := by
      rcases hown.2 with ⟨rfl, rfl⟩ | ⟨g, cap, cur, rfl, _, _, hnc, _⟩
      · simp [Builtin.append_, run_underlying ht, sizeOf, typeInfo, hi, Builtin.lenOf, Builtin.firstCells]
      · simp [Builtin.append_, run_underlying ht, sizeOf, typeInfo, hi, Builtin.lenOf, Builtin.firstCells, hnc, storeCells]
    refine wpList_plain hgd fun _ hK => ?_
    unfold Oper.wp execOp
    simp only [ho, resolve, invoke, builtin, Sem.run_bind, Sem.run_pure, Result.andThen_ok, List.map_toArray, List.map_cons, List.map_nil, hs, hx, hrun]
    exact hK _ _ (h v w (by simpa using hown) ⟨rfl, rfl, rfl, Nat.le_refl _, fun _ _ _ => rfl⟩ (.inl rfl))
  · exact wpList_app12 w hgd s x t ho base e i z size bytes ht hi hz hsize hby hzs hpos v n xs hs hown ad m c news hx hl (hnews ad rfl) h1 h63 hbytes hbase h
/-- A row of nothing, just made. -/
theorem own_empty12 (w : World) : (w.alloc (.cells #[] 48)).ownsRow w.heap.size 48 6 (.slice (some ⟨w.heap.size, 0, none⟩) 0 0) 0 [] :=
  ⟨rfl, .inr ⟨w.heap.size, 0, #[], rfl, Nat.le_refl _, heap_alloc_new w _, Nat.le_refl _, Nat.zero_le _, rfl, rfl⟩⟩
/-- Behind a store of a row of one's own, in new memory, into a table. -/
theorem TN.fresh {T : TypeId} {w0 w1 w : World} {q n c n' c' : Nat} {o : Option Nat} {life : Int} {A E : Option Addr} {l' : List Rc} (hb : Blk w q T (tbC life A n c)) (hq : q < w1.heap.size) (hown : w.ownsRow w1.heap.size 48 6 (.slice E n' c') n' (rcF l')) (hn : n' = l'.length) (hc0 : Chg (fun _ => False) w0 w1) (hc : Chg (fun _ => False) w1 w) :
    ∃ o', TN T (w.setCell ⟨q, 1, none⟩ (.slice E n' c')) q o' life l' ∧ Mvd q o o' w0 (w.setCell ⟨q, 1, none⟩ (.slice E n' c')) := by
  have hlow : ∀ k, E.map (·.block) = some k → w1.heap.size ≤ k := fun k hk => (own_low hown hk).1
  refine ⟨_, TN.put hb (own_base hown (Nat.zero_le _)) hn (fun e => by have := hlow q e; omega), ⟨((hc0.trans hc (fun _ _ e => e)).mono (fun _ _ e => e.elim)).put q 1 (fun _ => .inl rfl) _, ?_⟩⟩
  cases hE : E.map (·.block) with
  | none => exact .inr (.inl rfl)
  | some k => exact .inr (.inr ⟨k, rfl, Nat.le_trans hc0.size (hlow k hE)⟩)
set_option maxRecDepth 100000 in
set_option maxHeartbeats 8000000 in
theorem rtput_any {w : World} {q : Nat} {o : Option Nat} {life : Int} {l : List Rc} (h : TN 32 w q o life l) (h16 : l.length ≤ 16) (p s d sp dp un : Int) : Calls Try.prog 24 #[.pointer (some ⟨q, 0, none⟩), .agg (rcC p s d sp dp un)] w fun e w' => e = .returned (.bool (pb12 l (⟨p, s, d, sp, dp, un⟩ : Rc))) ∧ ∃ o', TN 32 w' q o' life (pu12 l (⟨p, s, d, sp, dp, un⟩ : Rc)) ∧ Mvd q o o' w w' := by
  obtain ⟨i0, hi0, hz0, hz1, hz2⟩ := info_parts infoRc12
  have HH := Lib.hid h
  obtain ⟨LA, c, hb, hown, hA, hoq⟩ := h
  have HX0 := Lib.hid ((Chg.refl (fun _ => False) w).alloc (.cells #[.int .i64 p, .int .u32 s, .int .u32 d, .int .i64 sp, .int .i64 dp, .int .i64 un] 48))
  have HB0 : Hid (Blk (w.alloc (.cells #[.int .i64 p, .int .u32 s, .int .u32 d, .int .i64 sp, .int .i64 dp, .int .i64 un] 48)) w.heap.size 48 (rcC p s d sp dp un)) := Lib.hid (blk_new rfl)
  have HP := Lib.hid (hb.chg HX0.out id)
  have HQ1 := Lib.hid HP.out.lt
  have HOL := Lib.hid (own_chg hown HX0.out (fun _ _ => id))
  have hm16 := h16
  generalize hm : l.length = m at *
  have HL := Lib.hid hm
  clear hb hown hA hoq hm h16
  unfold rcC
  go_enter Try.func24, Try.ntmps24
  go_upto_region 1 with fail
  generalize (w.alloc (.cells #[.int .i64 p, .int .u32 s, .int .u32 d, .int .i64 sp, .int .i64 dp, .int .i64 un] 48)) = w1 at *
  generalize w.heap.size = B at *
  obtain ⟨c0, c1, f1⟩ := tb_cells (HP.out.alloc (.cells #[] 48))
  have HSRC := Lib.hid (show ∀ ad, LA = some ad → ∀ j u, (rcF l)[j]? = some u → (w1.alloc (.cells #[] 48)).cell? (ad.add j) = some u from fun ad e j u hu => by
    subst e
    have ho := own_chg HOL.out ((Chg.refl (fun _ => False) w1).alloc (.cells #[] 48)) (fun _ _ => id)
    obtain ⟨g, hg⟩ : ∃ g, ad = ⟨g, 0, none⟩ := by
      rcases ho.2 with ⟨hv, -⟩ | ⟨g', cap, cur, hv, -⟩
      · injection hv with hv
        cases hv
      · injection hv with hv
        injection hv with hv
        exact ⟨g', hv⟩
    subst hg
    exact ho.cells (g := g) rfl j u hu)
  have HNONE := Lib.hid (show LA = none → m = 0 from fun e => by
    rcases Nat.eq_zero_or_pos m with h | h
    · exact h
    · obtain ⟨g, hg⟩ := own_form12 HOL.out h
      rw [e] at hg
      cases hg)
  go_wp2_with (at_builtin; refine wpList_appo12 _ rfl (.tmp 8) (.tmp 12) 30 rfl w1.heap.size 48 i0 _ 6 40 Try.underlying30 hi0 hz0 hz1 hz2 rfl (by decide) (.slice (some ⟨w1.heap.size, 0, none⟩) 0 0) 0 [] rfl (own_empty12 w1) LA m c (rcF l) rfl (by rw [rcF_len, HL.out]) HNONE.out HSRC.out (rcF_one l) (by unfold maxLen; omega) (by omega) (by simp) ?_; intro v5 w5 hown5 hg5 hat5; (simp only [Nat.zero_add, List.nil_append] at hown5 ⊢); obtain ⟨E, dd, rfl, -, -⟩ := own_form hown5; have HO5 := Lib.hid hown5; have HX5 := Lib.hid (grown_fresh ((Chg.refl (fun _ => False) w1).alloc _) hg5 (own_empty12 w1) (Nat.le_refl _)); clear hown5 hg5 hat5)
  go_loopg [6, 7] m (fun g' i s7 wr => ∃ j : Nat, g' = m - j ∧ j ≤ m ∧ i = .int .i64 (j : Int) ∧ Hid (∀ (i : Nat) (y : Rc), i < j → l[i]? = some y → al12 y (⟨p, s, d, sp, dp, un⟩ : Rc) = false) ∧ Hid (Chg (fun _ => False) w1 wr) ∧ Hid (wr.ownsRow w1.heap.size 48 6 (.slice E m dd) m (rcF l)))
  case atStart => exact ⟨0, rfl, Nat.zero_le _, rfl, Lib.hid (fun i x hi => absurd hi (by omega)), HX5, HO5⟩
  case round =>
    obtain ⟨j, rfl, hj, rfl, HN, HX, HO⟩ := hrel
    clear c0 c1 f1
    by_cases hlt : j < m
    · obtain ⟨g, rfl⟩ := own_form12 HO.out (by omega)
      have hjl : j < l.length := by have := HL.out; omega
      have hx : l[j]? = some l[j] := List.getElem?_eq_getElem hjl
      generalize l[j] = x at *
      obtain ⟨z0, z1, z2, z3, z4, z5⟩ := own_at12 HO.out hx
      have HJ := Lib.hid hx
      have HG := Lib.hid (own_low HO.out rfl).1
      have HKEEP : Hid (∀ W : World, Chg (fun _ => False) wr W → (W.cell? ⟨B, 0, none⟩ = some (.int .i64 p) ∧ W.cell? ⟨B, 1, none⟩ = some (.int .u32 s) ∧ W.cell? ⟨B, 2, none⟩ = some (.int .u32 d) ∧ W.cell? ⟨B, 3, none⟩ = some (.int .i64 sp) ∧ W.cell? ⟨B, 4, none⟩ = some (.int .i64 dp) ∧ W.cell? ⟨g, j * 6, none⟩ = some (.int .i64 x.pr) ∧ W.cell? ⟨g, j * 6 + 1, none⟩ = some (.int .u32 x.sr) ∧ W.cell? ⟨g, j * 6 + 2, none⟩ = some (.int .u32 x.ds) ∧ W.cell? ⟨g, j * 6 + 3, none⟩ = some (.int .i64 x.sp) ∧ W.cell? ⟨g, j * 6 + 4, none⟩ = some (.int .i64 x.dp))) := Lib.hid (fun W hw => by
        obtain ⟨v0, v1, v2, v3, v4, -⟩ := rc_cells ((HB0.out.chg HX.out id).chg hw id)
        obtain ⟨x0, x1, x2, x3, x4, -⟩ := own_at12 (own_chg HO.out hw (fun _ _ => id)) hx
        exact ⟨v0, v1, v2, v3, v4, x0, x1, x2, x3, x4⟩)
      clear hx hjl
      have hal := fun W => ralike_any x.pr x.sr x.ds x.sp x.dp p s d sp dp W
      replace hal : ∀ W, Calls _ _ _ W (fun e w' => e = .returned (.bool (al12 x (⟨p, s, d, sp, dp, un⟩ : Rc))) ∧ Chg (fun _ => False) W w') := hal
      unfold flC at hal
      cases hb : al12 x (⟨p, s, d, sp, dp, un⟩ : Rc) with
      | false =>
        rw [hb] at hal
        have HBF := Lib.hid hb
        clear hb
        go_wp2_with fail
        have HXA := Lib.hid ((Chg.refl (fun _ => False) wr).drew)
        have HNA := Lib.hid (hal wr.drew)
        clear hal
        clear z0 z1 z2 z3 z4 z5
        obtain ⟨y0, y1, y2, y3, y4, u0, u1, u2, u3, u4⟩ := HKEEP.out _ HXA.out
        go_region_held3 (fun w' => w'.cell? ⟨B, 0, none⟩ = some (.int .i64 p) ∧ w'.cell? ⟨B, 1, none⟩ = some (.int .u32 s) ∧ w'.cell? ⟨B, 2, none⟩ = some (.int .u32 d) ∧ w'.cell? ⟨B, 3, none⟩ = some (.int .i64 sp) ∧ w'.cell? ⟨B, 4, none⟩ = some (.int .i64 dp) ∧ w'.cell? ⟨g, j * 6, none⟩ = some (.int .i64 x.pr) ∧ w'.cell? ⟨g, j * 6 + 1, none⟩ = some (.int .u32 x.sr) ∧ w'.cell? ⟨g, j * 6 + 2, none⟩ = some (.int .u32 x.ds) ∧ w'.cell? ⟨g, j * 6 + 3, none⟩ = some (.int .i64 x.sp) ∧ w'.cell? ⟨g, j * 6 + 4, none⟩ = some (.int .i64 x.dp))
          (first | with_reducible exact HKEEP.out _ HXA.out | with_reducible exact HKEEP.out _ HXB.out | fail)
          (first
            | (go_at_call 29; (with_reducible refine (HNA.out).mono ?_); rintro e wz ⟨rfl, hc⟩; have HXB := Lib.hid (HXA.out.trans hc (fun _ _ e => e)); clear hc)
            | fail)
        all_goals
          go_wp2_with fail
          go_roundg (m - (j + 1))
          case measure => omega
          case rel =>
            refine ⟨j + 1, rfl, by omega, by go_num, Lib.hid (fun i y hi hy => ?_), Lib.hid (HX.out.trans HXB.out (fun _ _ e => e)), Lib.hid (own_chg HO.out HXB.out (fun _ _ => id))⟩
            by_cases e : i < j
            · exact HN.out i y e hy
            · have : i = j := by omega
              subst this
              have := HJ.out
              rw [hy] at this
              injection this with this
              subst this
              exact HBF.out
      | true =>
        rw [hb] at hal
        have HPU := Lib.hid (pu12_at HJ.out hb HN.out)
        clear hb
        go_wp2_with fail
        have HXA := Lib.hid ((Chg.refl (fun _ => False) wr).drew)
        have HNA := Lib.hid (hal wr.drew)
        clear hal
        clear z0 z1 z2 z3 z4 z5
        obtain ⟨y0, y1, y2, y3, y4, u0, u1, u2, u3, u4⟩ := HKEEP.out _ HXA.out
        go_region_held3 (fun w' => w'.cell? ⟨B, 0, none⟩ = some (.int .i64 p) ∧ w'.cell? ⟨B, 1, none⟩ = some (.int .u32 s) ∧ w'.cell? ⟨B, 2, none⟩ = some (.int .u32 d) ∧ w'.cell? ⟨B, 3, none⟩ = some (.int .i64 sp) ∧ w'.cell? ⟨B, 4, none⟩ = some (.int .i64 dp) ∧ w'.cell? ⟨g, j * 6, none⟩ = some (.int .i64 x.pr) ∧ w'.cell? ⟨g, j * 6 + 1, none⟩ = some (.int .u32 x.sr) ∧ w'.cell? ⟨g, j * 6 + 2, none⟩ = some (.int .u32 x.ds) ∧ w'.cell? ⟨g, j * 6 + 3, none⟩ = some (.int .i64 x.sp) ∧ w'.cell? ⟨g, j * 6 + 4, none⟩ = some (.int .i64 x.dp))
          (first | with_reducible exact HKEEP.out _ HXA.out | with_reducible exact HKEEP.out _ HXB.out | fail)
          (first
            | (go_at_call 29; (with_reducible refine (HNA.out).mono ?_); rintro e wz ⟨rfl, hc⟩; have HXB := Lib.hid (HXA.out.trans hc (fun _ _ e => e)); clear hc)
            | fail)
        all_goals
          have HX2 := Lib.hid (HX.out.trans HXB.out (fun _ _ e => e))
          have HB2 := Lib.hid (HP.out.chg HX2.out id)
          have HR2 := Lib.hid (HB0.out.chg HX2.out id)
          have HO2 := Lib.hid (own_chg HO.out HXB.out (fun _ _ => id))
          have HQG := Lib.hid (show q ≠ g from fun e => by have := HQ1.out; have := HG.out; omega)
          clear y0 y1 y2 y3 y4 u0 u1 u2 u3 u4
          obtain ⟨-, -, -, -, -, y5⟩ := rc_cells HR2.out
          obtain ⟨-, -, -, -, -, z5⟩ := own_at12 HO2.out HJ.out
          have x5 : True := trivial
          have f5 := own_free12 HO2.out (j * 6 + 5)
          rcases Int.lt_trichotomy x.un un with hmax | hmax | hmax
          · skip
            have HPW := Lib.hid (own_cell12 HO2.out (j * 6 + 5) (.int .i64 (un)))
            have hmx : max x.un un = un := by omega
            have HST := Lib.hid (show rcF (l.set j (mx12 x (⟨p, s, d, sp, dp, un⟩ : Rc))) = (rcF l).set (j * 6 + 5) (.int .i64 (un)) by rw [mx12_set _ HJ.out]; simp [hmx])
            clear hmx
            have HBS : Hid (Blk (wz.setCell ⟨g, j * 6 + 5, none⟩ (.int .i64 (un))).drew q 32 (tbC life LA m c)) := Lib.hid (HB2.out.chg ((Chg.refl (fun k => k = g) wz).put g _ (fun _ => rfl) _) HQG.out).drew
            have HXS : Hid (Chg (fun _ => False) w1 (wz.setCell ⟨g, j * 6 + 5, none⟩ (.int .i64 (un))).drew) := Lib.hid ((fresh_set HX2.out ((Chg.refl (fun k => k = g) wz).put g _ (fun _ => rfl) _) HG.out).drew)
            have HOS : Hid ((wz.setCell ⟨g, j * 6 + 5, none⟩ (.int .i64 (un))).drew.ownsRow w1.heap.size 48 6 (.slice (some ⟨g, 0, none⟩) m dd) m (rcF (l.set j (mx12 x (⟨p, s, d, sp, dp, un⟩ : Rc))))) := Lib.hid (by rw [HST.out]; exact HPW.out.drew)
            clear HPW HST
            go_wp2_with fail
            go_region
            all_goals (try (exfalso; omega))
            all_goals
              generalize (wz.setCell ⟨g, j * 6 + 5, none⟩ (.int .i64 (un))).drew = w9 at *
              clear x5 y5 z5 f5
              obtain ⟨c0, c1, f1⟩ := tb_cells HBS.out
              go_wp2_with fail
              go_ret
              refine ⟨ret_b HPU.out.2.symm, ?_⟩
              rw [HPU.out.1]
              exact TN.fresh HBS.out HQ1.out HOS.out (by rw [List.length_set, HL.out]) HX0.out HXS.out
          · subst hmax
            have HPW := Lib.hid (own_cell12 HO2.out (j * 6 + 5) (.int .i64 (x.un)))
            have hmx : max x.un x.un = x.un := by omega
            have HST := Lib.hid (show rcF (l.set j (mx12 x (⟨p, s, d, sp, dp, x.un⟩ : Rc))) = (rcF l).set (j * 6 + 5) (.int .i64 (x.un)) by rw [mx12_set _ HJ.out]; simp [hmx])
            clear hmx
            have HBS : Hid (Blk (wz.setCell ⟨g, j * 6 + 5, none⟩ (.int .i64 (x.un))).drew q 32 (tbC life LA m c)) := Lib.hid (HB2.out.chg ((Chg.refl (fun k => k = g) wz).put g _ (fun _ => rfl) _) HQG.out).drew
            have HXS : Hid (Chg (fun _ => False) w1 (wz.setCell ⟨g, j * 6 + 5, none⟩ (.int .i64 (x.un))).drew) := Lib.hid ((fresh_set HX2.out ((Chg.refl (fun k => k = g) wz).put g _ (fun _ => rfl) _) HG.out).drew)
            have HOS : Hid ((wz.setCell ⟨g, j * 6 + 5, none⟩ (.int .i64 (x.un))).drew.ownsRow w1.heap.size 48 6 (.slice (some ⟨g, 0, none⟩) m dd) m (rcF (l.set j (mx12 x (⟨p, s, d, sp, dp, x.un⟩ : Rc))))) := Lib.hid (by rw [HST.out]; exact HPW.out.drew)
            clear HPW HST
            go_wp2_with fail
            go_region
            all_goals (try (exfalso; omega))
            all_goals
              generalize (wz.setCell ⟨g, j * 6 + 5, none⟩ (.int .i64 (x.un))).drew = w9 at *
              clear x5 y5 z5 f5
              obtain ⟨c0, c1, f1⟩ := tb_cells HBS.out
              go_wp2_with fail
              go_ret
              refine ⟨ret_b HPU.out.2.symm, ?_⟩
              rw [HPU.out.1]
              exact TN.fresh HBS.out HQ1.out HOS.out (by rw [List.length_set, HL.out]) HX0.out HXS.out
          · skip
            have HPW := Lib.hid (own_cell12 HO2.out (j * 6 + 5) (.int .i64 (x.un)))
            have hmx : max x.un un = x.un := by omega
            have HST := Lib.hid (show rcF (l.set j (mx12 x (⟨p, s, d, sp, dp, un⟩ : Rc))) = (rcF l).set (j * 6 + 5) (.int .i64 (x.un)) by rw [mx12_set _ HJ.out]; simp [hmx])
            clear hmx
            have HBS : Hid (Blk (wz.setCell ⟨g, j * 6 + 5, none⟩ (.int .i64 (x.un))).drew q 32 (tbC life LA m c)) := Lib.hid (HB2.out.chg ((Chg.refl (fun k => k = g) wz).put g _ (fun _ => rfl) _) HQG.out).drew
            have HXS : Hid (Chg (fun _ => False) w1 (wz.setCell ⟨g, j * 6 + 5, none⟩ (.int .i64 (x.un))).drew) := Lib.hid ((fresh_set HX2.out ((Chg.refl (fun k => k = g) wz).put g _ (fun _ => rfl) _) HG.out).drew)
            have HOS : Hid ((wz.setCell ⟨g, j * 6 + 5, none⟩ (.int .i64 (x.un))).drew.ownsRow w1.heap.size 48 6 (.slice (some ⟨g, 0, none⟩) m dd) m (rcF (l.set j (mx12 x (⟨p, s, d, sp, dp, un⟩ : Rc))))) := Lib.hid (by rw [HST.out]; exact HPW.out.drew)
            clear HPW HST
            go_wp2_with fail
            go_region
            all_goals (try (exfalso; omega))
            all_goals
              generalize (wz.setCell ⟨g, j * 6 + 5, none⟩ (.int .i64 (x.un))).drew = w9 at *
              clear x5 y5 z5 f5
              obtain ⟨c0, c1, f1⟩ := tb_cells HBS.out
              go_wp2_with fail
              go_ret
              refine ⟨ret_b HPU.out.2.symm, ?_⟩
              rw [HPU.out.1]
              exact TN.fresh HBS.out HQ1.out HOS.out (by rw [List.length_set, HL.out]) HX0.out HXS.out
    · have hjm : j = m := by omega
      subst hjm
      have HNN := Lib.hid (show ∀ (i : Nat) (y : Rc), i < l.length → l[i]? = some y → al12 y (⟨p, s, d, sp, dp, un⟩ : Rc) = false from fun i y hi hy => HN.out i y (by have := HL.out; omega) hy)
      have HB2 := Lib.hid (HB0.out.chg HX.out id)
      obtain ⟨y0, y1, y2, y3, y4, y5⟩ := rc_cells HB2.out
      by_cases hfull : 16 ≤ j
      · have HPU := Lib.hid (pu12_full HNN.out (by have := HL.out; omega))
        go_wp2_with fail
        go_ret
        refine ⟨ret_b HPU.out.2.symm, o, ?_, ⟨(HX0.out.trans HX.out (fun _ _ e => e)).mono (fun _ _ e => e.elim), .inl rfl⟩⟩
        rw [HPU.out.1]
        exact HH.out.new (HX0.out.trans HX.out (fun _ _ e => e))
      · have HPU := Lib.hid (pu12_new HNN.out (by have := HL.out; omega))
        go_upto_region 13 with (at_builtin; refine wpList_app12 _ rfl (.tmp 48) (.tmp 50) 30 rfl w1.heap.size 48 i0 _ 6 40 Try.underlying30 hi0 hz0 hz1 hz2 rfl (by decide) (.slice E j dd) j (rcF l) rfl (own_chg HO.out ((Chg.refl (fun _ => False) wr).alloc _) (fun _ _ => id)) ⟨wr.heap.size, 0, none⟩ 1 1 (rcC p s d sp dp un).toList rfl rfl (fun j u hu => by rw [show (⟨wr.heap.size, 0, none⟩ : Addr).add j = ⟨wr.heap.size, j, none⟩ from by unfold Addr.add; split <;> simp_all]; exact ((Blk.new wr 48 (rcC p s d sp dp un)).cell j).trans (by simpa using hu)) (by simp [rcC, Value.oneCell']) (by unfold maxLen; omega) (by omega) (by have := HX.out.size; simp; omega) ?_; intro v6 w6 hown6 hg6 hat6; obtain ⟨E6, d6, rfl, -, -⟩ := own_form hown6; have HO6 := Lib.hid hown6; have HX6 := Lib.hid (grown_fresh (HX.out.alloc _) hg6 (own_chg HO.out ((Chg.refl (fun _ => False) wr).alloc (.cells #[.int .i64 p, .int .u32 s, .int .u32 d, .int .i64 sp, .int .i64 dp, .int .i64 un] 48)) (fun _ _ => id)) (Nat.le_refl _)); clear hown6 hg6 hat6)
        have HB6 := Lib.hid (HP.out.chg HX6.out id)
        obtain ⟨c0, c1, f1⟩ := tb_cells HB6.out
        clear y0 y1 y2 y3 y4 y5
        go_wp2_with fail
        go_ret
        refine ⟨ret_b HPU.out.2.symm, ?_⟩
        rw [HPU.out.1]
        refine TN.fresh HB6.out HQ1.out ?_ (by rw [List.length_append, HL.out]; rfl) HX0.out HX6.out
        rw [rcF_app, show rcF [(⟨p, s, d, sp, dp, un⟩ : Rc)] = (rcC p s d sp dp un).toList by simp [rcF, Rc.cs]]
        exact HO6.out

end Go.Proofs.Ytclikcbgeolngaa
