/-
  Walks: track's Import, Records, Note, each on nil too. Conditions: the table lies in memory, with at most 16 records; the records that come in are read in memory, apart from it.
-/
import Derived.Test.YtclikcbgeolngaaTg
namespace Go.Proofs.Ytclikcbgeolngaa
open Go.RowKit
set_option linter.unusedVariables false
set_option linter.unusedSimpArgs false

set_option maxRecDepth 100000 in
set_option maxHeartbeats 400000 in
theorem tnote_nil (p s d sp dp t : Int) (w : World) : Calls Try.prog 8 #[.pointer none, .agg (flC p s d sp dp), .int .i64 t] w fun e w' => e = .returned (.int .i64 1) ∧ Chg (fun _ => False) w w' := by
  have HX0 := Lib.hid ((Chg.refl (fun _ => False) w).alloc (.cells #[.int .i64 p, .int .u32 s, .int .u32 d, .int .i64 sp, .int .i64 dp] 35))
  unfold flC
  go_enter Try.func8, Try.ntmps8
  go_wp2_with fail
  go_ret
  exact ⟨rfl, HX0.out⟩
set_option maxRecDepth 100000 in
set_option maxHeartbeats 400000 in
theorem timport_nil (t : Int) (L : Option Addr) (m lc : Nat) (w : World) : Calls Try.prog 10 #[.pointer none, .int .i64 t, .slice L m lc] w fun e w' => e = .returned (.int .i64 0) ∧ w = w' := by
  go_enter Try.func10, Try.ntmps10
  go_wp2_with fail
  go_ret
  exact ⟨rfl, rfl⟩
set_option maxRecDepth 100000 in
set_option maxHeartbeats 400000 in
theorem trecords_nil (t : Int) (w : World) : Calls Try.prog 13 #[.pointer none, .int .i64 t] w fun e w' => e = .returned (.slice none 0 0) ∧ w = w' := by
  go_enter Try.func13, Try.ntmps13
  go_wp2_with fail
  go_ret
  exact ⟨rfl, rfl⟩
/-- append of structs, in a plain walk. -/
theorem wpList_app12 {P : Program} (w : World) {ops : Array Oper} {rest : List Oper} {o : Oper} {a : Act} {Q : Exit → Act → World → Prop} (hgd : o.guard = none) (s x : Operand) (t : TypeId)
    (ho : o.op = .call { callee := .builtin .append, args := #[s, x], argTypes := #[t, t] })
    (base : Nat) (e : TypeId) (i : TypeInfo) (z : Value) (size bytes : Nat) (ht : P.underlying t = some (.slice e)) (hi : P.info? e = some i) (hz : i.zero = some z)
    (hsize : i.size = size) (hby : i.bytes = bytes) (hzs : z.cells.size = size) (hpos : 0 < size)
    (v : Value) (n : Nat) (xs : List Value) (hs : a.eval s = v) (hown : w.ownsRow base e size v n xs)
    (ad : Addr) (m c : Nat) (news : List Value) (hx : a.eval x = .slice (some ad) m c) (hl : news.length = m * size) (hnews : ∀ j u, news[j]? = some u → w.cell? (ad.add j) = some u) (h1 : ∀ u ∈ news, u.oneCell' = true)
    (h63 : n + m ≤ maxLen) (hbytes : (n + m) * bytes ≤ 140737488355328) (hbase : base ≤ w.heap.size)
    (h : ∀ v' w', w'.ownsRow base e size v' (n + m) (xs ++ news) → w.grownBy w' v.ownBlock → (v'.ownBlock = v.ownBlock ∨ v'.ownBlock = some w.heap.size) → wpList P ops Q rest (a.put o.dst v') w') : wpList P ops Q (o :: rest) a w := by
  refine wpList_plain hgd fun _ hK => ?_
  obtain ⟨v', w', hrun, h2, h3, _, h4⟩ := run_append_own_at (P := P) w base t o.type e i z size bytes ht hi hz hsize hby hzs hpos v n xs hown ad m c news hl hnews h1 h63 hbytes hbase
  unfold Oper.wp execOp
  simp only [ho, resolve, invoke, builtin, Sem.run_bind, Sem.run_pure, Result.andThen_ok, List.map_toArray, List.map_cons, List.map_nil, hs, hx, hrun]
  exact hK _ _ (h v' w' h2 h3 h4)
/-- What hands back records in a row of its own. -/
def RecP12 (l : List Rc) (w : World) (e : Ending) (w' : World) : Prop := ∃ E k d, e = .returned (.slice E k d) ∧ k = l.length ∧ w'.ownsRow w.heap.size 48 6 (.slice E k d) k (rcF l) ∧ Chg (fun _ => False) w w'
set_option maxRecDepth 100000 in
set_option maxHeartbeats 4000000 in
theorem trecords_any {w : World} {q : Nat} {o : Option Nat} {life : Int} {l : List Rc} (h : TN 51 w q o life l) (h16 : l.length ≤ 16) (t : Int) : Calls Try.prog 13 #[.pointer (some ⟨q, 0, none⟩), .int .i64 t] w (RecP12 (ex12 t l) w) := by
  obtain ⟨i0, hi0, hz0, hz1, hz2⟩ := info_parts infoRc12
  obtain ⟨LA, c, hb, hown, -, -⟩ := h
  have HR := Lib.hid (own_rcr hown rfl)
  obtain ⟨c0, c1, -⟩ := tb_cells hb
  have HS0 := Lib.hid (Chg.refl (fun _ => False) w).size
  have H16 := Lib.hid h16
  have hm16 := h16
  generalize hm : l.length = m at *
  have HL := Lib.hid hm
  clear hb hown hm h16
  go_enter Try.func13, Try.ntmps13
  go_wp2_with fail
  go_loopg [5, 7, 15] m (fun g' s5 s7 i wr => ∃ (j k d : Nat) (E : Option Addr), g' = m - j ∧ j ≤ m ∧ i = .int .i64 (j : Int) ∧ s5 = .slice E k d ∧ k ≤ j ∧ Hid (k = (ex12 t (l.take j)).length) ∧ Hid (wr.ownsRow w.heap.size 48 6 (.slice E k d) k (rcF (ex12 t (l.take j)))) ∧ Hid (Chg (fun _ => False) w wr))
  case atStart => exact ⟨0, 0, 0, none, rfl, Nat.zero_le _, rfl, rfl, Nat.le_refl _, Lib.hid rfl, Lib.hid (World.ownsRow_nil _ _ _ _), Lib.hid (Chg.refl _ _)⟩
  case round =>
    obtain ⟨j, k, d, E, rfl, hj, rfl, rfl, hkj, HK, HO, HX⟩ := hrel
    by_cases hlt : j < m
    · have hh := HR.out.chg HX.out (fun _ _ => id)
      obtain ⟨ad, rfl, -⟩ := hh.2 (by omega)
      have hjl : j < l.length := by have := HL.out; omega
      have hx : l[j]? = some l[j] := List.getElem?_eq_getElem hjl
      generalize l[j] = x at *
      obtain ⟨z0, z1, z2, z3, z4, z5⟩ := hh.at hx
      have HE := Lib.hid (ex12_take (t := t) hx)
      clear hx hh hjl
      have HXB : Hid (Blk (wr.alloc (.cells #[.int .i64 x.pr, .int .u32 x.sr, .int .u32 x.ds, .int .i64 x.sp, .int .i64 x.dp, .int .i64 x.un] 48)) wr.heap.size 48 (rcC x.pr x.sr x.ds x.sp x.dp x.un)) := Lib.hid (blk_new rfl)
      have HC0 := Lib.hid ((Chg.refl (fun _ => False) wr).alloc (.cells #[.int .i64 x.pr, .int .u32 x.sr, .int .u32 x.ds, .int .i64 x.sp, .int .i64 x.dp, .int .i64 x.un] 48))
      obtain ⟨x0, x1, x2, x3, x4, x5⟩ := rc_cells HXB.out
      have hlv := fun W => tlives_any x.pr x.sr x.ds x.sp x.dp x.un t W
      replace hlv : ∀ W, Calls _ _ _ W (fun e w' => e = .returned (.bool (lv12 t x)) ∧ Chg (fun _ => False) W w') := hlv
      unfold rcC at hlv
      cases hb : lv12 t x with
      | false =>
        rw [hb] at hlv HE
        have HLV := Lib.hid hlv
        clear hlv hb
        go_wp2_with fail
        refine (HLV.out _).mono ?_
        rintro e w2 ⟨rfl, hc⟩
        have HC := Lib.hid (HC0.out.trans hc (fun _ _ e => e))
        clear hc
        go_wp2_with fail
        go_roundg (m - (j + 1))
        case measure => omega
        case rel =>
          have e1 : ex12 t (l.take (j + 1)) = ex12 t (l.take j) := by rw [HE.out]; simp
          refine ⟨j + 1, k, d, E, rfl, by omega, by go_num, rfl, by omega, Lib.hid (by rw [e1]; exact HK.out), Lib.hid ?_, Lib.hid (HX.out.trans HC.out (fun _ _ e => e))⟩
          rw [e1]
          exact own_chg HO.out HC.out (fun _ _ => id)
      | true =>
        rw [hb] at hlv HE
        have HLV := Lib.hid hlv
        clear hlv hb
        go_wp2_with fail
        refine (HLV.out _).mono ?_
        rintro e w2 ⟨rfl, hc⟩
        have HC := Lib.hid (HC0.out.trans hc (fun _ _ e => e))
        have HXB2 := Lib.hid (HXB.out.chg hc id)
        clear hc x0 x1 x2 x3 x4 x5
        obtain ⟨x0, x1, x2, x3, x4, x5⟩ := rc_cells HXB2.out
        have HO2 := Lib.hid (own_chg HO.out HC.out (fun _ _ => id))
        have HZ := Lib.hid (show w.heap.size ≤ (w2.alloc (.cells #[.int .i64 x.pr, .int .u32 x.sr, .int .u32 x.ds, .int .i64 x.sp, .int .i64 x.dp, .int .i64 x.un] 48)).heap.size by have := HX.out.size; have := HC.out.size; simp; omega)
        have HG := Lib.hid (HX.out.trans HC.out (fun _ _ e => e))
        generalize ex12 t (l.take j) = l1 at *
        go_wp2_with (at_builtin; refine wpList_app12 _ rfl (.tmp 22) (.tmp 24) 30 rfl w.heap.size 48 i0 _ 6 40 Try.underlying30 hi0 hz0 hz1 hz2 rfl (by decide) (.slice E k d) k (rcF l1) rfl (own_chg HO2.out ((Chg.refl (fun _ => False) w2).alloc _) (fun _ _ => id)) ⟨w2.heap.size, 0, none⟩ 1 1 x.cs.toList rfl rfl (fun j u hu => by rw [show (⟨w2.heap.size, 0, none⟩ : Addr).add j = ⟨w2.heap.size, j, none⟩ from by unfold Addr.add; split <;> simp_all]; exact ((Blk.new w2 48 x.cs).cell j).trans (by simpa using hu)) (by simp [Rc.cs, rcC, Value.oneCell']) (by unfold maxLen; omega) (by omega) HZ.out ?_; intro v5 w5 hown5 hg5 hat5; obtain ⟨A5, c5, rfl, -, -⟩ := own_form hown5; have HO5 := Lib.hid hown5; have HX5 := Lib.hid (grown_fresh (HG.out.alloc _) hg5 (own_chg HO2.out ((Chg.refl (fun _ => False) w2).alloc (.cells #[.int .i64 x.pr, .int .u32 x.sr, .int .u32 x.ds, .int .i64 x.sp, .int .i64 x.dp, .int .i64 x.un] 48)) (fun _ _ => id)) (Nat.le_refl _)); clear hown5 hg5 hat5)
        go_roundg (m - (j + 1))
        case measure => omega
        case rel =>
          have e1 : ex12 t (l.take (j + 1)) = l1 ++ [x] := by rw [HE.out]; simp
          have e2 : rcF (l1 ++ [x]) = rcF l1 ++ x.cs.toList := by rw [rcF_app]; simp [rcF]
          exact ⟨j + 1, k + 1, c5, A5, rfl, by omega, by go_num, rfl, by omega, Lib.hid (by rw [e1, List.length_append, ← HK.out]; rfl), Lib.hid (by rw [e1, e2]; exact HO5.out), HX5⟩
    · have hjm : j = m := by omega
      subst hjm
      have e1 := Lib.hid (show ex12 t (l.take j) = ex12 t l by rw [List.take_of_length_le (by have := HL.out; omega)])
      go_wp2_with fail
      go_ret
      exact ⟨E, k, d, rfl, by rw [← e1.out]; exact HK.out, by rw [← e1.out]; exact HO.out, HX.out⟩
set_option maxRecDepth 100000 in
set_option maxHeartbeats 8000000 in
theorem timport_any {w : World} {q : Nat} {o : Option Nat} {life : Int} {l : List Rc} (h : TN 51 w q o life l) (h16 : l.length ≤ 16) (t : Int) (L : Option Addr) (m lc : Nat) (rs : List Rc) (S : Nat → Prop) (hr : RcR w S L m rs) (hS : ∀ k, S k → ¬ (k = q ∨ o = some k)) (hmc : m ≤ 9223372036854775806) : Calls Try.prog 10 #[.pointer (some ⟨q, 0, none⟩), .int .i64 t, .slice L m lc] w fun e w' => e = .returned (.int .i64 (imA t l rs : Int)) ∧ ∃ o', TN 51 w' q o' life (imL t l rs) ∧ Mvd q o o' w w' := by
  have HTM := Lib.hid (fun W => ttimely_any t W)
  have HRR := Lib.hid hr
  have HS := Lib.hid hS
  have HH := Lib.hid h
  have HRL := Lib.hid hr.1
  generalize htm : tmB t = b2 at *
  have HTB := Lib.hid htm
  clear h hr hS htm
  cases b2 with
  | false =>
    go_enter Try.func10, Try.ntmps10
    go_wp2_with fail
    refine (HTM.out _).mono ?_
    rintro e w3 ⟨rfl, rfl⟩
    go_wp2_with fail
    go_ret
    exact ⟨ret_i12 (by unfold imA; rw [HTB.out]; rfl), o, by unfold imL; rw [HTB.out]; exact HH.out, Mvd.refl _ _ _⟩
  | true =>
    have H16 := Lib.hid (ex12_len (t := t) h16)
    go_enter Try.func10, Try.ntmps10
    go_wp2_with fail
    refine (HTM.out _).mono ?_
    rintro e w3 ⟨rfl, rfl⟩
    have HEX := Lib.hid (texpire_any HH.out t)
    go_wp2_with fail
    refine HEX.out.mono ?_
    rintro e w4 ⟨rfl, hT4, hc4⟩
    have HT4 := Lib.hid hT4
    have HM4 := Lib.hid (show Mvd q o o w w4 from ⟨hc4, .inl rfl⟩)
    clear hT4 hc4 HEX
    go_wp2_with fail
    go_loopg [7, 9, 22] m (fun g' s7 s9 i wr => ∃ (j n : Nat) (o1 : Option Nat) (l1 : List Rc), g' = m - j ∧ j ≤ m ∧ i = .int .i64 (j : Int) ∧ s7 = .int .i64 (n : Int) ∧ n ≤ j ∧ Hid (imF t (ex12 t l) (rs.take j) = (l1, n)) ∧ Hid (TN 51 wr q o1 life l1) ∧ Hid (Mvd q o o1 w wr))
    case atStart => exact ⟨0, 0, o, ex12 t l, rfl, Nat.zero_le _, rfl, rfl, Nat.le_refl _, Lib.hid rfl, HT4, HM4⟩
    case round =>
      obtain ⟨j, n, o1, l1, rfl, hj, rfl, rfl, hnj, HMF, HT, HM⟩ := hrel
      by_cases hlt : j < m
      · have hh := HRR.out.chg HM.out.1 HS.out
        obtain ⟨ad, rfl, -⟩ := hh.2 (by omega)
        have hjl : j < rs.length := by have := HRL.out; omega
        have hx : rs[j]? = some rs[j] := List.getElem?_eq_getElem hjl
        generalize rs[j] = x at *
        obtain ⟨z0, z1, z2, z3, z4, z5⟩ := hh.at hx
        have HIF := Lib.hid (imF_take (t := t) (l := ex12 t l) hx)
        clear hx hh hjl
        have HXB : Hid (Blk (wr.alloc (.cells #[.int .i64 x.pr, .int .u32 x.sr, .int .u32 x.ds, .int .i64 x.sp, .int .i64 x.dp, .int .i64 x.un] 48)) wr.heap.size 48 (rcC x.pr x.sr x.ds x.sp x.dp x.un)) := Lib.hid (blk_new rfl)
        have HC0 := Lib.hid ((Chg.refl (fun _ => False) wr).alloc (.cells #[.int .i64 x.pr, .int .u32 x.sr, .int .u32 x.ds, .int .i64 x.sp, .int .i64 x.dp, .int .i64 x.un] 48))
        obtain ⟨x0, x1, x2, x3, x4, x5⟩ := rc_cells HXB.out
        have hri := fun W => iright_any x.pr x.sr x.ds x.sp x.dp W
        unfold flC at hri
        have hlv := fun W => tlives_any x.pr x.sr x.ds x.sp x.dp x.un t W
        replace hlv : ∀ W, Calls _ _ _ W (fun e w' => e = .returned (.bool (lv12 t x)) ∧ Chg (fun _ => False) W w') := hlv
        unfold rcC at hlv
        cases hb : flR x.pr x.sp x.dp with
        | false =>
          have HIR := Lib.hid (show imR t x = false by unfold imR; rw [hb]; rfl)
          rw [hb] at hri
          have HRI := Lib.hid hri
          clear hri hlv hb
          go_wp2_with fail
          refine (HRI.out _).mono ?_
          rintro e w5 ⟨rfl, hc⟩
          have HC := Lib.hid (HC0.out.trans hc (fun _ _ e => e))
          clear hc
          go_wp2_with fail
          go_roundg (m - (j + 1))
          case measure => omega
          case rel => exact ⟨j + 1, n, o1, l1, rfl, by omega, by go_num, by go_num, by omega, Lib.hid (by rw [HIF.out, HMF.out]; unfold imS; rw [HIR.out]; rfl), Lib.hid (HT.out.new HC.out), Lib.hid (HM.out.post HC.out)⟩
        | true =>
          rw [hb] at hri
          have HRI := Lib.hid hri
          have HFR := Lib.hid hb
          clear hri hb
          cases hb2 : lv12 t x with
          | false =>
            have HIR := Lib.hid (show imR t x = false by unfold imR; rw [hb2]; simp)
            rw [hb2] at hlv
            have HLV := Lib.hid hlv
            clear hlv hb2
            go_wp2_with fail
            refine (HRI.out _).mono ?_
            rintro e w5 ⟨rfl, hc⟩
            have HC := Lib.hid (HC0.out.trans hc (fun _ _ e => e))
            have HXB5 := Lib.hid (HXB.out.chg hc id)
            clear hc x0 x1 x2 x3 x4 x5
            obtain ⟨x0, x1, x2, x3, x4, x5⟩ := rc_cells HXB5.out
            go_wp2_with fail
            refine (HLV.out _).mono ?_
            rintro e w6 ⟨rfl, hc⟩
            have HC6 := Lib.hid (HC.out.trans hc (fun _ _ e => e))
            clear hc
            go_wp2_with fail
            go_roundg (m - (j + 1))
            case measure => omega
            case rel => exact ⟨j + 1, n, o1, l1, rfl, by omega, by go_num, by go_num, by omega, Lib.hid (by rw [HIF.out, HMF.out]; unfold imS; rw [HIR.out]; rfl), Lib.hid (HT.out.new HC6.out), Lib.hid (HM.out.post HC6.out)⟩
          | true =>
            have HL2 := Lib.hid hb2
            rw [hb2] at hlv
            have HLV := Lib.hid hlv
            clear hlv hb2
            go_wp2_with fail
            refine (HRI.out _).mono ?_
            rintro e w5 ⟨rfl, hc⟩
            have HC := Lib.hid (HC0.out.trans hc (fun _ _ e => e))
            have HXB5 := Lib.hid (HXB.out.chg hc id)
            clear hc x0 x1 x2 x3 x4 x5
            obtain ⟨x0, x1, x2, x3, x4, x5⟩ := rc_cells HXB5.out
            go_wp2_with fail
            refine (HLV.out _).mono ?_
            rintro e w6 ⟨rfl, hc⟩
            have HC6 := Lib.hid (HC.out.trans hc (fun _ _ e => e))
            have HXB6 := Lib.hid (HXB5.out.chg hc id)
            clear hc x0 x1 x2 x3 x4 x5
            obtain ⟨x0, x1, x2, x3, x4, x5⟩ := rc_cells HXB6.out
            by_cases hun : x.un ≤ 1099511627776
            · have HIR := Lib.hid (show imR t x = true by unfold imR; rw [HFR.out, HL2.out]; simp [hun])
              have h1 : l1.length ≤ 16 := by have h2 := imF_len (t := t) (l := ex12 t l) (rs := rs.take j) H16.out; rw [HMF.out] at h2; exact h2
              have htk := ttake_any (HT.out.new HC6.out) h1 x.pr x.sr x.ds x.sp x.dp x.un
              replace htk : Calls _ _ _ w6 (fun e w' => e = .returned (.bool (pb12 l1 x)) ∧ ∃ o', TN 51 w' q o' life (pu12 l1 x) ∧ Mvd q o1 o' w6 w') := htk
              unfold rcC at htk
              clear h1
              cases hpb : pb12 l1 x with
              | false =>
                rw [hpb] at htk
                have HTK := Lib.hid htk
                have HPB := Lib.hid hpb
                clear htk hpb
                go_wp2_with fail
                refine HTK.out.mono ?_
                rintro e w7 ⟨rfl, o7, hT7, hM7⟩
                have HT7 := Lib.hid hT7
                have HM7 := Lib.hid ((HM.out.post HC6.out).trans hM7)
                clear hT7 hM7 HTK
                go_wp2_with fail
                go_roundg (m - (j + 1))
                case measure => omega
                case rel => exact ⟨j + 1, n, o7, pu12 l1 x, rfl, by omega, by go_num, by go_num, by omega, Lib.hid (by rw [HIF.out, HMF.out]; unfold imS; rw [HIR.out, HPB.out]; rfl), Lib.hid (HT7.out), Lib.hid (HM7.out)⟩
              | true =>
                rw [hpb] at htk
                have HTK := Lib.hid htk
                have HPB := Lib.hid hpb
                clear htk hpb
                go_wp2_with fail
                refine HTK.out.mono ?_
                rintro e w7 ⟨rfl, o7, hT7, hM7⟩
                have HT7 := Lib.hid hT7
                have HM7 := Lib.hid ((HM.out.post HC6.out).trans hM7)
                clear hT7 hM7 HTK
                go_wp2_with fail
                go_roundg (m - (j + 1))
                case measure => omega
                case rel => exact ⟨j + 1, n + 1, o7, pu12 l1 x, rfl, by omega, by go_num, by go_num, by omega, Lib.hid (by rw [HIF.out, HMF.out]; unfold imS; rw [HIR.out, HPB.out]; rfl), Lib.hid (HT7.out), Lib.hid (HM7.out)⟩
            · have HIR := Lib.hid (show imR t x = false by unfold imR; simp [hun])
              go_wp2_with fail
              go_roundg (m - (j + 1))
              case measure => omega
              case rel => exact ⟨j + 1, n, o1, l1, rfl, by omega, by go_num, by go_num, by omega, Lib.hid (by rw [HIF.out, HMF.out]; unfold imS; rw [HIR.out]; rfl), Lib.hid (HT.out.new HC6.out), Lib.hid (HM.out.post HC6.out)⟩
      · have hjm : j = m := by omega
        subst hjm
        have e1 := Lib.hid (show imF t (ex12 t l) rs = (l1, n) by rw [← HMF.out, List.take_of_length_le (by have := HRL.out; omega)])
        go_wp2_with fail
        go_ret
        exact ⟨ret_i12 (by unfold imA; rw [HTB.out, e1.out]; rfl), o1, by unfold imL; rw [HTB.out, e1.out]; exact HT.out, HM.out⟩

end Go.Proofs.Ytclikcbgeolngaa
