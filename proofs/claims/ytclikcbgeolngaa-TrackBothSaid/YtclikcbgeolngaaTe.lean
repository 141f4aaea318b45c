/-
  Walks: slices.DeleteFunc over the closure of track.expire, expire, New. Conditions: the row is owned, the table lies in memory.
-/
import Derived.Test.YtclikcbgeolngaaTd
namespace Go.Proofs.Ytclikcbgeolngaa
open Go.RowKit
set_option linter.unusedVariables false
set_option linter.unusedSimpArgs false

theorem infoRc12 : (Try.prog.info? 48).map (fun i => (i.zero, i.size, i.bytes)) = some (some (.agg #[.int .i64 0, .int .u32 0, .int .u32 0, .int .i64 0, .int .i64 0, .int .i64 0]), 6, 40) := by kernel_rfl
theorem zeroRc12 (w : World) : (zeroValue 48).run Try.prog w = .ok (.agg #[.int .i64 0, .int .u32 0, .int .u32 0, .int .i64 0, .int .i64 0, .int .i64 0]) w := Try.zeroValue48 w
/-- The cells of m records of zeros. -/
def zr12 (m : Nat) : List Value := (Builtin.zeroCells #[.int .i64 0, .int .u32 0, .int .u32 0, .int .i64 0, .int .i64 0, .int .i64 0] m).toList
theorem zr12_len (m : Nat) : (zr12 m).length = m * 6 := by simp [zr12, Builtin.zeroCells]
theorem zr12_one (m : Nat) : ∀ v ∈ zr12 m, v.oneCell' = true := by
  intro v hv
  simp only [zr12, Builtin.zeroCells, Array.toList_map, List.mem_map] at hv
  obtain ⟨i, _, rfl⟩ := hv
  have h6 : i % 6 = 0 ∨ i % 6 = 1 ∨ i % 6 = 2 ∨ i % 6 = 3 ∨ i % 6 = 4 ∨ i % 6 = 5 := by omega
  have e : (#[.int .i64 0, .int .u32 0, .int .u32 0, .int .i64 0, .int .i64 0, .int .i64 0] : Array Value).size = 6 := rfl
  rw [e]
  rcases h6 with h | h | h | h | h | h <;> rw [h] <;> rfl
theorem run_clear12 (w : World) (ty : TypeId) (g o m c : Nat) (hm : 0 < m) (hc : ∀ j, j < m * 6 → (w.cell? ⟨g, o + j, none⟩).isSome = true) (hf : ∀ j, j < m * 6 → w.frozen? ⟨g, o + j, none⟩ = false) :
    (Builtin.clear_ #[30] ty #[.slice (some ⟨g, o, none⟩) m c]).run Try.prog w = .ok (.tuple #[]) (w.setCells g o (zr12 m)) := by
  have hst := run_storeCells_cells (P := Try.prog) g o (zr12 m) 0 w (by simpa [zr12_len] using hc) (by simpa [zr12_len] using hf) (zr12_one m)
  simp only [Nat.add_zero] at hst
  obtain ⟨m', rfl⟩ : ∃ m', m = m' + 1 := ⟨m - 1, by omega⟩
  have e : (Builtin.zeroCells #[.int .i64 0, .int .u32 0, .int .u32 0, .int .i64 0, .int .i64 0, .int .i64 0] (m' + 1)).toList = zr12 (m' + 1) := rfl
  simp [Builtin.clear_, run_underlying Try.underlying30, zeroRc12, Value.cells, e, hst]
/-- The cells of a record of what is owned; none is frozen. -/
theorem own_at12 {w : World} {base g n c i : Nat} {l : List Rc} {x : Rc} (h : w.ownsRow base 48 6 (.slice (some ⟨g, 0, none⟩) n c) n (rcF l)) (hi : l[i]? = some x) :
    w.cell? ⟨g, i * 6, none⟩ = some (.int .i64 x.pr) ∧ w.cell? ⟨g, i * 6 + 1, none⟩ = some (.int .u32 x.sr) ∧ w.cell? ⟨g, i * 6 + 2, none⟩ = some (.int .u32 x.ds) ∧ w.cell? ⟨g, i * 6 + 3, none⟩ = some (.int .i64 x.sp) ∧ w.cell? ⟨g, i * 6 + 4, none⟩ = some (.int .i64 x.dp) ∧ w.cell? ⟨g, i * 6 + 5, none⟩ = some (.int .i64 x.un) := by
  have k : ∀ j u, j < 6 → x.cs[j]? = some u → w.cell? ⟨g, i * 6 + j, none⟩ = some u := fun j u hj hu => by
    have e : (⟨g, 0, none⟩ : Addr).add (i * 6 + j) = ⟨g, i * 6 + j, none⟩ := by unfold Addr.add; split <;> simp_all
    rw [← e]
    exact h.cells (g := g) rfl _ u (by rw [rcF_at l i x hi j hj, hu])
  exact ⟨k 0 _ (by omega) rfl, k 1 _ (by omega) rfl, k 2 _ (by omega) rfl, k 3 _ (by omega) rfl, k 4 _ (by omega) rfl, k 5 _ (by omega) rfl⟩
theorem own_blk12 {w : World} {base g n c : Nat} {xs : List Value} (h : w.ownsRow base 48 6 (.slice (some ⟨g, 0, none⟩) n c) n xs) : ∃ cur, Blk w g 48 cur ∧ cur.size = c * 6 ∧ n ≤ c := by
  rcases h.2 with ⟨hv, hm⟩ | ⟨g', cap, cur, hv, h1, hh, h2, h3, h4, h5⟩
  · injection hv with hA
    cases hA
  · injection hv with hA hn hc
    injection hA with hA
    injection hA with hA
    subst hA hc
    exact ⟨cur, hh, h4, h2⟩
theorem own_free12 {w : World} {base g n c : Nat} {xs : List Value} (h : w.ownsRow base 48 6 (.slice (some ⟨g, 0, none⟩) n c) n xs) (i : Nat) : w.frozen? ⟨g, i, none⟩ = false := by
  obtain ⟨cur, hb, _⟩ := own_blk12 h
  exact hb.frozen i
theorem own_form12 {w : World} {base n c : Nat} {A : Option Addr} {xs : List Value} (h : w.ownsRow base 48 6 (.slice A n c) n xs) (hn : 0 < n) : ∃ g, A = some ⟨g, 0, none⟩ := by
  rcases h.2 with ⟨hv, hm⟩ | ⟨g', cap, cur, hv, _⟩
  · omega
  · injection hv with hA
    exact ⟨g', hA⟩
/-- What DeleteFunc leaves. -/
def DelP12 (w : World) (A : Option Addr) (c : Nat) (t : Int) (l : List Rc) (e : Ending) (w' : World) : Prop :=
  ∃ k : Nat, e = .returned (.slice A k c) ∧ k = (ex12 t l).length ∧ w'.ownsRow 0 48 6 (.slice A k c) k (rcF (ex12 t l)) ∧ Chg (fun b => A.map (·.block) = some b) w w'
theorem ex12_all {t : Int} {l : List Rc} (h : (l.any fun x : Rc => !lv12 t x) = false) : ex12 t l = l := by
  unfold ex12
  rw [List.filter_eq_self]
  intro x hx
  rw [List.any_eq_false] at h
  have := h x hx
  simpa using this
theorem ex12_bef {t : Int} {l : List Rc} {j : Nat} (h : ∀ (i : Nat) (y : Rc), i < j → l[i]? = some y → (!lv12 t y) = false) : ex12 t (l.take j) = l.take j := by
  unfold ex12
  rw [List.filter_eq_self]
  intro x hx
  obtain ⟨i, hi⟩ := List.getElem?_of_mem hx
  rw [List.getElem?_take] at hi
  split at hi
  · next hj =>
    have := h i x hj hi
    simpa using this
  · cases hi
set_option maxRecDepth 100000 in
set_option maxHeartbeats 8000000 in
theorem tdelete_any {w : World} {A : Option Addr} {n c : Nat} {l : List Rc} {t : Int} {q : Nat} (h : w.ownsRow 0 48 6 (.slice A n c) n (rcF l)) (hn : n = l.length) (hq : Blk w q 3 #[.int .i64 t]) (hne : A.map (·.block) ≠ some q) : Calls Try.prog 31 #[.slice A n c, .func (.func 32) #[] #[.pointer (some ⟨q, 0, none⟩)]] w (DelP12 w A c t l) := by
  have hcap := own_cap h
  have HI := Lib.hid (tindexe_any A n c l t q w _ (own_rcr h hn) (by unfold maxLen at hcap; omega) hq)
  have HOWN := Lib.hid h
  have HQ := Lib.hid hq
  have HN := Lib.hid hn
  have HNE := Lib.hid hne
  have hcm : c ≤ 9223372036854775807 := hcap.2
  have hnc := hcap.1
  clear h hq hn hne hcap
  go_enter Try.func31, Try.ntmps31
  go_wp2_with fail
  refine HI.out.mono ?_
  rintro e w1 ⟨z, rfl, hz, hc⟩
  have HX1 := Lib.hid hc
  clear hc HI
  rcases hz with ⟨rfl, hall⟩ | ⟨j0, x0, rfl, hj0, hx0, hbef⟩
  · have HE := Lib.hid (ex12_all hall)
    clear hall
    go_wp2_with fail
    go_ret
    exact ⟨n, rfl, by rw [HE.out]; exact HN.out, by rw [HE.out]; exact own_chg HOWN.out HX1.out (fun _ _ => id), HX1.out.mono (fun _ _ e => e.elim)⟩
  · have hjn : j0 < n := by have := (List.getElem?_eq_some_iff.1 hj0).1; have := HN.out; omega
    have HB := Lib.hid (show ex12 t (l.take j0) = l.take j0 from ex12_bef hbef)
    have HB1 := Lib.hid (show ex12 t (l.take (j0 + 1)) = l.take j0 by
      rw [ex12_take hj0, HB.out, show lv12 t x0 = false by simpa using hx0]
      simp)
    clear hbef hx0 hj0
    obtain ⟨g, rfl⟩ := own_form12 HOWN.out (by omega)
    replace HOWN := Lib.hid (own_chg HOWN.out HX1.out (fun _ _ => id))
    replace HQ := Lib.hid (HQ.out.chg HX1.out id)
    replace HX1 : Hid (Chg (fun b => b = g) w w1) := Lib.hid (HX1.out.mono (fun _ _ e => e.elim))
    replace HNE := Lib.hid (show q ≠ g from fun e => HNE.out (by rw [e]; rfl))
    have tz : ((j0 : Int) == -1) = false := by simp
    go_wp2_with fail
    go_loopg [5, 6, 7] (n - (j0 + 1)) (fun g' s5 s6 s7 wr => ∃ (j k : Nat) (l' : List Rc), g' = n - j ∧ j ≤ n ∧ s5 = .int .i64 (k : Int) ∧ s6 = .int .i64 (j : Int) ∧ k < j ∧ Hid (n = l'.length ∧ l'.take k = ex12 t (l.take j) ∧ l'.drop j = l.drop j) ∧ Hid (wr.ownsRow 0 48 6 (.slice (some ⟨g, 0, none⟩) n c) n (rcF l')) ∧ Hid (Chg (fun b => b = g) w wr) ∧ Hid (Blk wr q 3 #[.int .i64 t]))
    case atStart => exact ⟨j0 + 1, j0, l, rfl, by omega, rfl, by go_num, by omega, Lib.hid ⟨HN.out, HB1.out.symm, rfl⟩, HOWN, HX1, HQ⟩
    case round =>
      obtain ⟨j, k, l', rfl, hj, rfl, rfl, hkj, HL, HO, HX, HQ⟩ := hrel
      by_cases hlt : j < n
      · have hjl : j < l.length := by have := HN.out; omega
        have hx : l[j]? = some l[j] := List.getElem?_eq_getElem hjl
        generalize l[j] = x at *
        have hx' : l'[j]? = some x := by
          have e := HL.out.2.2
          have e2 : (l'.drop j)[0]? = (l.drop j)[0]? := by rw [e]
          rw [List.getElem?_drop, List.getElem?_drop] at e2
          simpa [hx] using e2
        have hkl : k < l'.length := by have := HL.out.1; omega
        have hy : l'[k]? = some l'[k] := List.getElem?_eq_getElem hkl
        generalize l'[k] = y at *
        obtain ⟨z0, z1, z2, z3, z4, z5⟩ := own_at12 HO.out hx'
        have HX2 := Lib.hid (show ex12 t (l.take (j + 1)) = ex12 t (l.take j) ++ (if lv12 t x then [x] else []) from ex12_take hx)
        have HY := Lib.hid hy
        clear hx hx' hy hjl
        have HB0 : Hid (Blk (wr.alloc (.cells #[.int .i64 x.pr, .int .u32 x.sr, .int .u32 x.ds, .int .i64 x.sp, .int .i64 x.dp, .int .i64 x.un] 48)) wr.heap.size 48 (rcC x.pr x.sr x.ds x.sp x.dp x.un)) := Lib.hid (blk_new rfl)
        have HC0 := Lib.hid ((Chg.refl (fun _ => False) wr).alloc (.cells #[.int .i64 x.pr, .int .u32 x.sr, .int .u32 x.ds, .int .i64 x.sp, .int .i64 x.dp, .int .i64 x.un] 48))
        have hk := fun W (hw : Chg (fun _ => False) wr W) => tex1_any x.pr x.sr x.ds x.sp x.dp x.un t q W (HQ.out.chg hw id)
        replace hk : ∀ W, Chg (fun _ => False) wr W → Calls _ _ _ W (fun e w' => e = .returned (.bool (!lv12 t x)) ∧ Chg (fun _ => False) W w') := hk
        unfold rcC at hk
        have hgw : g < wr.heap.size := (own_low HO.out rfl).2
        obtain ⟨b0, b1, b2, b3, b4, b5⟩ := rc_cells HB0.out
        cases hb : lv12 t x with
        | false =>
          rw [hb] at hk HX2
          have HK := Lib.hid hk
          clear hk hb
          go_wp2_with fail
          refine (HK.out _ HC0.out).mono ?_
          rintro e w2 ⟨rfl, hc1⟩
          have HC := Lib.hid (HC0.out.trans hc1 (fun _ _ e => e))
          clear hc1
          go_wp2_with fail
          go_roundg (n - (j + 1))
          case measure => omega
          case rel =>
            refine ⟨j + 1, k, l', rfl, by omega, rfl, by go_num, by omega, Lib.hid ⟨HL.out.1, ?_, ?_⟩, Lib.hid (own_chg HO.out HC.out (fun _ _ => id)), Lib.hid (HX.out.trans HC.out (fun _ _ e => e.elim)), Lib.hid (HQ.out.chg HC.out id)⟩
            · rw [HX2.out, HL.out.2.1]
              simp
            · have e := congrArg (List.drop 1) HL.out.2.2
              simpa [List.drop_drop, Nat.add_comm] using e
        | true =>
          rw [hb] at hk HX2
          have HK := Lib.hid hk
          clear hk hb
          go_wp2_with fail
          refine (HK.out _ HC0.out).mono ?_
          rintro e w2 ⟨rfl, hc1⟩
          have HC := Lib.hid (HC0.out.trans hc1 (fun _ _ e => e))
          have HBB := Lib.hid (HB0.out.chg hc1 id)
          clear hc1 b0 b1 b2 b3 b4 b5
          have HO2 := Lib.hid (own_chg HO.out HC.out (fun _ _ => id))
          obtain ⟨b0, b1, b2, b3, b4, b5⟩ := rc_cells HBB.out
          obtain ⟨a0, a1, a2, a3, a4, a5⟩ := own_at12 HO2.out HY.out
          have f0 := own_free12 HO2.out (k * 6)
          have f1 := own_free12 HO2.out (k * 6 + 1)
          have f2 := own_free12 HO2.out (k * 6 + 2)
          have f3 := own_free12 HO2.out (k * 6 + 3)
          have f4 := own_free12 HO2.out (k * 6 + 4)
          have f5 := own_free12 HO2.out (k * 6 + 5)
          have HP := Lib.hid (own_put12 HO2.out k hkl x)
          have HC3 : Hid (Chg (fun b => b = g) wr ((((((w2.setCell ⟨g, k * 6, none⟩ (.int .i64 x.pr)).setCell ⟨g, k * 6 + 1, none⟩ (.int .u32 x.sr)).setCell ⟨g, k * 6 + 2, none⟩ (.int .u32 x.ds)).setCell ⟨g, k * 6 + 3, none⟩ (.int .i64 x.sp)).setCell ⟨g, k * 6 + 4, none⟩ (.int .i64 x.dp)).setCell ⟨g, k * 6 + 5, none⟩ (.int .i64 x.un))) :=
            Lib.hid ((((((((HC.out.mono (fun _ _ e => e.elim) : Chg (fun b => b = g) wr w2).put g _ (fun _ => rfl) _).put g _ (fun _ => rfl) _).put g _ (fun _ => rfl) _).put g _ (fun _ => rfl) _).put g _ (fun _ => rfl) _).put g _ (fun _ => rfl) _))
          go_wp2_with fail
          generalize (((((w2.setCell ⟨g, k * 6, none⟩ (.int .i64 x.pr)).setCell ⟨g, k * 6 + 1, none⟩ (.int .u32 x.sr)).setCell ⟨g, k * 6 + 2, none⟩ (.int .u32 x.ds)).setCell ⟨g, k * 6 + 3, none⟩ (.int .i64 x.sp)).setCell ⟨g, k * 6 + 4, none⟩ (.int .i64 x.dp)).setCell ⟨g, k * 6 + 5, none⟩ (.int .i64 x.un) = w6 at *
          go_roundg (n - (j + 1))
          case measure => omega
          case rel =>
            refine ⟨j + 1, k + 1, l'.set k x, rfl, by omega, by go_num, by go_num, by omega, Lib.hid ⟨by simp; exact HL.out.1, ?_, ?_⟩, HP, Lib.hid (HX.out.trans HC3.out (fun _ _ e => e)), Lib.hid (HQ.out.chg HC3.out HNE.out)⟩
            · rw [HX2.out, ← HL.out.2.1, List.take_add_one, List.take_set, List.getElem?_set_self hkl, List.set_eq_of_length_le (by rw [List.length_take]; omega)]
              simp
            · rw [List.drop_set, if_pos (by omega)]
              have e := congrArg (List.drop 1) HL.out.2.2
              simpa [List.drop_drop, Nat.add_comm] using e
      · have hjn : j = n := by omega
        subst hjn
        have HE := Lib.hid (show l'.take k = ex12 t l by rw [HL.out.2.1, List.take_of_length_le (by have := HN.out; omega)])
        have HKL := Lib.hid (show k = (ex12 t l).length by rw [← HE.out, List.length_take]; have := HL.out.1; omega)
        have HT := Lib.hid (own_tail12 (k := k) HO.out HL.out.1 (by omega) (zr12 (j - k)) (k * 6) (Nat.le_refl _))
        have HCT := Lib.hid (chg_cells12 (g := g) (S := fun b => b = g) rfl (zr12 (j - k)) (k * 6) _ HX.out)
        have hcl : ∀ ty, (Builtin.clear_ #[30] ty #[.slice (some ⟨g, k * 6, none⟩) (j - k) (c - k)]).run Try.prog wr = .ok (.tuple #[]) (wr.setCells g (k * 6) (zr12 (j - k))) := fun ty => by
          obtain ⟨cur, hb, hs, hnc⟩ := own_blk12 HO.out
          refine run_clear12 wr ty g (k * 6) (j - k) (c - k) (by omega) (fun i hi => ?_) (fun i hi => hb.frozen _)
          rw [hb.cell, Array.getElem?_eq_getElem (by omega)]
          rfl
        have hkc : k ≤ c := by omega
        have hkne : ¬ c = k := by omega
        have hkj2 : k ≤ j := by omega
        generalize wr.setCells g (k * 6) (zr12 (j - k)) = w9 at *
        go_wp2_with fail
        go_ret
        refine ⟨k, rfl, HKL.out, ?_, HCT.out.mono (fun _ _ e => by rw [e]; rfl)⟩
        rw [← HE.out]
        exact HT.out

end Go.Proofs.Ytclikcbgeolngaa
