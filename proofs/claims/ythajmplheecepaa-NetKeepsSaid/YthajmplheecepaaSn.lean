/-
  Walks: the document's At, Find, Take, Double; puts. Conditions: the document's net lies in memory, its room is at most 4096.
-/
import Derived.Test.YthajmplheecepaaSm
namespace Go.Proofs.Ythajmplheecepaa
open Go.RowKit
set_option linter.unusedVariables false
set_option linter.unusedSimpArgs false
attribute [local go_sem] Oper.semAt_some

def RAtP18 (x : NV18) (i : Int) (w : World) (e : Ending) (w' : World) : Prop := e = .returned (.tuple #[.agg #[.int .i64 ((at18 x i).ki), .int .i64 ((at18 x i).ch), .string ⟨(at18 x i).bs.toArray⟩], .int .i64 (lackE x i)]) ∧ Chg (fun _ => False) w w'
set_option maxRecDepth 100000 in
set_option maxHeartbeats 4000000 in
theorem rat18 {w : World} {b q : Nat} {o : Option Nat} {x : NV18} (h : DN w b q o x) (i : Int) : Calls Try.prog 21 #[.pointer (some ⟨q, 0, none⟩), .int .i64 i] w (RAtP18 x i w) := by
  have HX0 := Lib.hid ((Chg.refl (fun _ => False) w).alloc (.cells #[.int .i64 0, .int .i64 0, .string ⟨#[]⟩] 49))
  have HZ0 : Hid (Blk (w.alloc (.cells #[.int .i64 0, .int .i64 0, .string ⟨#[]⟩] 49)) w.heap.size 49 #[.int .i64 0, .int .i64 0, .string ⟨#[]⟩]) := Lib.hid (blk_new rfl)
  have HQ := Lib.hid (show b ≤ w.heap.size from by have := h.lt.1; omega)
  have HLT := Lib.hid h.lt
  unfold RAtP18
  by_cases hi : 0 ≤ i ∧ i < (x.l.length : Int)
  case neg =>
    by_cases h0 : i < 0
    · rw [at18_no hi, lackE, if_neg hi]
      obtain ⟨L, m, lc, hb, ho, hn, -, -⟩ := h.new HX0.out
      have hcap := own_cap ho
      unfold maxLen at hcap
      have HB := Lib.hid hb
      clear hb ho hn h hi
      go_enter Try.func21, Try.ntmps21
      go_upto_region 1 with fail
      generalize w.alloc (.cells #[.int .i64 0, .int .i64 0, .string ⟨#[]⟩] 49) = w1 at *
      generalize hQ0 : w.heap.size = Q0 at *
      replace HQ := Lib.hid (And.intro (Nat.le_of_eq hQ0) HQ.out)
      clear hQ0
      obtain ⟨c0, c1, c2, f0, f2⟩ := rn_cells HB.out
      obtain ⟨hbr, hcs⟩ := it_put3 HZ0.out 0 0 (.string ⟨#[]⟩)
      have HBR := Lib.hid hbr
      have HCS := Lib.hid hcs
      clear hbr hcs
      obtain ⟨x0, x1, x2⟩ := it_cells HZ0.out
      have g0 := HZ0.out.frozen 0
      have g1 := HZ0.out.frozen 1
      have g2 := HZ0.out.frozen 2
      go_wp2_with fail
      obtain ⟨r0, r1, r2⟩ := it_cells HBR.out
      refine bodyPost_ret (v := .tuple #[.agg #[.int .i64 0, .int .i64 0, .string ⟨#[]⟩], .int .i64 4]) (by simp [results, Try.results21, go_sem, r0, r1, r2]) rfl ?_
      exact ⟨rfl, fresh_set HX0.out HCS.out HQ.out.1⟩
    · rw [at18_no hi, lackE, if_neg hi]
      obtain ⟨L, m, lc, hb, ho, hn, -, -⟩ := h.new HX0.out
      have hcap := own_cap ho
      unfold maxLen at hcap
      have HB := Lib.hid hb
      have him : (m : Int) ≤ i := by omega
      clear hb ho hn h hi
      go_enter Try.func21, Try.ntmps21
      go_upto_region 1 with fail
      generalize w.alloc (.cells #[.int .i64 0, .int .i64 0, .string ⟨#[]⟩] 49) = w1 at *
      generalize hQ0 : w.heap.size = Q0 at *
      replace HQ := Lib.hid (And.intro (Nat.le_of_eq hQ0) HQ.out)
      clear hQ0
      obtain ⟨c0, c1, c2, f0, f2⟩ := rn_cells HB.out
      obtain ⟨hbr, hcs⟩ := it_put3 HZ0.out 0 0 (.string ⟨#[]⟩)
      have HBR := Lib.hid hbr
      have HCS := Lib.hid hcs
      clear hbr hcs
      obtain ⟨x0, x1, x2⟩ := it_cells HZ0.out
      have g0 := HZ0.out.frozen 0
      have g1 := HZ0.out.frozen 1
      have g2 := HZ0.out.frozen 2
      go_wp2_with fail
      obtain ⟨r0, r1, r2⟩ := it_cells HBR.out
      refine bodyPost_ret (v := .tuple #[.agg #[.int .i64 0, .int .i64 0, .string ⟨#[]⟩], .int .i64 4]) (by simp [results, Try.results21, go_sem, r0, r1, r2]) rfl ?_
      exact ⟨rfl, fresh_set HX0.out HCS.out HQ.out.1⟩
  obtain ⟨j, rfl⟩ : ∃ j : Nat, i = (j : Int) := ⟨i.toNat, by omega⟩
  obtain ⟨u, hu⟩ : ∃ u, x.l[j]? = some u := ⟨_, List.getElem?_eq_getElem (by omega)⟩
  rw [at18_ok hu, lackE, if_pos hi]
  obtain ⟨L, m, lc, hb, ho, hn, -, -⟩ := h.new HX0.out
  obtain ⟨g, rfl, z0, z1, z2⟩ := itF_cells ho hu
  have hcap := own_cap ho
  unfold maxLen at hcap
  have HB := Lib.hid hb
  have hjm : j < m := by omega
  clear hb ho hn h hi hu
  go_enter Try.func21, Try.ntmps21
  go_upto_region 1 with fail
  generalize w.alloc (.cells #[.int .i64 0, .int .i64 0, .string ⟨#[]⟩] 49) = w1 at *
  generalize hQ0 : w.heap.size = Q0 at *
  replace HQ := Lib.hid (And.intro (Nat.le_of_eq hQ0) HQ.out)
  clear hQ0
  obtain ⟨c0, c1, c2, f0, f2⟩ := rn_cells HB.out
  obtain ⟨hbr, hcs⟩ := it_put3 HZ0.out u.ki u.ch (.string ⟨u.bs.toArray⟩)
  have HBR := Lib.hid hbr
  have HCS := Lib.hid hcs
  clear hbr hcs
  obtain ⟨x0, x1, x2⟩ := it_cells HZ0.out
  have g0 := HZ0.out.frozen 0
  have g1 := HZ0.out.frozen 1
  have g2 := HZ0.out.frozen 2
  go_wp2_with fail
  obtain ⟨r0, r1, r2⟩ := it_cells HBR.out
  refine bodyPost_ret (v := .tuple #[.agg #[.int .i64 u.ki, .int .i64 u.ch, .string ⟨u.bs.toArray⟩], .int .i64 0]) (by simp [results, Try.results21, go_sem, r0, r1, r2]) rfl ?_
  exact ⟨rfl, fresh_set HX0.out HCS.out HQ.out.1⟩
set_option maxRecDepth 100000 in
set_option maxHeartbeats 4000000 in
theorem rfind18 {w : World} {b q : Nat} {o : Option Nat} {x : NV18} (h : DN w b q o x) (k c : Int) : Calls Try.prog 22 #[.pointer (some ⟨q, 0, none⟩), .int .i64 k, .int .i64 c] w fun e w' => e = .returned (.int .i64 (fnd18 k c x.l 0)) ∧ w = w' := by
  obtain ⟨L, m, lc, hb, ho, hn, -, -⟩ := h
  have hcap := own_cap ho
  unfold maxLen at hcap
  obtain ⟨c0, c1, c2, f0, f2⟩ := rn_cells hb
  have HO := Lib.hid ho
  have HN := Lib.hid hn
  clear hb ho hn
  go_enter Try.func22, Try.ntmps22
  go_wp2_with fail
  go_loopg [7] m (fun g i wr => ∃ j : Nat, g = m - j ∧ j ≤ m ∧ i = .int .i64 (j : Int) ∧ Hid (fnd18 k c x.l 0 = fnd18 k c (x.l.drop j) j) ∧ w = wr)
  case atStart => exact ⟨0, rfl, Nat.zero_le _, rfl, Lib.hid rfl, rfl⟩
  case round =>
    obtain ⟨j, rfl, hj, rfl, HF, rfl⟩ := hrel
    by_cases hlt : j < m
    · obtain ⟨u, hu⟩ : ∃ u, x.l[j]? = some u := ⟨_, List.getElem?_eq_getElem (by have := HN.out; omega)⟩
      obtain ⟨g, rfl, z0, z1, z2⟩ := itF_cells HO.out hu
      obtain ⟨hy, hno⟩ := fnd18_drop hu HF.out
      have HY := Lib.hid hy
      have HNO := Lib.hid hno
      clear hy hno hu
      by_cases h1 : u.ki = k
      · by_cases h2 : u.ch = c
        · have HE := Lib.hid (HY.out ⟨h1, h2⟩)
          have e1 : (u.ki == k) = true := by simp [h1]
          have e2 : (u.ch == c) = true := by simp [h2]
          clear h1 h2
          go_wp2_with fail
          go_ret
          exact ⟨by rw [HE.out]; rfl, rfl⟩
        · have HE := Lib.hid (HNO.out (fun e => h2 e.2))
          have e1 : (u.ki == k) = true := by simp [h1]
          have e2 : (u.ch == c) = false := by simp [h2]
          clear h1 h2
          go_wp2_with fail
          go_roundg (m - (j + 1))
          case measure => omega
          case rel => exact ⟨j + 1, rfl, by omega, by go_num, HE, rfl⟩
      · have HE := Lib.hid (HNO.out (fun e => h1 e.1))
        have e1 : (u.ki == k) = false := by simp [h1]
        clear h1
        go_wp2_with fail
        go_roundg (m - (j + 1))
        case measure => omega
        case rel => exact ⟨j + 1, rfl, by omega, by go_num, HE, rfl⟩
    · have hjm : j = m := by omega
      subst hjm
      have HE := Lib.hid (show fnd18 k c x.l 0 = -1 by rw [HF.out, List.drop_of_length_le (by have := HN.out; omega)]; rfl)
      go_wp2_with fail
      go_ret
      exact ⟨by rw [HE.out]; rfl, rfl⟩
def RTakP18 (b q : Nat) (o : Option Nat) (x : NV18) (i : Int) (w : World) (e : Ending) (w' : World) : Prop := e = .returned (.tuple #[.agg #[.int .i64 ((at18 x i).ki), .int .i64 ((at18 x i).ch), .string ⟨(at18 x i).bs.toArray⟩], .int .i64 (lackE x i)]) ∧ ∃ o', DN w' b q o' (tak18 x i) ∧ Mvd q o o' w w'
theorem gone18 {ts : List IT18} {i j : Nat} {u : IT18} (hu : ts[j]? = some u) : (ts.take (j + 1)).eraseIdx i = if j = i then (ts.take j).eraseIdx i else (ts.take j).eraseIdx i ++ [u] := by
  have hj : j < ts.length := (List.getElem?_eq_some_iff.1 hu).1
  have hl : (ts.take j).length = j := by rw [List.length_take]; omega
  rw [List.take_add_one, hu]
  simp only [Option.toList_some]
  rcases Nat.lt_trichotomy i j with h | h | h
  · rw [List.eraseIdx_append_of_lt_length (by omega), if_neg (by omega)]
  · subst h
    rw [List.eraseIdx_append_of_length_le (by omega), hl, Nat.sub_self, if_pos rfl, List.eraseIdx_of_length_le (l := ts.take i) (by omega)]
    simp
  · rw [List.eraseIdx_append_of_length_le (by omega), hl, if_neg (by omega), List.eraseIdx_of_length_le (l := ts.take j) (by omega), List.eraseIdx_of_length_le (by simp; omega)]
set_option maxRecDepth 100000 in
set_option maxHeartbeats 8000000 in
theorem rtake18 {w : World} {b q : Nat} {o : Option Nat} {x : NV18} (h : DN w b q o x) (hl4 : x.l.length ≤ 100000) (i : Int) : Calls Try.prog 19 #[.pointer (some ⟨q, 0, none⟩), .int .i64 i] w (RTakP18 b q o x i w) := by
  obtain ⟨i0, hi0, hz0, hz1, hz2⟩ := info_parts infoRi18
  have HX0 := Lib.hid ((Chg.refl (fun _ => False) w).alloc (.cells #[.int .i64 0, .int .i64 0, .string ⟨#[]⟩] 49))
  have HZ0 : Hid (Blk (w.alloc (.cells #[.int .i64 0, .int .i64 0, .string ⟨#[]⟩] 49)) w.heap.size 49 #[.int .i64 0, .int .i64 0, .string ⟨#[]⟩]) := Lib.hid (blk_new rfl)
  have HQ := Lib.hid (show b ≤ w.heap.size from by have := h.lt.1; omega)
  have HLT := Lib.hid h.lt
  have HAT := Lib.hid (rat18 (h.new HX0.out) i)
  have HD0 := Lib.hid (h.new HX0.out)
  unfold RTakP18
  unfold RAtP18 at HAT
  by_cases hi : 0 ≤ i ∧ i < (x.l.length : Int)
  case neg =>
    rw [at18_no hi, lackE, if_neg hi] at HAT ⊢
    have HT := Lib.hid (tak18_no hi)
    clear h hi
    go_enter Try.func19, Try.ntmps19
    go_upto_region 1 with fail
    generalize w.alloc (.cells #[.int .i64 0, .int .i64 0, .string ⟨#[]⟩] 49) = w1 at *
    generalize hQ0 : w.heap.size = Q0 at *
    replace HQ := Lib.hid (And.intro (Nat.le_of_eq hQ0) HQ.out)
    clear hQ0
    go_wp2_with fail
    refine HAT.out.mono ?_
    rintro e w2 ⟨rfl, hc⟩
    have HX := Lib.hid (HX0.out.trans (hc.alloc (.cells #[.int .i64 0, .int .i64 0, .string ⟨#[]⟩] 49)) (fun _ _ e => e))
    have HX2 := Lib.hid (hc.alloc (.cells #[.int .i64 0, .int .i64 0, .string ⟨#[]⟩] 49))
    have HZ2 := Lib.hid ((HZ0.out.chg hc id).alloc (.cells #[.int .i64 0, .int .i64 0, .string ⟨#[]⟩] 49))
    have HBN : Hid (Blk (w2.alloc (.cells #[.int .i64 0, .int .i64 0, .string ⟨#[]⟩] 49)) w2.heap.size 49 #[.int .i64 0, .int .i64 0, .string ⟨#[]⟩]) := Lib.hid (blk_new rfl)
    clear hc
    go_upto_region 2 with fail
    generalize w2.alloc (.cells #[.int .i64 0, .int .i64 0, .string ⟨#[]⟩] 49) = w3 at *
    generalize w2.heap.size = Q2 at *
    obtain ⟨y0, y1, y2⟩ := it_cells HBN.out
    obtain ⟨hbr, hcs⟩ := it_put3 HZ2.out 0 0 (.string ⟨#[]⟩)
    have HBR := Lib.hid hbr
    have HCS := Lib.hid hcs
    clear hbr hcs
    obtain ⟨x0, x1, x2⟩ := it_cells HZ2.out
    have g0 := HZ2.out.frozen 0
    have g1 := HZ2.out.frozen 1
    have g2 := HZ2.out.frozen 2
    go_wp2_with fail
    obtain ⟨r0, r1, r2⟩ := it_cells HBR.out
    refine bodyPost_ret (v := .tuple #[.agg #[.int .i64 0, .int .i64 0, .string ⟨#[]⟩], .int .i64 4]) (by simp [results, Try.results19, go_sem, r0, r1, r2]) rfl ?_
    refine ⟨rfl, o, ?_, (fresh_set HX.out HCS.out HQ.out.1).mono (fun _ _ e => e.elim), .inl rfl⟩
    rw [HT.out]
    exact (HD0.out.new HX2.out).chg HCS.out (fun e => by have := HLT.out.1; have := HQ.out; omega) (fun k hk e => by have := HLT.out.2 k hk; have := HQ.out; omega)
  obtain ⟨ii, rfl⟩ : ∃ j : Nat, i = (j : Int) := ⟨i.toNat, by omega⟩
  obtain ⟨u, hu⟩ : ∃ u, x.l[ii]? = some u := ⟨_, List.getElem?_eq_getElem (by omega)⟩
  rw [at18_ok hu, lackE, if_pos hi] at HAT ⊢
  have HT := Lib.hid (tak18_ok (x := x) (show ii < x.l.length by omega))
  have HIL := Lib.hid (show ii < x.l.length by omega)
  clear h hi hu
  go_enter Try.func19, Try.ntmps19
  go_upto_region 1 with fail
  generalize w.alloc (.cells #[.int .i64 0, .int .i64 0, .string ⟨#[]⟩] 49) = w1 at *
  generalize hQ0 : w.heap.size = Q0 at *
  replace HLT := Lib.hid (show q < Q0 ∧ ∀ k, o = some k → k < Q0 from ⟨by have := HLT.out.1; omega, fun k hk => by have := HLT.out.2 k hk; omega⟩)
  replace HQ := Lib.hid (And.intro (Nat.le_of_eq hQ0) HQ.out)
  have HQE := Lib.hid hQ0
  clear hQ0
  have HQ1 := Lib.hid HZ0.out.lt
  go_wp2_with fail
  refine HAT.out.mono ?_
  rintro e w2 ⟨rfl, hc⟩
  have HX := Lib.hid (HX0.out.trans (hc.alloc (.cells #[.int .i64 u.ki, .int .i64 u.ch, .string ⟨u.bs.toArray⟩] 49)) (fun _ _ e => e))
  have HX2 := Lib.hid (hc.alloc (.cells #[.int .i64 u.ki, .int .i64 u.ch, .string ⟨u.bs.toArray⟩] 49))
  have HC2 := Lib.hid hc
  have HZ2 := Lib.hid ((HZ0.out.chg hc id).alloc (.cells #[.int .i64 u.ki, .int .i64 u.ch, .string ⟨u.bs.toArray⟩] 49))
  have HBN : Hid (Blk (w2.alloc (.cells #[.int .i64 u.ki, .int .i64 u.ch, .string ⟨u.bs.toArray⟩] 49)) w2.heap.size 49 #[.int .i64 u.ki, .int .i64 u.ch, .string ⟨u.bs.toArray⟩]) := Lib.hid (blk_new rfl)
  clear hc
  go_upto_region 2 with fail
  generalize w2.alloc (.cells #[.int .i64 u.ki, .int .i64 u.ch, .string ⟨u.bs.toArray⟩] 49) = w3 at *
  have HBNQ := Lib.hid (show w1.heap.size ≤ w2.heap.size from HC2.out.size)
  generalize w2.heap.size = Q2 at *
  obtain ⟨L, m, lc, hb, ho, hn, hoo, hbq⟩ := HD0.out.new HX2.out
  have hcap := own_cap ho
  unfold maxLen at hcap
  have hm5 : m ≤ 100000 := by omega
  have HB := Lib.hid hb
  have HO := Lib.hid ho
  have HN := Lib.hid hn
  have HBQ := Lib.hid hbq
  have HBW := Lib.hid (show b ≤ w3.heap.size from Nat.le_trans HQ.out.2 (Nat.le_trans (by have := HQE.out; omega) HX.out.size))
  clear hb ho hn hoo hbq hl4
  go_wp2_with fail
  go_loopg [8, 9] m (fun g s8 s9 wr => ∃ (j k d : Nat) (E : Option Addr), g = m - j ∧ j ≤ m ∧ k ≤ j ∧ s9 = .int .i64 (j : Int) ∧ s8 = .slice E k d ∧ Hid (wr.ownsRow w3.heap.size 49 3 (.slice E k d) k (itF ((x.l.take j).eraseIdx ii))) ∧ Hid (Chg (fun _ => False) w3 wr))
  case atStart => exact ⟨0, 0, 0, none, rfl, Nat.zero_le _, Nat.le_refl _, rfl, rfl, Lib.hid (by simp [itF]; exact World.ownsRow_nil _ _ _ _), Lib.hid (Chg.refl _ _)⟩
  case round =>
    obtain ⟨j, k, d, E, rfl, hj, hkj, rfl, rfl, HOE, HXL⟩ := hrel
    obtain ⟨c0, c1, c2, f0, f2⟩ := rn_cells (HB.out.chg HXL.out id)
    by_cases hlt : j < m
    · obtain ⟨v, hv⟩ : ∃ v, x.l[j]? = some v := ⟨_, List.getElem?_eq_getElem (by have := HN.out; omega)⟩
      obtain ⟨g, rfl, z0, z1, z2⟩ := itF_cells (own_chg HO.out HXL.out (fun _ _ => id)) hv
      have HG := Lib.hid (gone18 (i := ii) hv)
      clear hv
      by_cases hji : j = ii
      · rw [if_pos hji] at HG
        have e1 : ((j : Int) != (ii : Int)) = false := by simp [hji]
        clear hji
        go_wp2_with fail
        go_roundg (m - (j + 1))
        case measure => omega
        case rel => exact ⟨j + 1, k, d, E, rfl, by omega, by omega, by go_num, rfl, Lib.hid (by rw [HG.out]; exact HOE.out), HXL⟩
      · rw [if_neg hji] at HG
        have e1 : ((j : Int) != (ii : Int)) = true := by simp; omega
        clear hji
        have hown := HOE.out.alloc (.cells #[.int .i64 v.ki, .int .i64 v.ch, .string ⟨v.bs.toArray⟩] 49)
        have hnew := new_cells18 wr 49 [.int .i64 v.ki, .int .i64 v.ch, .string ⟨v.bs.toArray⟩]
        have hbase : w3.heap.size ≤ (wr.alloc (.cells #[.int .i64 v.ki, .int .i64 v.ch, .string ⟨v.bs.toArray⟩] 49)).heap.size := Nat.le_trans HXL.out.size (by simp)
        generalize hys : itF ((x.l.take j).eraseIdx ii) = ys at *
        have HYS := Lib.hid hys
        clear hys
        go_wp2_with (at_builtin; refine wpList_app18 _ rfl (.tmp 32) (.tmp 40) 30 rfl w3.heap.size 49 i0 _ 3 32 Try.underlying30 hi0 hz0 hz1 hz2 rfl (by decide) (.slice E k d) k ys rfl hown (some ⟨wr.heap.size, 0, none⟩) 1 1 [.int .i64 v.ki, .int .i64 v.ch, .string ⟨v.bs.toArray⟩] rfl rfl (fun e => by cases e) (fun ad e => by injection e with e; subst e; exact hnew) (by simp [Value.oneCell']) (by unfold maxLen; omega) (by omega) hbase ?_; intro v6 w6 hown6 hg6 hat6; obtain ⟨A6, c6, rfl, _, _⟩ := own_form hown6; have HO6 := Lib.hid hown6; have HX6 := Lib.hid (grown_fresh (HXL.out.alloc _) hg6 hown (Nat.le_refl _)); clear hown hnew hbase hown6 hg6 hat6)
        go_roundg (m - (j + 1))
        case measure => omega
        case rel => exact ⟨j + 1, k + 1, c6, A6, rfl, by omega, by omega, by go_num, rfl, Lib.hid (by rw [HG.out, itF_app, HYS.out]; simpa [itF, IT18.cs] using HO6.out), HX6⟩
    · have hjm : j = m := by omega
      subst hjm
      have HTL : Hid ((x.l.take j).eraseIdx ii = x.l.take ii ++ x.l.drop (ii + 1)) := Lib.hid (by rw [List.take_of_length_le (by have := HN.out; omega), List.eraseIdx_eq_take_drop_succ])
      rw [HTL.out] at HOE
      obtain ⟨hd, hm⟩ := DN.fresh (o := o) (HB.out.chg HXL.out id) HBQ.out HBW.out HOE.out HX.out HXL.out
      have HD := Lib.hid hd
      have HM := Lib.hid hm
      have hset : Chg (fun j => j = q) wr (wr.setCell ⟨q, 0, none⟩ (.slice E k d)) := (Chg.refl (fun j => j = q) wr).put q 0 (fun _ => rfl) _
      have HZ3 := Lib.hid ((HZ2.out.chg HXL.out id).chg hset (fun e => by have := HLT.out.1; omega))
      have HN3 := Lib.hid ((HBN.out.chg HXL.out id).chg hset (fun e => by have := HLT.out.1; have := HQ1.out; have := HBNQ.out; omega))
      clear hd hm hset
      go_upto_region 11 with fail
      generalize wr.setCell ⟨q, 0, none⟩ (.slice E k d) = w5 at *
      clear c0 c1 c2 f0 f2
      obtain ⟨y0, y1, y2⟩ := it_cells HN3.out
      obtain ⟨hbr, hcs⟩ := it_put3 HZ3.out u.ki u.ch (.string ⟨u.bs.toArray⟩)
      have HBR := Lib.hid hbr
      have HCS := Lib.hid hcs
      clear hbr hcs
      obtain ⟨x0, x1, x2⟩ := it_cells HZ3.out
      have g0 := HZ3.out.frozen 0
      have g1 := HZ3.out.frozen 1
      have g2 := HZ3.out.frozen 2
      go_wp2_with fail
      obtain ⟨r0, r1, r2⟩ := it_cells HBR.out
      refine bodyPost_ret (v := .tuple #[.agg #[.int .i64 u.ki, .int .i64 u.ch, .string ⟨u.bs.toArray⟩], .int .i64 0]) (by simp [results, Try.results19, go_sem, r0, r1, r2]) rfl ?_
      refine ⟨rfl, E.map (·.block), ?_, HM.out.1.trans HCS.out (fun i hi e => by have := HQE.out; omega), ?_⟩
      · rw [HT.out]
        exact HD.out.chg HCS.out (fun e => by have := HLT.out.1; omega) (fun k hk e => by have := HOE.out.lt k (by rw [own_block]; exact hk); have := HQ1.out; have := HX2.out.size; omega)
      · exact HM.out.2

end Go.Proofs.Ythajmplheecepaa
