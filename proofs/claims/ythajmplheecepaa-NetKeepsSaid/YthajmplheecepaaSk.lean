/-
  Walks: (*net.Net).Double, Find, slices.IndexFunc over its closure, each on nil too. Conditions: the net lies in memory, its room is at most 4096.
-/
import Derived.Test.YthajmplheecepaaSj
namespace Go.Proofs.Ythajmplheecepaa
open Go.RowKit
set_option linter.unusedVariables false
set_option linter.unusedSimpArgs false
attribute [local go_sem] Oper.semAt_some

set_option maxRecDepth 100000 in
set_option maxHeartbeats 400000 in
theorem ndouble18_nil (i : Int) (w : World) : Calls Try.prog 13 #[.pointer none, .int .i64 i] w fun e w' => e = .returned (.int .i64 1) ∧ w = w' := by
  have HLK := Lib.hid (lacks18_nil i w)
  go_enter Try.func13, Try.ntmps13
  go_wp2_with fail
  refine HLK.out.mono ?_
  rintro e _ ⟨rfl, rfl⟩
  go_wp2_with fail
  go_ret
  exact ⟨rfl, rfl⟩
theorem dbl18_no {x : NV18} {i : Int} (h : ¬ (0 ≤ i ∧ i < (x.l.length : Int))) : dblE x i = 4 ∧ dblS x i = x := by
  refine ⟨if_neg h, ?_⟩
  unfold dblS
  split
  · rfl
  · next t ht =>
    rw [if_neg]
    rintro ⟨h0, -⟩
    have := (List.getElem?_eq_some_iff.1 ht).1
    exact h ⟨h0, by omega⟩
theorem dbl18_ok {x : NV18} {j : Nat} {t : IT18} (ht : x.l[j]? = some t) : dblE x (j : Int) = (if (x.l.length : Int) < x.room then 0 else 3) ∧ dblS x (j : Int) = addS18 x t := by
  have h : j < x.l.length := (List.getElem?_eq_some_iff.1 ht).1
  refine ⟨if_pos (by omega), ?_⟩
  unfold dblS addS18
  rw [Int.toNat_natCast, ht]
  simp only
  by_cases hf : (x.l.length : Int) < x.room
  · rw [if_pos hf, if_pos ⟨by omega, hf⟩]
  · rw [if_neg hf, if_neg (fun e => hf e.2)]
set_option maxRecDepth 100000 in
set_option maxHeartbeats 4000000 in
theorem ndouble18 {w : World} {b p : Nat} {o : Option Nat} {x : NV18} (h : NN w b p o x) (hroom : x.room ≤ 4096) (i : Int) : Calls Try.prog 13 #[.pointer (some ⟨p, 0, none⟩), .int .i64 i] w (DblP18 b p o x i w) := by
  have HLK := Lib.hid (lacks18 h i)
  have HN := Lib.hid h
  unfold DblP18
  by_cases hi : 0 ≤ i ∧ i < (x.l.length : Int)
  case neg =>
    rw [lackE, if_neg hi] at HLK
    obtain ⟨h1, h2⟩ := dbl18_no hi
    rw [h1, h2]
    clear h hi h1 h2
    go_enter Try.func13, Try.ntmps13
    go_wp2_with fail
    refine HLK.out.mono ?_
    rintro e _ ⟨rfl, rfl⟩
    go_wp2_with fail
    go_ret
    exact ⟨rfl, o, HN.out, Mvd.refl _ _ _⟩
  rw [lackE, if_pos hi] at HLK
  obtain ⟨j, rfl⟩ : ∃ j : Nat, i = (j : Int) := ⟨i.toNat, by omega⟩
  obtain ⟨tt, htt⟩ : ∃ tt, x.l[j]? = some tt := ⟨_, List.getElem?_eq_getElem (by omega)⟩
  obtain ⟨h1, h2⟩ := dbl18_ok htt
  rw [h1, h2]
  obtain ⟨L, m, lc, l, hb, ho, hn, hoo, hits, hbp⟩ := h
  obtain ⟨g, k, rfl, -, hit, z0, z1, z2⟩ := its_at ho hits htt
  obtain ⟨-, c1, -, -, -⟩ := nn_cells hb
  have hjm : j < m := by omega
  have hcap := own_cap ho
  unfold maxLen at hcap
  have hlen := hbp.2 _ (List.mem_of_getElem? htt)
  have HE : Hid (IT18.mk k.ki k.ch tt.bs = tt) := Lib.hid (by obtain ⟨q1, q2, -⟩ := hit; rw [q1, q2])
  have HAD := Lib.hid (nadd18 HN.out hroom k.ki k.ch k.A k.n k.c _ _ hit.2.2.1 hit.rds hit.nil (by have := hit.2.2.1; omega))
  rw [HE.out] at HAD
  unfold AddP18 at HAD
  clear hb ho hn hoo hits hbp hit hlen hi htt h1 h2 hroom
  by_cases hf : (x.l.length : Int) < x.room
  · have hd : decide ((x.l.length : Int) < x.room) = true := by simp; omega
    rw [hd] at HAD
    rw [if_pos hf]
    clear hd hf
    go_enter Try.func13, Try.ntmps13
    go_wp2_with fail
    refine HLK.out.mono ?_
    rintro e _ ⟨rfl, rfl⟩
    go_wp2_with fail
    refine HAD.out.mono ?_
    rintro e w2 ⟨rfl, o2, hn2, hm2⟩
    have HN2 := Lib.hid hn2
    have HM2 := Lib.hid hm2
    clear hn2 hm2
    go_wp2_with fail
    go_ret
    exact ⟨rfl, o2, HN2.out, HM2.out⟩
  · have hd : decide ((x.l.length : Int) < x.room) = false := by simp; omega
    rw [hd] at HAD
    rw [if_neg hf]
    clear hd hf
    go_enter Try.func13, Try.ntmps13
    go_wp2_with fail
    refine HLK.out.mono ?_
    rintro e _ ⟨rfl, rfl⟩
    go_wp2_with fail
    refine HAD.out.mono ?_
    rintro e w2 ⟨rfl, o2, hn2, hm2⟩
    have HN2 := Lib.hid hn2
    have HM2 := Lib.hid hm2
    clear hn2 hm2
    go_wp2_with fail
    go_ret
    exact ⟨rfl, o2, HN2.out, HM2.out⟩
set_option maxRecDepth 100000 in
set_option maxHeartbeats 1000000 in
theorem find1_18 (k c : Int) (q1 q2 : Nat) (ki ch : Int) (A : Option Addr) (n cp : Nat) (w : World) (h1 : Blk w q1 3 #[.int .i64 k]) (h2 : Blk w q2 3 #[.int .i64 c]) : Calls Try.prog 30 #[.agg #[.int .i64 ki, .int .i64 ch, .slice A n cp], .pointer (some ⟨q1, 0, none⟩), .pointer (some ⟨q2, 0, none⟩)] w fun e w' => e = .returned (.bool (decide (ki = k) && decide (ch = c))) ∧ Chg (fun _ => False) w w' := by
  have HX := Lib.hid ((Chg.refl (fun _ => False) w).alloc (.cells #[.int .i64 ki, .int .i64 ch, .slice A n cp] 40))
  have HB : Hid (Blk (w.alloc (.cells #[.int .i64 ki, .int .i64 ch, .slice A n cp] 40)) w.heap.size 40 #[.int .i64 ki, .int .i64 ch, .slice A n cp]) := Lib.hid (blk_new rfl)
  have v1 := (h1.alloc (.cells #[.int .i64 ki, .int .i64 ch, .slice A n cp] 40)).cell 0
  have v2 := (h2.alloc (.cells #[.int .i64 ki, .int .i64 ch, .slice A n cp] 40)).cell 0
  simp only [List.getElem?_toArray, List.getElem?_cons_zero] at v1 v2
  obtain ⟨y0, y1, y2⟩ := it_cells HB.out
  clear h1 h2
  by_cases he : ki = k
  · subst he
    go_enter Try.func30, Try.ntmps30
    go_wp2_with fail
    go_ret
    exact ⟨by simp [BEq.beq], HX.out⟩
  · have he2 : (ki == k) = false := by simpa using he
    have HD := Lib.hid (show (decide (ki = k) && decide (ch = c)) = false by simp [he])
    clear he
    go_enter Try.func30, Try.ntmps30
    go_wp2_with fail
    go_ret
    exact ⟨by rw [HD.out]; rfl, HX.out⟩
theorem fnd18_drop {k c : Int} {ts : List IT18} {j : Nat} {t : IT18} (ht : ts[j]? = some t) (h : fnd18 k c ts 0 = fnd18 k c (ts.drop j) j) :
    (t.ki = k ∧ t.ch = c → fnd18 k c ts 0 = (j : Int)) ∧ (¬ (t.ki = k ∧ t.ch = c) → fnd18 k c ts 0 = fnd18 k c (ts.drop (j + 1)) (j + 1)) := by
  obtain ⟨hj, rfl⟩ := List.getElem?_eq_some_iff.1 ht
  rw [List.drop_eq_getElem_cons hj] at h
  simp only [fnd18] at h
  constructor
  · intro hh
    rw [h, if_pos hh]
  · intro hh
    rw [h, if_neg hh]
set_option maxRecDepth 100000 in
set_option maxHeartbeats 4000000 in
theorem index18 {w : World} {b m lc : Nat} {L : Option Addr} {l : List IC18} {ts : List IT18} (ho : w.ownsRow b 40 3 (.slice L m lc) m (icF l)) (hits : Its w b l ts) (hn : m = ts.length) (k c : Int) (q1 q2 : Nat) (h1 : Blk w q1 3 #[.int .i64 k]) (h2 : Blk w q2 3 #[.int .i64 c]) : Calls Try.prog 29 #[.slice L m lc, .func (.func 30) #[] #[.pointer (some ⟨q1, 0, none⟩), .pointer (some ⟨q2, 0, none⟩)]] w fun e w' => e = .returned (.int .i64 (fnd18 k c ts 0)) ∧ Chg (fun _ => False) w w' := by
  have HO := Lib.hid ho
  have HI := Lib.hid hits
  have H1 := Lib.hid h1
  have H2 := Lib.hid h2
  have HNM := Lib.hid hn
  have hcap := own_cap ho
  unfold maxLen at hcap
  clear ho hits h1 h2 hn
  go_enter Try.func29, Try.ntmps29
  go_wp2_with fail
  go_loopg [5, 8] m (fun g s5 i wr => ∃ j : Nat, g = m - j ∧ j ≤ m ∧ i = .int .i64 (j : Int) ∧ Hid (fnd18 k c ts 0 = fnd18 k c (ts.drop j) j) ∧ Hid (Chg (fun _ => False) w wr))
  case atStart => exact ⟨0, rfl, Nat.zero_le _, rfl, Lib.hid rfl, Lib.hid (Chg.refl _ _)⟩
  case round =>
    obtain ⟨j, rfl, hj, rfl, HF, HX⟩ := hrel
    by_cases hlt : j < m
    · obtain ⟨tt, htt⟩ : ∃ tt, ts[j]? = some tt := ⟨_, List.getElem?_eq_getElem (by have := HNM.out; omega)⟩
      obtain ⟨g, x, rfl, -, hit, z0, z1, z2⟩ := its_at (own_chg HO.out HX.out (fun _ _ => id)) (HI.out.chg HX.out (fun _ _ _ _ => id)) htt
      obtain ⟨hy, hno⟩ := fnd18_drop htt HF.out
      have HK := Lib.hid (find1_18 k c q1 q2 x.ki x.ch x.A x.n x.c wr (H1.out.chg HX.out id) (H2.out.chg HX.out id))
      rw [hit.1, hit.2.1] at HK
      rw [hit.1] at z0
      rw [hit.2.1] at z1
      have HY := Lib.hid hy
      have HNO := Lib.hid hno
      clear hit hy hno htt
      by_cases he : tt.ki = k ∧ tt.ch = c
      · rw [show (decide (tt.ki = k) && decide (tt.ch = c)) = true by simp [he.1, he.2]] at HK
        have HE := Lib.hid (HY.out he)
        clear he
        go_wp2_with fail
        refine HK.out.mono ?_
        rintro e w2 ⟨rfl, hc⟩
        have HX2 := Lib.hid (HX.out.trans hc (fun _ _ e => e))
        clear hc
        go_wp2_with fail
        go_ret
        exact ⟨by rw [HE.out]; rfl, HX2.out⟩
      · rw [show (decide (tt.ki = k) && decide (tt.ch = c)) = false by simpa using he] at HK
        have HE := Lib.hid (HNO.out he)
        clear he
        go_wp2_with fail
        refine HK.out.mono ?_
        rintro e w2 ⟨rfl, hc⟩
        have HX2 := Lib.hid (HX.out.trans hc (fun _ _ e => e))
        clear hc
        go_wp2_with fail
        go_roundg (m - (j + 1))
        case measure => omega
        case rel => exact ⟨j + 1, rfl, by omega, by go_num, HE, HX2⟩
    · have hjm : j = m := by omega
      subst hjm
      have HE := Lib.hid (show fnd18 k c ts 0 = -1 by rw [HF.out, List.drop_of_length_le (by have := HNM.out; omega)]; rfl)
      go_wp2_with fail
      go_ret
      exact ⟨by rw [HE.out]; rfl, HX.out⟩
set_option maxRecDepth 100000 in
set_option maxHeartbeats 2000000 in
theorem nfind18 {w : World} {b p : Nat} {o : Option Nat} {x : NV18} (h : NN w b p o x) (k c : Int) : Calls Try.prog 14 #[.pointer (some ⟨p, 0, none⟩), .int .i64 k, .int .i64 c] w fun e w' => e = .returned (.int .i64 (fnd18 k c x.l 0)) ∧ Chg (fun _ => False) w w' := by
  have HX0 := Lib.hid (((Chg.refl (fun _ => False) w).alloc (.cells #[.int .i64 k] 3)).alloc (.cells #[.int .i64 c] 3))
  have HQ1 : Blk ((w.alloc (.cells #[.int .i64 k] 3)).alloc (.cells #[.int .i64 c] 3)) w.heap.size 3 #[.int .i64 k] := Blk.alloc (blk_new rfl) _
  have HQ2 : Blk ((w.alloc (.cells #[.int .i64 k] 3)).alloc (.cells #[.int .i64 c] 3)) (w.heap.size + 1) 3 #[.int .i64 c] := blk_new (by simp)
  obtain ⟨L, m, lc, l, hb, ho, hn, -, hits, -⟩ := h.new HX0.out
  have HI := Lib.hid (index18 ho hits hn k c w.heap.size (w.heap.size + 1) HQ1 HQ2)
  have HB := Lib.hid hb
  have hmf : ∀ (fn : Fn) (first cap : Array Value) (w : World), (Instr.makeFunc fn first cap).run Try.prog w = .ok (.func fn first cap) w := fun _ _ _ _ => rfl
  clear hb ho hits hn HQ1 HQ2 h
  go_enter Try.func14, Try.ntmps14
  go_upto_region 1 with fail
  generalize (w.alloc (.cells #[.int .i64 k] 3)).alloc (.cells #[.int .i64 c] 3) = w1 at *
  generalize w.heap.size + 1 = Q1 at *
  generalize w.heap.size = Q0 at *
  obtain ⟨-, c1, -, -, -⟩ := nn_cells HB.out
  go_wp2_with fail
  refine HI.out.mono ?_
  rintro e w2 ⟨rfl, hc⟩
  have HX := Lib.hid (HX0.out.trans hc (fun _ _ e => e))
  clear hc
  go_wp2_with fail
  go_ret
  exact ⟨rfl, HX.out⟩
set_option maxRecDepth 100000 in
set_option maxHeartbeats 400000 in
theorem nfind18_nil (k c : Int) (w : World) : Calls Try.prog 14 #[.pointer none, .int .i64 k, .int .i64 c] w fun e w' => e = .returned (.int .i64 (-1)) ∧ Chg (fun _ => False) w w' := by
  have HX0 := Lib.hid (((Chg.refl (fun _ => False) w).alloc (.cells #[.int .i64 k] 3)).alloc (.cells #[.int .i64 c] 3))
  go_enter Try.func14, Try.ntmps14
  go_wp2_with fail
  go_ret
  exact ⟨rfl, HX0.out⟩

end Go.Proofs.Ythajmplheecepaa
