/-
  Walks: the document's Double; puts. Conditions: the document's net lies in memory, its room is at most 4096; the items are read in memory, apart from it.
-/
import Derived.Test.YthajmplheecepaaSn
namespace Go.Proofs.Ythajmplheecepaa
open Go.RowKit
set_option linter.unusedVariables false
set_option linter.unusedSimpArgs false
attribute [local go_sem] Oper.semAt_some

def RDblP18 (b q : Nat) (o : Option Nat) (x : NV18) (i : Int) (w : World) (e : Ending) (w' : World) : Prop := e = .returned (.int .i64 (dblE x i)) ∧ ∃ o', DN w' b q o' (dblS x i) ∧ Mvd q o o' w w'
theorem rput18_netP (x : NV18) (ts : List IT18) (t : IT18) : netP18 x (ts ++ [t]) = rput18 (netP18 x ts) t ∧ inI18 (netP18 x ts) t = inI18 (puts18 x ts) t := by
  obtain ⟨h1, h2⟩ := puts18_room x ts
  have e : inI18 (netP18 x ts) t = inI18 (puts18 x ts) t := by
    unfold inI18 netP18
    simp only [h1]
  refine ⟨?_, e⟩
  unfold rput18
  rw [e]
  unfold netP18
  rw [came18_snoc, puts18_snoc]
  cases hb : inI18 (puts18 x ts) t
  · simp [put18, hb]
    omega
  · simp [put18, hb]
    omega
set_option maxRecDepth 100000 in
set_option maxHeartbeats 8000000 in
theorem rdouble18 {w : World} {b q : Nat} {o : Option Nat} {x : NV18} (h : DN w b q o x) (hroom : x.room ≤ 4096) (hlost : 0 ≤ x.lost ∧ x.lost ≤ 1000000000000) (hok : ∀ t ∈ x.l, okI18 t = true) (i : Int) : Calls Try.prog 20 #[.pointer (some ⟨q, 0, none⟩), .int .i64 i] w (RDblP18 b q o x i w) := by
  have HAT := Lib.hid (rat18 h i)
  have HD0 := Lib.hid h
  have HQ := Lib.hid h.lt
  unfold RDblP18
  unfold RAtP18 at HAT
  by_cases hi : 0 ≤ i ∧ i < (x.l.length : Int)
  case neg =>
    rw [at18_no hi, lackE, if_neg hi] at HAT
    obtain ⟨h1, h2⟩ := dbl18_no hi
    rw [h1, h2]
    clear h hi h1 h2
    go_enter Try.func20, Try.ntmps20
    go_wp2_with fail
    refine HAT.out.mono ?_
    rintro e w2 ⟨rfl, hc⟩
    have HX2 := Lib.hid (hc.alloc (.cells #[.int .i64 0, .int .i64 0, .string ⟨#[]⟩] 49))
    clear hc
    go_wp2_with fail
    go_ret
    exact ⟨rfl, o, HD0.out.new HX2.out, HX2.out.mono (fun _ _ e => e.elim), .inl rfl⟩
  obtain ⟨ii, rfl⟩ : ∃ j : Nat, i = (j : Int) := ⟨i.toNat, by omega⟩
  obtain ⟨u, hu⟩ : ∃ u, x.l[ii]? = some u := ⟨_, List.getElem?_eq_getElem (by omega)⟩
  rw [at18_ok hu, lackE, if_pos hi] at HAT
  obtain ⟨h1, h2⟩ := dbl18_ok hu
  rw [h1, h2]
  have HOK := Lib.hid (hok u (List.mem_of_getElem? hu))
  have HRO := Lib.hid hroom
  have HLO := Lib.hid hlost
  clear h hi hu h1 h2 hok hroom hlost
  by_cases hf : (x.l.length : Int) < x.room
  · have HFF := Lib.hid hf
    rw [if_pos hf]
    clear hf
    go_enter Try.func20, Try.ntmps20
    go_wp2_with fail
    refine HAT.out.mono ?_
    rintro e w2 ⟨rfl, hc⟩
    have HX2 := Lib.hid (hc.alloc (.cells #[.int .i64 u.ki, .int .i64 u.ch, .string ⟨u.bs.toArray⟩] 49))
    have HBN : Hid (Blk (w2.alloc (.cells #[.int .i64 u.ki, .int .i64 u.ch, .string ⟨u.bs.toArray⟩] 49)) w2.heap.size 49 #[.int .i64 u.ki, .int .i64 u.ch, .string ⟨u.bs.toArray⟩]) := Lib.hid (blk_new rfl)
    clear hc
    go_upto_region 4 with fail
    generalize w2.alloc (.cells #[.int .i64 u.ki, .int .i64 u.ch, .string ⟨u.bs.toArray⟩] 49) = w3 at *
    generalize w2.heap.size = Q2 at *
    obtain ⟨L, m, lc, hb, ho, hn, hoo, hbq⟩ := HD0.out.new HX2.out
    have hcap := own_cap ho
    unfold maxLen at hcap
    obtain ⟨c0, c1, c2, f0, f2⟩ := rn_cells hb
    have HN := Lib.hid hn
    clear hb ho hoo hbq hn
    have HF := Lib.hid (show (m : Int) < x.room by rw [HN.out]; exact HFF.out)
    have hle : ¬ x.room ≤ (m : Int) := by have := HF.out; omega
    have hle2 : decide (x.room ≤ (m : Int)) = false := by simpa using hle
    go_quiet (fail)
    have HX3 := Lib.hid (HX2.out.drewN nq)
    replace HBN := Lib.hid (HBN.out.drewN nq)
    generalize w3.drewN nq = w4 at *
    obtain ⟨y0, y1, y2⟩ := it_cells HBN.out
    have HPU := Lib.hid (rput18_any (HD0.out.new HX3.out) HRO.out HLO.out u)
    unfold RPutP18 at HPU
    clear c0 c1 c2 f0 f2
    go_wp2_with fail
    refine HPU.out.mono ?_
    rintro e w5 ⟨rfl, o5, hd5, hm5⟩
    have HIN := Lib.hid (show inI18 x u = true by unfold inI18; rw [HOK.out, ← HN.out]; simpa using HF.out)
    have HD5 := Lib.hid hd5
    have HM5 := Lib.hid (Mvd.pre HX3.out hm5)
    clear hd5 hm5
    go_wp2_with fail
    go_ret
    refine ⟨rfl, o5, ?_, HM5.out⟩
    have e : addS18 x u = rput18 x u := by
      unfold addS18 rput18
      rw [HIN.out, if_pos rfl, if_pos (by rw [← HN.out]; exact HF.out)]
    rw [e]
    exact HD5.out
  · have HFF := Lib.hid hf
    rw [if_neg hf, show addS18 x u = x from by unfold addS18; rw [if_neg hf]]
    clear hf
    go_enter Try.func20, Try.ntmps20
    go_wp2_with fail
    refine HAT.out.mono ?_
    rintro e w2 ⟨rfl, hc⟩
    have HX2 := Lib.hid (hc.alloc (.cells #[.int .i64 u.ki, .int .i64 u.ch, .string ⟨u.bs.toArray⟩] 49))
    have HBN : Hid (Blk (w2.alloc (.cells #[.int .i64 u.ki, .int .i64 u.ch, .string ⟨u.bs.toArray⟩] 49)) w2.heap.size 49 #[.int .i64 u.ki, .int .i64 u.ch, .string ⟨u.bs.toArray⟩]) := Lib.hid (blk_new rfl)
    clear hc
    go_upto_region 4 with fail
    generalize w2.alloc (.cells #[.int .i64 u.ki, .int .i64 u.ch, .string ⟨u.bs.toArray⟩] 49) = w3 at *
    generalize w2.heap.size = Q2 at *
    obtain ⟨L, m, lc, hb, ho, hn, hoo, hbq⟩ := HD0.out.new HX2.out
    have hcap := own_cap ho
    unfold maxLen at hcap
    obtain ⟨c0, c1, c2, f0, f2⟩ := rn_cells hb
    have HN := Lib.hid hn
    clear hb ho hoo hbq hn
    have hle : x.room ≤ (m : Int) := by have := HFF.out; have := HN.out; omega
    have hle2 : decide (x.room ≤ (m : Int)) = true := by simpa using hle
    go_quiet (fail)
    have HX3 := Lib.hid (HX2.out.drewN nq)
    generalize w3.drewN nq = w4 at *
    clear c0 c1 c2 f0 f2
    go_wp2_with fail
    go_ret
    exact ⟨rfl, o, HD0.out.new HX3.out, HX3.out.mono (fun _ _ e => e.elim), .inl rfl⟩
def PutsP18 (b q : Nat) (o : Option Nat) (x : NV18) (ts : List IT18) (w : World) (e : Ending) (w' : World) : Prop := e = .returned (.int .i64 (came18 x ts : Int)) ∧ ∃ o', DN w' b q o' (netP18 x ts) ∧ Mvd q o o' w w'
set_option maxRecDepth 100000 in
set_option maxHeartbeats 4000000 in
theorem puts18_any {w : World} {b q : Nat} {o : Option Nat} {x0 : NV18} (h : DN w b q o x0) (hroom : x0.room ≤ 4096) (L : Option Addr) (m lc : Nat) (l : List AI18) (S : Nat → Prop) (hl : IR18 w S L m l) (hd : ∀ k, S k → ¬ (k = q ∨ o = some k)) (hm : m ≤ 1000000) (hlost : 0 ≤ x0.lost ∧ x0.lost ≤ 1000000000) : Calls Try.prog 23 #[.pointer (some ⟨q, 0, none⟩), .slice L m lc] w (PutsP18 b q o x0 (l.map AI18.it) w) := by
  have HL := Lib.hid hl
  have HN0 := Lib.hid h
  have HD := Lib.hid hd
  have HLO := Lib.hid hlost
  have HRO := Lib.hid hroom
  clear hl h hd hlost hroom
  go_enter Try.func23, Try.ntmps23
  go_wp2_with fail
  go_loopg [5, 6, 7] m (fun g s5 i s7 wr => ∃ (j k : Nat) (oj : Option Nat), g = m - j ∧ j ≤ m ∧ i = .int .i64 (j : Int) ∧ s5 = .int .i64 (k : Int) ∧ k ≤ j ∧ Hid (k = came18 x0 ((l.take j).map AI18.it)) ∧ Hid (DN wr b q oj (netP18 x0 ((l.take j).map AI18.it))) ∧ Hid (Mvd q o oj w wr))
  case atStart => exact ⟨0, 0, o, rfl, Nat.zero_le _, rfl, rfl, Nat.le_refl _, Lib.hid rfl, Lib.hid (by simpa [netP18, puts18, came18] using HN0.out), Lib.hid (Mvd.refl _ _ _)⟩
  case round =>
    obtain ⟨j, k, oj, rfl, hj, rfl, rfl, hkj, HK, HN, HM⟩ := hrel
    by_cases hlt : j < m
    · have hh := HL.out.chg HM.out.1 HD.out
      obtain ⟨ad, rfl, -⟩ := hh.2 (by omega)
      have hjl : j < l.length := by have := HL.out.1; omega
      have hx : l[j]? = some l[j] := List.getElem?_eq_getElem hjl
      have HLJ := Lib.hid (show (((l.take j).map AI18.it).length : Int) = (j : Int) by simp; omega)
      generalize l[j] = x at *
      obtain ⟨z0, z1, z2, hxn, hxb, hxz, hxr⟩ := hh.at hx
      have HTK := Lib.hid (show (l.take (j + 1)).map AI18.it = (l.take j).map AI18.it ++ [x.it] by rw [List.take_add_one, hx]; simp)
      have HOF := Lib.hid (of18 x.ki x.ch x.A x.n x.c x.bs _ wr hxr)
      have HPR := Lib.hid (rput18_netP x0 ((l.take j).map AI18.it) x.it)
      have HRM := Lib.hid (show (netP18 x0 ((l.take j).map AI18.it)).room ≤ 4096 from HRO.out)
      have HLOJ := Lib.hid (show 0 ≤ (netP18 x0 ((l.take j).map AI18.it)).lost ∧ (netP18 x0 ((l.take j).map AI18.it)).lost ≤ 1000000000 + 1000000 from by
        unfold netP18
        simp only
        have h1 := came18_le x0 ((l.take j).map AI18.it)
        have h2 := HLJ.out
        have h3 := HLO.out
        omega)
      clear hh hjl hx hxn hxr hxz
      cases hin : inI18 (puts18 x0 ((l.take j).map AI18.it)) x.it with
      | false =>
        have HII := Lib.hid hin
        clear hin
        go_wp2_with fail
        refine HOF.out.mono ?_
        rintro e w2 ⟨rfl, hc2⟩
        have HM2 := Lib.hid (HM.out.post hc2)
        have HPU := Lib.hid (rput18_any (HN.out.new hc2) HRM.out (by have := HLOJ.out; omega) x.it)
        unfold RPutP18 at HPU
        rw [HPR.out.2, HII.out] at HPU
        clear hc2
        go_wp2_with fail
        refine HPU.out.mono ?_
        rintro e w3 ⟨rfl, o3, hn3, hm3⟩
        have HM3 := Lib.hid (HM2.out.trans hm3)
        have HN3 := Lib.hid hn3
        clear hn3 hm3
        go_wp2_with fail
        go_roundg (m - (j + 1))
        case measure => omega
        case rel =>
          refine ⟨j + 1, k, o3, rfl, by omega, by go_num, rfl, by omega, Lib.hid ?_, Lib.hid ?_, HM3⟩
          · rw [HTK.out, came18_snoc, ← HK.out, HII.out]
            rfl
          · rw [HTK.out, HPR.out.1]
            exact HN3.out
      | true =>
        have HII := Lib.hid hin
        clear hin
        go_wp2_with fail
        refine HOF.out.mono ?_
        rintro e w2 ⟨rfl, hc2⟩
        have HM2 := Lib.hid (HM.out.post hc2)
        have HPU := Lib.hid (rput18_any (HN.out.new hc2) HRM.out (by have := HLOJ.out; omega) x.it)
        unfold RPutP18 at HPU
        rw [HPR.out.2, HII.out] at HPU
        clear hc2
        go_wp2_with fail
        refine HPU.out.mono ?_
        rintro e w3 ⟨rfl, o3, hn3, hm3⟩
        have HM3 := Lib.hid (HM2.out.trans hm3)
        have HN3 := Lib.hid hn3
        clear hn3 hm3
        go_wp2_with fail
        go_roundg (m - (j + 1))
        case measure => omega
        case rel =>
          refine ⟨j + 1, k + 1, o3, rfl, by omega, by go_num, by go_num, by omega, Lib.hid ?_, Lib.hid ?_, HM3⟩
          · rw [HTK.out, came18_snoc, ← HK.out, HII.out]
            rfl
          · rw [HTK.out, HPR.out.1]
            exact HN3.out
    · have hjm : j = m := by omega
      subst hjm
      rw [List.take_of_length_le (by have := HL.out.1; omega)] at HK HN
      go_wp2_with fail
      go_ret
      exact ⟨by rw [← HK.out]; rfl, oj, HN.out, HM.out⟩

end Go.Proofs.Ythajmplheecepaa
