/-
  Walk: (*net.Net).Put, on nil too. Conditions: the net lies in memory, its room is at most 4096; the items are read in memory, apart from the net.
-/
import Derived.Test.YthajmplheecepaaSg
import Derived.Deep.LoopGhost
import Derived.Lib.SmallJoins
namespace Go.Proofs.Ythajmplheecepaa
open Go.RowKit
set_option linter.unusedVariables false
set_option linter.unusedSimpArgs false
attribute [local go_sem] Oper.semAt_some

/-- An item that came in, as it is read. -/
structure AI18 where
  ki : Int
  ch : Int
  A : Option Addr
  n : Nat
  c : Nat
  bs : List UInt8
def AI18.it (x : AI18) : IT18 := ⟨x.ki, x.ch, x.bs⟩
/-- A slice of m items, of three cells each, each one's bytes too. -/
def IR18 (w : World) (S : Nat → Prop) (L : Option Addr) (m : Nat) (l : List AI18) : Prop :=
  m = l.length ∧ (0 < m → ∃ ad, L = some ad ∧ S ad.block ∧ ad.block < w.heap.size ∧ ∀ (i : Nat) (x : AI18), l[i]? = some x →
    w.cell? (ad.add (i * 3)) = some (.int .i64 x.ki) ∧ w.cell? (ad.add (i * 3 + 1)) = some (.int .i64 x.ch) ∧ w.cell? (ad.add (i * 3 + 2)) = some (.slice x.A x.n x.c) ∧
    x.n = x.bs.length ∧ x.n ≤ 9223372036854775807 ∧ (x.A = none → x.c = 0) ∧ Rds w S x.A x.n (bcs x.bs))
section
variable {w w' : World} {S S' : Nat → Prop} {L : Option Addr} {m : Nat} {l : List AI18}
theorem IR18.chg (h : IR18 w S L m l) (hc : Chg S' w w') (hd : ∀ k, S k → ¬ S' k) : IR18 w' S L m l := by
  refine ⟨h.1, fun hm => ?_⟩
  obtain ⟨ad, e, hs, hb, hcell⟩ := h.2 hm
  refine ⟨ad, e, hs, Nat.lt_of_lt_of_le hb hc.size, fun i x hi => ?_⟩
  obtain ⟨h1, h2, h3, h4, h5, h6, h7⟩ := hcell i x hi
  have e1 : ∀ j, w'.cell? (ad.add j) = w.cell? (ad.add j) := fun j => World.cell?_of_block (w := w) (w' := w') (by rw [block_add]; exact hc.block _ hb (hd _ hs))
  rw [e1, e1, e1]
  exact ⟨h1, h2, h3, h4, h5, h6, h7.chg hc hd⟩
theorem IR18.mono (h : IR18 w S L m l) (hs : ∀ k, S k → S' k) : IR18 w S' L m l := by
  refine ⟨h.1, fun hm => ?_⟩
  obtain ⟨ad, e, h1, hb, hcell⟩ := h.2 hm
  refine ⟨ad, e, hs _ h1, hb, fun i x hi => ?_⟩
  obtain ⟨h1, h2, h3, h4, h5, h6, h7⟩ := hcell i x hi
  exact ⟨h1, h2, h3, h4, h5, h6, h7.mono hs⟩
/-- The cells of an item, as the walk spells them. -/
theorem IR18.at {ad : Addr} {i : Nat} {x : AI18} (h : IR18 w S (some ad) m l) (hi : l[i]? = some x) :
    w.cell? (ad.add (i * 3)) = some (.int .i64 x.ki) ∧ w.cell? ⟨(ad.add (i * 3)).block, (ad.add (i * 3)).off + 1, none⟩ = some (.int .i64 x.ch) ∧ w.cell? ⟨(ad.add (i * 3)).block, (ad.add (i * 3)).off + 2, none⟩ = some (.slice x.A x.n x.c) ∧
    x.n = x.bs.length ∧ x.n ≤ 9223372036854775807 ∧ (x.A = none → x.c = 0) ∧ Rds w S x.A x.n (bcs x.bs) := by
  have hl : i < l.length := (List.getElem?_eq_some_iff.1 hi).1
  obtain ⟨ad', e, _, _, hc⟩ := h.2 (by have := h.1; omega)
  injection e with e
  subst e
  have h2 := hc i x hi
  rw [← off_add, ← off_add] at h2
  exact h2
end
theorem nput18_nil (L : Option Addr) (m c : Nat) (w : World) : Calls Try.prog 15 #[.pointer none, .slice L m c] w fun e w' => e = .returned (.int .i64 0) ∧ w = w' := by
  go_enter Try.func15, Try.ntmps15
  go_wp2_with fail
  go_ret
  exact ⟨rfl, rfl⟩
/-- What Put leaves. -/
def PutP18 (b p : Nat) (o : Option Nat) (x : NV18) (ts : List IT18) (w : World) (e : Ending) (w' : World) : Prop := e = .returned (.int .i64 (came18 x ts : Int)) ∧ ∃ o', NN w' b p o' (netP18 x ts) ∧ Mvd p o o' w w'
theorem NN.lost {w : World} {b p : Nat} {o : Option Nat} {x : NV18} (h : NN w b p o x) (s : Int) : NN (w.setCell ⟨p, 2, none⟩ (.int .i64 s)) b p o ⟨x.room, s, x.l⟩ ∧ Mvd p o o w (w.setCell ⟨p, 2, none⟩ (.int .i64 s)) := by
  have hop := h.op
  obtain ⟨A, n, c, l, hb, ho, hn, hA, hi, hbp⟩ := h
  have hset : Chg (fun j => j = p) w (w.setCell ⟨p, 2, none⟩ (.int .i64 s)) := (Chg.refl (fun j => j = p) w).put p 2 (fun _ => rfl) _
  have hb6 := hb.set 2 (.int .i64 s)
  simp only [List.setIfInBounds_toArray, List.set_cons_zero, List.set_cons_succ] at hb6
  refine ⟨⟨A, n, c, l, hb6, own_chg ho hset (fun k hk e => ?_), hn, hA, hi.chg hset (fun k cs fr hk e => ?_), hbp⟩, hset.mono (fun _ _ e => .inl e), .inl rfl⟩
  · subst e
    exact hop (by rw [← hA]; exact hk)
  · subst e
    unfold Blk at hb
    rw [hb] at hk
    injection hk with hh
    injection hh with _ hh
    exact absurd hh (by decide)
set_option maxRecDepth 100000 in
set_option maxHeartbeats 4000000 in
theorem nput18 {w : World} {b p : Nat} {o : Option Nat} {x0 : NV18} (h : NN w b p o x0) (hroom : x0.room ≤ 4096) (L : Option Addr) (m lc : Nat) (l : List AI18) (S : Nat → Prop) (hl : IR18 w S L m l) (hd : ∀ k, S k → ¬ (k = p ∨ o = some k)) (hm : m ≤ 1000000000000) (hlost : 0 ≤ x0.lost ∧ x0.lost ≤ 1000000000000) : Calls Try.prog 15 #[.pointer (some ⟨p, 0, none⟩), .slice L m lc] w (PutP18 b p o x0 (l.map AI18.it) w) := by
  have HL := Lib.hid hl
  have HN0 := Lib.hid h
  have HD := Lib.hid hd
  have HLO := Lib.hid hlost
  clear hl h hd hlost
  go_enter Try.func15, Try.ntmps15
  go_wp2_with fail
  go_loopg [5, 7, 12] m (fun g s5 s7 i wr => ∃ (j k : Nat) (oj : Option Nat), g = m - j ∧ j ≤ m ∧ i = .int .i64 (j : Int) ∧ s5 = .int .i64 (k : Int) ∧ k ≤ j ∧ Hid (k = came18 x0 ((l.take j).map AI18.it)) ∧ Hid (NN wr b p oj (puts18 x0 ((l.take j).map AI18.it))) ∧ Hid (Mvd p o oj w wr))
  case atStart => exact ⟨0, 0, o, rfl, Nat.zero_le _, rfl, rfl, Nat.le_refl _, Lib.hid rfl, HN0, Lib.hid (Mvd.refl _ _ _)⟩
  case round =>
    obtain ⟨j, k, oj, rfl, hj, rfl, rfl, hkj, HK, HN, HM⟩ := hrel
    by_cases hlt : j < m
    · have hh := HL.out.chg HM.out.1 HD.out
      obtain ⟨ad, rfl, -⟩ := hh.2 (by omega)
      have hjl : j < l.length := by have := HL.out.1; omega
      have hx : l[j]? = some l[j] := List.getElem?_eq_getElem hjl
      generalize l[j] = x at *
      obtain ⟨z0, z1, z2, hxn, hxb, hxz, hxr⟩ := hh.at hx
      have HTK := Lib.hid (show (l.take (j + 1)).map AI18.it = (l.take j).map AI18.it ++ [x.it] by rw [List.take_add_one, hx]; simp)
      have HXN := Lib.hid hxn
      have HZ := Lib.hid hxz
      have HRS := Lib.hid (hxr.alloc (.cells #[.int .i64 x.ki, .int .i64 x.ch, .slice x.A x.n x.c] 40))
      have HRI := Lib.hid (right18 x.ki x.ch x.A x.n x.c)
      have HRM := Lib.hid (puts18_room x0 ((l.take j).map AI18.it)).1
      have HQB : Hid (Blk (wr.alloc (.cells #[.int .i64 x.ki, .int .i64 x.ch, .slice x.A x.n x.c] 40)) wr.heap.size 40 #[.int .i64 x.ki, .int .i64 x.ch, .slice x.A x.n x.c]) := Lib.hid (blk_new rfl)
      have hca := (Chg.refl (fun _ => False) wr).alloc (.cells #[.int .i64 x.ki, .int .i64 x.ch, .slice x.A x.n x.c] 40)
      have HII : Hid (inI18 (puts18 x0 ((l.take j).map AI18.it)) x.it = ((((decide (0 ≤ x.ki) && decide (x.ki ≤ 2)) && (decide (0 ≤ x.ch) && decide (x.ch ≤ 15))) && decide ((x.n : Int) ≤ 2000)) && decide (((puts18 x0 ((l.take j).map AI18.it)).l.length : Int) < (puts18 x0 ((l.take j).map AI18.it)).room))) := Lib.hid (by rw [hxn]; rfl)
      have HOK0 := Lib.hid (show (((decide (0 ≤ x.ki) && decide (x.ki ≤ 2)) && (decide (0 ≤ x.ch) && decide (x.ch ≤ 15))) && decide ((x.n : Int) ≤ 2000)) = true → x.n ≤ 2000 from fun h => by
        simp only [Bool.and_eq_true, decide_eq_true_eq] at h
        omega)
      generalize (((decide (0 ≤ x.ki) && decide (x.ki ≤ 2)) && (decide (0 ≤ x.ch) && decide (x.ch ≤ 15))) && decide ((x.n : Int) ≤ 2000)) = bo at *
      replace HM := Lib.hid (HM.out.post hca)
      replace HN := Lib.hid (HN.out.new hca)
      clear hh hjl hx hxn hxz hxr hca
      go_upto_region 7 with fail
      generalize wr.alloc (.cells #[.int .i64 x.ki, .int .i64 x.ch, .slice x.A x.n x.c] 40) = wa at *
      generalize wr.heap.size = Q at *
      clear z0 z1 z2
      obtain ⟨y0, y1, y2⟩ := it_cells HQB.out
      cases bo with
      | false =>
        go_wp2_with fail
        refine (HRI.out _).mono ?_
        rintro e w2 ⟨rfl, hc2⟩
        replace HM := Lib.hid (HM.out.post hc2)
        replace HN := Lib.hid (HN.out.new hc2)
        replace HQB := Lib.hid (HQB.out.chg hc2 id)
        replace HRS := Lib.hid (HRS.out.chg hc2 (fun _ _ => id))
        clear hc2
        go_wp2_with fail
        go_roundg (m - (j + 1))
        case measure => omega
        case rel =>
          refine ⟨j + 1, k, oj, rfl, by omega, by go_num, rfl, by omega, Lib.hid ?_, Lib.hid ?_, HM⟩
          · rw [HTK.out, came18_snoc, ← HK.out, show inI18 (puts18 x0 ((l.take j).map AI18.it)) x.it = false from HII.out]
            rfl
          · rw [HTK.out, puts18_snoc]
            have e : put18 (puts18 x0 ((l.take j).map AI18.it)) x.it = puts18 x0 ((l.take j).map AI18.it) := by
              unfold put18
              rw [show inI18 (puts18 x0 ((l.take j).map AI18.it)) x.it = false from HII.out]
              rfl
            rw [e]
            exact HN.out
      | true =>
        have HOK := Lib.hid (HOK0.out rfl)
        cases hin : decide (((puts18 x0 ((l.take j).map AI18.it)).l.length : Int) < (puts18 x0 ((l.take j).map AI18.it)).room) with
        | false =>
          rw [hin] at HII
          have HIN := Lib.hid hin
          clear hin
          go_wp2_with fail
          refine (HRI.out _).mono ?_
          rintro e w2 ⟨rfl, hc2⟩
          replace HM := Lib.hid (HM.out.post hc2)
          replace HN := Lib.hid (HN.out.new hc2)
          replace HQB := Lib.hid (HQB.out.chg hc2 id)
          replace HRS := Lib.hid (HRS.out.chg hc2 (fun _ _ => id))
          clear hc2
          obtain ⟨y0, y1, y2⟩ := it_cells HQB.out
          go_wp2_with fail
          refine (nadd18 HN.out (by rw [HRM.out]; exact hroom) x.ki x.ch x.A x.n x.c x.bs S HXN.out HRS.out HZ.out (by have := HOK.out; omega)).mono ?_
          rintro e w3 ⟨rfl, o3, hn3, hm3⟩
          rw [HIN.out]
          replace HM := Lib.hid (HM.out.trans hm3)
          replace HN := Lib.hid hn3
          clear hn3 hm3
          go_wp2_with fail
          go_roundg (m - (j + 1))
          case measure => omega
          case rel =>
            refine ⟨j + 1, k, o3, rfl, by omega, by go_num, rfl, by omega, Lib.hid ?_, Lib.hid ?_, HM⟩
            · rw [HTK.out, came18_snoc, ← HK.out, show inI18 (puts18 x0 ((l.take j).map AI18.it)) x.it = false from HII.out]
              rfl
            · rw [HTK.out, puts18_snoc]
              have e : put18 (puts18 x0 ((l.take j).map AI18.it)) x.it = addS18 (puts18 x0 ((l.take j).map AI18.it)) x.it := by
                unfold put18
                rw [show inI18 (puts18 x0 ((l.take j).map AI18.it)) x.it = false from HII.out]
                unfold addS18; rw [if_neg (of_decide_eq_false HIN.out)]; rfl
              rw [e]
              exact HN.out
        | true =>
          rw [hin] at HII
          have HIN := Lib.hid hin
          clear hin
          go_wp2_with fail
          refine (HRI.out _).mono ?_
          rintro e w2 ⟨rfl, hc2⟩
          replace HM := Lib.hid (HM.out.post hc2)
          replace HN := Lib.hid (HN.out.new hc2)
          replace HQB := Lib.hid (HQB.out.chg hc2 id)
          replace HRS := Lib.hid (HRS.out.chg hc2 (fun _ _ => id))
          clear hc2
          obtain ⟨y0, y1, y2⟩ := it_cells HQB.out
          go_wp2_with fail
          refine (nadd18 HN.out (by rw [HRM.out]; exact hroom) x.ki x.ch x.A x.n x.c x.bs S HXN.out HRS.out HZ.out (by have := HOK.out; omega)).mono ?_
          rintro e w3 ⟨rfl, o3, hn3, hm3⟩
          rw [HIN.out]
          replace HM := Lib.hid (HM.out.trans hm3)
          replace HN := Lib.hid hn3
          clear hn3 hm3
          go_wp2_with fail
          go_roundg (m - (j + 1))
          case measure => omega
          case rel =>
            refine ⟨j + 1, k + 1, o3, rfl, by omega, by go_num, by go_num, by omega, Lib.hid ?_, Lib.hid ?_, HM⟩
            · rw [HTK.out, came18_snoc, ← HK.out, show inI18 (puts18 x0 ((l.take j).map AI18.it)) x.it = true from HII.out]
              rfl
            · rw [HTK.out, puts18_snoc]
              have e : put18 (puts18 x0 ((l.take j).map AI18.it)) x.it = addS18 (puts18 x0 ((l.take j).map AI18.it)) x.it := by
                unfold put18
                rw [show inI18 (puts18 x0 ((l.take j).map AI18.it)) x.it = true from HII.out]
                unfold addS18; rw [if_pos (of_decide_eq_true HIN.out)]; rfl
              rw [e]
              exact HN.out
    · have hjm : j = m := by omega
      subst hjm
      rw [List.take_of_length_le (by have := HL.out.1; omega)] at HK HN
      have HLE := Lib.hid (show j = (l.map AI18.it).length by rw [List.length_map]; exact HL.out.1)
      obtain ⟨hr1, hr2⟩ := puts18_room x0 (l.map AI18.it)
      obtain ⟨A, n, c, ls, hb, -⟩ := HN.out
      obtain ⟨-, -, c2, -, f2⟩ := nn_cells hb
      rw [hr2] at c2
      have HAD := Lib.hid (add18 (d := (j : Int) - (k : Int)) c2 f2 (by have := HLO.out; omega))
      clear hb c2 f2
      go_wp2_with fail
      refine HAD.out.mono ?_
      rintro e w2 ⟨rfl, rfl⟩
      obtain ⟨hn2, hm2⟩ := HN.out.lost (x0.lost + ((j : Int) - (k : Int)))
      have HN2 := Lib.hid hn2
      have HM2 := Lib.hid (HM.out.trans hm2)
      clear hn2 hm2
      go_wp2_with fail
      go_ret
      refine ⟨by rw [← HK.out]; rfl, oj, ?_, HM2.out⟩
      have e : netP18 x0 (l.map AI18.it) = ⟨(puts18 x0 (l.map AI18.it)).room, x0.lost + ((j : Int) - (k : Int)), (puts18 x0 (l.map AI18.it)).l⟩ := by
        unfold netP18
        rw [hr1, ← HLE.out, ← HK.out]
      rw [e]
      exact HN2.out

end Go.Proofs.Ythajmplheecepaa
