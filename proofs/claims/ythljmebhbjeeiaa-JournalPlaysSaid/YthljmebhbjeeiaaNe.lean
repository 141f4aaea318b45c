/-
  Walk: rutterref08.Scan. Condition: the bytes are read in memory.
-/
import Derived.Test.YthljmebhbjeeiaaNd
import Derived.Test.YthljmebhbjeeiaaLd
namespace Go.Proofs.Ythljmebhbjeeiaa
open Go.RowKit
set_option linter.unusedVariables false
set_option linter.unusedSimpArgs false

theorem conv8 {w : World} {S : Nat → Prop} {A : Option Addr} {n c : Nat} {l : List UInt8} (h : Rds w S A n (bcs l)) : (convert 35 9 (.slice A n c)).run Try.prog w = .ok (.string ⟨l.toArray⟩) w :=
  conv_str 35 9 5 Try.underlying35 Try.underlying5 Try.underlying9 h

set_option maxRecDepth 100000 in
set_option maxHeartbeats 4000000 in
theorem rscan_any (A : Option Addr) (n c : Nat) (b : List UInt8) (S : Nat → Prop) (w : World) (hn : n = b.length) (h : Rds w S A n (bcs b)) (hnc : n ≤ c) (hcm : c ≤ maxLen) (hbig : n ≤ 16777216) :
    Calls Try.prog 22 #[.slice A n c] w (ScanP b w) := by
  obtain ⟨i0, hi0, hz0, hz1, hz2⟩ := info_parts infoSl8
  obtain ⟨i1, hi1, hy0, hy1, hy2⟩ := info_parts infoByte7
  have HN := Lib.hid hn
  have HR := Lib.hid h.old
  clear hn h
  unfold maxLen at hcm
  go_enter Try.func22, Try.ntmps22
  go_wp2_with fail
  go_loopg [4, 5] b.length (fun g v i wr => ∃ (ls : List (List UInt8)) (at_ m c' : Nat) (D : Option Addr) (vs : List Value), g = b.length - at_ ∧ at_ ≤ n ∧ m ≤ at_ ∧ i = .int .i64 (at_ : Int) ∧ v = .slice D m c' ∧
    Hid (m = ls.length ∧ at_ = (recs8 ls).length ∧ scan8 b = ls ++ scan8 (b.drop (recs8 ls).length)) ∧ Hid (wr.ownsRow w.heap.size 35 1 (.slice D m c') m vs) ∧
    Hid (BL wr (fun k => w.heap.size ≤ k ∧ k < wr.heap.size ∧ D.map (·.block) ≠ some k) vs ls) ∧ Hid (Chg (fun _ => False) w wr))
  case atStart => exact ⟨[], 0, 0, 0, none, [], rfl, Nat.zero_le _, Nat.zero_le _, rfl, rfl, ⟨rfl, rfl, rfl⟩, World.ownsRow_nil _ _ _ _, BL.nil _ _, Chg.refl _ _⟩
  case round =>
    obtain ⟨ls, at_, m, c', D, vs, rfl, hat, hma, rfl, rfl, HLS, HOWN, HBL, HC⟩ := hrel
    have hlen : (b.drop at_).length = n - at_ := by rw [List.length_drop, ← HN.out]
    by_cases h2 : at_ + 2 ≤ n
    · have h2' : ¬ (n : Int) - (at_ : Int) < 2 := by omega
      have hr := HR.out.chg HC.out (fun _ _ => id)
      obtain ⟨ad, rfl, hs, hbk, hcl0⟩ := hr.cellAt (k := at_) (by omega)
      obtain ⟨ad', e, _, _, hcl1⟩ := hr.cellAt (k := at_ + 1) (by omega)
      injection e with e
      subst e
      have hb0 : at_ < b.length := by have := HN.out; omega
      have hb1 : at_ + 1 < b.length := by have := HN.out; omega
      rw [bcs_at b at_ hb0] at hcl0
      rw [bcs_at b (at_ + 1) hb1] at hcl1
      simp only [Addr.add, Nat.add_eq_zero_iff, Nat.succ_ne_zero, and_false, if_false] at hcl1
      have hx8 : (b[at_]).toNat < 256 := (b[at_]).toNat_lt
      have hy8 : (b[at_ + 1]).toNat < 256 := (b[at_ + 1]).toNat_lt
      have hnum : num ((b.drop at_).take 2) = 256 * (b[at_]).toNat + (b[at_ + 1]).toNat := num_two _ _ _ (by rw [List.getElem?_drop]; exact List.getElem?_eq_getElem hb0) (by rw [List.getElem?_drop]; exact List.getElem?_eq_getElem hb1)
      generalize (b[at_]).toNat = x0 at *
      generalize (b[at_ + 1]).toNat = x1 at *
      have HNUM := Lib.hid hnum
      clear hnum hlen
      have hin1 : at_ < n := by omega
      have hin2 : at_ + 1 < n := by omega
      go_wp2_with fail
      go_region
      obtain ⟨nn, hnn⟩ : ∃ nn : Nat, 256 * (x0 : Int) + (x1 : Int) = (nn : Int) := ⟨256 * x0 + x1, by omega⟩
      rw [hnn]
      have hnum : num ((b.drop at_).take 2) = nn := by have := HNUM.out; omega
      replace HNUM := Lib.hid hnum
      have hnn8 : nn < 65536 := by omega
      clear hnum hnn hcl0 hcl1 hx8 hy8
      replace HC := Lib.hid HC.out.drew
      replace HOWN : Hid (wr.drew.ownsRow w.heap.size 35 1 (.slice D m c') m vs) := HOWN
      replace HBL : Hid (BL wr.drew (fun k => w.heap.size ≤ k ∧ k < wr.drew.heap.size ∧ D.map (·.block) ≠ some k) vs ls) := HBL
      clear hbk hr
      generalize wr.drew = wd at *
      have hWD := Lib.hid HC.out.size
      by_cases h6 : at_ + nn + 6 ≤ n
      · have h6' : ¬ (n : Int) - (at_ : Int) - 6 < (nn : Int) := by omega
        have hrb := HR.out.chg HC.out (fun _ _ => id)
        have hsl := hrb.drop (at_ + 2) c (by omega) hnc
        rw [if_neg (by omega)] at hsl
        have hsl := hsl.take nn (by omega)
        rw [← bcs_drop, ← bcs_take] at hsl
        have hsl : Rds wd _ (some (ad.add (at_ + 2))) nn (bcs ((b.drop (at_ + 2)).take nn)) := hsl
        have hxl : ((b.drop (at_ + 2)).take nn).length = nn := by rw [List.length_take, List.length_drop, ← HN.out]; omega
        have HX : Hid ((b.drop (at_ + 2)).take nn = ((b.drop at_).drop 2).take nn) := Lib.hid (by rw [List.drop_drop])
        generalize (b.drop (at_ + 2)).take nn = x at *
        obtain ⟨wa, hwa⟩ : ∃ wa, wa = wd.alloc (.cells #[] 5) := ⟨_, rfl⟩
        have hca : Chg (fun _ => False) wd wa := by rw [hwa]; exact (Chg.refl _ wd).alloc _
        have hmade : wa.ownsRow wd.heap.size 5 1 (.slice (some ⟨wd.heap.size, 0, none⟩) 0 0) 0 [] := by rw [hwa]; exact World.ownsRow_made (e := 5) (size := 1) wd #[] 0 (Nat.le_refl _) (by decide) rfl
        have hza : wd.heap.size ≤ wa.heap.size := hca.size
        have hsla := hsl.chg hca (fun _ _ => id)
        go_wp2_with (at_builtin; rw [← hwa, Nat.add_sub_cancel_left]; refine wpList_own_append _ rfl (.tmp 39) (.tmp 47) 35 rfl wd.heap.size 5 i1 (.int .u8 0) 1 Try.underlying35 hi1 hy0 hy1 hy2 rfl (.slice (some ⟨wd.heap.size, 0, none⟩) 0 0) 0 [] rfl hmade _ (some (ad.add (at_ + 2))) nn (c - (at_ + 2)) (bcs x) rfl hsla (bcs_one x) (by unfold maxLen; omega) (by omega) hza ?_; intro v1 w1 hown1 hg1 hat1; obtain ⟨X, xc, rfl, _, _⟩ := own_form hown1; (simp only [Nat.zero_add, List.nil_append] at hown1 ⊢); have HC1 := Lib.hid (grown_fresh hca hg1 hmade (Nat.le_refl _)); have HX1 := Lib.hid hown1; clear hown1 hg1 hat1 hmade hsla hsl hrb)
        have HNN := Lib.hid hxl
        clear h6' hin1 hin2
        by_cases hbok : 1 ≤ nn ∧ nn ≤ 200
        · have hrf := rf_read (b.drop at_) x nn HNUM.out.symm HX.out (by rw [List.length_drop, ← HN.out]; omega) hbok.1 hbok.2
          have HE := Lib.hid (renc_ok X nn xc x _ w1 HNN.out.symm (own_rds HX1.out) ⟨by have := HNN.out; omega, by have := HNN.out; omega⟩)
          have HBK := Lib.hid hbok
          clear hbok
          go_wp2_with fail
          refine HE.out.mono ?_
          rintro e w2 ⟨Y, yc, rfl, hown2, hc2⟩
          have hrl : (recB x).length = nn + 6 := by rw [recB_len, HNN.out]
          rw [hrl] at hown2 ⊢
          have hrb2 := HR.out.chg (HC.out.trans (HC1.out.trans hc2 (fun _ _ e => e)) (fun _ _ e => e)) (fun _ _ => id)
          have hs2 := hrb2.drop at_ c (by omega) hnc
          rw [if_neg (by omega)] at hs2
          have hs2 := hs2.take (nn + 6) (by omega)
          rw [← bcs_drop, ← bcs_take] at hs2
          have hs2 : Rds w2 _ (some (ad.add at_)) (nn + 6) (bcs ((b.drop at_).take (nn + 6))) := hs2
          have k1 := fun q => conv8 (c := yc) ((own_rds hown2).drewN q)
          have k2 := fun q => conv8 (c := c - at_) (hs2.drewN q)
          have hsub : at_ + nn + 6 - at_ = nn + 6 := by omega
          have HC2 := Lib.hid hc2
          have HO2 := Lib.hid (own_chg HOWN.out (HC1.out.trans hc2 (fun _ _ e => e)) (fun _ _ => id))
          have HL2 := Lib.hid (HBL.out.chg (HC1.out.trans hc2 (fun _ _ e => e)) (fun _ _ => id))
          have HX2 := Lib.hid ((own_rds2 HX1.out).chg hc2 (S' := fun _ => False) (fun _ _ => id))
          clear hrb2 hs2 hown2 hc2 HE hrl
          rcases hrf with ⟨heq, hh⟩ | ⟨hne, hh⟩
          · rw [← heq] at k2
            have HH := Lib.hid hh
            clear hh heq
            go_upto_region 10 with fail
            go_quiet (fail)
            replace HC := Lib.hid ((HC.out.trans (HC1.out.trans HC2.out (fun _ _ e => e)) (fun _ _ e => e)).drewN nq)
            have hcd := (HC1.out.trans HC2.out (fun _ _ e => e)).drewN nq
            have hown3 : (w2.drewN nq).ownsRow w.heap.size 35 1 (.slice D m c') m vs := HO2.out
            have hD : ∀ k, D.map (·.block) = some k → k < wd.heap.size := fun k hk => (HOWN.out.lt k (by rw [own_block]; exact hk)).2
            have hXs : Rds (w2.drewN nq) (fun k => w.heap.size ≤ k ∧ k < (w2.drewN nq).heap.size ∧ D.map (·.block) ≠ some k) X nn (bcs x) := (HX2.out.drewN nq).mono (fun k hk => by
              have h1 := (HC1.out.trans HC2.out (fun _ _ e => e)).size
              have h2 := HC2.out.size
              have h3 := hWD.out
              refine ⟨by omega, ?_, fun e => ?_⟩
              · exact Nat.lt_of_lt_of_le hk.2 h2
              · have := hD k e
                omega)
            have hLs : BL (w2.drewN nq) (fun k => w.heap.size ≤ k ∧ k < (w2.drewN nq).heap.size ∧ D.map (·.block) ≠ some k) vs ls := (HL2.out.chg ((Chg.refl (fun _ => False) w2).drewN nq) (fun _ _ => id)).mono (fun k hk => ⟨hk.1, Nat.lt_of_lt_of_le hk.2.1 hcd.size, hk.2.2⟩)
            have HSN := Lib.hid (hLs.snoc (c := xc) HNN.out.symm hXs)
            clear k1 k2 hXs hLs hD hcd HX2 HL2 HO2 HX1 HC1 HC2 HBL HOWN
            generalize hw3 : w2.drewN nq = w3 at *
            clear hw3
            obtain ⟨q1, q2, q3⟩ := HLS.out
            have HQ1 := Lib.hid q1
            have HQ2 := Lib.hid q2
            have HQ3 := Lib.hid q3
            clear q1 q2 q3 HLS
            have hmx : m + 1 ≤ 16777217 := by omega
            have hrow := hown3.alloc (.cells #[.slice X nn xc] 35)
            have hbase : w.heap.size ≤ (w3.alloc (.cells #[.slice X nn xc] 35)).heap.size := Nat.le_trans HC.out.size (by simp)
            go_wp2_with (at_builtin; refine wpList_own_append _ rfl (.tmp 71) (.tmp 73) 31 rfl w.heap.size 35 i0 (.slice none 0 0) 24 Try.underlying31 hi0 hz0 hz1 hz2 rfl (.slice D m c') m vs rfl hrow _ (some ⟨w3.heap.size, 0, none⟩) 1 1 [.slice X nn xc] rfl (rds_alloc w3 35 #[.slice X nn xc] (0, 0)) (by simp [Value.oneCell']) (by unfold maxLen; omega) (by omega) hbase ?_; intro v5 w5 hown5 hg5 hat5; obtain ⟨D5, c5, rfl, _, _⟩ := own_form hown5)
            have hcg : Chg (fun k => D.map (·.block) = some k) w3 w5 := ((Chg.refl (fun k => D.map (·.block) = some k) w3).alloc _).grown hg5 (fun k hk _ => by rw [own_block] at hk; exact hk)
            have hC5 : Chg (fun _ => False) w w5 := grown_fresh (HC.out.alloc _) hg5 hrow (Nat.le_refl _)
            have hL5 := HSN.out.chg hcg (fun k hk => hk.2.2)
            have HL5 := Lib.hid (hL5.mono (S' := fun k => w.heap.size ≤ k ∧ k < w5.heap.size ∧ D5.map (·.block) ≠ some k) (fun k hk => by
              have hsz := hcg.size
              refine ⟨hk.1, by omega, fun e => ?_⟩
              rw [own_block, own_block] at hat5
              rcases hat5 with h | h
              · exact hk.2.2 (by rw [← h]; exact e)
              · rw [h, Option.some.injEq] at e
                have : (w3.alloc (.cells #[.slice X nn xc] 35)).heap.size = w3.heap.size + 1 := by simp
                have h2 := hk.2.1
                omega))
            have HO5 := Lib.hid hown5
            have HC5 := Lib.hid hC5
            clear hcg hC5 hL5 hown5 hg5 hat5 hrow hown3 HSN
            go_roundg (b.length - (at_ + nn + 6))
            case measure => have := HN.out; omega
            case rel =>
              have hh := HH.out
              rw [HQ2.out] at hh
              obtain ⟨s1, s2⟩ := scan_step HQ3.out hh
              have q1 := HQ1.out
              have q2 := HQ2.out
              have q3 := HNN.out
              exact ⟨ls ++ [x], at_ + nn + 6, m + 1, c5, D5, vs ++ [.slice X nn xc], rfl, by omega, by omega, by go_num, rfl, ⟨by rw [List.length_append, q1]; rfl, by rw [s2, q2, q3], s1⟩, HO5, HL5, HC5⟩
          · have hsne : (recB x == (b.drop at_).take (nn + 6)) = false := by simpa using hne
            have HH := Lib.hid hh
            clear hh hne
            go_upto_region 10 with fail
            go_quiet (fail)
            replace HC := Lib.hid ((HC.out.trans (HC1.out.trans HC2.out (fun _ _ e => e)) (fun _ _ e => e)).drewN nq)
            replace HOWN : Hid ((w2.drewN nq).ownsRow w.heap.size 35 1 (.slice D m c') m vs) := HO2
            replace HBL := Lib.hid (HL2.out.chg ((Chg.refl (fun _ => False) w2).drewN nq) (fun _ _ => id))
            clear k1 k2
            go_wp2_with fail
            go_ret2
            obtain ⟨q1, q2, q3⟩ := HLS.out
            have hh := HH.out
            rw [q2] at hh
            obtain ⟨q4, q5⟩ := scan_end q3 hh
            rw [q2, q5]
            subst q4
            exact ⟨D, m, c', vs, rfl, q1, HOWN.out, HBL.out.mono (fun k hk => hk.1), HC.out⟩
        · have HH := Lib.hid (rf_bad (b.drop at_) (by rw [HNUM.out]; omega))
          have HE := Lib.hid (renc_bad X nn xc w1 (by omega) (by omega))
          clear hbok
          go_wp2_with fail
          refine HE.out.mono ?_
          rintro e w2 ⟨rfl, rfl⟩
          clear HE
          go_upto_region 10 with fail
          go_quiet (fail)
          replace HC := Lib.hid ((HC.out.trans HC1.out (fun _ _ e => e)).drewN nq)
          replace HOWN : Hid ((w1.drewN nq).ownsRow w.heap.size 35 1 (.slice D m c') m vs) := Lib.hid (own_chg HOWN.out (HC1.out.drewN nq) (fun _ _ => id))
          replace HBL : Hid (BL (w1.drewN nq) _ vs ls) := Lib.hid (HBL.out.chg (HC1.out.drewN nq) (fun _ _ => id))
          go_wp2_with fail
          go_ret2
          obtain ⟨q1, q2, q3⟩ := HLS.out
          have hh := HH.out
          rw [q2] at hh
          obtain ⟨q4, q5⟩ := scan_end q3 hh
          rw [q2, q5]
          subst q4
          exact ⟨D, m, c', vs, rfl, q1, HOWN.out, HBL.out.mono (fun k hk => hk.1), HC.out⟩
      · have h6' : (n : Int) - (at_ : Int) - 6 < (nn : Int) := by omega
        have HH := Lib.hid (head_short (b.drop at_) (.inr (by rw [HNUM.out, List.length_drop, ← HN.out]; omega)))
        go_wp2_with fail
        go_ret2
        obtain ⟨q1, q2, q3⟩ := HLS.out
        have hh := HH.out
        rw [q2] at hh
        obtain ⟨q4, q5⟩ := scan_end q3 hh
        rw [q2, q5]
        subst q4
        exact ⟨D, m, c', vs, rfl, q1, HOWN.out, HBL.out.mono (fun k hk => hk.1), HC.out⟩
    · have HH := Lib.hid (head_short (b.drop at_) (.inl (by omega)))
      have h2' : (n : Int) - (at_ : Int) < 2 := by omega
      clear hlen
      go_wp2_with fail
      go_ret2
      obtain ⟨q1, q2, q3⟩ := HLS.out
      have hh := HH.out
      rw [q2] at hh
      obtain ⟨q4, q5⟩ := scan_end q3 hh
      rw [q2, q5]
      subst q4
      exact ⟨D, m, c', vs, rfl, q1, HOWN.out, HBL.out.mono (fun k hk => hk.1), HC.out⟩

end Go.Proofs.Ythljmebhbjeeiaa
