/-
  Walk: rutterlaw01.BufBack. Conditions: the arguments are read in memory.
-/
import Derived.Test.YtplhhcooglaphaaBa
namespace Go.Proofs.Ytplhhcooglaphaa
open Go.RowKit

set_option maxRecDepth 100000 in
set_option maxHeartbeats 1000000 in
theorem back_any (n : Nat) (L A : Option Addr) (lc ac : Nat) (l : List Int) (b : List UInt8) (W : World) (m q : Nat) (hn : n ≤ 255) (hm : m = l.length) (hq : q = b.length) (hmc : m ≤ 9223372036854775807) (hqc : q ≤ 9223372036854775807)
    (hl : Rds W (fun _ => True) L m (ics l)) (hb : Rds W (fun _ => True) A q (bcs b)) (hw : ∀ x ∈ l, -9223372036854775808 ≤ x ∧ x ≤ 9223372036854775807) :
    Calls Try.prog 5 #[.int .u8 (n : Int), .slice L m lc, .slice A q ac] W fun e w' => e = .returned (.bool true) ∧ Chg (fun _ => False) W w' := by
  obtain ⟨i0, hi0, hz0, hz1, hz2⟩ := info_parts infoByte
  have HM := Lib.hid hm
  have HQ := Lib.hid hq
  clear hm hq
  by_cases hbig : 100 < m ∨ 70000 < q
  · have hal := alive_any W
    have HAL := Lib.hid hal
    clear hal
    rcases hbig with h1 | h1
    · go_enter Try.func5, Try.ntmps5
      go_wp2_with fail
      refine HAL.out.mono ?_
      rintro e w' ⟨rfl, hc⟩
      go_wp2_with fail
      go_ret
      exact ⟨rfl, hc⟩
    · by_cases h2 : 100 < m
      all_goals
        go_enter Try.func5, Try.ntmps5
        go_wp2_with fail
        refine HAL.out.mono ?_
        rintro e w' ⟨rfl, hc⟩
        go_wp2_with fail
        go_ret
        exact ⟨rfl, hc⟩
  · have h1 : m ≤ 100 := by omega
    have h2 : q ≤ 70000 := by omega
    clear hbig
    have hC0 := (Chg.refl (fun _ => False) W).alloc (.cells #[.slice none 0 0, .bool false] 28)
    have h0 := wr_new 28 5 W
    have hl0 := hl.old.alloc (.cells #[.slice none 0 0, .bool false] 28)
    have hb0 := hb.old.alloc (.cells #[.slice none 0 0, .bool false] 28)
    have hp1 := put_any W.heap.size none (some []) 0 ((n : Int) % 8 + 1) l L m lc _ _ h0 HM.out hl0 (fun k hk => ⟨by have := hk.2; omega, by simp⟩) hw (by omega)
    have HP1 := Lib.hid hp1
    clear hp1 h0 hl
    cases hst : bytesS b (putS ((n : Int) % 8 + 1) l (some [])) with
    | none =>
      have HST := Lib.hid hst
      clear hst
      go_enter Try.func5, Try.ntmps5
      go_wp2_with fail
      refine HP1.out.mono ?_
      rintro e w2 ⟨rfl, o2, hw2, hm2⟩
      obtain ⟨hC2, ho2⟩ := fresh_mvd hC0 hm2 (Nat.le_refl _) (fun k hk => by cases hk)
      have hb2 := hb0.chg hm2.1 (fun k hk e => by
        have := hk.2
        rcases e with e | e
        · omega
        · cases e)
      have hlt2 := hw2.lt
      have hb3 := wbytes_any W.heap.size o2 _ _ A q ac b _ w2 hw2 HQ.out hb2 (fun k hk => ⟨by have := hk.2; omega, fun e => by have := ho2 _ e; have := hk.2; omega⟩) (by omega)
      have HB3 := Lib.hid hb3
      clear hb3 hw2 hm2 hC0 HP1 hlt2 hl0
      go_wp2_with fail
      refine HB3.out.mono ?_
      rintro e w4 ⟨rfl, o4, hw4, hm4⟩
      obtain ⟨hC4, ho4⟩ := fresh_mvd hC2 hm4 (Nat.le_refl _) ho2
      rw [HST.out] at hw4
      have hd5 := wdone_none W.heap.size o4 _ w4 hw4
      have HD5 := Lib.hid hd5
      clear hd5 hw4 hm4 HB3
      go_wp2_with fail
      refine HD5.out.mono ?_
      rintro e w5 ⟨rfl, rfl⟩
      have hal := alive_any w4
      have HAL := Lib.hid hal
      clear hal HD5
      go_wp2_with fail
      refine HAL.out.mono ?_
      rintro e w6 ⟨rfl, hc6⟩
      go_wp2_with fail
      go_ret
      exact ⟨rfl, hC4.trans hc6 (fun _ _ e => e)⟩
    | some c =>
      have hk8 : ((n % 8 + 1 : Nat) : Int) = (n : Int) % 8 + 1 := by omega
      obtain ⟨hc1, hb65, hfit, hclen⟩ := back_some (n % 8 + 1) l b c (by omega) (by omega) (by rw [hk8]; exact hst)
      have HST := Lib.hid hst
      have HC1 := Lib.hid hc1
      have HCL := Lib.hid hclen
      have HK8 := Lib.hid hk8
      clear hst hc1 hclen hk8
      go_enter Try.func5, Try.ntmps5
      go_wp2_with fail
      refine HP1.out.mono ?_
      rintro e w2 ⟨rfl, o2, hw2, hm2⟩
      obtain ⟨hC2, ho2⟩ := fresh_mvd hC0 hm2 (Nat.le_refl _) (fun k hk => by cases hk)
      have hb2 := hb0.chg hm2.1 (fun k hk e => by
        have := hk.2
        rcases e with e | e
        · omega
        · cases e)
      have hl2 := hl0.chg hm2.1 (fun k hk e => by
        have := hk.2
        rcases e with e | e
        · omega
        · cases e)
      have hb3 := wbytes_any W.heap.size o2 _ _ A q ac b _ w2 hw2 HQ.out hb2 (fun k hk => ⟨by have := hk.2; omega, fun e => by have := ho2 _ e; have := hk.2; omega⟩) (by omega)
      have HB3 := Lib.hid hb3
      clear hb3 hw2 hm2 hC0 HP1 hl0 hb0
      go_wp2_with fail
      refine HB3.out.mono ?_
      rintro e w4 ⟨rfl, o4, hw4, hm4⟩
      obtain ⟨hC4, ho4⟩ := fresh_mvd hC2 hm4 (Nat.le_refl _) ho2
      have hs : ∀ k, (True ∧ k < W.heap.size) → ¬ (k = W.heap.size ∨ o2 = some k) := fun k hk e => by
        have := hk.2
        rcases e with e | e
        · omega
        · have := ho2 _ e
          omega
      have hb4 := hb2.chg hm4.1 hs
      have hl4 := hl2.chg hm4.1 hs
      rw [HST.out] at hw4
      have hd5 := wdone_some W.heap.size o4 c _ w4 hw4 (by omega)
      have HD5 := Lib.hid hd5
      clear hd5 hw4 hm4 HB3 hb2 hl2 hC2 ho2 hs
      go_wp2_with fail
      refine HD5.out.mono ?_
      rintro e w5 ⟨C, cn, cc, rfl, hcn, hown, hC45⟩
      have hC5 := hC4.trans hC45 (fun _ _ e => e)
      have hb5 := hb4.chg hC45 (fun _ _ => id)
      have hl5 := hl4.chg hC45 (fun _ _ => id)
      obtain ⟨hcc1, hcc2⟩ := own_cap hown
      have hr5 := own_rds2 hown
      have hz5 := own_nil hown
      have hkm : (n % 8 + 1) * m ≤ 8 * 100 := Nat.mul_le_mul (by omega) h1
      have hcle : cn = (n % 8 + 1) * m + 2 + q := by rw [hcn, HCL.out, ← HM.out, ← HQ.out]
      have hrd6 := read_any C cn cc c _ w5 hcn hr5 hz5 (by omega)
      have HRD6 := Lib.hid hrd6
      have hcmax : cn ≤ 80000 := by omega
      have hc2 : 2 ≤ cn := by omega
      have hi1 : 0 ≤ ((n : Int) % 8 + 1) * (m : Int) := Int.mul_nonneg (by omega) (by omega)
      have hi2 : ((n : Int) % 8 + 1) * (m : Int) ≤ 800 := by
        rw [← HK8.out, ← Int.natCast_mul]
        omega
      have hi3 : (cn : Int) = ((n : Int) % 8 + 1) * (m : Int) + 2 + (q : Int) := by
        rw [← HK8.out, ← Int.natCast_mul]
        omega
      have t1 : ((cn : Int) != ((n : Int) % 8 + 1) * (m : Int) + 2 + (q : Int)) = false := by rw [← hi3]; simp
      have HCN := Lib.hid hcn
      have HCLE := Lib.hid hcle
      clear hrd6 hC4 hC45 HD5 hb4 hl4 hown hz5 hcn hcle hi3 hkm
      go_wp2_with fail
      refine HRD6.out.mono ?_
      rintro e w6 ⟨p1, rfl, hp1, hrd1, hC56⟩
      have hC6 := hC5.trans hC56 (fun _ _ e => e)
      have hb6 := hb5.chg hC56 (fun _ _ => id)
      have hl6 := hl5.chg hC56 (fun _ _ => id)
      have hr6 := hr5.old.chg hC56 (fun _ _ => id)
      have hlt1 := hrd1.lt
      have hW5 := hC5.size
      have hrc6 := rds_cut hr6 (by omega)
      have hrd7 := read_any C (cn - 1) cc c.dropLast _ w6 (by rw [List.length_dropLast, ← HCN.out]) hrc6 (rds_nil_ok hr6 (by omega)) (by omega)
      have HRD7 := Lib.hid hrd7
      clear hrd7 HRD6 hC5 hC56 hb5 hl5 hr5 hrc6
      go_wp2_with fail
      refine HRD7.out.mono ?_
      rintro e w7 ⟨p2, rfl, hp2, hrd2, hC67⟩
      have hC7 := hC6.trans hC67 (fun _ _ e => e)
      have hb7 := hb6.chg hC67 (fun _ _ => id)
      have hl7 := hl6.chg hC67 (fun _ _ => id)
      have hr7 := hr6.chg hC67 (fun _ _ => id)
      have hrd17 := hrd1.chg hC67 id (fun _ _ => id)
      have hlt2 := hrd2.lt
      have hmade := World.ownsRow_made (e := 5) (size := 1) w7 #[] 0 (Nat.le_refl _) (by decide) rfl
      have hr7a := hr7.alloc (.cells #[] 5)
      clear hC6 hC67 hb6 hl6 hr6 hrd1 HRD7 hr7
      go_wp2_with (first
        | (at_builtin; refine wpList_own_append _ rfl (.tmp 67) (.tmp 68) 26 rfl w7.heap.size 5 i0 (.int .u8 0) 1 Try.underlying26 hi0 hz0 hz1 hz2 rfl (.slice (some ⟨w7.heap.size, 0, none⟩) 0 0) 0 [] rfl hmade _ C cn cc (bcs c) rfl hr7a (bcs_one c) (by unfold maxLen; omega) (by omega) (by simp) ?_; intro v1 w8 hown8 hg8 hat8; simp only [Nat.zero_add, List.nil_append] at hown8; obtain ⟨D, dc, rfl, _, _⟩ := own_form hown8)
        | (at_builtin; refine wpList_own_append _ rfl (.tmp 70) (.tmp 71) 26 rfl w7.heap.size 5 i0 (.int .u8 0) 1 Try.underlying26 hi0 hz0 hz1 hz2 rfl (.slice D cn dc) cn (bcs c) rfl (hown8.alloc _) _ (some ⟨w8.heap.size, 0, none⟩) 1 1 [.int .u8 0] rfl (rds_new1 w8 5 #[.int .u8 0] (0, 0) _ rfl _ _ rfl rfl) (by simp [Value.oneCell']) (by unfold maxLen; omega) (by omega) (by have := hg8.size; simp at this ⊢; omega) ?_; intro v2 w9 hown9 hg9 hat9; obtain ⟨E, ec, rfl, _, _⟩ := own_form hown9))
      have hC78 : Chg (fun _ => False) w7 w8 := grown_fresh ((Chg.refl _ w7).alloc _) hg8 hmade (Nat.le_refl _)
      have hC79 : Chg (fun _ => False) w7 w9 := grown_fresh (hC78.alloc _) hg9 (hown8.alloc _) (Nat.le_refl _)
      have hr9 : Rds w9 (fun k => w7.heap.size ≤ k ∧ k < w9.heap.size) E (cn + 1) (bcs (c ++ [0])) := by rw [bcs_app]; exact own_rds2 hown9
      have hrd10 := read_any E (cn + 1) ec (c ++ [0]) _ w9 (by rw [List.length_append, ← HCN.out]; rfl) hr9 (own_nil hown9) (by omega)
      have HRD10 := Lib.hid hrd10
      have hC9 := hC7.trans hC79 (fun _ _ e => e)
      have hb9 := hb7.chg hC79 (fun _ _ => id)
      have hl9 := hl7.chg hC79 (fun _ _ => id)
      have hrd19 := hrd17.chg hC79 id (fun _ _ => id)
      have hrd29 := hrd2.chg hC79 id (fun _ _ => id)
      have hs79 := hC79.size
      clear hrd10 hr9 hC78 hg8 hg9 hat8 hat9 hown8 hown9 hC79 hr7a hmade hb7 hl7 hrd17 hrd2 hC7
      go_wp2_with fail
      refine HRD10.out.mono ?_
      rintro e w10 ⟨p3, rfl, hp3, hrd3, hC910⟩
      have hBB : BB W L A m q l b p1 p2 p3 (some (leftS (n % 8 + 1) l b 0)) (some (leftS (n % 8 + 1) l b 0).dropLast) (some (leftS (n % 8 + 1) l b 0 ++ [0])) w10 := by
        rw [← HC1.out]
        exact ⟨hC9.trans hC910 (fun _ _ e => e), (hl9.chg hC910 (fun _ _ => id)).mono (fun _ h => h.2), (hb9.chg hC910 (fun _ _ => id)).mono (fun _ h => h.2), by omega,
          (hrd19.chg hC910 id (fun _ _ => id)).mono (fun k h => ⟨by omega, h.2⟩) (fun h => by omega),
          (hrd29.chg hC910 id (fun _ _ => id)).mono (fun k h => ⟨by omega, h.2⟩) (fun h => by omega),
          hrd3.mono (fun k h => ⟨by omega, h.2⟩) (fun h => by omega), by omega, by omega⟩
      clear hC9 hC910 hb9 hl9 hrd19 hrd29 hrd3 HRD10 hs79 hp1 hp2 hp3 hlt1 hlt2 hW5
      have HBB := Lib.hid hBB
      clear hBB
      have hk1 : 1 ≤ n % 8 + 1 := by omega
      have hk2 : n % 8 + 1 ≤ 8 := by omega
      have HFIT := Lib.hid hfit
      have HW := Lib.hid hw
      clear hfit hw
      go_wp2_with fail
      go_loopg [15] m (fun g i wr => ∃ j : Nat, g = m - j ∧ j ≤ m ∧ i = .int .i64 (j : Int) ∧
        BB W L A m q l b p1 p2 p3 (some (leftS (n % 8 + 1) l b j)) (some (leftS (n % 8 + 1) l b j).dropLast) (some (leftS (n % 8 + 1) l b j ++ [0])) wr)
      case atStart => exact ⟨0, rfl, Nat.zero_le _, rfl, HBB.out⟩
      case round =>
        obtain ⟨j, rfl, hj, rfl, hB⟩ := hrel
        by_cases hlt : j < m
        · obtain ⟨ad, rfl, _, _, hcl⟩ := hB.nums.cellAt hlt
          have hjl : j < l.length := by have := HM.out; omega
          rw [ics_at l j hjl] at hcl
          have hfx := HFIT.out _ (List.getElem_mem hjl)
          have hwx := HW.out _ (List.getElem_mem hjl)
          have hx0 : l[j]? = some l[j] := List.getElem?_eq_getElem hjl
          have g1 := get_be (n % 8 + 1) l[j] (leftS (n % 8 + 1) l b (j + 1)) hk1 hk2 hfx hwx.2
          have g2 := get_be (n % 8 + 1) l[j] (leftS (n % 8 + 1) l b (j + 1)).dropLast hk1 hk2 hfx hwx.2
          have g3 := get_be (n % 8 + 1) l[j] (leftS (n % 8 + 1) l b (j + 1) ++ [0]) hk1 hk2 hfx hwx.2
          rw [← leftS_step _ l b j hjl, HK8.out] at g1
          rw [← leftS_cut _ l b j hjl, HK8.out] at g2
          rw [← List.append_assoc, ← leftS_step _ l b j hjl, HK8.out] at g3
          generalize l[j] = x at *
          have G1 := Lib.hid g1
          have G2 := Lib.hid g2
          have G3 := Lib.hid g3
          have HX := Lib.hid hx0
          clear g1 g2 g3 hfx hx0
          go_wp2_with fail
          have z0 : wr.drew.cell? (ad.add j) = some (.int .i64 x) := hcl
          go_region_held3 (fun w' => w'.cell? (ad.add j) = some (.int .i64 x)) (first | exact z0 | exact z1 | exact z2 | exact z3) (first
            | (go_at_call_of 19 (Value.pointer (some ⟨p1, 0, none⟩)); refine (bb_get1 hB.drew _ x G1.out).mono ?_; rintro e w1 ⟨rfl, hB1⟩; have z1 := bb_cell hB1 hlt HX.out)
            | (go_at_call_of 19 (Value.pointer (some ⟨p2, 0, none⟩)); refine (bb_get2 hB1 _ x G2.out).mono ?_; rintro e w2 ⟨rfl, hB2⟩; have z2 := bb_cell hB2 hlt HX.out)
            | (go_at_call_of 19 (Value.pointer (some ⟨p3, 0, none⟩)); refine (bb_get3 hB2 _ x G3.out).mono ?_; rintro e w3 ⟨rfl, hB3⟩; have z3 := bb_cell hB3 hlt HX.out))
          go_wp2_with fail
          go_roundg (m - (j + 1))
          case measure => omega
          case rel => exact ⟨j + 1, rfl, by omega, by go_num, hB3⟩
        · have hjm : j = l.length := by have := HM.out; omega
          have x1 : bytesR (q : Int) (some (leftS (n % 8 + 1) l b j)) = (b, some []) := by
            rw [hjm, leftS_end, HQ.out]
            have := bytes_back b [] hb65
            rwa [List.append_nil] at this
          have x2 : bytesR (q : Int) (some (leftS (n % 8 + 1) l b j).dropLast) = ([], none) := by
            rw [hjm, leftS_end, HQ.out]
            exact bytes_cut b hb65
          have x3 : bytesR (q : Int) (some (leftS (n % 8 + 1) l b j ++ [0])) = (b, some [0]) := by
            rw [hjm, leftS_end, HQ.out, List.append_assoc]
            exact bytes_back b [0] hb65
          have X1 := Lib.hid x1
          have X2 := Lib.hid x2
          have X3 := Lib.hid x3
          clear x1 x2 x3 hjm HBB
          go_wp2_with fail
          have hB0 := BR.start hB
          obtain ⟨tkb, eqb⟩ := hB0.tkb
          clear hB
          go_region_held3 (fun w' => ∀ A1 n1 c1, Tk wr p1 p2 p3 A1 n1 → (convert 26 9 (.slice A1 n1 c1)).run Try.prog w' = .ok (.string (strOf wr A1 n1)) w')
            (first | exact hB0.can | exact hB1.can | exact hB2.can | exact hB3.can | exact hB4.can | exact hB5.can | exact hB6.can | exact hB7.can) (first
            | (go_at_call 7; refine (br_alive hB0).mono ?_; rintro e w1 ⟨rfl, hB1⟩)
            | (go_at_call_of 15 (Value.pointer (some ⟨p1, 0, none⟩)); refine (br_bytes1 hB1 _ b X1.out).mono ?_; rintro e w2 ⟨A2, n2, c2, rfl, hn2, tk2, eq2, hB2⟩; clear hn2)
            | (go_at_call_of 21 (Value.pointer (some ⟨p1, 0, none⟩)); refine (br_done1 hB2 0 rfl).mono ?_; rintro e w3 ⟨rfl, hB3⟩)
            | (go_at_call_of 15 (Value.pointer (some ⟨p2, 0, none⟩)); refine (br_bytes2 hB3 _ [] X2.out).mono ?_; rintro e w4 ⟨A4, n4, c4, rfl, hn4, tk4, eq4, hB4⟩; simp only [List.length_nil] at hn4; subst hn4; clear tk4 eq4)
            | (go_at_call_of 21 (Value.pointer (some ⟨p2, 0, none⟩)); refine (br_done2 hB4 2 rfl).mono ?_; rintro e w5 ⟨rfl, hB5⟩)
            | (go_at_call_of 15 (Value.pointer (some ⟨p3, 0, none⟩)); refine (br_bytes3 hB5 _ b X3.out).mono ?_; rintro e w6 ⟨A6, n6, c6, rfl, hn6, tk6, eq6, hB6⟩; clear hn6)
            | (go_at_call_of 21 (Value.pointer (some ⟨p3, 0, none⟩)); refine (br_done3 hB6 2 rfl).mono ?_; rintro e w7 ⟨rfl, hB7⟩))
          all_goals
            go_wp2_with fail
            go_ret
            exact ⟨rfl, hB7.bb.chg⟩

end Go.Proofs.Ytplhhcooglaphaa
