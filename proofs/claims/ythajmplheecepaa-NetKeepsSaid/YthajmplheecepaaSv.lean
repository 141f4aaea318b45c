/-
  Walk: rutterlaw18.NetKeeps. Conditions: the arguments are read in memory.
-/
import Derived.Test.YthajmplheecepaaSq
import Derived.Test.YthajmplheecepaaSr
namespace Go.Proofs.Ythajmplheecepaa
open Go.RowKit
set_option linter.unusedVariables false
set_option linter.unusedSimpArgs false
attribute [local go_sem] Oper.semAt_some

theorem dbl18_len (x : NV18) (i : Int) : (dblE x i = 0 ∧ (dblS x i).l.length = x.l.length + 1 ∧ (dblS x i).lost = x.lost) ∨ (dblE x i ≠ 0 ∧ dblS x i = x) := by
  by_cases hi : 0 ≤ i ∧ i < (x.l.length : Int)
  · obtain ⟨j, rfl⟩ : ∃ j : Nat, i = (j : Int) := ⟨i.toNat, by omega⟩
    obtain ⟨u, hu⟩ : ∃ u, x.l[j]? = some u := ⟨_, List.getElem?_eq_getElem (by omega)⟩
    obtain ⟨h1, h2⟩ := dbl18_ok hu
    rw [h1, h2]
    unfold addS18
    by_cases hf : (x.l.length : Int) < x.room
    · rw [if_pos hf, if_pos hf]
      exact .inl ⟨rfl, by simp, rfl⟩
    · rw [if_neg hf, if_neg hf]
      exact .inr ⟨by decide, rfl⟩
  · obtain ⟨h1, h2⟩ := dbl18_no hi
    rw [h1, h2]
    exact .inr ⟨by decide, rfl⟩
theorem tak18_len (x : NV18) (i : Int) : (lackE x i = 0 ∧ (tak18 x i).l.length + 1 = x.l.length ∧ (tak18 x i).lost = x.lost) ∨ (lackE x i = 4 ∧ tak18 x i = x) := by
  by_cases hi : 0 ≤ i ∧ i < (x.l.length : Int)
  · refine .inl ⟨if_pos hi, ?_, ?_⟩
    · unfold tak18
      rw [if_pos hi]
      simp
      omega
    · unfold tak18
      rw [if_pos hi]
  · exact .inr ⟨if_neg hi, if_neg hi⟩
theorem puts18_pre (x : NV18) (ts : List IT18) {j : Nat} {u : IT18} (hu : x.l[j]? = some u) : (puts18 x ts).l[j]? = some u := by
  induction ts generalizing x with
  | nil => exact hu
  | cons t ts ih =>
    have e : puts18 x (t :: ts) = puts18 (put18 x t) ts := rfl
    rw [e]
    refine ih _ ?_
    unfold put18
    split
    · show (x.l ++ [t])[j]? = some u
      rw [List.getElem?_append_left (List.getElem?_eq_some_iff.1 hu).1]
      exact hu
    · exact hu
theorem tak18_first {r s : Int} {l : List IT18} {j : Nat} {u : IT18} (hu : l[j]? = some u) : lackE ⟨r, s, l.drop j⟩ 0 = 0 ∧ at18 ⟨r, s, l.drop j⟩ 0 = u ∧ tak18 ⟨r, s, l.drop j⟩ 0 = ⟨r, s, l.drop (j + 1)⟩ := by
  have hj := (List.getElem?_eq_some_iff.1 hu).1
  have h0 : (l.drop j)[0]? = some u := by rw [List.getElem?_drop]; exact hu
  have hl : 0 < (l.drop j).length := by rw [List.length_drop]; omega
  refine ⟨if_pos ⟨Int.le_refl _, by simpa using hl⟩, at18_ok (j := 0) h0, ?_⟩
  have h := tak18_ok (x := ⟨r, s, l.drop j⟩) (j := 0) hl
  rw [show ((0 : Nat) : Int) = 0 from rfl] at h
  rw [h]
  simp
set_option maxRecDepth 100000 in
set_option maxHeartbeats 32000000 in
theorem keeps18_any (room : Int) (hr0 : 0 ≤ room ∧ room ≤ 65535) (L : Option Addr) (m lc : Nat) (l : List At18) (L2 : Option Addr) (m2 lc2 : Nat) (l2 : List AI18) (W : World) (hl : AR18 W (fun k => k < W.heap.size) L m l) (hl2 : IR18 W (fun k => k < W.heap.size) L2 m2 l2) (hz2' : L2 = none → lc2 = 0) (hmc : m ≤ 9223372036854775807) (hmc2 : m2 ≤ 9223372036854775807) : Calls Try.prog 4 #[.int .u16 room, .slice L m lc, .slice L2 m2 lc2] W fun e w' => e = .returned (.bool true) ∧ Chg (fun _ => False) W w' := by
  obtain ⟨i0, hi0, hz0, hz1, hz2⟩ := info_parts infoRi18
  have HF := Lib.hid (fits18_any L m lc l W _ hl hmc)
  have HAL := Lib.hid alive18_any
  have hszb : 0 ≤ room % 4097 ∧ room % 4097 ≤ 4096 := by omega
  have ha0 := (Chg.refl (fun _ => False) W).alloc (.cells #[.int .u8 0, .slice L2 m2 lc2, .int .i64 0] 36)
  have har : AR18 (W.alloc (.cells #[.int .u8 0, .slice L2 m2 lc2, .int .i64 0] 36)) (fun k => k < (W.alloc (.cells #[.int .u8 0, .slice L2 m2 lc2, .int .i64 0] 36)).heap.size) (some ⟨W.heap.size, 0, none⟩) 1 [⟨0, L2, m2, lc2, l2, 0⟩] := by
    have hb : Blk (W.alloc (.cells #[.int .u8 0, .slice L2 m2 lc2, .int .i64 0] 36)) W.heap.size 36 #[.int .u8 0, .slice L2 m2 lc2, .int .i64 0] := blk_new rfl
    refine ⟨rfl, fun _ => ⟨_, rfl, hb.lt, hb.lt, fun i x hx => ?_⟩⟩
    have hi : i = 0 := by have := (List.getElem?_eq_some_iff.1 hx).1; simp at this; omega
    subst hi
    simp only [List.getElem?_cons_zero, Option.some.injEq] at hx
    subst hx
    obtain ⟨x0, x1, x2⟩ := actb18 hb
    have e : ∀ t, (⟨W.heap.size, 0, none⟩ : Addr).add t = ⟨W.heap.size, t, none⟩ := fun t => by unfold Addr.add; split <;> simp_all
    rw [e, e, e]
    exact ⟨x0, x1, x2, ⟨Int.le_refl _, by show (0 : Int) ≤ 255; decide⟩, hmc2, hz2', (hl2.chg ha0 (fun _ _ => id)).mono (fun k hk => Nat.lt_of_lt_of_le hk ha0.size)⟩
  have HF2 := Lib.hid (fits18_any (some ⟨W.heap.size, 0, none⟩) 1 1 _ _ _ har (by decide))
  have HNW := Lib.hid (nnew18_ok (room % 4097) (W.alloc (.cells #[.int .u8 0, .slice L2 m2 lc2, .int .i64 0] 36)) W.heap.size ha0.size hszb)
  have HX0 := Lib.hid ha0
  have HL := Lib.hid hl
  have HL2 := Lib.hid hl2
  clear hl hl2 ha0 har
  go_enter Try.func4, Try.ntmps4
  go_wp2_with fail
  refine HF.out.mono ?_
  rintro e w0 ⟨b, rfl, hb, rfl⟩
  go_wp2_with fail
  refine HF2.out.mono ?_
  rintro e w0 ⟨b2, rfl, hb2, rfl⟩
  go_wp2_with fail
  refine HNW.out.mono ?_
  rintro e w1 ⟨rfl, hn1, hc1⟩
  have HX1 := Lib.hid (HX0.out.trans hc1 (fun _ _ e => e))
  have HN1 := Lib.hid hn1
  clear hn1 hc1 HF HF2 HNW
  cases b with
  | false =>
    go_wp2_with fail
    refine (HAL.out _).mono ?_
    rintro e w9 ⟨rfl, hc9⟩
    go_wp2_with fail
    go_ret
    exact ⟨rfl, HX1.out.trans hc9 (fun _ _ e => e)⟩
  | true =>
    cases b2 with
    | false =>
      go_wp2_with fail
      refine (HAL.out _).mono ?_
      rintro e w9 ⟨rfl, hc9⟩
      go_wp2_with fail
      go_ret
      exact ⟨rfl, HX1.out.trans hc9 (fun _ _ e => e)⟩
    | true =>
      obtain ⟨hm100, hs1⟩ := hb rfl
      have HS1 := Lib.hid hs1
      have hm2b : m2 ≤ 100 := (hb2 rfl).2 0 _ rfl
      have HG1 : Hid (GN18 (room % 4097) (100 * ((0 : Nat) : Int)) ⟨room % 4097, 0, []⟩) := Lib.hid ⟨rfl, ⟨Int.le_refl _, Int.le_refl _⟩, hszb.1, fun t ht => by cases ht⟩
      clear hb hb2 hs1 HX0
      generalize hp : (W.alloc (.cells #[.int .u8 0, .slice L2 m2 lc2, .int .i64 0] 36)).heap.size = p at *
      clear hp
      go_wp2_with fail
      go_loopg [12, 13, 14, 15, 16] m (fun g s12 s13 s14 s15 s16 wr => ∃ (j : Nat) (pu ta : Int) (o : Option Nat) (x : NV18), g = m - j ∧ j ≤ m ∧ s14 = .int .i64 (j : Int) ∧ s12 = .int .i64 pu ∧ s13 = .int .i64 ta ∧ Hid (Chg (fun _ => False) W wr) ∧ Hid (NN wr W.heap.size p o x) ∧ Hid (GN18 (room % 4097) (100 * (j : Int)) x) ∧ Hid ((x.l.length : Int) + ta + x.lost = pu) ∧ (0 ≤ ta ∧ ta ≤ (j : Int)) ∧ (0 ≤ pu ∧ pu ≤ 200 * (j : Int)))
      case atStart => exact ⟨0, 0, 0, none, _, rfl, Nat.zero_le _, rfl, rfl, rfl, HX1, HN1, HG1, Lib.hid rfl, by omega, by omega⟩
      case round =>
        obtain ⟨j, pu, ta, o, x, rfl, hj, rfl, rfl, rfl, HX, HN, HG, HS, hta, hpu⟩ := hrel
        by_cases hlt : j < m
        · have hll := HL.out.1
          obtain ⟨ad, rfl, -⟩ := HL.out.2 (by omega)
          have hx : l[j]? = some (l[j]'(by omega)) := List.getElem?_eq_getElem (by omega)
          have hq3 := HS1.out j _ hx
          generalize l[j]'(by omega) = y at *
          obtain ⟨-, -, -, hk, -, -, hir⟩ := HL.out.at hx
          obtain ⟨z0, z1, z2, -⟩ := (HL.out.chg HX.out (S' := fun _ => False) (fun _ _ => id)).at hx
          have HXY := Lib.hid hx
          clear hx hll
          have hcase : y.k % 9 = 4 ∨ y.k % 9 = 5 ∨ y.k % 9 = 6 ∨ y.k % 9 = 0 ∨ y.k % 9 = 1 ∨ y.k % 9 = 2 ∨ y.k % 9 = 3 ∨ y.k % 9 = 7 ∨ y.k % 9 = 8 := by omega
          rcases hcase with h4 | h4 | h4 | h4 | h4 | h4 | h4 | h4 | h4
          · rcases tak18_len x y.n with ⟨htl0, htl1, htl2⟩ | ⟨htl0, htl1⟩
            · have HG2 := Lib.hid ((HG.out.take y.n).more (k' := 100 * ((j + 1 : Nat) : Int)) (by omega))
              have HTK := Lib.hid (ntake18 HN.out y.n)
              unfold TakP18 at HTK
              rw [htl0] at HTK
              have HS2 := Lib.hid (show (((tak18 x y.n).l.length : Int) + (ta + 1) + (tak18 x y.n).lost = pu) from by have := HS.out; omega)
              clear htl0 htl1 htl2
              go_wp2_with fail
              refine HTK.out.mono ?_
              rintro e w2 ⟨kk, rfl, -, o2, hn2, hm2⟩
              have ha := (Chg.refl (fun _ => False) w2).alloc (.cells #[.int .i64 kk.ki, .int .i64 kk.ch, .slice kk.A kk.n kk.c] 40)
              have HX2 := Lib.hid ((chg_mvd18 HX.out HN.out.lt.1.1 (fun k hk => (HN.out.lt.2 k hk).1) hm2).trans ha (fun _ _ e => e))
              have HN2 := Lib.hid (hn2.new ha)
              clear hn2 hm2 ha HTK HN HX HS HG
              go_upto_region 18 with fail
              generalize w2.alloc (.cells #[.int .i64 kk.ki, .int .i64 kk.ch, .slice kk.A kk.n kk.c] 40) = w3 at *
              have HLE := Lib.hid (nlen18 HN2.out)
              have HLO := Lib.hid (nlost18 HN2.out)
              have hb1 := HG2.out.len
              have hb2 := HG2.out.lost
              have hb3 := HS2.out
              have HQ2 := HN2
              have HY2 := HG2
              have HZ2 := HS2
              generalize (tak18 x y.n).lost = lo at HLO hb2 hb3 ⊢
              generalize (tak18 x y.n).l.length = ln at HLE hb1 hb3 ⊢
              have hnn : ¬ ((ln : Int) < 0) := by omega
              have hsz : ¬ (room % 4097 < (ln : Int)) := by omega
              have hsm : ((ln : Int) + (ta + 1) + lo != (pu)) = false := by simp; omega
              go_wp2_with fail
              refine HLE.out.mono ?_
              rintro e _ ⟨rfl, rfl⟩
              go_wp2_with fail
              refine HLE.out.mono ?_
              rintro e _ ⟨rfl, rfl⟩
              go_wp2_with fail
              refine HLE.out.mono ?_
              rintro e _ ⟨rfl, rfl⟩
              go_wp2_with fail
              refine HLO.out.mono ?_
              rintro e _ ⟨rfl, rfl⟩
              go_wp2_with fail
              go_roundg (m - (j + 1))
              case measure => omega
              case rel => exact ⟨j + 1, pu, ta + 1, o2, tak18 x y.n, rfl, by omega, by go_num, by go_num, by go_num, HX2, HQ2, HY2, HZ2, by omega, by omega⟩
            · have HG2 := Lib.hid ((HG.out.take y.n).more (k' := 100 * ((j + 1 : Nat) : Int)) (by omega))
              have HTK := Lib.hid (ntake18 HN.out y.n)
              unfold TakP18 at HTK
              rw [htl0] at HTK
              have HS2 := Lib.hid (show (((tak18 x y.n).l.length : Int) + (ta) + (tak18 x y.n).lost = pu) from by have := HS.out; rw [htl1]; exact this)
              clear htl0 htl1
              go_wp2_with fail
              refine HTK.out.mono ?_
              rintro e w2 ⟨kk, rfl, -, o2, hn2, hm2⟩
              have ha := (Chg.refl (fun _ => False) w2).alloc (.cells #[.int .i64 kk.ki, .int .i64 kk.ch, .slice kk.A kk.n kk.c] 40)
              have HX2 := Lib.hid ((chg_mvd18 HX.out HN.out.lt.1.1 (fun k hk => (HN.out.lt.2 k hk).1) hm2).trans ha (fun _ _ e => e))
              have HN2 := Lib.hid (hn2.new ha)
              clear hn2 hm2 ha HTK HN HX HS HG
              go_upto_region 18 with fail
              generalize w2.alloc (.cells #[.int .i64 kk.ki, .int .i64 kk.ch, .slice kk.A kk.n kk.c] 40) = w3 at *
              have HLE := Lib.hid (nlen18 HN2.out)
              have HLO := Lib.hid (nlost18 HN2.out)
              have hb1 := HG2.out.len
              have hb2 := HG2.out.lost
              have hb3 := HS2.out
              have HQ2 := HN2
              have HY2 := HG2
              have HZ2 := HS2
              generalize (tak18 x y.n).lost = lo at HLO hb2 hb3 ⊢
              generalize (tak18 x y.n).l.length = ln at HLE hb1 hb3 ⊢
              have hnn : ¬ ((ln : Int) < 0) := by omega
              have hsz : ¬ (room % 4097 < (ln : Int)) := by omega
              have hsm : ((ln : Int) + (ta) + lo != (pu)) = false := by simp; omega
              go_wp2_with fail
              refine HLE.out.mono ?_
              rintro e _ ⟨rfl, rfl⟩
              go_wp2_with fail
              refine HLE.out.mono ?_
              rintro e _ ⟨rfl, rfl⟩
              go_wp2_with fail
              refine HLE.out.mono ?_
              rintro e _ ⟨rfl, rfl⟩
              go_wp2_with fail
              refine HLO.out.mono ?_
              rintro e _ ⟨rfl, rfl⟩
              go_wp2_with fail
              go_roundg (m - (j + 1))
              case measure => omega
              case rel => exact ⟨j + 1, pu, ta, o2, tak18 x y.n, rfl, by omega, by go_num, by go_num, by go_num, HX2, HQ2, HY2, HZ2, by omega, by omega⟩
          · rcases tak18_len x y.n with ⟨htl0, htl1, htl2⟩ | ⟨htl0, htl1⟩
            · have HG2 := Lib.hid ((HG.out.take y.n).more (k' := 100 * ((j + 1 : Nat) : Int)) (by omega))
              have HTK := Lib.hid (ntake18 HN.out y.n)
              unfold TakP18 at HTK
              rw [htl0] at HTK
              have HS2 := Lib.hid (show (((tak18 x y.n).l.length : Int) + (ta + 1) + (tak18 x y.n).lost = pu) from by have := HS.out; omega)
              clear htl0 htl1 htl2
              go_wp2_with fail
              refine HTK.out.mono ?_
              rintro e w2 ⟨kk, rfl, -, o2, hn2, hm2⟩
              have ha := (Chg.refl (fun _ => False) w2).alloc (.cells #[.int .i64 kk.ki, .int .i64 kk.ch, .slice kk.A kk.n kk.c] 40)
              have HX2 := Lib.hid ((chg_mvd18 HX.out HN.out.lt.1.1 (fun k hk => (HN.out.lt.2 k hk).1) hm2).trans ha (fun _ _ e => e))
              have HN2 := Lib.hid (hn2.new ha)
              clear hn2 hm2 ha HTK HN HX HS HG
              go_upto_region 18 with fail
              generalize w2.alloc (.cells #[.int .i64 kk.ki, .int .i64 kk.ch, .slice kk.A kk.n kk.c] 40) = w3 at *
              have HLE := Lib.hid (nlen18 HN2.out)
              have HLO := Lib.hid (nlost18 HN2.out)
              have hb1 := HG2.out.len
              have hb2 := HG2.out.lost
              have hb3 := HS2.out
              have HQ2 := HN2
              have HY2 := HG2
              have HZ2 := HS2
              generalize (tak18 x y.n).lost = lo at HLO hb2 hb3 ⊢
              generalize (tak18 x y.n).l.length = ln at HLE hb1 hb3 ⊢
              have hnn : ¬ ((ln : Int) < 0) := by omega
              have hsz : ¬ (room % 4097 < (ln : Int)) := by omega
              have hsm : ((ln : Int) + (ta + 1) + lo != (pu)) = false := by simp; omega
              go_wp2_with fail
              refine HLE.out.mono ?_
              rintro e _ ⟨rfl, rfl⟩
              go_wp2_with fail
              refine HLE.out.mono ?_
              rintro e _ ⟨rfl, rfl⟩
              go_wp2_with fail
              refine HLE.out.mono ?_
              rintro e _ ⟨rfl, rfl⟩
              go_wp2_with fail
              refine HLO.out.mono ?_
              rintro e _ ⟨rfl, rfl⟩
              go_wp2_with fail
              go_roundg (m - (j + 1))
              case measure => omega
              case rel => exact ⟨j + 1, pu, ta + 1, o2, tak18 x y.n, rfl, by omega, by go_num, by go_num, by go_num, HX2, HQ2, HY2, HZ2, by omega, by omega⟩
            · have HG2 := Lib.hid ((HG.out.take y.n).more (k' := 100 * ((j + 1 : Nat) : Int)) (by omega))
              have HTK := Lib.hid (ntake18 HN.out y.n)
              unfold TakP18 at HTK
              rw [htl0] at HTK
              have HS2 := Lib.hid (show (((tak18 x y.n).l.length : Int) + (ta) + (tak18 x y.n).lost = pu) from by have := HS.out; rw [htl1]; exact this)
              clear htl0 htl1
              go_wp2_with fail
              refine HTK.out.mono ?_
              rintro e w2 ⟨kk, rfl, -, o2, hn2, hm2⟩
              have ha := (Chg.refl (fun _ => False) w2).alloc (.cells #[.int .i64 kk.ki, .int .i64 kk.ch, .slice kk.A kk.n kk.c] 40)
              have HX2 := Lib.hid ((chg_mvd18 HX.out HN.out.lt.1.1 (fun k hk => (HN.out.lt.2 k hk).1) hm2).trans ha (fun _ _ e => e))
              have HN2 := Lib.hid (hn2.new ha)
              clear hn2 hm2 ha HTK HN HX HS HG
              go_upto_region 18 with fail
              generalize w2.alloc (.cells #[.int .i64 kk.ki, .int .i64 kk.ch, .slice kk.A kk.n kk.c] 40) = w3 at *
              have HLE := Lib.hid (nlen18 HN2.out)
              have HLO := Lib.hid (nlost18 HN2.out)
              have hb1 := HG2.out.len
              have hb2 := HG2.out.lost
              have hb3 := HS2.out
              have HQ2 := HN2
              have HY2 := HG2
              have HZ2 := HS2
              generalize (tak18 x y.n).lost = lo at HLO hb2 hb3 ⊢
              generalize (tak18 x y.n).l.length = ln at HLE hb1 hb3 ⊢
              have hnn : ¬ ((ln : Int) < 0) := by omega
              have hsz : ¬ (room % 4097 < (ln : Int)) := by omega
              have hsm : ((ln : Int) + (ta) + lo != (pu)) = false := by simp; omega
              go_wp2_with fail
              refine HLE.out.mono ?_
              rintro e _ ⟨rfl, rfl⟩
              go_wp2_with fail
              refine HLE.out.mono ?_
              rintro e _ ⟨rfl, rfl⟩
              go_wp2_with fail
              refine HLE.out.mono ?_
              rintro e _ ⟨rfl, rfl⟩
              go_wp2_with fail
              refine HLO.out.mono ?_
              rintro e _ ⟨rfl, rfl⟩
              go_wp2_with fail
              go_roundg (m - (j + 1))
              case measure => omega
              case rel => exact ⟨j + 1, pu, ta, o2, tak18 x y.n, rfl, by omega, by go_num, by go_num, by go_num, HX2, HQ2, HY2, HZ2, by omega, by omega⟩
          · rcases dbl18_len x y.n with ⟨hd0, hd1, hd2⟩ | ⟨hd0, hd1⟩
            · have HG2 := Lib.hid ((HG.out.dbl y.n).more (k' := 100 * ((j + 1 : Nat) : Int)) (by omega))
              have HTK := Lib.hid (ndouble18 HN.out (by rw [HG.out.room]; omega) y.n)
              unfold DblP18 at HTK
              rw [hd0] at HTK
              have HS2 := Lib.hid (show (((dblS x y.n).l.length : Int) + ta + (dblS x y.n).lost = pu + 1) from by have := HS.out; omega)
              clear hd0 hd1 hd2

              go_wp2_with fail
              refine HTK.out.mono ?_
              rintro e w2 ⟨rfl, o2, hn2, hm2⟩
              have HX2 := Lib.hid (chg_mvd18 HX.out HN.out.lt.1.1 (fun k hk => (HN.out.lt.2 k hk).1) hm2)
              have HN2 := Lib.hid hn2
              clear hn2 hm2 HTK HN HX HS HG
              have HLE := Lib.hid (nlen18 HN2.out)
              have HLO := Lib.hid (nlost18 HN2.out)
              have hb1 := HG2.out.len
              have hb2 := HG2.out.lost
              have hb3 := HS2.out
              have HQ2 := HN2
              have HY2 := HG2
              have HZ2 := HS2
              generalize (dblS x y.n).lost = lo at HLO hb2 hb3 ⊢
              generalize (dblS x y.n).l.length = ln at HLE hb1 hb3 ⊢
              have hnn : ¬ ((ln : Int) < 0) := by omega
              have hsz : ¬ (room % 4097 < (ln : Int)) := by omega
              have hsm : ((ln : Int) + (ta) + lo != (pu + 1)) = false := by simp; omega
              go_wp2_with fail
              refine HLE.out.mono ?_
              rintro e _ ⟨rfl, rfl⟩
              go_wp2_with fail
              refine HLE.out.mono ?_
              rintro e _ ⟨rfl, rfl⟩
              go_wp2_with fail
              refine HLE.out.mono ?_
              rintro e _ ⟨rfl, rfl⟩
              go_wp2_with fail
              refine HLO.out.mono ?_
              rintro e _ ⟨rfl, rfl⟩
              go_wp2_with fail
              go_roundg (m - (j + 1))
              case measure => omega
              case rel => exact ⟨j + 1, pu + 1, ta, o2, dblS x y.n, rfl, by omega, by go_num, by go_num, by go_num, HX2, HQ2, HY2, HZ2, by omega, by omega⟩
            · have HG2 := Lib.hid ((HG.out.dbl y.n).more (k' := 100 * ((j + 1 : Nat) : Int)) (by omega))
              have HTK := Lib.hid (ndouble18 HN.out (by rw [HG.out.room]; omega) y.n)
              unfold DblP18 at HTK
              have hdn : (dblE x y.n == 0) = false := by simpa using hd0
              have HS2 := Lib.hid (show (((dblS x y.n).l.length : Int) + ta + (dblS x y.n).lost = pu) from by have := HS.out; rw [hd1]; exact this)
              clear hd0 hd1
              generalize dblE x y.n = de at *
              go_wp2_with fail
              refine HTK.out.mono ?_
              rintro e w2 ⟨rfl, o2, hn2, hm2⟩
              have HX2 := Lib.hid (chg_mvd18 HX.out HN.out.lt.1.1 (fun k hk => (HN.out.lt.2 k hk).1) hm2)
              have HN2 := Lib.hid hn2
              clear hn2 hm2 HTK HN HX HS HG
              have HLE := Lib.hid (nlen18 HN2.out)
              have HLO := Lib.hid (nlost18 HN2.out)
              have hb1 := HG2.out.len
              have hb2 := HG2.out.lost
              have hb3 := HS2.out
              have HQ2 := HN2
              have HY2 := HG2
              have HZ2 := HS2
              generalize (dblS x y.n).lost = lo at HLO hb2 hb3 ⊢
              generalize (dblS x y.n).l.length = ln at HLE hb1 hb3 ⊢
              have hnn : ¬ ((ln : Int) < 0) := by omega
              have hsz : ¬ (room % 4097 < (ln : Int)) := by omega
              have hsm : ((ln : Int) + (ta) + lo != (pu)) = false := by simp; omega
              go_wp2_with fail
              refine HLE.out.mono ?_
              rintro e _ ⟨rfl, rfl⟩
              go_wp2_with fail
              refine HLE.out.mono ?_
              rintro e _ ⟨rfl, rfl⟩
              go_wp2_with fail
              refine HLE.out.mono ?_
              rintro e _ ⟨rfl, rfl⟩
              go_wp2_with fail
              refine HLO.out.mono ?_
              rintro e _ ⟨rfl, rfl⟩
              go_wp2_with fail
              go_roundg (m - (j + 1))
              case measure => omega
              case rel => exact ⟨j + 1, pu, ta, o2, dblS x y.n, rfl, by omega, by go_num, by go_num, by go_num, HX2, HQ2, HY2, HZ2, by omega, by omega⟩
          · have HG2 := Lib.hid ((HG.out.put (y.l.map AI18.it)).more (k' := 100 * ((j + 1 : Nat) : Int)) (by rw [List.length_map]; have := hir.1; omega))
            have HTK := Lib.hid (nput18 HN.out (by rw [HG.out.room]; omega) y.L y.m y.c y.l _ (hir.chg HX.out (fun _ _ => id)) (fun k hk e => by
              rcases e with e | e
              · have := HN.out.lt.1; omega
              · have := (HN.out.lt.2 k e).1; omega) (by omega) (by have := HG.out.lost; omega))
            unfold PutP18 at HTK
            have HS2 := Lib.hid (show (((netP18 x (y.l.map AI18.it)).l.length : Int) + ta + (netP18 x (y.l.map AI18.it)).lost = pu + (y.m : Int)) from by
              have h1 := HS.out
              have h2 := puts18_len x (y.l.map AI18.it)
              have h3 := came18_le x (y.l.map AI18.it)
              have h4 := hir.1
              unfold netP18
              rw [List.length_map] at h3 ⊢
              simp only
              omega)
            have HYM := Lib.hid hir.1
            clear hir
            go_wp2_with fail
            refine HTK.out.mono ?_
            rintro e w2 ⟨rfl, o2, hn2, hm2⟩
            have HX2 := Lib.hid (chg_mvd18 HX.out HN.out.lt.1.1 (fun k hk => (HN.out.lt.2 k hk).1) hm2)
            have HN2 := Lib.hid hn2
            obtain ⟨z0, z1, z2, -⟩ := (HL.out.chg HX2.out (S' := fun _ => False) (fun _ _ => id)).at HXY.out
            clear hn2 hm2 HTK HN HX HS HG
            have HLE := Lib.hid (nlen18 HN2.out)
            have HLO := Lib.hid (nlost18 HN2.out)
            have hb1 := HG2.out.len
            have hb2 := HG2.out.lost
            have hb3 := HS2.out
            have HQ2 := HN2
            have HY2 := HG2
            have HZ2 := HS2
            generalize (netP18 x (y.l.map AI18.it)).lost = lo at HLO hb2 hb3 ⊢
            generalize (netP18 x (y.l.map AI18.it)).l.length = ln at HLE hb1 hb3 ⊢
            have hnn : ¬ ((ln : Int) < 0) := by omega
            have hsz : ¬ (room % 4097 < (ln : Int)) := by omega
            have hsm : ((ln : Int) + (ta) + lo != (pu + (y.m : Int))) = false := by simp; omega
            go_wp2_with fail
            refine HLE.out.mono ?_
            rintro e _ ⟨rfl, rfl⟩
            go_wp2_with fail
            refine HLE.out.mono ?_
            rintro e _ ⟨rfl, rfl⟩
            go_wp2_with fail
            refine HLE.out.mono ?_
            rintro e _ ⟨rfl, rfl⟩
            go_wp2_with fail
            refine HLO.out.mono ?_
            rintro e _ ⟨rfl, rfl⟩
            go_wp2_with fail
            go_roundg (m - (j + 1))
            case measure => omega
            case rel => exact ⟨j + 1, pu + (y.m : Int), ta, o2, netP18 x (y.l.map AI18.it), rfl, by omega, by go_num, by go_num, by go_num, HX2, HQ2, HY2, HZ2, by omega, by omega⟩
          · have HG2 := Lib.hid ((HG.out.put (y.l.map AI18.it)).more (k' := 100 * ((j + 1 : Nat) : Int)) (by rw [List.length_map]; have := hir.1; omega))
            have HTK := Lib.hid (nput18 HN.out (by rw [HG.out.room]; omega) y.L y.m y.c y.l _ (hir.chg HX.out (fun _ _ => id)) (fun k hk e => by
              rcases e with e | e
              · have := HN.out.lt.1; omega
              · have := (HN.out.lt.2 k e).1; omega) (by omega) (by have := HG.out.lost; omega))
            unfold PutP18 at HTK
            have HS2 := Lib.hid (show (((netP18 x (y.l.map AI18.it)).l.length : Int) + ta + (netP18 x (y.l.map AI18.it)).lost = pu + (y.m : Int)) from by
              have h1 := HS.out
              have h2 := puts18_len x (y.l.map AI18.it)
              have h3 := came18_le x (y.l.map AI18.it)
              have h4 := hir.1
              unfold netP18
              rw [List.length_map] at h3 ⊢
              simp only
              omega)
            have HYM := Lib.hid hir.1
            clear hir
            go_wp2_with fail
            refine HTK.out.mono ?_
            rintro e w2 ⟨rfl, o2, hn2, hm2⟩
            have HX2 := Lib.hid (chg_mvd18 HX.out HN.out.lt.1.1 (fun k hk => (HN.out.lt.2 k hk).1) hm2)
            have HN2 := Lib.hid hn2
            obtain ⟨z0, z1, z2, -⟩ := (HL.out.chg HX2.out (S' := fun _ => False) (fun _ _ => id)).at HXY.out
            clear hn2 hm2 HTK HN HX HS HG
            have HLE := Lib.hid (nlen18 HN2.out)
            have HLO := Lib.hid (nlost18 HN2.out)
            have hb1 := HG2.out.len
            have hb2 := HG2.out.lost
            have hb3 := HS2.out
            have HQ2 := HN2
            have HY2 := HG2
            have HZ2 := HS2
            generalize (netP18 x (y.l.map AI18.it)).lost = lo at HLO hb2 hb3 ⊢
            generalize (netP18 x (y.l.map AI18.it)).l.length = ln at HLE hb1 hb3 ⊢
            have hnn : ¬ ((ln : Int) < 0) := by omega
            have hsz : ¬ (room % 4097 < (ln : Int)) := by omega
            have hsm : ((ln : Int) + (ta) + lo != (pu + (y.m : Int))) = false := by simp; omega
            go_wp2_with fail
            refine HLE.out.mono ?_
            rintro e _ ⟨rfl, rfl⟩
            go_wp2_with fail
            refine HLE.out.mono ?_
            rintro e _ ⟨rfl, rfl⟩
            go_wp2_with fail
            refine HLE.out.mono ?_
            rintro e _ ⟨rfl, rfl⟩
            go_wp2_with fail
            refine HLO.out.mono ?_
            rintro e _ ⟨rfl, rfl⟩
            go_wp2_with fail
            go_roundg (m - (j + 1))
            case measure => omega
            case rel => exact ⟨j + 1, pu + (y.m : Int), ta, o2, netP18 x (y.l.map AI18.it), rfl, by omega, by go_num, by go_num, by go_num, HX2, HQ2, HY2, HZ2, by omega, by omega⟩
          · have HG2 := Lib.hid ((HG.out.put (y.l.map AI18.it)).more (k' := 100 * ((j + 1 : Nat) : Int)) (by rw [List.length_map]; have := hir.1; omega))
            have HTK := Lib.hid (nput18 HN.out (by rw [HG.out.room]; omega) y.L y.m y.c y.l _ (hir.chg HX.out (fun _ _ => id)) (fun k hk e => by
              rcases e with e | e
              · have := HN.out.lt.1; omega
              · have := (HN.out.lt.2 k e).1; omega) (by omega) (by have := HG.out.lost; omega))
            unfold PutP18 at HTK
            have HS2 := Lib.hid (show (((netP18 x (y.l.map AI18.it)).l.length : Int) + ta + (netP18 x (y.l.map AI18.it)).lost = pu + (y.m : Int)) from by
              have h1 := HS.out
              have h2 := puts18_len x (y.l.map AI18.it)
              have h3 := came18_le x (y.l.map AI18.it)
              have h4 := hir.1
              unfold netP18
              rw [List.length_map] at h3 ⊢
              simp only
              omega)
            have HYM := Lib.hid hir.1
            clear hir
            go_wp2_with fail
            refine HTK.out.mono ?_
            rintro e w2 ⟨rfl, o2, hn2, hm2⟩
            have HX2 := Lib.hid (chg_mvd18 HX.out HN.out.lt.1.1 (fun k hk => (HN.out.lt.2 k hk).1) hm2)
            have HN2 := Lib.hid hn2
            obtain ⟨z0, z1, z2, -⟩ := (HL.out.chg HX2.out (S' := fun _ => False) (fun _ _ => id)).at HXY.out
            clear hn2 hm2 HTK HN HX HS HG
            have HLE := Lib.hid (nlen18 HN2.out)
            have HLO := Lib.hid (nlost18 HN2.out)
            have hb1 := HG2.out.len
            have hb2 := HG2.out.lost
            have hb3 := HS2.out
            have HQ2 := HN2
            have HY2 := HG2
            have HZ2 := HS2
            generalize (netP18 x (y.l.map AI18.it)).lost = lo at HLO hb2 hb3 ⊢
            generalize (netP18 x (y.l.map AI18.it)).l.length = ln at HLE hb1 hb3 ⊢
            have hnn : ¬ ((ln : Int) < 0) := by omega
            have hsz : ¬ (room % 4097 < (ln : Int)) := by omega
            have hsm : ((ln : Int) + (ta) + lo != (pu + (y.m : Int))) = false := by simp; omega
            go_wp2_with fail
            refine HLE.out.mono ?_
            rintro e _ ⟨rfl, rfl⟩
            go_wp2_with fail
            refine HLE.out.mono ?_
            rintro e _ ⟨rfl, rfl⟩
            go_wp2_with fail
            refine HLE.out.mono ?_
            rintro e _ ⟨rfl, rfl⟩
            go_wp2_with fail
            refine HLO.out.mono ?_
            rintro e _ ⟨rfl, rfl⟩
            go_wp2_with fail
            go_roundg (m - (j + 1))
            case measure => omega
            case rel => exact ⟨j + 1, pu + (y.m : Int), ta, o2, netP18 x (y.l.map AI18.it), rfl, by omega, by go_num, by go_num, by go_num, HX2, HQ2, HY2, HZ2, by omega, by omega⟩
          · have HG2 := Lib.hid ((HG.out.put (y.l.map AI18.it)).more (k' := 100 * ((j + 1 : Nat) : Int)) (by rw [List.length_map]; have := hir.1; omega))
            have HTK := Lib.hid (nput18 HN.out (by rw [HG.out.room]; omega) y.L y.m y.c y.l _ (hir.chg HX.out (fun _ _ => id)) (fun k hk e => by
              rcases e with e | e
              · have := HN.out.lt.1; omega
              · have := (HN.out.lt.2 k e).1; omega) (by omega) (by have := HG.out.lost; omega))
            unfold PutP18 at HTK
            have HS2 := Lib.hid (show (((netP18 x (y.l.map AI18.it)).l.length : Int) + ta + (netP18 x (y.l.map AI18.it)).lost = pu + (y.m : Int)) from by
              have h1 := HS.out
              have h2 := puts18_len x (y.l.map AI18.it)
              have h3 := came18_le x (y.l.map AI18.it)
              have h4 := hir.1
              unfold netP18
              rw [List.length_map] at h3 ⊢
              simp only
              omega)
            have HYM := Lib.hid hir.1
            clear hir
            go_wp2_with fail
            refine HTK.out.mono ?_
            rintro e w2 ⟨rfl, o2, hn2, hm2⟩
            have HX2 := Lib.hid (chg_mvd18 HX.out HN.out.lt.1.1 (fun k hk => (HN.out.lt.2 k hk).1) hm2)
            have HN2 := Lib.hid hn2
            obtain ⟨z0, z1, z2, -⟩ := (HL.out.chg HX2.out (S' := fun _ => False) (fun _ _ => id)).at HXY.out
            clear hn2 hm2 HTK HN HX HS HG
            have HLE := Lib.hid (nlen18 HN2.out)
            have HLO := Lib.hid (nlost18 HN2.out)
            have hb1 := HG2.out.len
            have hb2 := HG2.out.lost
            have hb3 := HS2.out
            have HQ2 := HN2
            have HY2 := HG2
            have HZ2 := HS2
            generalize (netP18 x (y.l.map AI18.it)).lost = lo at HLO hb2 hb3 ⊢
            generalize (netP18 x (y.l.map AI18.it)).l.length = ln at HLE hb1 hb3 ⊢
            have hnn : ¬ ((ln : Int) < 0) := by omega
            have hsz : ¬ (room % 4097 < (ln : Int)) := by omega
            have hsm : ((ln : Int) + (ta) + lo != (pu + (y.m : Int))) = false := by simp; omega
            go_wp2_with fail
            refine HLE.out.mono ?_
            rintro e _ ⟨rfl, rfl⟩
            go_wp2_with fail
            refine HLE.out.mono ?_
            rintro e _ ⟨rfl, rfl⟩
            go_wp2_with fail
            refine HLE.out.mono ?_
            rintro e _ ⟨rfl, rfl⟩
            go_wp2_with fail
            refine HLO.out.mono ?_
            rintro e _ ⟨rfl, rfl⟩
            go_wp2_with fail
            go_roundg (m - (j + 1))
            case measure => omega
            case rel => exact ⟨j + 1, pu + (y.m : Int), ta, o2, netP18 x (y.l.map AI18.it), rfl, by omega, by go_num, by go_num, by go_num, HX2, HQ2, HY2, HZ2, by omega, by omega⟩
          · have HG2 := Lib.hid (HG.out.more (k' := 100 * ((j + 1 : Nat) : Int)) (by omega))
            have HX2 := HX
            have HN2 := HN
            have HS2 := HS
            have HLE := Lib.hid (nlen18 HN2.out)
            have HLO := Lib.hid (nlost18 HN2.out)
            have hb1 := HG2.out.len
            have hb2 := HG2.out.lost
            have hb3 := HS2.out
            have HQ2 := HN2
            have HY2 := HG2
            have HZ2 := HS2
            generalize (x).lost = lo at HLO hb2 hb3 ⊢
            generalize (x).l.length = ln at HLE hb1 hb3 ⊢
            have hnn : ¬ ((ln : Int) < 0) := by omega
            have hsz : ¬ (room % 4097 < (ln : Int)) := by omega
            have hsm : ((ln : Int) + (ta) + lo != (pu)) = false := by simp; omega
            go_wp2_with fail
            refine HLE.out.mono ?_
            rintro e _ ⟨rfl, rfl⟩
            go_wp2_with fail
            refine HLE.out.mono ?_
            rintro e _ ⟨rfl, rfl⟩
            go_wp2_with fail
            refine HLE.out.mono ?_
            rintro e _ ⟨rfl, rfl⟩
            go_wp2_with fail
            refine HLO.out.mono ?_
            rintro e _ ⟨rfl, rfl⟩
            go_wp2_with fail
            go_roundg (m - (j + 1))
            case measure => omega
            case rel => exact ⟨j + 1, pu, ta, o, x, rfl, by omega, by go_num, by go_num, by go_num, HX2, HQ2, HY2, HZ2, by omega, by omega⟩
          · have HG2 := Lib.hid (HG.out.more (k' := 100 * ((j + 1 : Nat) : Int)) (by omega))
            have HX2 := HX
            have HN2 := HN
            have HS2 := HS
            have HLE := Lib.hid (nlen18 HN2.out)
            have HLO := Lib.hid (nlost18 HN2.out)
            have hb1 := HG2.out.len
            have hb2 := HG2.out.lost
            have hb3 := HS2.out
            have HQ2 := HN2
            have HY2 := HG2
            have HZ2 := HS2
            generalize (x).lost = lo at HLO hb2 hb3 ⊢
            generalize (x).l.length = ln at HLE hb1 hb3 ⊢
            have hnn : ¬ ((ln : Int) < 0) := by omega
            have hsz : ¬ (room % 4097 < (ln : Int)) := by omega
            have hsm : ((ln : Int) + (ta) + lo != (pu)) = false := by simp; omega
            go_wp2_with fail
            refine HLE.out.mono ?_
            rintro e _ ⟨rfl, rfl⟩
            go_wp2_with fail
            refine HLE.out.mono ?_
            rintro e _ ⟨rfl, rfl⟩
            go_wp2_with fail
            refine HLE.out.mono ?_
            rintro e _ ⟨rfl, rfl⟩
            go_wp2_with fail
            refine HLO.out.mono ?_
            rintro e _ ⟨rfl, rfl⟩
            go_wp2_with fail
            go_roundg (m - (j + 1))
            case measure => omega
            case rel => exact ⟨j + 1, pu, ta, o, x, rfl, by omega, by go_num, by go_num, by go_num, HX2, HQ2, HY2, HZ2, by omega, by omega⟩
        · have hjm : j = m := by omega
          subst hjm
          have HLE := Lib.hid (nlen18 HN.out)
          have HPU := Lib.hid (nput18 HN.out (by rw [HG.out.room]; omega) L2 m2 lc2 l2 _ (HL2.out.chg HX.out (fun _ _ => id)) (fun k hk e => by
            rcases e with e | e
            · have := HN.out.lt.1; omega
            · have := (HN.out.lt.2 k e).1; omega) (by omega) (by have := HG.out.lost; omega))
          unfold PutP18 at HPU
          have hb1 := HG.out.len
          have HXL := Lib.hid (puts18_len x (l2.map AI18.it))
          have HCL := Lib.hid (came18_le x (l2.map AI18.it))
          have HRX := Lib.hid HG.out.room
          generalize hln : x.l.length = ln at HLE hb1 HXL ⊢
          have HLN := Lib.hid hln
          clear hln
          go_wp2_with fail
          refine HLE.out.mono ?_
          rintro e _ ⟨rfl, rfl⟩
          go_wp2_with fail
          refine HPU.out.mono ?_
          rintro e w2 ⟨rfl, o2, hn2, hm2⟩
          have HX2 := Lib.hid (chg_mvd18 HX.out HN.out.lt.1.1 (fun k hk => (HN.out.lt.2 k hk).1) hm2)
          have HN2 := Lib.hid hn2
          have HLE2 := Lib.hid (nlen18 hn2)
          have HEL := Lib.hid (show (netP18 x (l2.map AI18.it)).l.length = ln + came18 x (l2.map AI18.it) from HXL.out)
          rw [HEL.out] at HLE2
          have hcm : came18 x (l2.map AI18.it) ≤ 100 := by have h1 := HCL.out; have h2 := HL2.out.1; rw [List.length_map] at h1; omega
          generalize came18 x (l2.map AI18.it) = ca at *
          have hnn : ¬ ((ca : Int) < 0) := by omega
          have hsm : (((ln + ca : Nat) : Int) != (ln : Int) + (ca : Int)) = false := by simp
          clear hn2 hm2 HPU HLE HN HX HS HG HL HS1 HX1 HN1 HG1
          go_wp2_with fail
          refine HLE2.out.mono ?_
          rintro e _ ⟨rfl, rfl⟩
          go_wp2_with fail
          clear hnn hsm HLE2
          go_loopg [19, 20, 21, 22] ln (fun g s19 s20 s21 s22 wr => ∃ (j d : Nat) (E : Option Addr), g = ln - j ∧ j ≤ ln ∧ s20 = .int .i64 (j : Int) ∧ s19 = .slice E j d ∧ Hid (wr.ownsRow w2.heap.size 49 3 (.slice E j d) j (itF (x.l.take j))) ∧ Hid (Chg (fun _ => False) w2 wr))
          case atStart => exact ⟨0, 0, none, rfl, Nat.zero_le _, rfl, rfl, Lib.hid (by simp [itF]; exact World.ownsRow_nil _ _ _ _), Lib.hid (Chg.refl _ _)⟩
          case round =>
            obtain ⟨j2, d, E, rfl, hj2, rfl, rfl, HOE, HXE⟩ := hrel
            by_cases hlt2 : j2 < ln
            · obtain ⟨u, hu⟩ : ∃ u, x.l[j2]? = some u := ⟨_, List.getElem?_eq_getElem (by have := HLN.out; omega)⟩
              have hu2 : (netP18 x (l2.map AI18.it)).l[j2]? = some u := puts18_pre x _ hu
              have HAT := Lib.hid (nat18 (HN2.out.new HXE.out) (j2 : Int))
              unfold AtP18 at HAT
              rw [at18_ok hu2, show lackE (netP18 x (l2.map AI18.it)) (j2 : Int) = 0 from if_pos ⟨by omega, Int.ofNat_lt.2 (List.getElem?_eq_some_iff.1 hu2).1⟩] at HAT
              have HTE := Lib.hid (show itF (x.l.take (j2 + 1)) = itF (x.l.take j2) ++ u.cs from by rw [List.take_add_one, hu, itF_app]; simp [itF])
              generalize itF (x.l.take j2) = ys at *
              clear hu hu2
              go_wp2_with fail
              refine HAT.out.mono ?_
              rintro e w3 ⟨⟨ki, ch, KA, kn, kc⟩, rfl, ⟨h1, h2, h3, h4⟩, hc⟩
              simp only at h1 h2 h3 h4
              subst h1 h2
              have ha := hc.alloc (.cells #[.int .i64 u.ki, .int .i64 u.ch, .slice KA kn kc] 40)
              have HXF := Lib.hid (HXE.out.trans ha (fun _ _ e => e))
              have HOF := Lib.hid (own_chg HOE.out ha (fun _ _ => id))
              have HBX : Hid (Blk (w3.alloc (.cells #[.int .i64 u.ki, .int .i64 u.ch, .slice KA kn kc] 40)) w3.heap.size 40 #[.int .i64 u.ki, .int .i64 u.ch, .slice KA kn kc]) := Lib.hid (blk_new rfl)
              have HOFF := Lib.hid (of18 u.ki u.ch KA kn kc u.bs _ _ ((ItM.chg (c := ⟨u.ki, u.ch, KA, kn, kc⟩) ⟨rfl, rfl, h3, h4⟩ ((Chg.refl (fun _ => False) w3).alloc (.cells #[.int .i64 u.ki, .int .i64 u.ch, .slice KA kn kc] 40)) (fun _ _ _ _ => id) : ItM _ _ _ u).rds))
              clear h3 h4 hc ha HAT HOE
              go_upto_region 42 with fail
              generalize w3.alloc (.cells #[.int .i64 u.ki, .int .i64 u.ch, .slice KA kn kc] 40) = w4 at *
              generalize w3.heap.size = Q3 at *
              obtain ⟨y0, y1, y2⟩ := it_cells HBX.out
              go_wp2_with fail
              refine HOFF.out.mono ?_
              rintro e w5 ⟨rfl, hc5⟩
              have HXG := Lib.hid (HXF.out.trans hc5 (fun _ _ e => e))
              have HOG := Lib.hid (own_chg HOF.out hc5 (fun _ _ => id))
              clear hc5 y0 y1 y2 HOFF HXF HOF HBX
              have hown := HOG.out.alloc (.cells #[.int .i64 u.ki, .int .i64 u.ch, .string ⟨u.bs.toArray⟩] 49)
              have hnew := new_cells18 w5 49 [.int .i64 u.ki, .int .i64 u.ch, .string ⟨u.bs.toArray⟩]
              have hbase : w2.heap.size ≤ (w5.alloc (.cells #[.int .i64 u.ki, .int .i64 u.ch, .string ⟨u.bs.toArray⟩] 49)).heap.size := Nat.le_trans HXG.out.size (by simp)
              go_wp2_with (at_builtin; refine wpList_app18 _ rfl (.tmp 164) (.tmp 167) 30 rfl w2.heap.size 49 i0 _ 3 32 Try.underlying30 hi0 hz0 hz1 hz2 rfl (by decide) (.slice E j2 d) j2 ys rfl hown (some ⟨w5.heap.size, 0, none⟩) 1 1 [.int .i64 u.ki, .int .i64 u.ch, .string ⟨u.bs.toArray⟩] rfl rfl (fun e => by cases e) (fun ad e => by injection e with e; subst e; exact hnew) (by simp [Value.oneCell']) (by unfold maxLen; omega) (by omega) hbase ?_; intro v6 w6 hown6 hg6 hat6; obtain ⟨A6, c6, rfl, _, _⟩ := own_form hown6; have HO6 := Lib.hid hown6; have HX6 := Lib.hid (grown_fresh (HXG.out.alloc _) hg6 hown (Nat.le_refl _)); clear hown hnew hbase hown6 hg6 hat6)
              go_roundg (ln - (j2 + 1))
              case measure => omega
              case rel => exact ⟨j2 + 1, c6, A6, rfl, by omega, by go_num, rfl, Lib.hid (by rw [HTE.out]; exact HO6.out), HX6⟩
            · have hjl : j2 = ln := by omega
              subst hjl
              rw [List.take_of_length_le (by have := HLN.out; omega)] at HOE
              have HXA := Lib.hid (HX2.out.trans HXE.out (fun _ _ e => e))
              have hlo := HOE.out
              go_wp2_with fail
              go_loopg [19, 23, 24] m2 (fun g s19 s23 s24 wr2 => ∃ (j3 k d : Nat) (E : Option Addr), g = m2 - j3 ∧ j3 ≤ m2 ∧ s23 = .int .i64 (j3 : Int) ∧ s19 = .slice E k d ∧ k ≤ j2 + j3 ∧ Hid (k = (puts18 x ((l2.take j3).map AI18.it)).l.length) ∧ Hid (wr2.ownsRow w2.heap.size 49 3 (.slice E k d) k (itF (puts18 x ((l2.take j3).map AI18.it)).l)) ∧ Hid (Chg (fun _ => False) w2 wr2))
              case atStart => exact ⟨0, j2, d, E, rfl, Nat.zero_le _, rfl, rfl, by omega, Lib.hid (by simpa [puts18] using HLN.out.symm), Lib.hid (by simpa [puts18] using HOE.out), HXE⟩
              case round =>
                obtain ⟨j3, k, d3, E3, rfl, hj3, rfl, rfl, hkb, HK3, HO3, HX3⟩ := hrel
                by_cases hlt3 : j3 < m2
                · have HXW := Lib.hid (HX2.out.trans HX3.out (fun _ _ e => e))
                  have hh := HL2.out.chg HXW.out (fun _ _ => id)
                  obtain ⟨ad2, had, -⟩ := hh.2 (by omega)
                  subst had
                  have hjl3 : j3 < l2.length := by have := HL2.out.1; omega
                  have hv : l2[j3]? = some l2[j3] := List.getElem?_eq_getElem hjl3
                  generalize l2[j3] = v at *
                  obtain ⟨z0, z1, z2, hvn, hvb, hvz, hvr⟩ := hh.at hv
                  have HT3 := Lib.hid (show (l2.take (j3 + 1)).map AI18.it = (l2.take j3).map AI18.it ++ [v.it] by rw [List.take_add_one, hv]; simp)
                  have HRM := Lib.hid ((puts18_room x ((l2.take j3).map AI18.it)).1.trans HRX.out)
                  have HOF := Lib.hid (fun W' (hw : Chg (fun _ => False) wr W') => of18 v.ki v.ch v.A v.n v.c v.bs _ W' (hvr.chg hw (fun _ _ => id)))
                  have HRI := Lib.hid (fun W' => rright18 v.it W')
                  have HI0 : Hid (inI18 (puts18 x ((l2.take j3).map AI18.it)) v.it = (okI18 v.it && decide ((k : Int) < room % 4097))) := Lib.hid (by unfold inI18; rw [← HK3.out, HRM.out])
                  have HV3 := Lib.hid hv
                  clear hh hv hjl3 hvn hvr hvz
                  have HX4 := Lib.hid (Chg.refl (fun _ => False) wr)
                  cases hok : okI18 v.it with
                  | false =>
                    have HIN := Lib.hid (show inI18 (puts18 x ((l2.take j3).map AI18.it)) v.it = false by rw [HI0.out, hok]; rfl)
                    rw [hok] at HRI
                    clear hok
                    go_wp2_with fail
                    refine (HOF.out _ (Chg.refl _ _)).mono ?_
                    rintro e w4 ⟨rfl, hc4⟩
                    go_wp2_with fail
                    refine (HRI.out _).mono ?_
                    rintro e w5 ⟨rfl, hc5⟩
                    have HX5 := Lib.hid (HX3.out.trans (hc4.trans hc5 (fun _ _ e => e)) (fun _ _ e => e))
                    have HO5 := Lib.hid (own_chg HO3.out (hc4.trans hc5 (fun _ _ e => e)) (fun _ _ => id))
                    clear hc4 hc5 z0 z1 z2
                    go_wp2_with fail
                    go_roundg (m2 - (j3 + 1))
                    case measure => omega
                    case rel =>
                      refine ⟨j3 + 1, k, d3, E3, rfl, by omega, by go_num, rfl, by omega, Lib.hid ?_, Lib.hid ?_, HX5⟩
                      · rw [HT3.out, puts18_snoc, put18, show inI18 (puts18 x ((l2.take j3).map AI18.it)) v.it = false from HIN.out]
                        exact HK3.out
                      · rw [HT3.out, puts18_snoc, put18, show inI18 (puts18 x ((l2.take j3).map AI18.it)) v.it = false from HIN.out]
                        exact HO5.out
                  | true =>
                    rw [hok] at HRI
                    by_cases hks : (k : Int) < room % 4097
                    case neg =>
                      have HIN := Lib.hid (show inI18 (puts18 x ((l2.take j3).map AI18.it)) v.it = false by rw [HI0.out, hok]; simp; omega)
                      clear hok
                      go_wp2_with fail
                      refine (HOF.out _ (Chg.refl _ _)).mono ?_
                      rintro e w4 ⟨rfl, hc4⟩
                      go_wp2_with fail
                      refine (HRI.out _).mono ?_
                      rintro e w5 ⟨rfl, hc5⟩
                      have HX5 := Lib.hid (HX3.out.trans (hc4.trans hc5 (fun _ _ e => e)) (fun _ _ e => e))
                      have HO5 := Lib.hid (own_chg HO3.out (hc4.trans hc5 (fun _ _ e => e)) (fun _ _ => id))
                      clear hc4 hc5 z0 z1 z2
                      go_wp2_with fail
                      go_roundg (m2 - (j3 + 1))
                      case measure => omega
                      case rel =>
                        refine ⟨j3 + 1, k, d3, E3, rfl, by omega, by go_num, rfl, by omega, Lib.hid ?_, Lib.hid ?_, HX5⟩
                        · rw [HT3.out, puts18_snoc, put18, show inI18 (puts18 x ((l2.take j3).map AI18.it)) v.it = false from HIN.out]
                          exact HK3.out
                        · rw [HT3.out, puts18_snoc, put18, show inI18 (puts18 x ((l2.take j3).map AI18.it)) v.it = false from HIN.out]
                          exact HO5.out
                    have HIN := Lib.hid (show inI18 (puts18 x ((l2.take j3).map AI18.it)) v.it = true by rw [HI0.out, hok]; simpa using hks)
                    clear hok
                    go_wp2_with fail
                    refine (HOF.out _ (Chg.refl _ _)).mono ?_
                    rintro e w4 ⟨rfl, hc4⟩
                    go_wp2_with fail
                    refine (HRI.out _).mono ?_
                    rintro e w5 ⟨rfl, hc5⟩
                    have HC5 := Lib.hid (hc4.trans hc5 (fun _ _ e => e))
                    obtain ⟨z0, z1, z2, -⟩ := (HL2.out.chg (HXW.out.trans HC5.out (fun _ _ e => e)) (fun _ _ => id)).at HV3.out
                    go_wp2_with fail
                    refine (HOF.out _ HC5.out).mono ?_
                    rintro e w6 ⟨rfl, hc6⟩
                    have HXG := Lib.hid (HX3.out.trans (HC5.out.trans hc6 (fun _ _ e => e)) (fun _ _ e => e))
                    have HOG := Lib.hid (own_chg HO3.out (HC5.out.trans hc6 (fun _ _ e => e)) (fun _ _ => id))
                    clear hc6 z0 z1 z2
                    generalize hys : itF (puts18 x ((l2.take j3).map AI18.it)).l = ys at HOG
                    have HYS := Lib.hid hys
                    clear hys
                    have hown := HOG.out.alloc (.cells #[.int .i64 v.ki, .int .i64 v.ch, .string ⟨v.bs.toArray⟩] 49)
                    have hnew := new_cells18 w6 49 [.int .i64 v.ki, .int .i64 v.ch, .string ⟨v.bs.toArray⟩]
                    have hbase : w2.heap.size ≤ (w6.alloc (.cells #[.int .i64 v.ki, .int .i64 v.ch, .string ⟨v.bs.toArray⟩] 49)).heap.size := Nat.le_trans HXG.out.size (by simp)
                    go_wp2_with (at_builtin; refine wpList_app18 _ rfl (.tmp 188) (.tmp 194) 30 rfl w2.heap.size 49 i0 _ 3 32 Try.underlying30 hi0 hz0 hz1 hz2 rfl (by decide) (.slice E3 k d3) k ys rfl hown (some ⟨w6.heap.size, 0, none⟩) 1 1 [.int .i64 v.ki, .int .i64 v.ch, .string ⟨v.bs.toArray⟩] rfl rfl (fun e => by cases e) (fun ad e => by injection e with e; subst e; exact hnew) (by simp [Value.oneCell']) (by unfold maxLen; omega) (by omega) hbase ?_; intro v6 w7 hown6 hg6 hat6; obtain ⟨A6, c6, rfl, _, _⟩ := own_form hown6; have HO6 := Lib.hid hown6; have HX6 := Lib.hid (grown_fresh (HXG.out.alloc _) hg6 hown (Nat.le_refl _)); clear hown hnew hbase hown6 hg6 hat6)
                    go_roundg (m2 - (j3 + 1))
                    case measure => omega
                    case rel =>
                      refine ⟨j3 + 1, k + 1, c6, A6, rfl, by omega, by go_num, rfl, by omega, Lib.hid ?_, Lib.hid ?_, HX6⟩
                      · rw [HT3.out, puts18_snoc, put18, show inI18 (puts18 x ((l2.take j3).map AI18.it)) v.it = true from HIN.out]
                        simp only [if_true, List.length_append, List.length_singleton]; rw [← HK3.out]
                      · rw [HT3.out, puts18_snoc, put18, show inI18 (puts18 x ((l2.take j3).map AI18.it)) v.it = true from HIN.out]
                        simp only [if_true]; rw [itF_app]; rw [HYS.out]; simpa [itF, IT18.cs, AI18.it] using HO6.out
                · have hjm3 : j3 = m2 := by omega
                  subst hjm3
                  rw [List.take_of_length_le (by have := HL2.out.1; omega)] at HK3 HO3
                  have HNL : Hid (NN wr W.heap.size p o2 ⟨(netP18 x (l2.map AI18.it)).room, (netP18 x (l2.map AI18.it)).lost, (netP18 x (l2.map AI18.it)).l.drop 0⟩) := Lib.hid (HN2.out.new HX3.out)
                  have HXS := Lib.hid (HX2.out.trans HX3.out (fun _ _ e => e))
                  have HOW : Hid (wr.ownsRow w2.heap.size 49 3 (.slice E3 k d3) k (itF (netP18 x (l2.map AI18.it)).l)) := Lib.hid HO3.out
                  have HKY : Hid (k = (netP18 x (l2.map AI18.it)).l.length) := Lib.hid HK3.out
                  generalize (netP18 x (l2.map AI18.it)).room = rr at *
                  generalize (netP18 x (l2.map AI18.it)).lost = ll at *
                  generalize (netP18 x (l2.map AI18.it)).l = yl at *
                  clear HO3 HK3 HX3 HOE HXE HXA hlo HN2 HXL HEL HCL HLN HRX
                  go_wp2_with fail
                  go_loopg [25, 26, 27] k (fun g s25 s26 s27 wr => ∃ (j4 : Nat) (o4 : Option Nat), g = k - j4 ∧ j4 ≤ k ∧ s25 = .int .i64 (j4 : Int) ∧ Hid (NN wr W.heap.size p o4 ⟨rr, ll, yl.drop j4⟩) ∧ Hid (wr.ownsRow w2.heap.size 49 3 (.slice E3 k d3) k (itF yl)) ∧ Hid (Chg (fun _ => False) W wr))
                  case atStart => exact ⟨0, o2, rfl, Nat.zero_le _, rfl, HNL, HOW, HXS⟩
                  case round =>
                    obtain ⟨j4, o4, rfl, hj4, rfl, HN4, HO4, HX4⟩ := hrel
                    by_cases hlt4 : j4 < k
                    · obtain ⟨u, hu⟩ : ∃ u, yl[j4]? = some u := ⟨_, List.getElem?_eq_getElem (by have := HKY.out; omega)⟩
                      have HTK := Lib.hid (ntake18 HN4.out 0)
                      unfold TakP18 at HTK
                      obtain ⟨q1, q2, q3⟩ := tak18_first (r := rr) (s := ll) hu
                      rw [q1, q2, q3] at HTK
                      have HU := Lib.hid hu
                      clear q1 q2 q3 hu
                      go_wp2_with fail
                      refine HTK.out.mono ?_
                      rintro e w5 ⟨kk, rfl, hit, o5, hn5, hm5⟩
                      have ha := (Chg.refl (fun _ => False) w5).alloc (.cells #[.int .i64 kk.ki, .int .i64 kk.ch, .slice kk.A kk.n kk.c] 40)
                      have HX5 := Lib.hid ((chg_mvd18 HX4.out HN4.out.lt.1.1 (fun k hk => (HN4.out.lt.2 k hk).1) hm5).trans ha (fun _ _ e => e))
                      have HO5 := Lib.hid (own_chg (own_chg HO4.out hm5.1 (fun k hk => by
                        obtain ⟨cs, hh⟩ := own_ty18 HO4.out hk
                        exact HN4.out.ne hh (by decide) (by decide))) ha (fun _ _ => id))
                      have HN5 := Lib.hid (hn5.new ha)
                      have HIT := Lib.hid (hit.chg ha (fun _ _ _ _ => id))
                      have HBX : Hid (Blk (w5.alloc (.cells #[.int .i64 kk.ki, .int .i64 kk.ch, .slice kk.A kk.n kk.c] 40)) w5.heap.size 40 #[.int .i64 kk.ki, .int .i64 kk.ch, .slice kk.A kk.n kk.c]) := Lib.hid (blk_new rfl)
                      clear hit hn5 hm5 ha HTK HN4 HO4 HX4
                      go_upto_region 53 with fail
                      generalize w5.alloc (.cells #[.int .i64 kk.ki, .int .i64 kk.ch, .slice kk.A kk.n kk.c] 40) = w6 at *
                      generalize w5.heap.size = Q7 at *
                      obtain ⟨gg, hE, -⟩ := itF_cells HO5.out HU.out
                      subst hE
                      have HKEEP : Hid (∀ w' : World, Chg (fun _ => False) w6 w' → (w'.cell? ⟨Q7, 0, none⟩ = some (.int .i64 u.ki) ∧ w'.cell? ⟨Q7, 1, none⟩ = some (.int .i64 u.ch) ∧ w'.cell? ⟨Q7, 2, none⟩ = some (.slice kk.A kk.n kk.c) ∧ w'.cell? ⟨gg, j4 * 3, none⟩ = some (.int .i64 u.ki) ∧ w'.cell? ⟨gg, j4 * 3 + 1, none⟩ = some (.int .i64 u.ch) ∧ w'.cell? ⟨gg, j4 * 3 + 2, none⟩ = some (.string ⟨u.bs.toArray⟩))) := Lib.hid (fun w' hw => by
                        obtain ⟨a0, a1, a2⟩ := it_cells (HBX.out.chg hw id)
                        rw [HIT.out.1] at a0
                        rw [HIT.out.2.1] at a1
                        obtain ⟨g2, he, b0, b1, b2⟩ := itF_cells (own_chg HO5.out hw (fun _ _ => id)) HU.out
                        injection he with he
                        injection he with he
                        subst he
                        exact ⟨a0, a1, a2, b0, b1, b2⟩)
                      have HXR := Lib.hid (Chg.refl (fun _ => False) w6).drew
                      have HOF := Lib.hid (of18 kk.ki kk.ch kk.A kk.n kk.c u.bs _ w6.drew (HIT.out.chg HXR.out (fun _ _ _ _ => id)).rds)
                      rw [HIT.out.1, HIT.out.2.1] at HOF
                      have hneq := fun W => neRi18 W u.ki u.ch ⟨u.bs.toArray⟩
                      have s0 := HKEEP.out _ HXR.out
                      refine wp_region_noPanic ?_
                      refine wp_region_held_drew (S := (fun w' => w'.cell? ⟨Q7, 0, none⟩ = some (.int .i64 u.ki) ∧ w'.cell? ⟨Q7, 1, none⟩ = some (.int .i64 u.ch) ∧ w'.cell? ⟨Q7, 2, none⟩ = some (.slice kk.A kk.n kk.c) ∧ w'.cell? ⟨gg, j4 * 3, none⟩ = some (.int .i64 u.ki) ∧ w'.cell? ⟨gg, j4 * 3 + 1, none⟩ = some (.int .i64 u.ch) ∧ w'.cell? ⟨gg, j4 * 3 + 2, none⟩ = some (.string ⟨u.bs.toArray⟩))) (by kernel_rfl) s0 (fun hHeld => ?_)
                      refine wpAnyH_take (i := 0) (v := ?_) rfl (by kernel_rfl) (by kernel_rfl) (by kernel_rfl) (fun _ _ _ h => h) (Or.inl ⟨by rfl, ?_⟩) (by assumption) ?_
                      rotate_left
                      · intro w' hSw
                        try dsimp only at hSw
                        go_simp
                        first | done | (with_reducible rfl)
                      try simp only [List.getElem_toArray, List.getElem_cons_succ, List.getElem_cons_zero, Act.put, List.setIfInBounds_toArray, List.set_cons_zero, List.set_cons_succ]
                      refine wpAnyH_take (i := 1) (v := ?_) rfl (by kernel_rfl) (by kernel_rfl) (by kernel_rfl) (fun _ _ _ h => h) (Or.inl ⟨by rfl, ?_⟩) (by assumption) ?_
                      rotate_left
                      · intro w' hSw
                        try dsimp only at hSw
                        go_simp
                        first | done | (with_reducible rfl)
                      try simp only [List.getElem_toArray, List.getElem_cons_succ, List.getElem_cons_zero, Act.put, List.setIfInBounds_toArray, List.set_cons_zero, List.set_cons_succ]
                      refine wpAnyH_take (i := 2) (v := ?_) rfl (by kernel_rfl) (by kernel_rfl) (by kernel_rfl) (fun _ _ _ h => h) (Or.inl ⟨by rfl, ?_⟩) (by assumption) ?_
                      rotate_left
                      · intro w' hSw
                        try dsimp only at hSw
                        go_simp
                        first | done | (with_reducible rfl)
                      try simp only [List.getElem_toArray, List.getElem_cons_succ, List.getElem_cons_zero, Act.put, List.setIfInBounds_toArray, List.set_cons_zero, List.set_cons_succ]
                      refine wpAnyH_take (i := 3) (v := ?_) rfl (by kernel_rfl) (by kernel_rfl) (by kernel_rfl) (fun _ _ _ h => h) (Or.inl ⟨by rfl, ?_⟩) (by assumption) ?_
                      rotate_left
                      · intro w' hSw
                        try dsimp only at hSw
                        go_simp
                        first | done | (with_reducible rfl)
                      try simp only [List.getElem_toArray, List.getElem_cons_succ, List.getElem_cons_zero, Act.put, List.setIfInBounds_toArray, List.set_cons_zero, List.set_cons_succ]
                      refine wpAnyH_take (i := 5) (v := ?_) rfl (by kernel_rfl) (by kernel_rfl) (by kernel_rfl) (fun _ _ _ h => h) (Or.inl ⟨by rfl, ?_⟩) (by assumption) ?_
                      rotate_left
                      · intro w' hSw
                        try dsimp only at hSw
                        go_simp
                        first | done | (with_reducible rfl)
                      try simp only [List.getElem_toArray, List.getElem_cons_succ, List.getElem_cons_zero, Act.put, List.setIfInBounds_toArray, List.set_cons_zero, List.set_cons_succ]
                      refine wpAnyH_take (i := 6) (v := ?_) rfl (by kernel_rfl) (by kernel_rfl) (by kernel_rfl) (fun _ _ _ h => h) (Or.inl ⟨by rfl, ?_⟩) (by assumption) ?_
                      rotate_left
                      · intro w' hSw
                        try dsimp only at hSw
                        go_simp
                        first | done | (with_reducible rfl)
                      try simp only [List.getElem_toArray, List.getElem_cons_succ, List.getElem_cons_zero, Act.put, List.setIfInBounds_toArray, List.set_cons_zero, List.set_cons_succ]
                      refine wpAnyH_take (i := 7) (v := ?_) rfl (by kernel_rfl) (by kernel_rfl) (by kernel_rfl) (fun _ _ _ h => h) (Or.inl ⟨by rfl, ?_⟩) (by assumption) ?_
                      rotate_left
                      · intro w' hSw
                        try dsimp only at hSw
                        go_simp
                        first | done | (with_reducible rfl)
                      try simp only [List.getElem_toArray, List.getElem_cons_succ, List.getElem_cons_zero, Act.put, List.setIfInBounds_toArray, List.set_cons_zero, List.set_cons_succ]
                      refine wpAnyH_take (i := 8) (v := ?_) rfl (by kernel_rfl) (by kernel_rfl) (by kernel_rfl) (fun _ _ _ h => h) (Or.inl ⟨by rfl, ?_⟩) (by assumption) ?_
                      rotate_left
                      · intro w' hSw
                        try dsimp only at hSw
                        go_simp
                        first | done | (with_reducible rfl)
                      try simp only [List.getElem_toArray, List.getElem_cons_succ, List.getElem_cons_zero, Act.put, List.setIfInBounds_toArray, List.set_cons_zero, List.set_cons_succ]
                      refine wpAnyH_ready (rs := [4]) (by kernel_rfl) (by simp) ?_
                      refine AllReadyH.cons rfl (fun K hK => ?_) AllReadyH.nil
                      go_simp
                      refine HOF.out.mono ?_
                      rintro e w7 ⟨rfl, hc7⟩
                      have HX7 := Lib.hid (HXR.out.trans hc7 (fun _ _ e => e))
                      clear hc7
                      go_wp2_with fail
                      refine hK.out _ _ (HKEEP.out _ HX7.out) (fun hHeld => ?_)
                      clear hK K
                      try simp only [List.getElem_toArray, List.getElem_cons_succ, List.getElem_cons_zero, Act.put, List.setIfInBounds_toArray, List.set_cons_zero, List.set_cons_succ]
                      refine wpAnyH_take (i := 9) (v := ?_) rfl (by kernel_rfl) (by kernel_rfl) (by kernel_rfl) (fun _ _ _ h => h) (Or.inl ⟨by rfl, ?_⟩) (by assumption) ?_
                      rotate_left
                      · intro w' hSw
                        try dsimp only at hSw
                        go_simp
                        first | done | (with_reducible rfl)
                      try simp only [List.getElem_toArray, List.getElem_cons_succ, List.getElem_cons_zero, Act.put, List.setIfInBounds_toArray, List.set_cons_zero, List.set_cons_succ]
                      refine wpAnyH_take (i := 10) (v := ?_) rfl (by kernel_rfl) (by kernel_rfl) (by kernel_rfl) (fun _ _ _ h => h) (Or.inl ⟨by rfl, ?_⟩) (by assumption) ?_
                      rotate_left
                      · intro w' hSw
                        try dsimp only at hSw
                        go_simp
                        first | done | (with_reducible rfl)
                      try simp only [List.getElem_toArray, List.getElem_cons_succ, List.getElem_cons_zero, Act.put, List.setIfInBounds_toArray, List.set_cons_zero, List.set_cons_succ]
                      refine wpAnyH_done (by kernel_rfl) ?_ _
                      refine NoPanic.normal ?_
                      have HN8 := Lib.hid (HN5.out.new HX7.out)
                      have HO8 := Lib.hid (own_chg HO5.out HX7.out (fun _ _ => id))
                      have HX8 := Lib.hid (HX5.out.trans HX7.out (fun _ _ e => e))
                      clear HKEEP HXR HOF hneq s0 HN5 HO5 HX5 HX7
                      go_wp2_with fail
                      go_roundg (k - (j4 + 1))
                      case measure => omega
                      case rel => exact ⟨j4 + 1, o5, rfl, by omega, by go_num, HN8, HO8, HX8⟩
                    · have hjk : j4 = k := by omega
                      subst hjk
                      have HLE := Lib.hid (nlen18 HN4.out)
                      rw [show (NV18.mk rr ll (yl.drop j4)).l.length = 0 from by show (yl.drop j4).length = 0; rw [List.length_drop, HKY.out]; omega] at HLE
                      have HN9 := HN4
                      go_wp2_with fail
                      refine (HAL.out _).mono ?_
                      rintro e w9 ⟨rfl, hc9⟩
                      have HLE9 := Lib.hid (nlen18 (HN4.out.new hc9))
                      rw [show (NV18.mk rr ll (yl.drop j4)).l.length = 0 from by show (yl.drop j4).length = 0; rw [List.length_drop, HKY.out]; omega] at HLE9
                      have HXZ := Lib.hid (HX4.out.trans hc9 (fun _ _ e => e))
                      clear hc9
                      go_wp2_with fail
                      refine HLE9.out.mono ?_
                      rintro e _ ⟨rfl, rfl⟩
                      go_wp2_with fail
                      go_ret
                      exact ⟨rfl, HXZ.out⟩

end Go.Proofs.Ythajmplheecepaa
