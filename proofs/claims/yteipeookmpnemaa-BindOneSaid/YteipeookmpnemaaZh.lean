/-
  Walks: the document's Stand, First. Condition: the rows are read in memory.
-/
import Derived.Test.YteipeookmpnemaaZd
import Derived.Deep.RegionHeld3
import Derived.BigQuiet
namespace Go.Proofs.Yteipeookmpnemaa
open Go.RowKit
set_option linter.unusedVariables false
set_option linter.unusedSimpArgs false

set_option maxRecDepth 100000 in
set_option maxHeartbeats 8000000 in
theorem rstand14_any {w : World} {L : Option Addr} {m lc : Nat} {l : List RV} (h : RwR w L m l) (hmc : m ≤ 9223372036854775807) : Calls Try.prog 11 #[.slice L m lc] w fun e w' => ∃ b, e = .returned (.bool b) ∧ (b = true → std14 l) ∧ Chg (fun _ => False) w w' := by
  have HL := Lib.hid h.1
  have HRD := Lib.hid h
  clear h
  go_enter Try.func11, Try.ntmps11
  go_wp2_with fail
  go_loopg [3, 4, 5] m (fun g i s4 s5 wr => ∃ (j : Nat), g = m - j ∧ j ≤ m ∧ i = .int .i64 (j : Int) ∧ Hid (∀ (i : Nat) (x : RV), i < j → l[i]? = some x → x.ok = true ∧ ∀ (k : Nat) (y : RV), k < i → l[k]? = some y → ¬ y.po = x.po) ∧ Hid (Chg (fun _ => False) w wr))
  case atStart => exact ⟨0, rfl, Nat.zero_le _, rfl, Lib.hid (fun i x hi => absurd hi (Nat.not_lt_zero _)), Lib.hid (Chg.refl _ _)⟩
  case round =>
    obtain ⟨j, rfl, hj, rfl, HAL, HX0⟩ := hrel
    by_cases hlt : j < m
    · have hh := HRD.out.chg HX0.out
      obtain ⟨ad, rfl, -⟩ := hh.2 (by omega)
      have hjl : j < l.length := by have := HL.out; omega
      have hx : l[j]? = some l[j] := List.getElem?_eq_getElem hjl
      generalize l[j] = x at *
      obtain ⟨z0, z1, z2, z3, z4, z5, z6, z7, z8⟩ := hh.at hx
      have HJX := Lib.hid hx
      clear hx hh hjl
      have hrow : ∀ W, Calls _ _ _ W (fun e w' => e = .returned (.bool x.ok) ∧ Chg (fun _ => False) W w') := fun W => rrow_any x.po x.ma x.ow x.ta x.ol x.ge x.ph x.ve x.si W
      unfold rvC at hrow
      cases hok : x.ok with
      | false =>
        rw [hok] at hrow
        have HRO := Lib.hid hrow
        clear hrow hok
        go_wp2_with fail
        refine (HRO.out _).mono ?_
        rintro e wz ⟨rfl, hc⟩
        replace HX0 := Lib.hid (HX0.out.trans hc (fun _ _ e => e))
        clear hc
        go_wp2_with fail
        go_ret
        exact ⟨false, rfl, (fun e => by cases e), HX0.out⟩
      | true =>
        rw [hok] at hrow
        have HRO := Lib.hid hrow
        have HOK := Lib.hid hok
        clear hrow hok
        go_wp2_with fail
        refine (HRO.out _).mono ?_
        rintro e wz ⟨rfl, hc⟩
        replace HX0 := Lib.hid (HX0.out.trans hc (fun _ _ e => e))
        clear hc z0 z1 z2 z3 z4 z5 z6 z7 z8
        go_wp2_with fail
        go_loopg [5] j (fun g s5 wr => ∃ (i : Nat), g = j - i ∧ i ≤ j ∧ s5 = .int .i64 (i : Int) ∧ Hid (∀ (k : Nat) (y : RV), k < i → l[k]? = some y → ¬ y.po = x.po) ∧ Hid (Chg (fun _ => False) w wr))
        case atStart => exact ⟨0, rfl, Nat.zero_le _, rfl, Lib.hid (fun i x hi => absurd hi (Nat.not_lt_zero _)), HX0⟩
        case round =>
          clear HX0
          obtain ⟨i, rfl, hi, rfl, HAI, HX0⟩ := hrel
          by_cases hlt2 : i < j
          · have him : i < m := by omega
            have hil : i < l.length := by have := HL.out; omega
            have hy : l[i]? = some l[i] := List.getElem?_eq_getElem hil
            generalize l[i] = y at *
            have hh := HRD.out.chg HX0.out
            obtain ⟨y0, y1, y2, y3, y4, y5, y6, y7, y8⟩ := hh.at hy
            obtain ⟨z0, z1, z2, z3, z4, z5, z6, z7, z8⟩ := hh.at HJX.out
            have HIY := Lib.hid hy
            clear hy hh hil y1 y2 y3 y4 y5 y6 y7 y8 z1 z2 z3 z4 z5 z6 z7 z8
            by_cases hp : y.po = x.po
            · have tp : (y.po == x.po) = true := by simp [hp]
              clear hp
              go_wp2_with fail
              go_quiet (fail)
              replace HX0 := Lib.hid (HX0.out.drewN nq)
              generalize World.drewN wr nq = wq at *
              go_wp2_with fail
              go_ret
              exact ⟨false, rfl, (fun e => by cases e), HX0.out⟩
            · have tp : (y.po == x.po) = false := by simp [hp]
              have HPP := Lib.hid hp
              clear hp
              go_wp2_with fail
              go_quiet (fail)
              replace HX0 := Lib.hid (HX0.out.drewN nq)
              generalize World.drewN wr nq = wq at *
              go_wp2_with fail
              go_roundg (j - (i + 1))
              case measure => omega
              case rel => exact ⟨i + 1, rfl, by omega, by go_num, Lib.hid (fun k y2 hk hy2 => by
                by_cases e : k < i
                · exact HAI.out k y2 e hy2
                · have : k = i := by omega
                  subst this
                  rw [HIY.out] at hy2
                  injection hy2 with hy2
                  subst hy2
                  exact HPP.out), HX0⟩
          · have hij : i = j := by omega
            subst hij
            go_wp2_with fail
            go_roundg (m - (i + 1))
            case measure => omega
            case rel => exact ⟨i + 1, rfl, by omega, by go_num, Lib.hid (fun k y2 hk hy2 => by
              by_cases e : k < i
              · exact HAL.out k y2 e hy2
              · have : k = i := by omega
                subst this
                rw [HJX.out] at hy2
                injection hy2 with hy2
                subst hy2
                exact ⟨HOK.out, HAI.out⟩), HX0⟩
    · have hjm : j = m := by omega
      subst hjm
      have HST := Lib.hid (show std14 l from ⟨fun r hr => by
        obtain ⟨i, hi, he⟩ := List.getElem_of_mem hr
        exact (HAL.out i r (by have := HL.out; omega) (by rw [List.getElem?_eq_getElem hi, he])).1, fun i k x y hk hx hy => (HAL.out i x (by have := HL.out; have := (List.getElem?_eq_some_iff.1 hx).1; omega) hx).2 k y hk hy⟩)
      go_wp2_with fail
      go_ret
      exact ⟨true, rfl, (fun _ => HST.out), HX0.out⟩
theorem ac_blk14 {w : World} {r : Nat} {T : TypeId} {ak ap ao ag : Int} (hb : Blk w r T (acC ak ap ao ag)) (a b c d : Int) : Blk ((((w.setCell ⟨r, 0, none⟩ (.int .i64 a)).setCell ⟨r, 1, none⟩ (.int .i64 b)).setCell ⟨r, 2, none⟩ (.int .i64 c)).setCell ⟨r, 3, none⟩ (.int .i64 d)) r T (acC a b c d) := by
  have h3 := (((hb.set 0 (.int .i64 a)).set 1 (.int .i64 b)).set 2 (.int .i64 c)).set 3 (.int .i64 d)
  simp only [acC, List.setIfInBounds_toArray, List.set_cons_succ, List.set_cons_zero] at h3
  exact h3
theorem mA14_ac (v po ow ge : Int) : ∃ a b d : Int, mA14 v po ow ge = acC v a b d ∧ (¬ v = 0 → a = po ∧ b = ow ∧ d = ge) := by
  by_cases h : v = 0
  · subst h
    exact ⟨0, 0, 0, rfl, fun h => absurd rfl h⟩
  · exact ⟨po, ow, ge, mA14_no h _ _ _, fun _ => ⟨rfl, rfl, rfl⟩⟩
/-- What is told of the first row. -/
def FrP14 (c : Int) (k : Ky) (l : List RV) (w : World) (e : Ending) (w' : World) : Prop := e = .returned (.tuple #[.agg (fA14 c k (fr14 c k l)), .bool (fr14 c k l).isSome]) ∧ Chg (fun _ => False) w w'
set_option maxRecDepth 100000 in
set_option maxHeartbeats 8000000 in
theorem rfirst14_any {w : World} {L : Option Addr} {m lc : Nat} {l : List RV} (h : RwR w L m l) (hmc : m ≤ 9223372036854775807) (c ki km kp ks ko : Int) : Calls Try.prog 15 #[.slice L m lc, .int .i64 c, .agg (kyC ki km kp ks ko)] w (FrP14 c ⟨ki, km, kp, ks, ko⟩ l w) := by
  have HL := Lib.hid h.1
  have HRD := Lib.hid h
  have HX0 := Lib.hid (((Chg.refl (fun _ => False) w).alloc (.cells #[.int .i64 ki, .int .u64 km, .int .i64 kp, .int .i64 ks, .int .i64 ko] 35)).alloc (.cells #[.int .i64 0, .int .i64 0, .int .i64 0, .int .i64 0] 29))
  have HK0 : Hid (Blk ((w.alloc (.cells #[.int .i64 ki, .int .u64 km, .int .i64 kp, .int .i64 ks, .int .i64 ko] 35)).alloc (.cells #[.int .i64 0, .int .i64 0, .int .i64 0, .int .i64 0] 29)) w.heap.size 35 (kyC ki km kp ks ko)) := Lib.hid (Blk.alloc (blk_new rfl) _)
  have HZ : Hid (Blk ((w.alloc (.cells #[.int .i64 ki, .int .u64 km, .int .i64 kp, .int .i64 ks, .int .i64 ko] 35)).alloc (.cells #[.int .i64 0, .int .i64 0, .int .i64 0, .int .i64 0] 29)) (w.heap.size + 1) 29 (acC 0 0 0 0)) := Lib.hid (blk_new (by simp))
  have HQ : Hid (w.heap.size ≤ w.heap.size + 1) := Lib.hid (by omega)
  clear h
  unfold kyC
  go_enter Try.func15, Try.ntmps15
  go_upto_region 1 with fail
  generalize (w.alloc (.cells #[.int .i64 ki, .int .u64 km, .int .i64 kp, .int .i64 ks, .int .i64 ko] 35)).alloc (.cells #[.int .i64 0, .int .i64 0, .int .i64 0, .int .i64 0] 29) = w1 at *
  generalize w.heap.size + 1 = Q1 at *
  generalize w.heap.size = Q0 at HK0 ⊢
  go_wp2_with fail
  go_loopg [8, 9] m (fun g i s9 wr => ∃ (j : Nat), g = m - j ∧ j ≤ m ∧ i = .int .i64 (j : Int) ∧ Hid (fr14 c ⟨ki, km, kp, ks, ko⟩ (l.take j) = none) ∧ Hid (Blk wr Q0 35 (kyC ki km kp ks ko)) ∧ Hid (Blk wr Q1 29 (acC 0 0 0 0)) ∧ Hid (Chg (fun _ => False) w wr))
  case atStart => exact ⟨0, rfl, Nat.zero_le _, rfl, Lib.hid rfl, HK0, HZ, HX0⟩
  case round =>
    clear HK0 HZ HX0
    obtain ⟨j, rfl, hj, rfl, HNO, HK0, HZ, HX0⟩ := hrel
    by_cases hlt : j < m
    · have hh := HRD.out.chg HX0.out
      obtain ⟨ad, rfl, -⟩ := hh.2 (by omega)
      have hjl : j < l.length := by have := HL.out; omega
      have hx : l[j]? = some l[j] := List.getElem?_eq_getElem hjl
      generalize l[j] = x at *
      have HTK := Lib.hid (fr14_take hx HNO.out)
      have HIT := Lib.hid (fr14_hit hx HNO.out)
      have HKEEP : Hid (∀ W : World, Chg (fun _ => False) wr W → (W.cell? ⟨Q0, 0, none⟩ = some (.int .i64 ki) ∧ W.cell? ⟨Q0, 1, none⟩ = some (.int .u64 km) ∧ W.cell? ⟨Q0, 2, none⟩ = some (.int .i64 kp) ∧ W.cell? ⟨Q0, 3, none⟩ = some (.int .i64 ks) ∧ W.cell? ⟨Q0, 4, none⟩ = some (.int .i64 ko) ∧ W.cell? (ad.add (j * 9)) = some (.int .i64 x.po) ∧ W.cell? ⟨(ad.add (j * 9)).block, (ad.add (j * 9)).off + 1, none⟩ = some (.int .u64 x.ma) ∧ W.cell? ⟨(ad.add (j * 9)).block, (ad.add (j * 9)).off + 2, none⟩ = some (.int .i64 x.ow) ∧ W.cell? ⟨(ad.add (j * 9)).block, (ad.add (j * 9)).off + 3, none⟩ = some (.int .i64 x.ta) ∧ W.cell? ⟨(ad.add (j * 9)).block, (ad.add (j * 9)).off + 4, none⟩ = some (.int .i64 x.ol) ∧ W.cell? ⟨(ad.add (j * 9)).block, (ad.add (j * 9)).off + 5, none⟩ = some (.int .i64 x.ge) ∧ W.cell? ⟨(ad.add (j * 9)).block, (ad.add (j * 9)).off + 6, none⟩ = some (.int .i64 x.ph) ∧ W.cell? ⟨(ad.add (j * 9)).block, (ad.add (j * 9)).off + 7, none⟩ = some (.int .i64 x.ve) ∧ W.cell? ⟨(ad.add (j * 9)).block, (ad.add (j * 9)).off + 8, none⟩ = some (.int .i64 x.si))) := Lib.hid (fun W hw => by
        obtain ⟨u0, u1, u2, u3, u4⟩ := ky_cells13 (HK0.out.chg hw id)
        obtain ⟨z0, z1, z2, z3, z4, z5, z6, z7, z8⟩ := (HRD.out.chg (HX0.out.trans hw (fun _ _ e => e))).at hx
        exact ⟨u0, u1, u2, u3, u4, z0, z1, z2, z3, z4, z5, z6, z7, z8⟩)
      clear hx hh hjl
      have hmn : ∀ W, Calls _ _ _ W (fun e w' => e = .returned (.agg (mA14 (x.kd c ⟨ki, km, kp, ks, ko⟩) x.po x.ow x.ge)) ∧ Chg (fun _ => False) W w') := fun W => rmeans14_any x.po x.ma x.ow x.ta x.ol x.ge x.ph x.ve x.si c ki km kp ks ko W
      unfold rvC kyC at hmn
      obtain ⟨a1, a2, a3, hA, hB⟩ := mA14_ac (x.kd c ⟨ki, km, kp, ks, ko⟩) x.po x.ow x.ge
      rw [hA] at hmn
      generalize hv : x.kd c ⟨ki, km, kp, ks, ko⟩ = v at *
      have HVV := Lib.hid hv
      have HBB := Lib.hid hB
      have HMN := Lib.hid (show ∀ W, Calls _ _ _ W (fun e w' => e = .returned (.agg #[.int .i64 v, .int .i64 a1, .int .i64 a2, .int .i64 a3]) ∧ Chg (fun _ => False) W w') from hmn)
      clear hmn hA hB hv
      have HXA := Lib.hid ((Chg.refl (fun _ => False) wr).drew)
      have HXA2 := Lib.hid (((Chg.refl (fun _ => False) wr).alloc (.cells #[.int .i64 0, .int .i64 0, .int .i64 0, .int .i64 0] 29)).drew)
      have HNA : Hid (Blk (wr.alloc (.cells #[.int .i64 0, .int .i64 0, .int .i64 0, .int .i64 0] 29)).drew wr.heap.size 29 (acC 0 0 0 0)) := Lib.hid (blk_new rfl).drew
      go_upto_region 4 with fail
      go_cut [9] (fun s9 wx => ∃ q, s9 = .pointer (some ⟨q, 0, none⟩) ∧ Blk wx q 29 (acC v a1 a2 a3) ∧ Chg (fun _ => False) wr wx)
      case first =>
        obtain ⟨u0, u1, u2, u3, u4, z0, z1, z2, z3, z4, z5, z6, z7, z8⟩ := HKEEP.out _ HXA.out
        go_region_held3 (fun w' => w'.cell? ⟨Q0, 0, none⟩ = some (.int .i64 ki) ∧ w'.cell? ⟨Q0, 1, none⟩ = some (.int .u64 km) ∧ w'.cell? ⟨Q0, 2, none⟩ = some (.int .i64 kp) ∧ w'.cell? ⟨Q0, 3, none⟩ = some (.int .i64 ks) ∧ w'.cell? ⟨Q0, 4, none⟩ = some (.int .i64 ko) ∧ w'.cell? (ad.add (j * 9)) = some (.int .i64 x.po) ∧ w'.cell? ⟨(ad.add (j * 9)).block, (ad.add (j * 9)).off + 1, none⟩ = some (.int .u64 x.ma) ∧ w'.cell? ⟨(ad.add (j * 9)).block, (ad.add (j * 9)).off + 2, none⟩ = some (.int .i64 x.ow) ∧ w'.cell? ⟨(ad.add (j * 9)).block, (ad.add (j * 9)).off + 3, none⟩ = some (.int .i64 x.ta) ∧ w'.cell? ⟨(ad.add (j * 9)).block, (ad.add (j * 9)).off + 4, none⟩ = some (.int .i64 x.ol) ∧ w'.cell? ⟨(ad.add (j * 9)).block, (ad.add (j * 9)).off + 5, none⟩ = some (.int .i64 x.ge) ∧ w'.cell? ⟨(ad.add (j * 9)).block, (ad.add (j * 9)).off + 6, none⟩ = some (.int .i64 x.ph) ∧ w'.cell? ⟨(ad.add (j * 9)).block, (ad.add (j * 9)).off + 7, none⟩ = some (.int .i64 x.ve) ∧ w'.cell? ⟨(ad.add (j * 9)).block, (ad.add (j * 9)).off + 8, none⟩ = some (.int .i64 x.si))
          (first | with_reducible exact HKEEP.out _ HXA.out | with_reducible exact HKEEP.out _ HXA2.out | with_reducible exact HKEEP.out _ HXB.out | with_reducible exact HKEEP.out _ (HXB.out.alloc _) | with_reducible exact HKEEP.out _ HXC.out | with_reducible exact HKEEP.out _ HXD.out | fail)
          (first
            | (go_at_call 9; (with_reducible refine (HMN.out wr.drew).mono ?_); rintro e wz ⟨rfl, hc⟩; have HXB := Lib.hid (HXA.out.trans hc (fun _ _ e => e)); clear hc)
            | (go_at_call 9; (with_reducible refine (HMN.out (wr.alloc (.cells #[.int .i64 0, .int .i64 0, .int .i64 0, .int .i64 0] 29)).drew).mono ?_); rintro e wz ⟨rfl, hc⟩; have HXC := Lib.hid (HXA2.out.trans hc (fun _ _ e => e)); have HNC := Lib.hid (HNA.out.chg hc id); clear hc; obtain ⟨n0, n1, n2, n3⟩ := ac_cells13 HNC.out; obtain ⟨f0, f1, f2, f3⟩ := ac_free13 HNC.out; obtain ⟨-, -, -, -, hcs⟩ := ac_put13 HNC.out v a1 a2 a3; have hN2 := ac_blk14 HNC.out v a1 a2 a3; have HXD := Lib.hid (fresh_set HXC.out hcs (Nat.le_refl _)); have HND := Lib.hid hN2; clear hcs hN2)
            | fail)
        all_goals
          go_wp2_with fail
          go_meet
          first
            | exact ⟨wr.heap.size, rfl, HND.out, HXD.out⟩
            | exact ⟨wz.heap.size, rfl, blk_new rfl, HXB.out.alloc _⟩
      case rest =>
        obtain ⟨q, rfl, hb, hx2⟩ := hcut
        replace HK0 := Lib.hid (HK0.out.chg hx2 id)
        replace HZ := Lib.hid (HZ.out.chg hx2 id)
        replace HX0 := Lib.hid (HX0.out.trans hx2 (fun _ _ e => e))
        have HB := Lib.hid hb
        clear hb hx2 HKEEP HXA HXA2 HNA HMN
        obtain ⟨n0, n1, n2, n3⟩ := ac_cells13 HB.out
        by_cases hv0 : v = 0
        · have tv : (v != 0) = false := by simp [hv0]
          have HV0 := Lib.hid hv0
          clear hv0
          go_wp2_with fail
          go_roundg (m - (j + 1))
          case measure => omega
          case rel => exact ⟨j + 1, rfl, by omega, by go_num, Lib.hid (by rw [HTK.out, if_pos HV0.out]), HK0, HZ, HX0⟩
        · have tv : (v != 0) = true := by simp [hv0]
          have HFR := Lib.hid (HIT.out hv0)
          have HBC := Lib.hid (HBB.out hv0)
          clear hv0
          obtain ⟨x0, x1, x2, x3⟩ := ac_cells13 HZ.out
          obtain ⟨f0, f1, f2, f3⟩ := ac_free13 HZ.out
          obtain ⟨r0, r1, r2, r3, hcs⟩ := ac_put13 HZ.out v a1 a2 a3
          have RR := Lib.hid (And.intro r0 (And.intro r1 (And.intro r2 r3)))
          have HF := Lib.hid (fresh_set HX0.out hcs HQ.out)
          clear r0 r1 r2 r3 hcs
          go_wp2_with fail
          obtain ⟨r0, r1, r2, r3⟩ := RR.out
          exact bodyPost_ret (v := .tuple #[.agg (acC v a1 a2 a3), .bool true]) (by simp [results, Try.results15, go_sem, acC, r0, r1, r2, r3]) rfl ⟨by rw [HFR.out, HBC.out.1, HBC.out.2.1, HBC.out.2.2, ← HVV.out]; rfl, HF.out⟩
    · have hjm : j = m := by omega
      subst hjm
      have HTK := Lib.hid (show l.take j = l from List.take_of_length_le (by have := HL.out; omega))
      obtain ⟨x0, x1, x2, x3⟩ := ac_cells13 HZ.out
      obtain ⟨f0, f1, f2, f3⟩ := ac_free13 HZ.out
      obtain ⟨r0, r1, r2, r3, hcs⟩ := ac_put13 HZ.out 0 0 0 0
      have RR := Lib.hid (And.intro r0 (And.intro r1 (And.intro r2 r3)))
      have HF := Lib.hid (fresh_set HX0.out hcs HQ.out)
      clear r0 r1 r2 r3 hcs
      go_wp2_with fail
      obtain ⟨r0, r1, r2, r3⟩ := RR.out
      exact bodyPost_ret (v := .tuple #[.agg (acC 0 0 0 0), .bool false]) (by simp [results, Try.results15, go_sem, acC, r0, r1, r2, r3]) rfl ⟨by rw [← HTK.out, HNO.out]; rfl, HF.out⟩

end Go.Proofs.Yteipeookmpnemaa
