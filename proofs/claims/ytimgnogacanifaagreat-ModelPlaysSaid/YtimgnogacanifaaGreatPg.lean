/-
  Walks: store.named, slices.Index and Contains of numbers, uses, lacks, IndexFunc and ContainsFunc over their closures. Conditions: the store lies in memory.
-/
import Derived.Test.YtimgnogacanifaaGreatPe
import Derived.Deep.RegionHeld3
import Derived.RegionTactic
namespace Go.Proofs.YtimgnogacanifaaGreat
open Go.RowKit
set_option linter.unusedVariables false
set_option linter.unusedSimpArgs false

theorem rds_at10 {w : World} {S : Nat → Prop} {ad : Addr} {n j : Nat} {l : List Int} {x : Int} (h : Rds w S (some ad) n (ics l)) (hi : l[j]? = some x) : w.cell? (ad.add j) = some (.int .i64 x) := by
  have hl : j < l.length := (List.getElem?_eq_some_iff.1 hi).1
  obtain ⟨ad', e, _, _, hc⟩ := h.2 (by have := h.1; rw [ics_len] at this; omega)
  injection e with e
  subst e
  exact hc j _ (by simp [ics, hi])
/-- What hands back numbers in new memory. -/
def NumP (l : List Int) (w : World) (e : Ending) (w' : World) : Prop := ∃ A n c, e = .returned (.slice A n c) ∧ n = l.length ∧ Rds w' (fun k => w.heap.size ≤ k) A n (ics l) ∧ Chg (fun _ => False) w w'
set_option maxRecDepth 100000 in
set_option maxHeartbeats 800000 in
theorem snamed_any (po ma ow ta ol ge ph ve si : Int) (w : World) : Calls Tryz.prog 112 #[.agg #[.int .i64 po, .int .u64 ma, .int .i64 ow, .int .i64 ta, .int .i64 ol, .int .i64 ge, .int .i64 ph, .int .i64 ve, .int .i64 si]] w (NumP [ow, ta, ol] w) := by
  have HQ0 : Blk (w.alloc (.cells #[.int .i64 po, .int .u64 ma, .int .i64 ow, .int .i64 ta, .int .i64 ol, .int .i64 ge, .int .i64 ph, .int .i64 ve, .int .i64 si] 40)) w.heap.size 40 (rvC po ma ow ta ol ge ph ve si) := blk_new rfl
  replace HQ0 := Lib.hid HQ0
  have HX0 := Lib.hid ((Chg.refl (fun _ => False) w).alloc (.cells #[.int .i64 po, .int .u64 ma, .int .i64 ow, .int .i64 ta, .int .i64 ol, .int .i64 ge, .int .i64 ph, .int .i64 ve, .int .i64 si] 40))
  go_enter Tryz.func112, Tryz.ntmps112
  go_upto_region 1 with fail
  generalize (w.alloc (.cells #[.int .i64 po, .int .u64 ma, .int .i64 ow, .int .i64 ta, .int .i64 ol, .int .i64 ge, .int .i64 ph, .int .i64 ve, .int .i64 si] 40)) = w1 at *
  obtain ⟨y0, y1, y2, y3, y4, y5, y6, y7, y8⟩ := rv_cells HQ0.out
  have HR := Lib.hid (rds_alloc w1 3 #[.int .i64 ow, .int .i64 ta, .int .i64 ol] (0, 0))
  have HX1 := Lib.hid (HX0.out.alloc (.cells #[.int .i64 ow, .int .i64 ta, .int .i64 ol] 3))
  have HZ := Lib.hid HX0.out.size
  go_wp2_with fail
  go_ret
  exact ⟨_, _, _, rfl, rfl, HR.out.mono (fun k hk => by have := HZ.out; omega), HX1.out⟩

set_option maxRecDepth 100000 in
set_option maxHeartbeats 2000000 in
theorem sindex_any (A : Option Addr) (n c : Nat) (l : List Int) (v : Int) (w : World) (S : Nat → Prop) (h : Rds w S A n (ics l)) (hn : n ≤ 9223372036854775807) : Calls Tryz.prog 130 #[.slice A n c, .int .i64 v] w fun e w' => ∃ z : Int, e = .returned (.int .i64 z) ∧ decide (0 ≤ z) = l.contains v ∧ Chg (fun _ => False) w w' := by
  have HH := Lib.hid h
  have hl : n = l.length := by have := h.1; rw [ics_len] at this; exact this.symm
  have HL := Lib.hid hl
  clear h hl
  go_enter Tryz.func130, Tryz.ntmps130
  go_wp2_with fail
  go_loopg [5, 8] n (fun g s5 i wr => ∃ j : Nat, g = n - j ∧ j ≤ n ∧ i = .int .i64 (j : Int) ∧ Hid (∀ (i : Nat) (x : Int), i < j → l[i]? = some x → x ≠ v) ∧ Hid (Chg (fun _ => False) w wr))
  case atStart => exact ⟨0, rfl, Nat.zero_le _, rfl, Lib.hid (fun i x hi => absurd hi (by omega)), Lib.hid (Chg.refl _ _)⟩
  case round =>
    obtain ⟨j, rfl, hj, rfl, HA, HX⟩ := hrel
    by_cases hlt : j < n
    · have hh := HH.out.chg HX.out (fun _ _ => id)
      obtain ⟨ad, rfl, -⟩ := hh.2 (by omega)
      have hjl : j < l.length := by have := HL.out; omega
      have hx : l[j]? = some l[j] := List.getElem?_eq_getElem hjl
      generalize l[j] = x at *
      have z0 := rds_at10 hh hx
      have HJ := Lib.hid hx
      clear hx hh hjl
      by_cases he : v = x
      · subst he
        go_wp2_with fail
        go_ret
        refine ⟨(j : Int), rfl, ?_, HX.out⟩
        rw [show l.contains v = true from by simpa using List.mem_of_getElem? HJ.out]
        simp
      · have te : (v == x) = false := by simpa using he
        go_wp2_with fail
        go_roundg (n - (j + 1))
        case measure => omega
        case rel =>
          refine ⟨j + 1, rfl, by omega, by go_num, Lib.hid (fun i y hi hy => ?_), HX⟩
          by_cases e : i < j
          · exact HA.out i y e hy
          · have : i = j := by omega
            subst this
            have := HJ.out
            rw [hy] at this
            injection this with this
            subst this
            exact fun e => he e.symm
    · have : j = n := by omega
      subst this
      go_wp2_with fail
      go_ret
      refine ⟨-1, rfl, ?_, HX.out⟩
      have e1 : l.contains v = false := by
        rw [Bool.eq_false_iff]
        intro hc
        have hm : v ∈ l := by simpa using hc
        obtain ⟨i, hi⟩ := List.getElem?_of_mem hm
        have := (List.getElem?_eq_some_iff.1 hi).1
        have := HL.out
        exact HA.out i v (by omega) hi rfl
      rw [e1]
      rfl

set_option maxRecDepth 100000 in
set_option maxHeartbeats 800000 in
theorem scontains_any (A : Option Addr) (n c : Nat) (l : List Int) (v : Int) (w : World) (S : Nat → Prop) (h : Rds w S A n (ics l)) (hn : n ≤ 9223372036854775807) : Calls Tryz.prog 111 #[.slice A n c, .int .i64 v] w fun e w' => e = .returned (.bool (l.contains v)) ∧ Chg (fun _ => False) w w' := by
  have HK := Lib.hid (sindex_any A n c l v w S h hn)
  clear h
  go_enter Tryz.func111, Tryz.ntmps111
  go_wp2_with fail
  refine HK.out.mono ?_
  rintro e w1 ⟨z, rfl, hz, hc⟩
  have HZ := Lib.hid hz
  have HC := Lib.hid hc
  clear hz hc
  go_wp2_with fail
  go_ret
  exact ⟨ret_b HZ.out, HC.out⟩

set_option maxRecDepth 100000 in
set_option maxHeartbeats 2000000 in
theorem suses1_any (po ma ow ta ol ge ph ve si c : Int) (q : Nat) (w : World) (h : Blk w q 3 #[.int .i64 c]) : Calls Tryz.prog 110 #[.agg #[.int .i64 po, .int .u64 ma, .int .i64 ow, .int .i64 ta, .int .i64 ol, .int .i64 ge, .int .i64 ph, .int .i64 ve, .int .i64 si], .pointer (some ⟨q, 0, none⟩)] w fun e w' => e = .returned (.bool (namesP c ⟨po, ma, ow, ta, ol, ge, ph, ve, si⟩)) ∧ Chg (fun _ => False) w w' := by
  have HQ0 : Blk (w.alloc (.cells #[.int .i64 po, .int .u64 ma, .int .i64 ow, .int .i64 ta, .int .i64 ol, .int .i64 ge, .int .i64 ph, .int .i64 ve, .int .i64 si] 40)) w.heap.size 40 (rvC po ma ow ta ol ge ph ve si) := blk_new rfl
  replace HQ0 := Lib.hid HQ0
  have HX0 := Lib.hid ((Chg.refl (fun _ => False) w).alloc (.cells #[.int .i64 po, .int .u64 ma, .int .i64 ow, .int .i64 ta, .int .i64 ol, .int .i64 ge, .int .i64 ph, .int .i64 ve, .int .i64 si] 40))
  have HB0 := Lib.hid (h.alloc (.cells #[.int .i64 po, .int .u64 ma, .int .i64 ow, .int .i64 ta, .int .i64 ol, .int .i64 ge, .int .i64 ph, .int .i64 ve, .int .i64 si] 40))
  clear h
  go_enter Tryz.func110, Tryz.ntmps110
  go_wp2_with fail
  generalize (w.alloc (.cells #[.int .i64 po, .int .u64 ma, .int .i64 ow, .int .i64 ta, .int .i64 ol, .int .i64 ge, .int .i64 ph, .int .i64 ve, .int .i64 si] 40)) = w1 at *
  have HKEEP : Hid (∀ W : World, Chg (fun _ => False) w1 W → (W.cell? ⟨w.heap.size, 0, none⟩ = some (.int .i64 po) ∧ W.cell? ⟨w.heap.size, 1, none⟩ = some (.int .u64 ma) ∧ W.cell? ⟨w.heap.size, 2, none⟩ = some (.int .i64 ow) ∧ W.cell? ⟨w.heap.size, 3, none⟩ = some (.int .i64 ta) ∧ W.cell? ⟨w.heap.size, 4, none⟩ = some (.int .i64 ol) ∧ W.cell? ⟨w.heap.size, 5, none⟩ = some (.int .i64 ge) ∧ W.cell? ⟨w.heap.size, 6, none⟩ = some (.int .i64 ph) ∧ W.cell? ⟨w.heap.size, 7, none⟩ = some (.int .i64 ve) ∧ W.cell? ⟨w.heap.size, 8, none⟩ = some (.int .i64 si) ∧ W.cell? ⟨q, 0, none⟩ = some (.int .i64 c))) := Lib.hid (fun W hw => by
    obtain ⟨x0, x1, x2, x3, x4, x5, x6, x7, x8⟩ := rv_cells (HQ0.out.chg hw id)
    have xb := (HB0.out.chg hw id).cell 0
    simp only [List.getElem?_toArray, List.getElem?_cons_zero] at xb
    exact ⟨x0, x1, x2, x3, x4, x5, x6, x7, x8, xb⟩)
  have HXA := Lib.hid (Chg.refl (fun _ => False) w1).drew
  have HNA := Lib.hid (snamed_any po ma ow ta ol ge ph ve si w1.drew)
  obtain ⟨y0, y1, y2, y3, y4, y5, y6, y7, y8, yb⟩ := HKEEP.out _ HXA.out
  go_region_held3 (fun w' => w'.cell? ⟨w.heap.size, 0, none⟩ = some (.int .i64 po) ∧ w'.cell? ⟨w.heap.size, 1, none⟩ = some (.int .u64 ma) ∧ w'.cell? ⟨w.heap.size, 2, none⟩ = some (.int .i64 ow) ∧ w'.cell? ⟨w.heap.size, 3, none⟩ = some (.int .i64 ta) ∧ w'.cell? ⟨w.heap.size, 4, none⟩ = some (.int .i64 ol) ∧ w'.cell? ⟨w.heap.size, 5, none⟩ = some (.int .i64 ge) ∧ w'.cell? ⟨w.heap.size, 6, none⟩ = some (.int .i64 ph) ∧ w'.cell? ⟨w.heap.size, 7, none⟩ = some (.int .i64 ve) ∧ w'.cell? ⟨w.heap.size, 8, none⟩ = some (.int .i64 si) ∧ w'.cell? ⟨q, 0, none⟩ = some (.int .i64 c))
    (first | with_reducible exact HKEEP.out _ HXA.out | with_reducible exact HKEEP.out _ HXB.out | with_reducible exact HKEEP.out _ HXC.out | fail)
    (first
      | (go_at_call 112; (with_reducible refine (HNA.out).mono ?_); rintro e wz ⟨SA, SN, SC, rfl, rfl, hrd, hc⟩; (replace hrd : Rds wz _ SA 3 _ := hrd); have HXB := Lib.hid (HXA.out.trans hc (fun _ _ e => e)); have HCN := Lib.hid (show Calls _ _ _ _ (fun e w' => e = .returned (.bool (namesP c ⟨po, ma, ow, ta, ol, ge, ph, ve, si⟩)) ∧ Chg (fun _ => False) wz w') from scontains_any SA 3 SC [ow, ta, ol] c wz _ hrd (by decide)); clear hc hrd)
      | (go_at_call 111; (with_reducible refine (HCN.out).mono ?_); rintro e wy ⟨rfl, hc⟩; have HXC := Lib.hid (HXB.out.trans hc (fun _ _ e => e)); clear hc)
      | fail)
  all_goals
    go_wp2_with fail
    go_ret
    exact ⟨rfl, HX0.out.trans HXC.out (fun _ _ e => e)⟩

set_option maxRecDepth 100000 in
set_option maxHeartbeats 4000000 in
theorem uindex_any (A : Option Addr) (n c : Nat) (l : List RV) (q : Nat) (cc : Int) (w : World) (hq : Blk w q 3 #[.int .i64 cc]) (S : Nat → Prop) (h : SR 9 RV.cs w S A n l) (hn : n ≤ 9223372036854775807) : Calls Tryz.prog 129 #[.slice A n c, .func (.func 110) #[] #[.pointer (some ⟨q, 0, none⟩)]] w fun e w' => ∃ z : Int, e = .returned (.int .i64 z) ∧ decide (0 ≤ z) = l.any (namesP cc) ∧ Chg (fun _ => False) w w' := by
  have HH := Lib.hid h
  have hl : n = l.length := h.1
  have HL := Lib.hid hl
  have HQ := Lib.hid hq
  clear hq
  clear h hl
  go_enter Tryz.func129, Tryz.ntmps129
  go_wp2_with fail
  go_loopg [5, 8] n (fun g s5 i wr => ∃ j : Nat, g = n - j ∧ j ≤ n ∧ i = .int .i64 (j : Int) ∧ Hid (∀ (i : Nat) x, i < j → l[i]? = some x → (namesP cc) x = false) ∧ Hid (Chg (fun _ => False) w wr))
  case atStart => exact ⟨0, rfl, Nat.zero_le _, rfl, Lib.hid (fun i x hi => absurd hi (by omega)), Lib.hid (Chg.refl _ _)⟩
  case round =>
    obtain ⟨j, rfl, hj, rfl, HA, HX⟩ := hrel
    by_cases hlt : j < n
    · have hh := HH.out.chg HX.out (fun _ _ => id)
      obtain ⟨ad, rfl, -⟩ := hh.2 (by omega)
      have hjl : j < l.length := by have := HL.out; omega
      have hx : l[j]? = some l[j] := List.getElem?_eq_getElem hjl
      generalize l[j] = x at *
      obtain ⟨po, ma, ow, ta, ol, ge, ph, ve, si, rfl⟩ := rv_letters x
      obtain ⟨z0, z1, z2, z3, z4, z5, z6, z7, z8⟩ := sr_at9 hh hx
      have hk := suses1_any po ma ow ta ol ge ph ve si cc q wr (HQ.out.chg HX.out id)
      have HJ := Lib.hid hx
      clear hx hh hjl
      cases hb : (namesP cc) ⟨po, ma, ow, ta, ol, ge, ph, ve, si⟩ with
      | true =>
        rw [hb] at hk
        have HK := Lib.hid hk
        have HBB := Lib.hid hb
        clear hk hb
        go_wp2_with fail
        refine HK.out.mono ?_
        rintro e w1 ⟨rfl, hc1⟩
        replace HX := Lib.hid (HX.out.trans hc1 (fun _ _ e => e))
        clear hc1
        go_wp2_with fail
        go_ret
        refine ⟨(j : Int), rfl, ?_, HX.out⟩
        rw [show l.any (namesP cc) = true from List.any_eq_true.2 ⟨_, List.mem_of_getElem? HJ.out, HBB.out⟩]
        simp
      | false =>
        rw [hb] at hk
        have HK := Lib.hid hk
        have HBB := Lib.hid hb
        clear hk hb
        go_wp2_with fail
        refine HK.out.mono ?_
        rintro e w1 ⟨rfl, hc1⟩
        replace HX := Lib.hid (HX.out.trans hc1 (fun _ _ e => e))
        clear hc1
        go_wp2_with fail
        go_roundg (n - (j + 1))
        case measure => omega
        case rel =>
          refine ⟨j + 1, rfl, by omega, by go_num, Lib.hid (fun i y hi hy => ?_), HX⟩
          by_cases e : i < j
          · exact HA.out i y e hy
          · have : i = j := by omega
            subst this
            have := HJ.out
            rw [hy] at this
            injection this with this
            subst this
            exact HBB.out
    · have : j = n := by omega
      subst this
      go_wp2_with fail
      go_ret
      refine ⟨-1, rfl, ?_, HX.out⟩
      have e1 : l.any (namesP cc) = false := by
        rw [List.any_eq_false]
        intro x hx
        obtain ⟨i, hi⟩ := List.getElem?_of_mem hx
        have := (List.getElem?_eq_some_iff.1 hi).1
        have := HL.out
        rw [HA.out i x (by omega) hi]
        decide
      rw [e1]
      rfl

set_option maxRecDepth 100000 in
set_option maxHeartbeats 800000 in
theorem ucontains_any (A : Option Addr) (n c : Nat) (l : List RV) (q : Nat) (cc : Int) (w : World) (hq : Blk w q 3 #[.int .i64 cc]) (S : Nat → Prop) (h : SR 9 RV.cs w S A n l) (hn : n ≤ 9223372036854775807) : Calls Tryz.prog 109 #[.slice A n c, .func (.func 110) #[] #[.pointer (some ⟨q, 0, none⟩)]] w fun e w' => e = .returned (.bool (l.any (namesP cc))) ∧ Chg (fun _ => False) w w' := by
  have HK := Lib.hid (uindex_any A n c l q cc w hq S h hn)
  clear h
  go_enter Tryz.func109, Tryz.ntmps109
  go_wp2_with fail
  refine HK.out.mono ?_
  rintro e w1 ⟨z, rfl, hz, hc⟩
  have HZ := Lib.hid hz
  have HC := Lib.hid hc
  clear hz hc
  go_wp2_with fail
  go_ret
  exact ⟨ret_b HZ.out, HC.out⟩

set_option maxRecDepth 100000 in
set_option maxHeartbeats 2000000 in
theorem suses_any {B : Nat} {w : World} {p bc br : Nat} {C : Int → Bool} {R : Int → Option RV} (h : CS B w p bc br C R) (z : Int) : Calls Tryz.prog 78 #[.pointer (some ⟨p, 0, none⟩), .int .i64 z] w fun e w' => e = .returned (.bool (usesP R z)) ∧ Chg (fun _ => False) w w' := by
  have hmf : ∀ (fn : Fn) (first cap : Array Value) (w : World), (Instr.makeFunc fn first cap).run Tryz.prog w = .ok (.func fn first cap) w := fun _ _ _ _ => rfl
  have HB0 : Blk (w.alloc (.cells #[.int .i64 z] 3)) w.heap.size 3 #[.int .i64 z] := blk_new rfl
  replace HB0 := Lib.hid HB0
  have HX0 := Lib.hid ((Chg.refl (fun _ => False) w).alloc (.cells #[.int .i64 z] 3))
  have HS0 := Lib.hid (h.keep HX0.out)
  clear h
  have HU := Lib.hid (show usesP R z = (rowsP R).any (namesP z) from rfl)
  go_enter Tryz.func78, Tryz.ntmps78
  go_upto_region 1 with fail
  generalize (w.alloc (.cells #[.int .i64 z] 3)) = w1 at *
  go_wp2_with fail
  refine (srows_any HS0.out).mono ?_
  rintro e w2 ⟨A, m, c, rfl, hm, hown, hc⟩
  have HXX := Lib.hid hc
  have HC := Lib.hid (ucontains_any A m c (rowsP R) w.heap.size z w2 (HB0.out.chg hc id) _ (own_sr rv_size hown hm) (by have := rows_len R; omega))
  clear hm hown hc
  go_wp2_with fail
  refine HC.out.mono ?_
  rintro e w3 ⟨rfl, hc⟩
  have HX3 := Lib.hid (HX0.out.trans (HXX.out.trans hc (fun _ _ e => e)) (fun _ _ e => e))
  clear hc
  go_wp2_with fail
  go_ret
  exact ⟨ret_b HU.out.symm, HX3.out⟩

set_option maxRecDepth 100000 in
set_option maxHeartbeats 2000000 in
theorem slacks1_any {B : Nat} {w : World} {p bc br : Nat} {C : Int → Bool} {R : Int → Option RV} (n : Int) (q : Nat) (h : CS B w p bc br C R) (hq : Blk w q 51 #[.pointer (some ⟨p, 0, none⟩)]) : Calls Tryz.prog 120 #[.int .i64 n, .pointer (some ⟨q, 0, none⟩)] w fun e w' => e = .returned (.bool (gapP C n)) ∧ Chg (fun _ => False) w w' := by
  have c0 := hq.cell 0
  simp only [List.getElem?_toArray, List.getElem?_cons_zero] at c0
  have HHS := Lib.hid (shas_any h n)
  clear h hq
  by_cases hn : n = -1
  · subst hn
    have HV := Lib.hid (show gapP C (-1) = false from by simp [gapP])
    go_enter Tryz.func120, Tryz.ntmps120
    go_wp2_with fail
    go_ret
    exact ⟨ret_b HV.out.symm, Chg.refl _ _⟩
  · have tn : (n == -1) = false := by simpa using hn
    have sn : (n != -1) = true := by simpa using hn
    have HV := Lib.hid (show gapP C n = !C n from by simp [gapP, hn])
    clear hn
    go_enter Tryz.func120, Tryz.ntmps120
    go_wp2_with fail
    refine HHS.out.mono ?_
    rintro e w1 ⟨rfl, rfl⟩
    go_wp2_with fail
    go_ret
    exact ⟨ret_b HV.out.symm, Chg.refl _ _⟩

set_option maxRecDepth 100000 in
set_option maxHeartbeats 4000000 in
theorem lindex_any (A : Option Addr) (n c : Nat) (l : List Int) {B : Nat} {p bc br : Nat} {C : Int → Bool} {R : Int → Option RV} (q : Nat) (w : World) (hs : CS B w p bc br C R) (hq : Blk w q 51 #[.pointer (some ⟨p, 0, none⟩)]) (S : Nat → Prop) (h : Rds w S A n (ics l)) (hn : n ≤ 9223372036854775807) : Calls Tryz.prog 133 #[.slice A n c, .func (.func 120) #[] #[.pointer (some ⟨q, 0, none⟩)]] w fun e w' => ∃ z : Int, e = .returned (.int .i64 z) ∧ decide (0 ≤ z) = l.any (gapP C) ∧ Chg (fun _ => False) w w' := by
  have HH := Lib.hid h
  have hl : n = l.length := by have := h.1; rw [ics_len] at this; exact this.symm
  have HL := Lib.hid hl
  have HS := Lib.hid hs
  have HQ := Lib.hid hq
  clear hq hs
  clear h hl
  go_enter Tryz.func133, Tryz.ntmps133
  go_wp2_with fail
  go_loopg [5, 8] n (fun g s5 i wr => ∃ j : Nat, g = n - j ∧ j ≤ n ∧ i = .int .i64 (j : Int) ∧ Hid (∀ (i : Nat) x, i < j → l[i]? = some x → (gapP C) x = false) ∧ Hid (Chg (fun _ => False) w wr))
  case atStart => exact ⟨0, rfl, Nat.zero_le _, rfl, Lib.hid (fun i x hi => absurd hi (by omega)), Lib.hid (Chg.refl _ _)⟩
  case round =>
    obtain ⟨j, rfl, hj, rfl, HA, HX⟩ := hrel
    by_cases hlt : j < n
    · have hh := HH.out.chg HX.out (fun _ _ => id)
      obtain ⟨ad, rfl, -⟩ := hh.2 (by omega)
      have hjl : j < l.length := by have := HL.out; omega
      have hx : l[j]? = some l[j] := List.getElem?_eq_getElem hjl
      generalize l[j] = x at *
      have z0 := rds_at10 hh hx
      have hk := slacks1_any x q (HS.out.keep HX.out) (HQ.out.chg HX.out id)
      have HJ := Lib.hid hx
      clear hx hh hjl
      cases hb : (gapP C) x with
      | true =>
        rw [hb] at hk
        have HK := Lib.hid hk
        have HBB := Lib.hid hb
        clear hk hb
        go_wp2_with fail
        refine HK.out.mono ?_
        rintro e w1 ⟨rfl, hc1⟩
        replace HX := Lib.hid (HX.out.trans hc1 (fun _ _ e => e))
        clear hc1
        go_wp2_with fail
        go_ret
        refine ⟨(j : Int), rfl, ?_, HX.out⟩
        rw [show l.any (gapP C) = true from List.any_eq_true.2 ⟨_, List.mem_of_getElem? HJ.out, HBB.out⟩]
        simp
      | false =>
        rw [hb] at hk
        have HK := Lib.hid hk
        have HBB := Lib.hid hb
        clear hk hb
        go_wp2_with fail
        refine HK.out.mono ?_
        rintro e w1 ⟨rfl, hc1⟩
        replace HX := Lib.hid (HX.out.trans hc1 (fun _ _ e => e))
        clear hc1
        go_wp2_with fail
        go_roundg (n - (j + 1))
        case measure => omega
        case rel =>
          refine ⟨j + 1, rfl, by omega, by go_num, Lib.hid (fun i y hi hy => ?_), HX⟩
          by_cases e : i < j
          · exact HA.out i y e hy
          · have : i = j := by omega
            subst this
            have := HJ.out
            rw [hy] at this
            injection this with this
            subst this
            exact HBB.out
    · have : j = n := by omega
      subst this
      go_wp2_with fail
      go_ret
      refine ⟨-1, rfl, ?_, HX.out⟩
      have e1 : l.any (gapP C) = false := by
        rw [List.any_eq_false]
        intro x hx
        obtain ⟨i, hi⟩ := List.getElem?_of_mem hx
        have := (List.getElem?_eq_some_iff.1 hi).1
        have := HL.out
        rw [HA.out i x (by omega) hi]
        decide
      rw [e1]
      rfl

set_option maxRecDepth 100000 in
set_option maxHeartbeats 800000 in
theorem lcontains_any (A : Option Addr) (n c : Nat) (l : List Int) {B : Nat} {p bc br : Nat} {C : Int → Bool} {R : Int → Option RV} (q : Nat) (w : World) (hs : CS B w p bc br C R) (hq : Blk w q 51 #[.pointer (some ⟨p, 0, none⟩)]) (S : Nat → Prop) (h : Rds w S A n (ics l)) (hn : n ≤ 9223372036854775807) : Calls Tryz.prog 119 #[.slice A n c, .func (.func 120) #[] #[.pointer (some ⟨q, 0, none⟩)]] w fun e w' => e = .returned (.bool (l.any (gapP C))) ∧ Chg (fun _ => False) w w' := by
  have HK := Lib.hid (lindex_any A n c l q w hs hq S h hn)
  clear h
  go_enter Tryz.func119, Tryz.ntmps119
  go_wp2_with fail
  refine HK.out.mono ?_
  rintro e w1 ⟨z, rfl, hz, hc⟩
  have HZ := Lib.hid hz
  have HC := Lib.hid hc
  clear hz hc
  go_wp2_with fail
  go_ret
  exact ⟨ret_b HZ.out, HC.out⟩

set_option maxRecDepth 100000 in
set_option maxHeartbeats 2000000 in
theorem slacks_any {B : Nat} {w : World} {p bc br : Nat} {C : Int → Bool} {R : Int → Option RV} (h : CS B w p bc br C R) (po ma ow ta ol ge ph ve si : Int) : Calls Tryz.prog 96 #[.pointer (some ⟨p, 0, none⟩), .agg #[.int .i64 po, .int .u64 ma, .int .i64 ow, .int .i64 ta, .int .i64 ol, .int .i64 ge, .int .i64 ph, .int .i64 ve, .int .i64 si]] w fun e w' => e = .returned (.bool (lackP C ⟨po, ma, ow, ta, ol, ge, ph, ve, si⟩)) ∧ Chg (fun _ => False) w w' := by
  have hmf : ∀ (fn : Fn) (first cap : Array Value) (w : World), (Instr.makeFunc fn first cap).run Tryz.prog w = .ok (.func fn first cap) w := fun _ _ _ _ => rfl
  have HB0 : Blk ((w.alloc (.cells #[.pointer (some ⟨p, 0, none⟩)] 51)).alloc (.cells #[.int .i64 po, .int .u64 ma, .int .i64 ow, .int .i64 ta, .int .i64 ol, .int .i64 ge, .int .i64 ph, .int .i64 ve, .int .i64 si] 40)) w.heap.size 51 #[.pointer (some ⟨p, 0, none⟩)] := Blk.alloc (blk_new rfl) _
  replace HB0 := Lib.hid HB0
  have HQ0 : Blk ((w.alloc (.cells #[.pointer (some ⟨p, 0, none⟩)] 51)).alloc (.cells #[.int .i64 po, .int .u64 ma, .int .i64 ow, .int .i64 ta, .int .i64 ol, .int .i64 ge, .int .i64 ph, .int .i64 ve, .int .i64 si] 40)) (w.heap.size + 1) 40 (rvC po ma ow ta ol ge ph ve si) := blk_new (by simp)
  replace HQ0 := Lib.hid HQ0
  have HX0 := Lib.hid (((Chg.refl (fun _ => False) w).alloc (.cells #[.pointer (some ⟨p, 0, none⟩)] 51)).alloc (.cells #[.int .i64 po, .int .u64 ma, .int .i64 ow, .int .i64 ta, .int .i64 ol, .int .i64 ge, .int .i64 ph, .int .i64 ve, .int .i64 si] 40))
  have HS0 := Lib.hid (h.keep HX0.out)
  clear h
  have HU := Lib.hid (show lackP C ⟨po, ma, ow, ta, ol, ge, ph, ve, si⟩ = [ow, ta, ol].any (gapP C) from rfl)
  go_enter Tryz.func96, Tryz.ntmps96
  go_upto_region 1 with fail
  generalize ((w.alloc (.cells #[.pointer (some ⟨p, 0, none⟩)] 51)).alloc (.cells #[.int .i64 po, .int .u64 ma, .int .i64 ow, .int .i64 ta, .int .i64 ol, .int .i64 ge, .int .i64 ph, .int .i64 ve, .int .i64 si] 40)) = w1 at *
  obtain ⟨y0, y1, y2, y3, y4, y5, y6, y7, y8⟩ := rv_cells HQ0.out
  go_wp2_with fail
  refine (snamed_any po ma ow ta ol ge ph ve si w1).mono ?_
  rintro e w2 ⟨A, n, c, rfl, rfl, hrd, hc⟩
  have HXX := Lib.hid hc
  have HC := Lib.hid (show Calls _ _ _ _ (fun e w' => e = .returned (.bool (lackP C ⟨po, ma, ow, ta, ol, ge, ph, ve, si⟩)) ∧ Chg (fun _ => False) w2 w') from lcontains_any A 3 c [ow, ta, ol] w.heap.size w2 (HS0.out.keep hc) (HB0.out.chg hc id) _ hrd (by decide))
  clear hrd hc y0 y1 y2 y3 y4 y5 y6 y7 y8
  go_wp2_with fail
  refine HC.out.mono ?_
  rintro e w3 ⟨rfl, hc⟩
  have HX3 := Lib.hid (HX0.out.trans (HXX.out.trans hc (fun _ _ e => e)) (fun _ _ e => e))
  clear hc
  go_wp2_with fail
  go_ret
  exact ⟨rfl, HX3.out⟩


end Go.Proofs.YtimgnogacanifaaGreat
