/-
  A packet's cells, and whether it may be. Walks: tunnel.within, goes, Right. Conditions: none but the numbers of bytes.
-/
import Derived.Test.YtacbgelbffmngaaM1
namespace Go.Proofs.Ytacbgelbffmngaa
open Go.RowKit
set_option linter.unusedVariables false

/-- A packet's cells. -/
def pkC (k o f t p g i : Int) (A : Option Addr) (n c : Nat) : Array Value := #[.int .i64 k, .int .i64 o, .int .i64 f, .int .i64 t, .int .i64 p, .int .i64 g, .int .i64 i, .slice A n c]
/-- May a packet of its kind go from there to there? -/
def goB (k o f t : Int) : Bool := !(f == t) && ((k == 1 && f == o) || (k == 2 && (!(f == o) && !(t == o))))
/-- May a packet be, whose frame has n bytes? -/
def pkR (k o f t p g i : Int) (n : Nat) : Bool := goB k o f t && (withinB 0 15 [o, f, t] && (withinB 0 31 [p] && (withinB 1 4294967296 [g] && (withinB 0 1099511627776 [i] && withinB 14 1514 [(n : Int)]))))

theorem pk_cells {w : World} {q : Nat} {k o f t p g i : Int} {A : Option Addr} {n c : Nat} {T : TypeId} (hb : Blk w q T (pkC k o f t p g i A n c)) :
    w.cell? ⟨q, 0, none⟩ = some (.int .i64 k) ∧ w.cell? ⟨q, 1, none⟩ = some (.int .i64 o) ∧ w.cell? ⟨q, 2, none⟩ = some (.int .i64 f) ∧ w.cell? ⟨q, 3, none⟩ = some (.int .i64 t) ∧ w.cell? ⟨q, 4, none⟩ = some (.int .i64 p) ∧ w.cell? ⟨q, 5, none⟩ = some (.int .i64 g) ∧ w.cell? ⟨q, 6, none⟩ = some (.int .i64 i) ∧ w.cell? ⟨q, 7, none⟩ = some (.slice A n c) := by
  have x0 := hb.cell 0
  have x1 := hb.cell 1
  have x2 := hb.cell 2
  have x3 := hb.cell 3
  have x4 := hb.cell 4
  have x5 := hb.cell 5
  have x6 := hb.cell 6
  have x7 := hb.cell 7
  simp only [pkC, List.getElem?_toArray, List.getElem?_cons_zero, List.getElem?_cons_succ] at x0 x1 x2 x3 x4 x5 x6 x7
  exact ⟨x0, x1, x2, x3, x4, x5, x6, x7⟩
theorem pk_kept {w w' : World} {q : Nat} {k o f t p g i : Int} {A : Option Addr} {n c : Nat} {T : TypeId} (hb : Blk w q T (pkC k o f t p g i A n c)) (h : Chg (fun _ => False) w w') :
    w'.cell? ⟨q, 0, none⟩ = some (.int .i64 k) ∧ w'.cell? ⟨q, 1, none⟩ = some (.int .i64 o) ∧ w'.cell? ⟨q, 2, none⟩ = some (.int .i64 f) ∧ w'.cell? ⟨q, 3, none⟩ = some (.int .i64 t) ∧ w'.cell? ⟨q, 4, none⟩ = some (.int .i64 p) ∧ w'.cell? ⟨q, 5, none⟩ = some (.int .i64 g) ∧ w'.cell? ⟨q, 6, none⟩ = some (.int .i64 i) ∧ w'.cell? ⟨q, 7, none⟩ = some (.slice A n c) := pk_cells (hb.chg h id)

set_option maxRecDepth 100000 in
set_option maxHeartbeats 400000 in
theorem within_t (lo hi : Int) (l : List Int) (A : Option Addr) (n c : Nat) (S : Nat → Prop) (w : World) (hn : n = l.length) (hr : Rds w S A n (l.map (Value.int .i64))) (hb : n ≤ 1000) :
    Calls Try.prog 48 #[.int .i64 lo, .int .i64 hi, .slice A n c] w fun e w' => e = .returned (.bool (withinB lo hi l)) ∧ w = w' := by
  have HN := Lib.hid hn
  clear hn
  go_enter Try.func48, Try.ntmps48
  go_wp2
  go_loop [8, 11] (fun _ i => ∃ k : Nat, k ≤ n ∧ i = .int .i64 k ∧ ∀ j (hj : j < l.length), j < k → lo ≤ l[j] ∧ l[j] ≤ hi) (fun _ i => n - (intOf i).toNat)
  case atStart => exact ⟨0, Nat.zero_le _, rfl, fun j _ h => absurd h (Nat.not_lt_zero _)⟩
  case round =>
    obtain ⟨k, hk, rfl, hall⟩ := hrel
    have HA := Lib.hid hall
    clear hall
    by_cases hlt : k < n
    · obtain ⟨ad, rfl, _, _, hc⟩ := hr.cellAt hlt
      have hkl : k < l.length := by have := HN.out; omega
      rw [List.getElem?_map, List.getElem?_eq_getElem hkl] at hc
      simp only [Option.map_some] at hc
      have hv : ∃ x, x = l[k] := ⟨_, rfl⟩
      obtain ⟨x, hxe⟩ := hv
      rw [← hxe] at hc
      have HX := Lib.hid hxe
      clear hxe
      by_cases h1 : x < lo
      · go_wp2
        go_ret
        exact ⟨ret_b (within_false k hkl (by have := HX.out; omega)).symm, rfl⟩
      · by_cases h2 : hi < x
        · go_wp2
          go_ret
          exact ⟨ret_b (within_false k hkl (by have := HX.out; omega)).symm, rfl⟩
        · go_wp2
          go_round
          case rel => exact ⟨k + 1, by omega, by go_num, fun j hj hjk => by
            by_cases e : j < k
            · exact HA.out j hj e
            · have : j = k := by omega
              subst this
              have := HX.out
              omega⟩
          case measure => simp [intOf]; omega
    · have : k = n := by omega
      subst this
      go_wp2
      go_ret
      exact ⟨ret_b (within_true (fun j hj => HA.out j hj (by have := HN.out; omega))).symm, rfl⟩

set_option maxRecDepth 100000 in
set_option maxHeartbeats 400000 in
theorem goes_any (k o f t p g i : Int) (A : Option Addr) (n c : Nat) (w : World) :
    Calls Try.prog 47 #[.agg (pkC k o f t p g i A n c)] w fun e w' => e = .returned (.bool (goB k o f t)) ∧ Chg (fun _ => False) w w' := by
  unfold pkC
  have hC := Lib.hid ((Chg.refl (fun _ => False) w).alloc (.cells #[.int .i64 k, .int .i64 o, .int .i64 f, .int .i64 t, .int .i64 p, .int .i64 g, .int .i64 i, .slice A n c] 37))
  by_cases h1 : f = t
  · subst h1
    have hR := Lib.hid (show goB k o f f = false by simp [goB])
    go_enter Try.func47, Try.ntmps47
    go_wp2_with fail
    go_ret
    exact ⟨ret_b hR.out.symm, hC.out⟩
  have t1 : (f == t) = false := by simpa using h1
  by_cases h2 : k = 1
  · subst h2
    have hR := Lib.hid (show goB 1 o f t = (f == o) by simp [goB, t1])
    clear h1
    go_enter Try.func47, Try.ntmps47
    go_wp2_with fail
    go_ret
    exact ⟨ret_b hR.out.symm, hC.out⟩
  have t2 : (k == 1) = false := by simpa using h2
  by_cases h3 : k = 2
  · subst h3
    by_cases h4 : f = o
    · subst h4
      have hR := Lib.hid (show goB 2 f f t = false by simp [goB])
      clear h1 h2
      go_enter Try.func47, Try.ntmps47
      go_wp2_with fail
      go_ret
      exact ⟨ret_b hR.out.symm, hC.out⟩
    have t4 : (f == o) = false := by simpa using h4
    have s4 : (f != o) = true := by simpa using h4
    have hR := Lib.hid (show goB 2 o f t = (t != o) by simp [goB, t1, t4, bne])
    clear h1 h2 h4
    go_enter Try.func47, Try.ntmps47
    go_wp2_with fail
    go_ret
    exact ⟨ret_b hR.out.symm, hC.out⟩
  have t3 : (k == 2) = false := by simpa using h3
  have hR := Lib.hid (show goB k o f t = false by simp [goB, t2, t3])
  clear h1 h2 h3
  go_enter Try.func47, Try.ntmps47
  go_wp2_with fail
  go_ret
  exact ⟨ret_b hR.out.symm, hC.out⟩

theorem chg_eq {S : Nat → Prop} {a w w' : World} {o : Obj} (h : Chg S a w) (e : w.alloc o = w') : Chg S a w' := e ▸ h.alloc o
set_option maxRecDepth 100000 in
set_option maxHeartbeats 2000000 in
theorem tright_any (k o f t p g i : Int) (A : Option Addr) (n c : Nat) (w : World) (hn : n ≤ 9223372036854775807) :
    Calls Try.prog 29 #[.agg (pkC k o f t p g i A n c)] w fun e w' => e = .returned (.bool (pkR k o f t p g i n)) ∧ Chg (fun _ => False) w w' := by
  have hC0 := (Chg.refl (fun _ => False) w).alloc (.cells #[.int .i64 k, .int .i64 o, .int .i64 f, .int .i64 t, .int .i64 p, .int .i64 g, .int .i64 i, .slice A n c] 37)
  have hb0 : Blk (w.alloc (.cells #[.int .i64 k, .int .i64 o, .int .i64 f, .int .i64 t, .int .i64 p, .int .i64 g, .int .i64 i, .slice A n c] 37)) w.heap.size 37 (pkC k o f t p g i A n c) := blk_new rfl
  have hgo := fun W => goes_any k o f t p g i A n c W
  have HB0 := Lib.hid hb0
  have HC0 := Lib.hid hC0
  clear hb0 hC0
  unfold pkR
  generalize goB k o f t = b0 at *
  generalize hb1 : withinB 0 15 [o, f, t] = b1
  generalize hb2 : withinB 0 31 [p] = b2
  generalize hb3 : withinB 1 4294967296 [g] = b3
  generalize hb4 : withinB 0 1099511627776 [i] = b4
  generalize hb5 : withinB 14 1514 [(n : Int)] = b5
  unfold pkC at hgo ⊢
  have HGO := Lib.hid hgo
  have HB1 := Lib.hid hb1
  have HB2 := Lib.hid hb2
  have HB3 := Lib.hid hb3
  have HB4 := Lib.hid hb4
  have HB5 := Lib.hid hb5
  clear hgo hb1 hb2 hb3 hb4 hb5
  cases b0 with
  | false =>
    go_enter Try.func29, Try.ntmps29
    go_wp2_with fail
    refine (HGO.out _).mono ?_
    rintro e w1 ⟨rfl, hc1⟩
    obtain ⟨y0, y1, y2, y3, y4, y5, y6, y7⟩ := pk_kept HB0.out hc1
    have HX := Lib.hid hc1
    clear hc1 HGO
    go_wp2_with fail
    go_ret
    exact ⟨rfl, HC0.out.trans HX.out (fun _ _ e => e)⟩
  | true =>
    cases b1 with
    | false =>
      go_enter Try.func29, Try.ntmps29
      go_wp2_with fail
      refine (HGO.out _).mono ?_
      rintro e w1 ⟨rfl, hc1⟩
      obtain ⟨y0, y1, y2, y3, y4, y5, y6, y7⟩ := pk_kept HB0.out hc1
      have HX := Lib.hid hc1
      clear hc1 HGO
      go_wp2_with fail
      refine (within_t 0 15 [o, f, t] _ 3 3 _ _ rfl (rds_new1 _ _ _ _ _ rfl _ _ rfl rfl) (by decide)).mono ?_
      rw [HB1.out]
      rintro e w2 ⟨rfl, hw⟩
      have HX := Lib.hid (chg_eq HX.out hw)
      clear hw y0 y1 y2 y3 y4 y5 y6 y7
      obtain ⟨y0, y1, y2, y3, y4, y5, y6, y7⟩ := pk_kept HB0.out HX.out
      go_wp2_with fail
      go_ret
      exact ⟨rfl, HC0.out.trans HX.out (fun _ _ e => e)⟩
    | true =>
      cases b2 with
      | false =>
        go_enter Try.func29, Try.ntmps29
        go_wp2_with fail
        refine (HGO.out _).mono ?_
        rintro e w1 ⟨rfl, hc1⟩
        obtain ⟨y0, y1, y2, y3, y4, y5, y6, y7⟩ := pk_kept HB0.out hc1
        have HX := Lib.hid hc1
        clear hc1 HGO
        go_wp2_with fail
        refine (within_t 0 15 [o, f, t] _ 3 3 _ _ rfl (rds_new1 _ _ _ _ _ rfl _ _ rfl rfl) (by decide)).mono ?_
        rw [HB1.out]
        rintro e w2 ⟨rfl, hw⟩
        have HX := Lib.hid (chg_eq HX.out hw)
        clear hw y0 y1 y2 y3 y4 y5 y6 y7
        obtain ⟨y0, y1, y2, y3, y4, y5, y6, y7⟩ := pk_kept HB0.out HX.out
        go_wp2_with fail
        refine (within_t 0 31 [p] _ 1 1 _ _ rfl (rds_new1 _ _ _ _ _ rfl _ _ rfl rfl) (by decide)).mono ?_
        rw [HB2.out]
        rintro e w3 ⟨rfl, hw⟩
        have HX := Lib.hid (chg_eq HX.out hw)
        clear hw y0 y1 y2 y3 y4 y5 y6 y7
        obtain ⟨y0, y1, y2, y3, y4, y5, y6, y7⟩ := pk_kept HB0.out HX.out
        go_wp2_with fail
        go_ret
        exact ⟨rfl, HC0.out.trans HX.out (fun _ _ e => e)⟩
      | true =>
        cases b3 with
        | false =>
          go_enter Try.func29, Try.ntmps29
          go_wp2_with fail
          refine (HGO.out _).mono ?_
          rintro e w1 ⟨rfl, hc1⟩
          obtain ⟨y0, y1, y2, y3, y4, y5, y6, y7⟩ := pk_kept HB0.out hc1
          have HX := Lib.hid hc1
          clear hc1 HGO
          go_wp2_with fail
          refine (within_t 0 15 [o, f, t] _ 3 3 _ _ rfl (rds_new1 _ _ _ _ _ rfl _ _ rfl rfl) (by decide)).mono ?_
          rw [HB1.out]
          rintro e w2 ⟨rfl, hw⟩
          have HX := Lib.hid (chg_eq HX.out hw)
          clear hw y0 y1 y2 y3 y4 y5 y6 y7
          obtain ⟨y0, y1, y2, y3, y4, y5, y6, y7⟩ := pk_kept HB0.out HX.out
          go_wp2_with fail
          refine (within_t 0 31 [p] _ 1 1 _ _ rfl (rds_new1 _ _ _ _ _ rfl _ _ rfl rfl) (by decide)).mono ?_
          rw [HB2.out]
          rintro e w3 ⟨rfl, hw⟩
          have HX := Lib.hid (chg_eq HX.out hw)
          clear hw y0 y1 y2 y3 y4 y5 y6 y7
          obtain ⟨y0, y1, y2, y3, y4, y5, y6, y7⟩ := pk_kept HB0.out HX.out
          go_wp2_with fail
          refine (within_t 1 4294967296 [g] _ 1 1 _ _ rfl (rds_new1 _ _ _ _ _ rfl _ _ rfl rfl) (by decide)).mono ?_
          rw [HB3.out]
          rintro e w4 ⟨rfl, hw⟩
          have HX := Lib.hid (chg_eq HX.out hw)
          clear hw y0 y1 y2 y3 y4 y5 y6 y7
          obtain ⟨y0, y1, y2, y3, y4, y5, y6, y7⟩ := pk_kept HB0.out HX.out
          go_wp2_with fail
          go_ret
          exact ⟨rfl, HC0.out.trans HX.out (fun _ _ e => e)⟩
        | true =>
          cases b4 with
          | false =>
            go_enter Try.func29, Try.ntmps29
            go_wp2_with fail
            refine (HGO.out _).mono ?_
            rintro e w1 ⟨rfl, hc1⟩
            obtain ⟨y0, y1, y2, y3, y4, y5, y6, y7⟩ := pk_kept HB0.out hc1
            have HX := Lib.hid hc1
            clear hc1 HGO
            go_wp2_with fail
            refine (within_t 0 15 [o, f, t] _ 3 3 _ _ rfl (rds_new1 _ _ _ _ _ rfl _ _ rfl rfl) (by decide)).mono ?_
            rw [HB1.out]
            rintro e w2 ⟨rfl, hw⟩
            have HX := Lib.hid (chg_eq HX.out hw)
            clear hw y0 y1 y2 y3 y4 y5 y6 y7
            obtain ⟨y0, y1, y2, y3, y4, y5, y6, y7⟩ := pk_kept HB0.out HX.out
            go_wp2_with fail
            refine (within_t 0 31 [p] _ 1 1 _ _ rfl (rds_new1 _ _ _ _ _ rfl _ _ rfl rfl) (by decide)).mono ?_
            rw [HB2.out]
            rintro e w3 ⟨rfl, hw⟩
            have HX := Lib.hid (chg_eq HX.out hw)
            clear hw y0 y1 y2 y3 y4 y5 y6 y7
            obtain ⟨y0, y1, y2, y3, y4, y5, y6, y7⟩ := pk_kept HB0.out HX.out
            go_wp2_with fail
            refine (within_t 1 4294967296 [g] _ 1 1 _ _ rfl (rds_new1 _ _ _ _ _ rfl _ _ rfl rfl) (by decide)).mono ?_
            rw [HB3.out]
            rintro e w4 ⟨rfl, hw⟩
            have HX := Lib.hid (chg_eq HX.out hw)
            clear hw y0 y1 y2 y3 y4 y5 y6 y7
            obtain ⟨y0, y1, y2, y3, y4, y5, y6, y7⟩ := pk_kept HB0.out HX.out
            go_wp2_with fail
            refine (within_t 0 1099511627776 [i] _ 1 1 _ _ rfl (rds_new1 _ _ _ _ _ rfl _ _ rfl rfl) (by decide)).mono ?_
            rw [HB4.out]
            rintro e w5 ⟨rfl, hw⟩
            have HX := Lib.hid (chg_eq HX.out hw)
            clear hw y0 y1 y2 y3 y4 y5 y6 y7
            obtain ⟨y0, y1, y2, y3, y4, y5, y6, y7⟩ := pk_kept HB0.out HX.out
            go_wp2_with fail
            go_ret
            exact ⟨rfl, HC0.out.trans HX.out (fun _ _ e => e)⟩
          | true =>
            cases b5 with
            | false =>
              go_enter Try.func29, Try.ntmps29
              go_wp2_with fail
              refine (HGO.out _).mono ?_
              rintro e w1 ⟨rfl, hc1⟩
              obtain ⟨y0, y1, y2, y3, y4, y5, y6, y7⟩ := pk_kept HB0.out hc1
              have HX := Lib.hid hc1
              clear hc1 HGO
              go_wp2_with fail
              refine (within_t 0 15 [o, f, t] _ 3 3 _ _ rfl (rds_new1 _ _ _ _ _ rfl _ _ rfl rfl) (by decide)).mono ?_
              rw [HB1.out]
              rintro e w2 ⟨rfl, hw⟩
              have HX := Lib.hid (chg_eq HX.out hw)
              clear hw y0 y1 y2 y3 y4 y5 y6 y7
              obtain ⟨y0, y1, y2, y3, y4, y5, y6, y7⟩ := pk_kept HB0.out HX.out
              go_wp2_with fail
              refine (within_t 0 31 [p] _ 1 1 _ _ rfl (rds_new1 _ _ _ _ _ rfl _ _ rfl rfl) (by decide)).mono ?_
              rw [HB2.out]
              rintro e w3 ⟨rfl, hw⟩
              have HX := Lib.hid (chg_eq HX.out hw)
              clear hw y0 y1 y2 y3 y4 y5 y6 y7
              obtain ⟨y0, y1, y2, y3, y4, y5, y6, y7⟩ := pk_kept HB0.out HX.out
              go_wp2_with fail
              refine (within_t 1 4294967296 [g] _ 1 1 _ _ rfl (rds_new1 _ _ _ _ _ rfl _ _ rfl rfl) (by decide)).mono ?_
              rw [HB3.out]
              rintro e w4 ⟨rfl, hw⟩
              have HX := Lib.hid (chg_eq HX.out hw)
              clear hw y0 y1 y2 y3 y4 y5 y6 y7
              obtain ⟨y0, y1, y2, y3, y4, y5, y6, y7⟩ := pk_kept HB0.out HX.out
              go_wp2_with fail
              refine (within_t 0 1099511627776 [i] _ 1 1 _ _ rfl (rds_new1 _ _ _ _ _ rfl _ _ rfl rfl) (by decide)).mono ?_
              rw [HB4.out]
              rintro e w5 ⟨rfl, hw⟩
              have HX := Lib.hid (chg_eq HX.out hw)
              clear hw y0 y1 y2 y3 y4 y5 y6 y7
              obtain ⟨y0, y1, y2, y3, y4, y5, y6, y7⟩ := pk_kept HB0.out HX.out
              go_wp2_with fail
              refine (within_t 14 1514 [(n : Int)] _ 1 1 _ _ rfl (rds_new1 _ _ _ _ _ rfl _ _ rfl rfl) (by decide)).mono ?_
              rw [HB5.out]
              rintro e w6 ⟨rfl, hw⟩
              have HX := Lib.hid (chg_eq HX.out hw)
              clear hw y0 y1 y2 y3 y4 y5 y6 y7
              obtain ⟨y0, y1, y2, y3, y4, y5, y6, y7⟩ := pk_kept HB0.out HX.out
              go_wp2_with fail
              go_ret
              exact ⟨rfl, HC0.out.trans HX.out (fun _ _ e => e)⟩
            | true =>
              go_enter Try.func29, Try.ntmps29
              go_wp2_with fail
              refine (HGO.out _).mono ?_
              rintro e w1 ⟨rfl, hc1⟩
              obtain ⟨y0, y1, y2, y3, y4, y5, y6, y7⟩ := pk_kept HB0.out hc1
              have HX := Lib.hid hc1
              clear hc1 HGO
              go_wp2_with fail
              refine (within_t 0 15 [o, f, t] _ 3 3 _ _ rfl (rds_new1 _ _ _ _ _ rfl _ _ rfl rfl) (by decide)).mono ?_
              rw [HB1.out]
              rintro e w2 ⟨rfl, hw⟩
              have HX := Lib.hid (chg_eq HX.out hw)
              clear hw y0 y1 y2 y3 y4 y5 y6 y7
              obtain ⟨y0, y1, y2, y3, y4, y5, y6, y7⟩ := pk_kept HB0.out HX.out
              go_wp2_with fail
              refine (within_t 0 31 [p] _ 1 1 _ _ rfl (rds_new1 _ _ _ _ _ rfl _ _ rfl rfl) (by decide)).mono ?_
              rw [HB2.out]
              rintro e w3 ⟨rfl, hw⟩
              have HX := Lib.hid (chg_eq HX.out hw)
              clear hw y0 y1 y2 y3 y4 y5 y6 y7
              obtain ⟨y0, y1, y2, y3, y4, y5, y6, y7⟩ := pk_kept HB0.out HX.out
              go_wp2_with fail
              refine (within_t 1 4294967296 [g] _ 1 1 _ _ rfl (rds_new1 _ _ _ _ _ rfl _ _ rfl rfl) (by decide)).mono ?_
              rw [HB3.out]
              rintro e w4 ⟨rfl, hw⟩
              have HX := Lib.hid (chg_eq HX.out hw)
              clear hw y0 y1 y2 y3 y4 y5 y6 y7
              obtain ⟨y0, y1, y2, y3, y4, y5, y6, y7⟩ := pk_kept HB0.out HX.out
              go_wp2_with fail
              refine (within_t 0 1099511627776 [i] _ 1 1 _ _ rfl (rds_new1 _ _ _ _ _ rfl _ _ rfl rfl) (by decide)).mono ?_
              rw [HB4.out]
              rintro e w5 ⟨rfl, hw⟩
              have HX := Lib.hid (chg_eq HX.out hw)
              clear hw y0 y1 y2 y3 y4 y5 y6 y7
              obtain ⟨y0, y1, y2, y3, y4, y5, y6, y7⟩ := pk_kept HB0.out HX.out
              go_wp2_with fail
              refine (within_t 14 1514 [(n : Int)] _ 1 1 _ _ rfl (rds_new1 _ _ _ _ _ rfl _ _ rfl rfl) (by decide)).mono ?_
              rw [HB5.out]
              rintro e w6 ⟨rfl, hw⟩
              have HX := Lib.hid (chg_eq HX.out hw)
              clear hw y0 y1 y2 y3 y4 y5 y6 y7
              obtain ⟨y0, y1, y2, y3, y4, y5, y6, y7⟩ := pk_kept HB0.out HX.out
              go_wp2_with fail
              go_ret
              exact ⟨rfl, HC0.out.trans HX.out (fun _ _ e => e)⟩

end Go.Proofs.Ytacbgelbffmngaa
