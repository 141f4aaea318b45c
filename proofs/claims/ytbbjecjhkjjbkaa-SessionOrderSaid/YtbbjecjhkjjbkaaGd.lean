/-
  A letter's cells. Walks: session.within, sized, Session.letter. Conditions: the session, and the body, are read in memory.
-/
import Derived.Test.YtbbjecjhkjjbkaaGc
import Derived.Test.YtbbjecjhkjjbkaaQd
import Derived.Deep.RegionHeld3
namespace Go.Proofs.Ytbbjecjhkjjbkaa
open Go.RowKit
set_option linter.unusedVariables false

/-- A letter's cells. -/
def ltC (m p a s : Int) (A : Option Addr) (n c : Nat) : Array Value := #[.int .i64 m, .int .i64 p, .int .i64 a, .int .i64 s, .slice A n c]
theorem lt_cells {w : World} {r : Nat} {T : TypeId} {m p a s : Int} {A : Option Addr} {n c : Nat} (h : Blk w r T (ltC m p a s A n c)) :
    w.cell? ⟨r, 0, none⟩ = some (.int .i64 m) ∧ w.cell? ⟨r, 1, none⟩ = some (.int .i64 p) ∧ w.cell? ⟨r, 2, none⟩ = some (.int .i64 a) ∧ w.cell? ⟨r, 3, none⟩ = some (.int .i64 s) ∧ w.cell? ⟨r, 4, none⟩ = some (.slice A n c) := by
  have h0 := h.cell 0
  have h1 := h.cell 1
  have h2 := h.cell 2
  have h3 := h.cell 3
  have h4 := h.cell 4
  simp only [ltC, List.getElem?_toArray, List.getElem?_cons_zero, List.getElem?_cons_succ] at h0 h1 h2 h3 h4
  exact ⟨h0, h1, h2, h3, h4⟩
theorem lt_free {w : World} {r : Nat} {T : TypeId} {cs : Array Value} (hb : Blk w r T cs) : w.frozen? ⟨r, 0, none⟩ = false ∧ w.frozen? ⟨r, 1, none⟩ = false ∧ w.frozen? ⟨r, 2, none⟩ = false ∧ w.frozen? ⟨r, 3, none⟩ = false ∧ w.frozen? ⟨r, 4, none⟩ = false :=
  ⟨hb.frozen 0, hb.frozen 1, hb.frozen 2, hb.frozen 3, hb.frozen 4⟩
/-- Behind the stores of a letter into block r, cell by cell. -/
theorem lt_put {w : World} {r : Nat} {T : TypeId} {m p a s : Int} {A : Option Addr} {n c : Nat} (hb : Blk w r T (ltC m p a s A n c)) (m' p' a' s' : Int) (A' : Option Addr) (n' c' : Nat) :
    (w.setCell ⟨r, 0, none⟩ (.int .i64 m')).cell? ⟨r, 0, none⟩ = some (.int .i64 m') ∧
    ((w.setCell ⟨r, 0, none⟩ (.int .i64 m')).setCell ⟨r, 1, none⟩ (.int .i64 p')).cell? ⟨r, 1, none⟩ = some (.int .i64 p') ∧
    (((w.setCell ⟨r, 0, none⟩ (.int .i64 m')).setCell ⟨r, 1, none⟩ (.int .i64 p')).setCell ⟨r, 2, none⟩ (.int .i64 a')).cell? ⟨r, 2, none⟩ = some (.int .i64 a') ∧
    ((((w.setCell ⟨r, 0, none⟩ (.int .i64 m')).setCell ⟨r, 1, none⟩ (.int .i64 p')).setCell ⟨r, 2, none⟩ (.int .i64 a')).setCell ⟨r, 3, none⟩ (.int .i64 s')).cell? ⟨r, 3, none⟩ = some (.int .i64 s') ∧
    (((((w.setCell ⟨r, 0, none⟩ (.int .i64 m')).setCell ⟨r, 1, none⟩ (.int .i64 p')).setCell ⟨r, 2, none⟩ (.int .i64 a')).setCell ⟨r, 3, none⟩ (.int .i64 s')).setCell ⟨r, 4, none⟩ (.slice A' n' c')).cell? ⟨r, 4, none⟩ = some (.slice A' n' c') ∧
    Blk (((((w.setCell ⟨r, 0, none⟩ (.int .i64 m')).setCell ⟨r, 1, none⟩ (.int .i64 p')).setCell ⟨r, 2, none⟩ (.int .i64 a')).setCell ⟨r, 3, none⟩ (.int .i64 s')).setCell ⟨r, 4, none⟩ (.slice A' n' c')) r T (ltC m' p' a' s' A' n' c') ∧ Chg (fun k => k = r) w (((((w.setCell ⟨r, 0, none⟩ (.int .i64 m')).setCell ⟨r, 1, none⟩ (.int .i64 p')).setCell ⟨r, 2, none⟩ (.int .i64 a')).setCell ⟨r, 3, none⟩ (.int .i64 s')).setCell ⟨r, 4, none⟩ (.slice A' n' c')) := by
  have h0 := (hb.set 0 (.int .i64 m'))
  have r0 := h0.cell 0
  have h1 := ((hb.set 0 (.int .i64 m')).set 1 (.int .i64 p'))
  have r1 := h1.cell 1
  have h2 := (((hb.set 0 (.int .i64 m')).set 1 (.int .i64 p')).set 2 (.int .i64 a'))
  have r2 := h2.cell 2
  have h3 := ((((hb.set 0 (.int .i64 m')).set 1 (.int .i64 p')).set 2 (.int .i64 a')).set 3 (.int .i64 s'))
  have r3 := h3.cell 3
  have h4 := (((((hb.set 0 (.int .i64 m')).set 1 (.int .i64 p')).set 2 (.int .i64 a')).set 3 (.int .i64 s')).set 4 (.slice A' n' c'))
  have r4 := h4.cell 4
  simp only [ltC, List.setIfInBounds_toArray, List.set_cons_succ, List.set_cons_zero, List.getElem?_toArray, List.getElem?_cons_zero, List.getElem?_cons_succ] at r0 r1 r2 r3 r4 h4
  exact ⟨r0, r1, r2, r3, r4, h4, ((((((Chg.refl (fun k => k = r) w).put r 0 (fun _ => rfl) _).put r 1 (fun _ => rfl) _).put r 2 (fun _ => rfl) _).put r 3 (fun _ => rfl) _).put r 4 (fun _ => rfl) _)⟩

set_option maxRecDepth 100000 in
set_option maxHeartbeats 400000 in
theorem within11 (lo hi : Int) (l : List Int) (A : Option Addr) (n c : Nat) (S : Nat → Prop) (w : World) (hn : n = l.length) (hr : Rds w S A n (l.map (Value.int .i64))) (hb : n ≤ 1000) :
    Calls Try.prog 30 #[.int .i64 lo, .int .i64 hi, .slice A n c] w fun e w' => e = .returned (.bool (withinB lo hi l)) ∧ w = w' := by
  have HN := Lib.hid hn
  clear hn
  go_enter Try.func30, Try.ntmps30
  go_wp2
  go_loop [8, 11] (fun _ i => ∃ k : Nat, k ≤ n ∧ i = .int .i64 k ∧ ∀ j (hj : j < l.length), j < k → lo ≤ l[j] ∧ l[j] ≤ hi) (fun _ i => n - (intOf i).toNat)
  case atStart => exact ⟨0, Nat.zero_le _, rfl, fun j _ h => absurd h (Nat.not_lt_zero _)⟩
  case round =>
    obtain ⟨k, hk, rfl, hall⟩ := hrel
    have HA := Lib.hid hall
    clear hall
    by_cases hlt : k < n
    · obtain ⟨ad, rfl, _, _, hc⟩ := hr.cellAt hlt
      have hkl : k < l.length := by have := HN.out; omega
      rw [List.getElem?_map, List.getElem?_eq_getElem hkl] at hc
      simp only [Option.map_some] at hc
      have hv : ∃ x, x = l[k] := ⟨_, rfl⟩
      obtain ⟨x, hxe⟩ := hv
      rw [← hxe] at hc
      have HX := Lib.hid hxe
      clear hxe
      by_cases h1 : x < lo
      · go_wp2
        go_ret
        exact ⟨ret_b (within_false k hkl (by have := HX.out; omega)).symm, rfl⟩
      · by_cases h2 : hi < x
        · go_wp2
          go_ret
          exact ⟨ret_b (within_false k hkl (by have := HX.out; omega)).symm, rfl⟩
        · go_wp2
          go_round
          case rel => exact ⟨k + 1, by omega, by go_num, fun j hj hjk => by
            by_cases e : j < k
            · exact HA.out j hj e
            · have : j = k := by omega
              subst this
              have := HX.out
              omega⟩
          case measure => simp [intOf]; omega
    · have : k = n := by omega
      subst this
      go_wp2
      go_ret
      exact ⟨ret_b (within_true (fun j hj => HA.out j hj (by have := HN.out; omega))).symm, rfl⟩

set_option maxRecDepth 100000 in
set_option maxHeartbeats 400000 in
theorem sized11 (A : Option Addr) (n c : Nat) (w : World) (hn : n ≤ 9223372036854775807) : Calls Try.prog 31 #[.slice A n c] w fun e w' => e = .returned (.bool (withinB 1 1000 [(n : Int)])) ∧ Chg (fun _ => False) w w' := by
  have HW := Lib.hid (within11 1 1000 [(n : Int)] (some ⟨w.heap.size, 0, none⟩) 1 1 _ (w.alloc (.cells #[.int .i64 (n : Int)] 3)) rfl (rds_new1 w 3 #[.int .i64 (n : Int)] (0, 0) w.heap.size rfl _ 1 rfl rfl) (by decide))
  generalize withinB 1 1000 [(n : Int)] = b at *
  go_enter Try.func31, Try.ntmps31
  go_wp2_with fail
  refine HW.out.mono ?_
  rintro e w1 ⟨rfl, rfl⟩
  go_wp2_with fail
  go_ret
  exact ⟨rfl, (Chg.refl _ w).alloc _⟩

/-- What a call that makes a letter hands back; its body is new memory. -/
def HL (m p a s : Int) (b : List UInt8) (w : World) (e : Ending) (w' : World) : Prop :=
  ∃ E d, e = .returned (.agg (ltC m p a s E b.length d)) ∧ (E = none → d = 0) ∧ Rds w' (fun k => w.heap.size ≤ k) E b.length (bcs b) ∧ Chg (fun _ => False) w w'

set_option maxRecDepth 100000 in
set_option maxHeartbeats 2000000 in
theorem letter_any (p : Nat) (o : Option Nat) (G : Nat → Prop) (x : SV) (seq : Int) (B : Option Addr) (n d : Nat) (b : List UInt8) (S : Nat → Prop) (w : World) (h : SN w p o G x) (hn : n = b.length) (hr : Rds w S B n (bcs b)) (hz : B = none → d = 0) (hbig : n ≤ 1000) :
    Calls Try.prog 47 #[.pointer (some ⟨p, 0, none⟩), .int .i64 seq, .slice B n d] w (HL x.mi x.pe x.go seq b w) := by
  obtain ⟨mi, pe, nx, go, q⟩ := x
  obtain ⟨A, c, vs, hb, -⟩ := h
  simp only at hb ⊢
  subst hn
  have hplt := hb.lt
  have HR0 : Hid (Blk (w.alloc (.cells #[.int .i64 0, .int .i64 0, .int .i64 0, .int .i64 0, .slice none 0 0] 24)) w.heap.size 24 (ltC 0 0 0 0 none 0 0)) := Lib.hid (blk_new rfl)
  have HP0 := Lib.hid (hb.alloc (.cells #[.int .i64 0, .int .i64 0, .int .i64 0, .int .i64 0, .slice none 0 0] 24))
  have HX0 := Lib.hid ((Chg.refl (fun _ => False) w).alloc (.cells #[.int .i64 0, .int .i64 0, .int .i64 0, .int .i64 0, .slice none 0 0] 24))
  have HCL := Lib.hid (fun (W : World) (hw : Chg (fun _ => False) w W) => tclone_any B b.length d b S W rfl (hr.chg hw (fun _ _ => id)) hz (by omega))
  clear hb hr hz
  go_enter Try.func47, Try.ntmps47
  go_upto_region 1 with fail
  generalize w.alloc (.cells #[.int .i64 0, .int .i64 0, .int .i64 0, .int .i64 0, .slice none 0 0] 24) = w1 at *
  have HKEEP : Hid (∀ W : World, Chg (fun k => k = w.heap.size) w1 W → (W.cell? ⟨p, 0, none⟩ = some (.int .i64 mi) ∧ W.cell? ⟨p, 1, none⟩ = some (.int .i64 pe) ∧ W.cell? ⟨p, 4, none⟩ = some (.int .i64 go))) := Lib.hid (fun W hw => by
    obtain ⟨x0, x1, _, _, x4⟩ := sn_cells (HP0.out.chg hw (by omega))
    exact ⟨x0, x1, x4⟩)
  have HX := Lib.hid (Chg.refl (fun _ => False) w1).drew
  have HXA := Lib.hid (Chg.refl (fun k => k = w.heap.size) w1).drew
  go_wp2_with fail
  go_region_held3 (fun w' => w'.cell? ⟨p, 0, none⟩ = some (.int .i64 mi) ∧ w'.cell? ⟨p, 1, none⟩ = some (.int .i64 pe) ∧ w'.cell? ⟨p, 4, none⟩ = some (.int .i64 go))
    (first | with_reducible exact HKEEP.out _ HXA.out | with_reducible exact HKEEP.out _ HXB.out | with_reducible exact HKEEP.out _ HXC.out | fail)
    (first
      | (go_at_call 45; (with_reducible refine (HCL.out _ (HX0.out.trans HX.out (fun _ _ e => e))).mono ?_); rintro e w3 ⟨E, ed, rfl, hown, hc⟩; have HX := Lib.hid (HX.out.trans hc (fun _ _ e => e)); have HXB := Lib.hid (HXA.out.trans (hc.mono (S' := fun k => k = w.heap.size) (fun _ _ h => h.elim)) (fun _ _ e => e)); have HO := Lib.hid hown; clear hown hc; have HBS := Lib.hid HR0.out.lt; replace HX0 := Lib.hid (HX0.out.trans HX.out (fun _ _ e => e)); replace HR0 := Lib.hid (HR0.out.chg HX.out id); obtain ⟨x0, x1, x2, x3, x4⟩ := lt_cells HR0.out; obtain ⟨u0, u1, u2, u3, u4⟩ := lt_free HR0.out; obtain ⟨r0, r1, r2, r3, r4, -, hcs⟩ := lt_put HR0.out mi pe go seq E b.length ed; have HXC := Lib.hid (HXB.out.trans hcs (fun _ _ e => e)); have HF := Lib.hid (fresh_set HX0.out hcs (Nat.le_refl _)); have HCS := Lib.hid hcs; have RR := Lib.hid (And.intro r0 (And.intro r1 (And.intro r2 (And.intro r3 r4)))); clear r0 r1 r2 r3 r4 hcs)
      | fail)
  all_goals
    go_wp2_with fail
    obtain ⟨r0, r1, r2, r3, r4⟩ := RR.out
    have hnil := own_nil HO.out
    have hbs := HBS.out
    have hrd := (own_rds2 HO.out).chg HCS.out (fun k hk e => by have : w1.heap.size ≤ k := hk.1; omega)
    exact bodyPost_ret (v := .agg (ltC mi pe go seq E b.length ed)) (by simp [results, Try.results47, go_sem, ltC, r0, r1, r2, r3, r4]) rfl ⟨E, ed, rfl, hnil, hrd.mono (fun k hk => by have : w1.heap.size ≤ k := hk.1; omega), HF.out⟩

end Go.Proofs.Ytbbjecjhkjjbkaa
