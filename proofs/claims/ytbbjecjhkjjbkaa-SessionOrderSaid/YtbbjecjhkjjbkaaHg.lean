/-
  A new end. Walks: rutterlaw11.start, begins. Conditions: the ends lie in memory.
-/
import Derived.Test.YtbbjecjhkjjbkaaHf
import Derived.Test.YtbbjecjhkjjbkaaJp
import Derived.Deep.QuietTactic
import Derived.BigQuiet
namespace Go.Proofs.Ytbbjecjhkjjbkaa
open Go.RowKit
set_option linter.unusedVariables false
set_option linter.unusedSimpArgs false

theorem en_begin {B : Nat} {w w' : World} {f : Nat → Option Nat} {L e p : Nat} {n : Int} {T : Option Addr} {t tc : Nat} {ys : List LA} {ls : List LV} (hf : FR B w f) (hp : w.heap.size ≤ p) (he : w.heap.size ≤ e) (hne : p ≠ e) (hbp : Blk w' p 92 (snC n 0 none 0 0 1 0)) (hbe : Blk w' e 66 (endC p n none 0 0 none 0 0 0 T t tc)) (hc : Chg (fun _ => False) w w')
    (row : w.ownsRow 0 24 5 (.slice T t tc) t (ys.flatMap fun y => y.cs.toList)) (rl : T.map (·.block) = f (L + 5)) (rno : t = ls.length) (bod : LB w (fun k => Gf B f k ∧ k < w.heap.size) ys ls) :
    ∃ f', EN11 B w' f' L e (newV n ls) ∧ RenD B w w' f f' (fun a => L ≤ a ∧ a ≤ L + 4) := by
  have hg : ∃ g : Nat → Option Nat, g L = some e ∧ g (L + 1) = some p ∧ g (L + 2) = none ∧ g (L + 3) = none ∧ g (L + 4) = none ∧ (∀ a, ¬ (L ≤ a ∧ a ≤ L + 4) → g a = f a) ∧ ∀ a k, g a = some k → (a = L ∧ k = e) ∨ (a = L + 1 ∧ k = p) ∨ (a ≠ L ∧ a ≠ L + 1 ∧ f a = some k) := by
    refine ⟨fun a => if a = L then some e else if a = L + 1 then some p else if L + 2 ≤ a ∧ a ≤ L + 4 then none else f a, if_pos rfl, ?_, ?_, ?_, ?_, fun a ha => ?_, fun a k hk => ?_⟩
    · dsimp only
      rw [if_neg (by omega), if_pos rfl]
    · dsimp only
      rw [if_neg (by omega), if_neg (by omega), if_pos (by omega)]
    · dsimp only
      rw [if_neg (by omega), if_neg (by omega), if_pos (by omega)]
    · dsimp only
      rw [if_neg (by omega), if_neg (by omega), if_pos (by omega)]
    · show (if a = L then some e else if a = L + 1 then some p else if L + 2 ≤ a ∧ a ≤ L + 4 then none else f a) = f a
      rw [if_neg (by omega), if_neg (by omega), if_neg (by omega)]
    · have hk : (if a = L then some e else if a = L + 1 then some p else if L + 2 ≤ a ∧ a ≤ L + 4 then none else f a) = some k := hk
      by_cases h1 : a = L
      · rw [if_pos h1] at hk
        injection hk with hk
        exact .inl ⟨h1, hk.symm⟩
      · rw [if_neg h1] at hk
        by_cases h2 : a = L + 1
        · rw [if_pos h2] at hk
          injection hk with hk
          exact .inr (.inl ⟨h2, hk.symm⟩)
        · rw [if_neg h2] at hk
          split at hk
          · cases hk
          · exact .inr (.inr ⟨h1, h2, hk⟩)
  obtain ⟨g, g0, g1, g2, g3, g4, gs, gc⟩ := hg
  have hfr : FR B w' g := by
    refine ⟨fun a b k ha hb => ?_, fun a k ha => ?_, fun a k ha => ?_, Nat.le_trans hf.le hc.size⟩
    · rcases gc a k ha with ⟨a1, a2⟩ | ⟨a1, a2⟩ | ⟨a1, a2, a3⟩
      · rcases gc b k hb with ⟨b1, b2⟩ | ⟨b1, b2⟩ | ⟨b1, b2, b3⟩
        · omega
        · omega
        · have := hf.lt b k b3; omega
      · rcases gc b k hb with ⟨b1, b2⟩ | ⟨b1, b2⟩ | ⟨b1, b2, b3⟩
        · omega
        · omega
        · have := hf.lt b k b3; omega
      · rcases gc b k hb with ⟨b1, b2⟩ | ⟨b1, b2⟩ | ⟨b1, b2, b3⟩
        · have := hf.lt a k a3; omega
        · have := hf.lt a k a3; omega
        · exact hf.inj a b k a3 b3
    · rcases gc a k ha with ⟨a1, a2⟩ | ⟨a1, a2⟩ | ⟨a1, a2, a3⟩
      · rw [a2]; exact hbe.lt
      · rw [a2]; exact hbp.lt
      · have := hf.lt a k a3; have := hc.size; omega
    · have := hf.le
      rcases gc a k ha with ⟨a1, a2⟩ | ⟨a1, a2⟩ | ⟨a1, a2, a3⟩
      · omega
      · omega
      · exact hf.lo a k a3
  have hr : RenD B w w' f g (fun a => L ≤ a ∧ a ≤ L + 4) := ⟨hfr, gs, fun k hk hl => ⟨hk.1, fun a ha => by
    rcases gc a k ha with ⟨a1, a2⟩ | ⟨a1, a2⟩ | ⟨a1, a2, a3⟩
    · omega
    · omega
    · exact hk.2 a a3⟩⟩
  have hc2 := chg_tn (f := f) (D := fun a => L ≤ a ∧ a ≤ L + 4) hc
  exact ⟨g, ⟨p, none, 0, 0, none, 0, 0, T, t, tc, ys, ⟨g0, hbe, ⟨g1, by rw [g2]; exact sn_new hbp (fun h => h.2 (L + 1) g1)⟩, World.ownsRow_nil _ _ _ _, g3.symm, rfl, World.ownsRow_nil _ _ _ _, g4.symm, rfl, own_chg row hc (fun _ _ => id), rl.trans (gs _ (by omega)).symm, rno, bod.keepD hr hc2⟩⟩, hr⟩
/-- What start hands back. -/
def StartP (n : Int) (w : World) (E : Ending) (w' : World) : Prop := ∃ p e, E = .returned (.pointer (some ⟨e, 0, none⟩)) ∧ w.heap.size ≤ p ∧ w.heap.size ≤ e ∧ p ≠ e ∧ Blk w' p 92 (snC n 0 none 0 0 1 0) ∧ Blk w' e 66 (endC p n none 0 0 none 0 0 0 none 0 0) ∧ Chg (fun _ => False) w w'
set_option maxRecDepth 100000 in
set_option maxHeartbeats 1000000 in
theorem start11_any (n : Int) (w : World) (hn : 1 ≤ n ∧ n ≤ 4294967296) : Calls Try.prog 23 #[.int .i64 n] w (StartP n w) := by
  have hw : withinB 1 4294967296 [n] = true := by unfold withinB; simp; omega
  have HNP := Lib.hid (snew11_any n w)
  have HW := Lib.hid hw
  clear hw hn
  go_enter Try.func23, Try.ntmps23
  go_wp2_with fail
  refine HNP.out.mono ?_
  rintro e w1 hp
  obtain ⟨p, rfl, hp, hb, hc⟩ := new_ok hp HW.out
  have HP := Lib.hid hp
  have HB := Lib.hid hb
  have HC := Lib.hid hc
  clear hp hb hc HNP
  go_wp2_with fail
  go_ret
  have hlt := HB.out.lt
  have hsz := HC.out.size
  exact ⟨p, w1.heap.size, rfl, HP.out, hsz, by omega, HB.out.alloc _, blk_new rfl, HC.out.alloc _⟩

/-- Does x begin as y was pushed? -/
theorem begins11_plain {x y : EV} {j : Nat} (h : Dir11 y x) (hx : One11 j x) (hy : One11 j y) : x.known = y.boot → (y.known ≠ x.boot → x.out = []) ∧ (y.known = x.boot → x.out <+: y.inp) := fun hk => by
  obtain ⟨c1, c2⟩ := h.b (by rw [← hx.kn, ← hy.bt]; exact hk)
  exact ⟨fun e => c1 (fun e2 => e (by rw [hy.kn, hx.bt]; exact e2)), fun e => c2 (by rw [← hy.kn, ← hx.bt]; exact e)⟩
set_option maxRecDepth 100000 in
set_option maxHeartbeats 4000000 in
theorem begins11_any (B : Nat) (f : Nat → Option Nat) (L M e d : Nat) (x y : EV) (w : World) (hx : EN11 B w f L e x) (hy : EN11 B w f M d y) (hb : x.known = y.boot → (y.known ≠ x.boot → x.out = []) ∧ (y.known = x.boot → x.out <+: y.inp)) : Calls Try.prog 25 #[.pointer (some ⟨e, 0, none⟩), .pointer (some ⟨d, 0, none⟩)] w fun E w' => E = .returned (.bool true) ∧ Chg (fun _ => False) w w' := by
  obtain ⟨p, I, n, ic, O, m, oc, T, t, tc, ys, hx⟩ := hx
  obtain ⟨p2, I2, n2, ic2, O2, m2, oc2, T2, t2, tc2, ys2, hy⟩ := hy
  obtain ⟨xs, xb, xk, xi, xo, xl⟩ := x
  obtain ⟨ys', yb, yk, yi, yo, yl⟩ := y
  have HX := Lib.hid hx.blk
  have HY := Lib.hid hy.blk
  have HO := Lib.hid (own_rds2 hx.out)
  have HI := Lib.hid (own_rds2 hy.inn)
  have HCP := Lib.hid (own_cap hy.inn)
  have hmo := hx.ono
  have hno := hy.ino
  simp only at hmo hno hb
  have HN := Lib.hid (And.intro hmo hno)
  have HB := Lib.hid hb
  clear hx hy hmo hno hb
  obtain ⟨x0, x1, x2, x3, x4, x5⟩ := en_cells HX.out
  obtain ⟨y0, y1, y2, y3, y4, y5⟩ := en_cells HY.out
  simp only at x1 x4 y1 y4
  clear x0 x2 x5 y0 y3 y5
  by_cases h1 : xk = yb
  case neg =>
    have t1 : (xk != yb) = true := by rw [bne_iff_ne]; exact h1
    go_enter Try.func25, Try.ntmps25
    go_upto_region 1 with fail
    go_quiet (fail)
    go_wp2_with fail
    go_ret
    exact ⟨rfl, (Chg.refl _ _).drewN _⟩
  case pos =>
    have t1 : (xk != yb) = false := by rw [h1]; simp
    by_cases h2 : yk = xb
    case neg =>
      have t2 : (yk != xb) = true := by rw [bne_iff_ne]; exact h2
      have hm0 : m = 0 := by rw [HN.out.1, (HB.out h1).1 h2]; rfl
      subst hm0
      clear h1 h2
      go_enter Try.func25, Try.ntmps25
      go_upto_region 1 with fail
      go_quiet (fail)
      have HX1 := Lib.hid (HX.out.drewN nq)
      have HY1 := Lib.hid (HY.out.drewN nq)
      have HO1 := Lib.hid (HO.out.drewN nq)
      have HI1 := Lib.hid (HI.out.drewN nq)
      have HC1 := Lib.hid ((Chg.refl (fun _ => False) w).drewN nq)
      clear x1 x3 x4 y1 y2 y4 HX HY HO HI
      obtain ⟨x0, x1, x2, x3, x4, x5⟩ := en_cells HX1.out
      obtain ⟨y0, y1, y2, y3, y4, y5⟩ := en_cells HY1.out
      simp only at x1 x4 y1 y4
      clear x0 x2 x5 y0 y3 y5
      generalize w.drewN nq = wq at *
      go_upto_region 3 with fail
      go_quiet (fail)
      have x3' : (wq.drewN nq).cell? ⟨e, 3, none⟩ = some (.slice O 0 oc) := x3
      go_wp2_with fail
      go_ret
      exact ⟨rfl, HC1.out.drewN _⟩
    case pos =>
      have t2 : (yk != xb) = false := by rw [h2]; simp
      obtain ⟨tl, htl⟩ := (HB.out h1).2 h2
      have hmn : m ≤ n2 := by rw [HN.out.1, HN.out.2, ← htl, List.length_append]; omega
      have htk : yi.take m = xo := by rw [HN.out.1, ← htl, List.take_left']; rfl
      have hcap : m ≤ ic2 := by have := HCP.out.1; omega
      have HTK := Lib.hid htk
      have HMN := Lib.hid hmn
      have c1 : (m : Int) ≤ (n2 : Int) := by omega
      have c2 : decide ((m : Int) ≤ (n2 : Int)) = true := by simpa using hmn
      have c3 : (m : Int) ≤ (ic2 : Int) := by omega
      clear h1 h2 htl htk hmn
      go_enter Try.func25, Try.ntmps25
      go_upto_region 1 with fail
      go_quiet (fail)
      have HX1 := Lib.hid (HX.out.drewN nq)
      have HY1 := Lib.hid (HY.out.drewN nq)
      have HO1 := Lib.hid (HO.out.drewN nq)
      have HI1 := Lib.hid (HI.out.drewN nq)
      have HC1 := Lib.hid ((Chg.refl (fun _ => False) w).drewN nq)
      clear x1 x3 x4 y1 y2 y4 HX HY HO HI
      obtain ⟨x0, x1, x2, x3, x4, x5⟩ := en_cells HX1.out
      obtain ⟨y0, y1, y2, y3, y4, y5⟩ := en_cells HY1.out
      simp only at x1 x4 y1 y4
      clear x0 x2 x5 y0 y3 y5
      generalize w.drewN nq = wq at *
      go_upto_region 3 with fail
      go_quiet (fail)
      have HX2 := Lib.hid (HX1.out.drewN nq)
      have HY2 := Lib.hid (HY1.out.drewN nq)
      have HC2 := Lib.hid (HC1.out.drewN nq)
      have HS1 : Hid (Rds (wq.drewN nq) _ O m (bcs xo)) := Lib.hid (HO1.out.drewN nq)
      have hs2 := (HI1.out.drewN nq).take m HMN.out
      rw [← bcs_take, HTK.out] at hs2
      have HS2 := Lib.hid hs2
      clear hs2
      clear x1 x3 x4 y1 y2 y4 HX1 HY1 HO1 HI1 HC1
      obtain ⟨x0, x1, x2, x3, x4, x5⟩ := en_cells HX2.out
      obtain ⟨y0, y1, y2, y3, y4, y5⟩ := en_cells HY2.out
      clear x0 x2 x5 y0 y3 y5
      generalize wq.drewN nq = wr at *
      have s1 := fun (k : Nat) => conv_any (c := oc) (HS1.out.drewN k)
      have s2 := fun (k : Nat) => conv_any (c := ic2) (HS2.out.drewN k)
      go_upto_region 5 with fail
      go_quiet (fail)
      go_wp2_with fail
      go_ret
      exact ⟨rfl, HC2.out.drewN _⟩

end Go.Proofs.Ytbbjecjhkjjbkaa
