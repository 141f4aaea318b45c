/-
  Walk: rutterlaw12.alive. Two tables, apart from one another. No condition.
-/
import Derived.Test.YtclikcbgeolngaaTl
namespace Go.Proofs.Ytclikcbgeolngaa
open Go.RowKit
set_option linter.unusedVariables false
set_option linter.unusedSimpArgs false

/-- Two tables at P and Q, their rows at o1 and o2, apart from one another and from what was there (below B). -/
structure Two12 (B P : Nat) (o1 : Option Nat) (Q : Nat) (o2 : Option Nat) : Prop where
  pq : P ≠ Q
  a : o1 ≠ some Q
  b : o2 ≠ some P
  c : ∀ k, o1 = some k → o2 ≠ some k
  p : B ≤ P
  q : B ≤ Q
  e : ∀ k, o1 = some k → B ≤ k
  f : ∀ k, o2 = some k → B ≤ k
section
variable {B P Q : Nat} {o1 o1' o2 o2' : Option Nat} {w w' : World}
theorem Two12.swap (h : Two12 B P o1 Q o2) : Two12 B Q o2 P o1 := ⟨fun e => h.pq e.symm, h.b, h.a, fun k h1 h2 => h.c k h2 h1, h.q, h.p, h.f, h.e⟩
theorem Two12.left (h : Two12 B P o1 Q o2) (hm : Mvd P o1 o1' w w') (hQ : Q < w.heap.size) (ho : ∀ k, o2 = some k → k < w.heap.size) (hB : B ≤ w.heap.size) : Two12 B P o1' Q o2 := by
  rcases hm.2 with e | e | ⟨j, e, hj⟩
  · rw [e]; exact h
  · rw [e]; exact ⟨h.pq, (by simp), h.b, (fun k hk => nomatch hk), h.p, h.q, (fun k hk => nomatch hk), h.f⟩
  · rw [e]
    refine ⟨h.pq, fun e => ?_, h.b, fun k hk h2 => ?_, h.p, h.q, fun k hk => ?_, h.f⟩
    · injection e with e
      omega
    · injection hk with hk
      have := ho k h2
      omega
    · injection hk with hk
      omega
theorem Two12.right (h : Two12 B P o1 Q o2) (hm : Mvd Q o2 o2' w w') (hP : P < w.heap.size) (ho : ∀ k, o1 = some k → k < w.heap.size) (hB : B ≤ w.heap.size) : Two12 B P o1 Q o2' := (h.swap.left hm hP ho hB).swap
end
/-- What moves a table leaves what was there as it was. -/
theorem Mvd.above {B P : Nat} {o1 o1' : Option Nat} {w0 w w' : World} (h : Chg (fun k => B ≤ k) w0 w) (hm : Mvd P o1 o1' w w') (hp : B ≤ P) (ho : ∀ k, o1 = some k → B ≤ k) : Chg (fun k => B ≤ k) w0 w' :=
  h.trans hm.1 (fun i _ e => e.elim (fun e => by omega) (ho i))
set_option maxRecDepth 100000 in
set_option maxHeartbeats 8000000 in
theorem alive12_any (w : World) : Calls Try.prog 6 #[] w fun e w' => e = .returned (.bool true) ∧ Chg (fun _ => False) w w' := by
  go_enter Try.func6, Try.ntmps6
  go_wp2_with fail
  refine (tnew_ok 10 (by decide) (by decide) w).mono ?_
  rintro e w1 ⟨rfl, hw⟩
  have HT1 : Hid (TN 51 w1 w.heap.size none 10 []) := Lib.hid (by rw [hw]; exact TN.made)
  have HC1 : Hid (Chg (fun _ => False) w w1) := Lib.hid (by rw [hw]; exact (Chg.refl _ w).alloc _)
  have HWP := Lib.hid (Nat.le_refl w.heap.size)
  have hP1 := HT1.out.lt.1
  clear hw
  generalize hP : w.heap.size = P at *
  have HPP := Lib.hid hP
  clear hP
  have HF1 : Hid (Blk (w1.alloc (.cells #[.int .i64 6, .int .u32 1, .int .u32 2, .int .i64 3, .int .i64 4] 35)) w1.heap.size 35 (flC 6 1 2 3 4)) := Lib.hid (blk_new rfl)
  have HC2 := Lib.hid (HC1.out.alloc (.cells #[.int .i64 6, .int .u32 1, .int .u32 2, .int .i64 3, .int .i64 4] 35))
  have HT2 := Lib.hid (HT1.out.new ((Chg.refl (fun _ => False) w1).alloc (.cells #[.int .i64 6, .int .u32 1, .int .u32 2, .int .i64 3, .int .i64 4] 35)))
  have HZ2 := Lib.hid (show w1.heap.size < (w1.alloc (.cells #[.int .i64 6, .int .u32 1, .int .u32 2, .int .i64 3, .int .i64 4] 35)).heap.size by simp)
  have HN := Lib.hid (tnote_any HT2.out (by decide) (by decide) 6 1 2 3 4 5)
  obtain ⟨y0, y1, y2, y3, y4⟩ := fl_cells HF1.out
  go_wp2_with fail
  generalize w1.alloc (.cells #[.int .i64 6, .int .u32 1, .int .u32 2, .int .i64 3, .int .i64 4] 35) = w2 at *
  generalize w1.heap.size = F at *
  refine HN.out.mono ?_
  rintro e w3 ⟨rfl, o3, hT, hM⟩
  have HT3 : Hid (TN 51 w3 P o3 10 [(⟨6, 1, 2, 3, 4, 15⟩ : Rc)]) := Lib.hid hT
  have hF3 : o3 ≠ some F := fun e => by
    have hz := HZ2.out
    rcases hM.2 with e2 | e2 | ⟨k, e2, hk⟩
    · rw [e2] at e; cases e
    · rw [e2] at e; cases e
    · rw [e2] at e
      injection e with e
      omega
  have HF3 := Lib.hid (HF1.out.chg hM.1 (fun e => e.elim (fun e => by omega) (fun e => by cases e)))
  have HFO := Lib.hid hF3
  have HC3 := Lib.hid ((HC2.out.mono (S' := fun k => P ≤ k) (fun _ _ e => e.elim)).trans hM.1 (fun i _ e => e.elim (fun e => Nat.le_of_eq e.symm) (fun e => by cases e)))
  have HO3 := Lib.hid (show ∀ k, o3 = some k → P ≤ k from fun k e => by
    have hz := HZ2.out
    rcases hM.2 with e2 | e2 | ⟨k2, e2, hk⟩
    · rw [e2] at e; cases e
    · rw [e2] at e; cases e
    · rw [e2] at e
      injection e with e
      omega)
  clear hT hM hF3 HN y0 y1 y2 y3 y4
  obtain ⟨y0, y1, y2, y3, y4⟩ := fl_cells HF3.out
  have hbk := fun W => rback4_any 6 1 2 3 4 W
  unfold flC at hbk
  have HBK := Lib.hid hbk
  clear hbk
  go_wp2_with fail
  refine (HBK.out _).mono ?_
  rintro e w4 ⟨rfl, hc⟩
  have HT4 := Lib.hid (HT3.out.new hc)
  have HF4 := Lib.hid (HF3.out.chg hc id)
  have HC4 := Lib.hid (HC3.out.trans hc (fun _ _ e => e.elim))
  have HN := Lib.hid (tnote_any HT4.out (by decide) (by decide) 6 2 1 4 3 9)
  clear hc y0 y1 y2 y3 y4
  go_wp2_with fail
  refine HN.out.mono ?_
  rintro e w5 ⟨rfl, o5, hT, hM⟩
  have HT5 : Hid (TN 51 w5 P o5 10 [(⟨6, 1, 2, 3, 4, 19⟩ : Rc)]) := Lib.hid hT
  have HF5 := Lib.hid (HF4.out.chg hM.1 (fun e => e.elim (fun e => by omega) HFO.out))
  have HC5 := Lib.hid (HC4.out.trans hM.1 (fun i _ e => e.elim (fun e => Nat.le_of_eq e.symm) (HO3.out i)))
  clear hT hM HN
  have HR := Lib.hid (trecords_any HT5.out (by decide) 18)
  go_wp2_with fail
  refine HR.out.mono ?_
  rintro e w6 ⟨E, k, d, rfl, hk, hown, hc⟩
  have hk1 : k = 1 := hk
  subst hk1
  have hown' : w6.ownsRow w5.heap.size 48 6 (.slice E 1 d) 1 (rcF [(⟨6, 1, 2, 3, 4, 19⟩ : Rc)]) := hown
  obtain ⟨g, rfl⟩ := own_form12 hown' (by decide)
  have HO6 := Lib.hid hown'
  have HT6 := Lib.hid (HT5.out.new hc)
  have HF6 := Lib.hid (HF5.out.chg hc id)
  have HC6 := Lib.hid (HC5.out.trans hc (fun _ _ e => e.elim))
  clear hk hown hown' hc HR
  go_wp2_with fail
  refine (tnew_ok 1 (by decide) (by decide) w6).mono ?_
  rintro e wu ⟨rfl, hw⟩
  have HU : Hid (TN 51 wu w6.heap.size none 1 []) := Lib.hid (by rw [hw]; exact TN.made)
  have hcu : Chg (fun _ => False) w6 wu := by rw [hw]; exact (Chg.refl _ w6).alloc _
  have HOU := Lib.hid (own_chg HO6.out hcu (fun _ _ => id))
  have HTU := Lib.hid (HT6.out.new hcu)
  have HFU := Lib.hid (HF6.out.chg hcu id)
  have HCU := Lib.hid (HC6.out.trans hcu (fun _ _ e => e.elim))
  have HLT := Lib.hid (show P < w6.heap.size ∧ F < w6.heap.size ∧ g < w6.heap.size ∧ (∀ k, o5 = some k → k < w6.heap.size) ∧ P ≤ w6.heap.size from ⟨HT6.out.lt.1, HF6.out.lt, (own_low HO6.out rfl).2, HT6.out.lt.2, Nat.le_of_lt HT6.out.lt.1⟩)
  clear hw hcu
  generalize w6.heap.size = U at *
  have HI := Lib.hid (timport_any HU.out (by decide) 18 (some ⟨g, 0, none⟩) 1 d [(⟨6, 1, 2, 3, 4, 19⟩ : Rc)] (fun k => k = g) ((own_rcr HOU.out rfl).mono (fun k hk => by injection hk with hk; exact hk.symm)) (fun k hk e => e.elim (fun e => by have := HLT.out.2.2.1; omega) (fun e => by cases e)) (by decide))
  go_wp2_with fail
  refine HI.out.mono ?_
  rintro e w7 ⟨rfl, o7, hT, hM⟩
  have HV : Hid (TN 51 w7 U o7 1 [(⟨6, 1, 2, 3, 4, 19⟩ : Rc)]) := Lib.hid hT
  have HT7 := Lib.hid (HTU.out.by hM (by have := HLT.out.1; omega) (by simp) (fun e => by have := HLT.out.2.2.2.1 _ e; omega) (fun k hk => by simp))
  have HF7 := Lib.hid (HFU.out.chg hM.1 (fun e => e.elim (fun e => by have := HLT.out.2.1; omega) (fun e => by cases e)))
  have HO7 := Lib.hid (own_chg HOU.out hM.1 (fun k hk e => e.elim (fun e => by injection hk with hk; have := HLT.out.2.2.1; simp at hk; omega) (fun e => by cases e)))
  have HC7 := Lib.hid (HCU.out.trans hM.1 (fun i _ e => e.elim (fun e => by have := HLT.out.2.2.2.2; omega) (fun e => by cases e)))
  clear hT hM HI
  have HK1 := Lib.hid (show ∀ W, Chg (fun _ => False) w7 W → Calls Try.prog 15 #[.pointer (some ⟨P, 0, none⟩), .agg #[.int .i64 6, .int .u32 1, .int .u32 2, .int .i64 3, .int .i64 4], .int .i64 18] W (fun e w' => e = .returned (.bool true) ∧ Chg (fun _ => False) W w') from fun W hw => tknown_any (HT7.out.new hw) 6 1 2 3 4 18)
  have HK2 := Lib.hid (show ∀ W, Chg (fun _ => False) w7 W → Calls Try.prog 15 #[.pointer (some ⟨P, 0, none⟩), .agg #[.int .i64 6, .int .u32 1, .int .u32 2, .int .i64 3, .int .i64 4], .int .i64 19] W (fun e w' => e = .returned (.bool false) ∧ Chg (fun _ => False) W w') from fun W hw => tknown_any (HT7.out.new hw) 6 1 2 3 4 19)
  have HK3 := Lib.hid (show ∀ W, Chg (fun _ => False) w7 W → Calls Try.prog 15 #[.pointer (some ⟨U, 0, none⟩), .agg #[.int .i64 6, .int .u32 2, .int .u32 1, .int .i64 4, .int .i64 3], .int .i64 18] W (fun e w' => e = .returned (.bool true) ∧ Chg (fun _ => False) W w') from fun W hw => tknown_any (HV.out.new hw) 6 2 1 4 3 18)
  have he := fun W => eqRc12 W 6 1 2 3 4 19 6 1 2 3 4 19
  rw [show rcE 6 1 2 3 4 19 6 1 2 3 4 19 = true from by decide] at he
  have HKEEP : Hid (∀ W : World, Chg (fun _ => False) w7 W → (W.cell? ⟨F, 0, none⟩ = some (.int .i64 6) ∧ W.cell? ⟨F, 1, none⟩ = some (.int .u32 1) ∧ W.cell? ⟨F, 2, none⟩ = some (.int .u32 2) ∧ W.cell? ⟨F, 3, none⟩ = some (.int .i64 3) ∧ W.cell? ⟨F, 4, none⟩ = some (.int .i64 4) ∧ W.cell? ⟨g, 0, none⟩ = some (.int .i64 6) ∧ W.cell? ⟨g, 1, none⟩ = some (.int .u32 1) ∧ W.cell? ⟨g, 2, none⟩ = some (.int .u32 2) ∧ W.cell? ⟨g, 3, none⟩ = some (.int .i64 3) ∧ W.cell? ⟨g, 4, none⟩ = some (.int .i64 4) ∧ W.cell? ⟨g, 5, none⟩ = some (.int .i64 19))) := Lib.hid (fun W hw => by
    obtain ⟨a0, a1, a2, a3, a4⟩ := fl_cells (HF7.out.chg hw id)
    obtain ⟨b0, b1, b2, b3, b4, b5⟩ := own_at12 (i := 0) (x := (⟨6, 1, 2, 3, 4, 19⟩ : Rc)) (own_chg HO7.out hw (fun _ _ => id)) rfl
    simp only [Nat.zero_mul, Nat.zero_add] at b0 b1 b2 b3 b4 b5
    exact ⟨a0, a1, a2, a3, a4, b0, b1, b2, b3, b4, b5⟩)
  have HXA := Lib.hid (Chg.refl (fun _ => False) w7).drew
  obtain ⟨y0, y1, y2, y3, y4, u0, u1, u2, u3, u4, u5⟩ := HKEEP.out _ HXA.out
  go_wp2_with fail
  go_region_held3 (fun w' => w'.cell? ⟨F, 0, none⟩ = some (.int .i64 6) ∧ w'.cell? ⟨F, 1, none⟩ = some (.int .u32 1) ∧ w'.cell? ⟨F, 2, none⟩ = some (.int .u32 2) ∧ w'.cell? ⟨F, 3, none⟩ = some (.int .i64 3) ∧ w'.cell? ⟨F, 4, none⟩ = some (.int .i64 4) ∧ w'.cell? ⟨g, 0, none⟩ = some (.int .i64 6) ∧ w'.cell? ⟨g, 1, none⟩ = some (.int .u32 1) ∧ w'.cell? ⟨g, 2, none⟩ = some (.int .u32 2) ∧ w'.cell? ⟨g, 3, none⟩ = some (.int .i64 3) ∧ w'.cell? ⟨g, 4, none⟩ = some (.int .i64 4) ∧ w'.cell? ⟨g, 5, none⟩ = some (.int .i64 19))
    (first | with_reducible exact HKEEP.out _ HXA.out | with_reducible exact HKEEP.out _ HXB.out | with_reducible exact HKEEP.out _ HXC.out | with_reducible exact HKEEP.out _ HXD.out | with_reducible exact HKEEP.out _ HXE.out | fail)
    (first
      | (go_at_call 15; (with_reducible refine (HK1.out _ HXA.out).mono ?_); rintro e wb ⟨rfl, hc⟩; have HXB := Lib.hid (HXA.out.trans hc (fun _ _ e => e)); clear hc)
      | (go_at_call 15; (with_reducible refine (HK2.out _ HXB.out).mono ?_); rintro e wc ⟨rfl, hc⟩; have HXC := Lib.hid (HXB.out.trans hc (fun _ _ e => e)); clear hc)
      | (go_at_call 17; (with_reducible refine (HBK.out _).mono ?_); rintro e wd ⟨rfl, hc⟩; have HXD := Lib.hid (HXC.out.trans hc (fun _ _ e => e)); clear hc)
      | (go_at_call 15; (with_reducible refine (HK3.out _ HXD.out).mono ?_); rintro e we ⟨rfl, hc⟩; have HXE := Lib.hid (HXD.out.trans hc (fun _ _ e => e)); clear hc)
      | fail)
  all_goals
    go_wp2_with fail
    go_ret
    exact ⟨rfl, (HC7.out.trans HXE.out (fun _ _ e => e.elim)).mono (fun k hk e => by have := HPP.out; omega)⟩

end Go.Proofs.Ytclikcbgeolngaa
