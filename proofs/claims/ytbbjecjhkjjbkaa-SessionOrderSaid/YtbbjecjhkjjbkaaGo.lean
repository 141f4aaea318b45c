/-
  A session and the document's, side by side. Walk: rutterlaw11.step. Conditions: both lie in memory; the act's bytes are read in memory apart from them.
-/
import Derived.Test.YtbbjecjhkjjbkaaGn
import Derived.Test.YtbbjecjhkjjbkaaGm
namespace Go.Proofs.Ytbbjecjhkjjbkaa
open Go.RowKit
set_option linter.unusedVariables false
set_option linter.unusedSimpArgs false

/-- Where bodies may lie: from B on, in no block of the two. -/
def Gt (B p q : Nat) (o o2 : Option Nat) (k : Nat) : Prop := B ≤ k ∧ k ≠ p ∧ o ≠ some k ∧ k ≠ q ∧ o2 ≠ some k
/-- Block p is the session y, block q the document's session x; all of both lies from B on. -/
structure TW2 (B : Nat) (w : World) (p q : Nat) (o o2 : Option Nat) (y x : SV) : Prop where
  sn : SN w p o (Gt B p q o o2) y
  rn : RN w q o2 x
  bp : B ≤ p
  bq : B ≤ q
  bo : ∀ k, o = some k → B ≤ k
  bo2 : ∀ k, o2 = some k → B ≤ k
  pq : p ≠ q
  oq : o ≠ some q
  op : o2 ≠ some p
  oo : ∀ k, o = some k → o2 ≠ some k
theorem TW2.fst {B : Nat} {w w' : World} {p q : Nat} {o o2 : Option Nat} {y x y' : SV} (h : TW2 B w p q o o2 y x) (hm : SM p o (Gt B p q o o2) y' w w') : ∃ o', TW2 B w' p q o' o2 y' x ∧ Chg (fun k => B ≤ k) w w' := by
  obtain ⟨o', hs, hmv⟩ := hm
  have hp := h.sn.lt
  have hq := h.rn.lt
  have hB : B ≤ w.heap.size := Nat.le_of_lt (Nat.lt_of_le_of_lt h.bp hp.1)
  have h7 : ∀ k, o' = some k → ¬ GN (Gt B p q o o2) w o' k := by obtain ⟨_, _, _, _, _, _, _, _, _, h⟩ := hs; exact h
  have ho' : ∀ k, o' = some k → o = some k ∨ w.heap.size ≤ k := fun k hk => by
    rcases hmv.2 with e | e | ⟨j, e, hj⟩
    · exact .inl (by rw [← e]; exact hk)
    · rw [e] at hk; cases hk
    · rw [e] at hk
      injection hk with hk
      exact .inr (by omega)
  refine ⟨o', ⟨hs.mono (fun k hk _ => ?_) (fun e => e.2.1 rfl) (fun k hk e => e.2.2.1 hk), h.rn.chg hmv.1 ?_ ?_, h.bp, h.bq, fun k hk => ?_, h.bo2, h.pq, fun e => ?_, h.op, fun k hk e => ?_⟩, hmv.1.mono (fun k _ e => ?_)⟩
  · rcases hk with ⟨⟨g1, g2, g3, g4, g5⟩, hl⟩ | ⟨hl, hne⟩
    · exact ⟨g1, g2, fun e => h7 k e (.inl ⟨⟨g1, g2, g3, g4, g5⟩, hl⟩), g4, g5⟩
    · exact ⟨by omega, by omega, hne, by have := hq.1; omega, fun e => by have := hq.2 k e; omega⟩
  · rintro (e | e)
    · exact h.pq e.symm
    · exact h.oq e
  · rintro k hk (e | e)
    · subst e; exact h.op hk
    · exact h.oo k e hk
  · rcases ho' k hk with e | e
    · exact h.bo k e
    · omega
  · rcases ho' q e with e | e
    · exact h.oq e
    · have := hq.1
      omega
  · rcases ho' k hk with e2 | e2
    · exact h.oo k e2 e
    · have := hq.2 k e
      omega
  · rcases e with e | e
    · have := h.bp
      omega
    · exact h.bo k e
theorem TW2.snd {B : Nat} {w w' : World} {p q : Nat} {o o2 : Option Nat} {y x x' : SV} (h : TW2 B w p q o o2 y x) (hm : RMv q o2 x' w w') : ∃ o2', TW2 B w' p q o o2' y x' ∧ Chg (fun k => B ≤ k) w w' := by
  obtain ⟨o2', hs, hmv⟩ := hm
  have hp := h.sn.lt
  have hq := h.rn.lt
  have hB : B ≤ w.heap.size := Nat.le_of_lt (Nat.lt_of_le_of_lt h.bp hp.1)
  have ho' : ∀ k, o2' = some k → o2 = some k ∨ w.heap.size ≤ k := fun k hk => by
    rcases hmv.2 with e | e | ⟨j, e, hj⟩
    · exact .inl (by rw [← e]; exact hk)
    · rw [e] at hk; cases hk
    · rw [e] at hk
      injection hk with hk
      exact .inr (by omega)
  have hsn : SN w' p o (fun k => Gt B p q o o2 k ∧ k < w.heap.size) y := h.sn.old.chg hmv.1 (by
    rintro (e | e)
    · exact h.pq e
    · exact h.op e) (by
    rintro k hk (e | e)
    · subst e; exact h.oq hk
    · exact h.oo k hk e) (by
    rintro k ⟨⟨_, _, _, g4, g5⟩, _⟩ (e | e)
    · exact g4 e
    · exact g5 e)
  refine ⟨o2', ⟨hsn.mono (fun k hk _ => ?_) (fun e => e.2.1 rfl) (fun k hk e => e.2.2.1 hk), hs, h.bp, h.bq, h.bo, fun k hk => ?_, h.pq, h.oq, fun e => ?_, fun k hk e => ?_⟩, hmv.1.mono (fun k _ e => ?_)⟩
  · obtain ⟨⟨g1, g2, g3, g4, g5⟩, hl⟩ := hk
    refine ⟨g1, g2, g3, g4, fun e => ?_⟩
    rcases ho' k e with e | e
    · exact g5 e
    · omega
  · rcases ho' k hk with e | e
    · exact h.bo2 k e
    · omega
  · rcases ho' p e with e | e
    · exact h.op e
    · have := hp.1
      omega
  · rcases ho' k e with e2 | e2
    · exact h.oo k hk e2
    · have := hp.2 k hk
      omega
  · rcases e with e | e
    · have := h.bq
      omega
    · exact h.bo2 k e
theorem TW2.new {B : Nat} {w w' : World} {p q : Nat} {o o2 : Option Nat} {y x : SV} (h : TW2 B w p q o o2 y x) (hc : Chg (fun _ => False) w w') : TW2 B w' p q o o2 y x :=
  ⟨h.sn.new hc, h.rn.new hc, h.bp, h.bq, h.bo, h.bo2, h.pq, h.oq, h.op, h.oo⟩
theorem TW2.le {B : Nat} {w : World} {p q : Nat} {o o2 : Option Nat} {y x : SV} (h : TW2 B w p q o o2 y x) : B ≤ w.heap.size := Nat.le_of_lt (Nat.lt_of_le_of_lt h.bp h.sn.lt.1)

/-- An act, as it is read. -/
structure At11 where
  k : Int
  A : Option Addr
  n : Nat
  c : Nat
  b : List UInt8
  A2 : Option Addr
  n2 : Nat
  c2 : Nat
  l : LV
def At11.cs (x : At11) : Array Value := #[.int .u8 x.k, .slice x.A x.n x.c, .int .i64 x.l.mi, .int .i64 x.l.pe, .int .i64 x.l.ac, .int .i64 x.l.se, .slice x.A2 x.n2 x.c2]
/-- Its bytes lie in memory, in blocks of S. -/
structure At11.is (w : World) (S : Nat → Prop) (x : At11) : Prop where
  k : 0 ≤ x.k ∧ x.k ≤ 255
  n : x.n = x.b.length
  nm : x.n ≤ 9223372036854775807
  z : x.A = none → x.c = 0
  r : Rds w S x.A x.n (bcs x.b)
  n2 : x.n2 = x.l.b.length
  nm2 : x.n2 ≤ 9223372036854775807
  z2 : x.A2 = none → x.c2 = 0
  r2 : Rds w S x.A2 x.n2 (bcs x.l.b)
theorem At11.is_chg {w w' : World} {S S' : Nat → Prop} {x : At11} (h : x.is w S) (hc : Chg S' w w') (hd : ∀ k, S k → ¬ S' k) : x.is w' S :=
  ⟨h.k, h.n, h.nm, h.z, h.r.chg hc hd, h.n2, h.nm2, h.z2, h.r2.chg hc hd⟩
/-- What an act makes of a session. -/
def stS (y : SV) (x : At11) : SV := if x.k % 8 < 3 then pushS y x.b else if x.k % 8 = 3 then y else tkS y x.l
def StepP11 (B p q : Nat) (y : SV) (x : At11) (w : World) (e : Ending) (w' : World) : Prop := e = .returned (.bool true) ∧ ∃ o o2, TW2 B w' p q o o2 (stS y x) (stS y x) ∧ Chg (fun k => B ≤ k) w w'

theorem sm_keep {p : Nat} {o : Option Nat} {G : Nat → Prop} {y : SV} {w w' : World} {v : Nat} {T : TypeId} {cs : Array Value} (h : SM p o G y w w') (hb : Blk w v T cs) (hp : v ≠ p) (ho : o ≠ some v) : Blk w' v T cs := by
  obtain ⟨o', _, hm⟩ := h
  exact hb.chg hm.1 (fun e => e.elim hp ho)
theorem rm_keep {p : Nat} {o : Option Nat} {y : SV} {w w' : World} {v : Nat} {T : TypeId} {cs : Array Value} (h : RMv p o y w w') (hb : Blk w v T cs) (hp : v ≠ p) (ho : o ≠ some v) : Blk w' v T cs := by
  obtain ⟨o', _, hm⟩ := h
  exact hb.chg hm.1 (fun e => e.elim hp ho)
theorem outS_len (x : SV) : (outS x).length ≤ 8 := by
  unfold outS
  split
  · simp
  · rw [List.length_map, List.length_range]
    omega

set_option maxRecDepth 100000 in
set_option maxHeartbeats 4000000 in
theorem step11_any (B p q : Nat) (o o2 : Option Nat) (y : SV) (x : At11) (w : World) (h : TW2 B w p q o o2 y y) (hok : SOk y) (hx : x.is w (fun k => k < B)) (hn : x.n ≤ 2000) (hn2 : x.n2 ≤ 2000) : Calls Try.prog 17 #[.pointer (some ⟨p, 0, none⟩), .pointer (some ⟨q, 0, none⟩), .agg x.cs] w (StepP11 B p q y x w) := by
  obtain ⟨k, A, n, c, b, A2, n2, c2, ⟨lm, lp, la, ls, lb⟩⟩ := x
  obtain ⟨hk, hn', hnm, hz, hr, hn2', hnm2, hz2, hr2⟩ := hx
  simp only at hk hn' hnm hz hr hn2' hnm2 hz2 hr2 hn hn2
  subst hn' hn2'
  have HC0 := Lib.hid ((Chg.refl (fun _ => False) w).alloc (.cells #[.int .u8 k, .slice A b.length c, .int .i64 lm, .int .i64 lp, .int .i64 la, .int .i64 ls, .slice A2 lb.length c2] 49))
  have HX := Lib.hid ((Chg.refl (fun j => B ≤ j) w).alloc (.cells #[.int .u8 k, .slice A b.length c, .int .i64 lm, .int .i64 lp, .int .i64 la, .int .i64 ls, .slice A2 lb.length c2] 49))
  have HAP := Lib.hid (show w.heap.size ≠ p ∧ o ≠ some w.heap.size ∧ w.heap.size ≠ q ∧ o2 ≠ some w.heap.size from by
    have h1 := h.sn.lt
    have h2 := h.rn.lt
    exact ⟨by omega, fun e => by have := h1.2 _ e; omega, by omega, fun e => by have := h2.2 _ e; omega⟩)
  have HT := Lib.hid (h.new HC0.out)
  have HQ : Hid (Blk (w.alloc (.cells #[.int .u8 k, .slice A b.length c, .int .i64 lm, .int .i64 lp, .int .i64 la, .int .i64 ls, .slice A2 lb.length c2] 49)) w.heap.size 49 #[.int .u8 k, .slice A b.length c, .int .i64 lm, .int .i64 lp, .int .i64 la, .int .i64 ls, .slice A2 lb.length c2]) := Lib.hid (blk_new rfl)
  have HCEL : Hid (∀ W, Blk W w.heap.size 49 #[.int .u8 k, .slice A b.length c, .int .i64 lm, .int .i64 lp, .int .i64 la, .int .i64 ls, .slice A2 lb.length c2] → (W.cell? ⟨w.heap.size, 0, none⟩ = some (.int .u8 k) ∧ W.cell? ⟨w.heap.size, 1, none⟩ = some (.slice A b.length c) ∧ W.cell? ⟨w.heap.size, 2, none⟩ = some (.int .i64 lm) ∧ W.cell? ⟨w.heap.size, 3, none⟩ = some (.int .i64 lp) ∧ W.cell? ⟨w.heap.size, 4, none⟩ = some (.int .i64 la) ∧ W.cell? ⟨w.heap.size, 5, none⟩ = some (.int .i64 ls) ∧ W.cell? ⟨w.heap.size, 6, none⟩ = some (.slice A2 lb.length c2))) := Lib.hid (fun W hW => by
    have x0 := hW.cell 0
    have x1 := hW.cell 1
    have x2 := hW.cell 2
    have x3 := hW.cell 3
    have x4 := hW.cell 4
    have x5 := hW.cell 5
    have x6 := hW.cell 6
    simp only [List.getElem?_toArray, List.getElem?_cons_zero, List.getElem?_cons_succ] at x0 x1 x2 x3 x4 x5 x6
    exact ⟨x0, x1, x2, x3, x4, x5, x6⟩)
  have HR := Lib.hid (hr.chg HC0.out (fun _ _ => id))
  have HR2 := Lib.hid (hr2.chg HC0.out (fun _ _ => id))
  have HOK := Lib.hid hok
  have hbp := h.bp
  have hbo := h.bo
  have hqlt := h.rn.lt.1
  have ho2lt := h.rn.lt.2
  clear h hok hr hr2 HC0
  unfold At11.cs
  by_cases h1 : k % 8 < 3
  case pos =>
    have HV := Lib.hid (show stS y ⟨k, A, b.length, c, b, A2, lb.length, c2, ⟨lm, lp, la, ls, lb⟩⟩ = pushS y b from if_pos h1)
    go_enter Try.func17, Try.ntmps17
    go_upto_region 1 with fail
    generalize w.alloc (.cells #[.int .u8 k, .slice A b.length c, .int .i64 lm, .int .i64 lp, .int .i64 la, .int .i64 ls, .slice A2 lb.length c2] 49) = w1 at *
    have hql : w.heap.size < w1.heap.size := HQ.out.lt
    obtain ⟨y0, y1, y2, y3, y4, y5, y6⟩ := HCEL.out _ HQ.out
    have HPU := Lib.hid (spush_any p o _ y A b.length c b _ w1 HT.out.sn HOK.out.len rfl HR.out hz (by omega))
    go_wp2_with fail
    refine HPU.out.mono ?_
    rintro e w2 ⟨rfl, hsm⟩
    clear y0 y1 y2 y3 y4 y5 y6
    obtain ⟨o1, ht, hc⟩ := HT.out.fst hsm
    replace HQ := Lib.hid (sm_keep hsm HQ.out HAP.out.1 HAP.out.2.1)
    replace HR := Lib.hid (HR.out.chg hc (fun j hj e => by omega))
    replace HR2 := Lib.hid (HR2.out.chg hc (fun j hj e => by omega))
    replace HT := Lib.hid ht
    replace HX := Lib.hid (HX.out.trans hc (fun _ _ e => e))
    clear hsm ht hc
    obtain ⟨y0, y1, y2, y3, y4, y5, y6⟩ := HCEL.out _ HQ.out
    have s1 := conv_any (c := c) HR.out
    have HPR := Lib.hid (rpush_any q o2 y b w2 HT.out.rn HOK.out.len (by omega))
    generalize pushE y b = v at *
    clear HPU
    go_wp2_with fail
    refine HPR.out.mono ?_
    rintro e w3 ⟨rfl, hsm⟩
    clear y0 y1 y2 y3 y4 y5 y6
    obtain ⟨o3, ht, hc⟩ := HT.out.snd hsm
    replace HQ := Lib.hid (rm_keep hsm HQ.out HAP.out.2.2.1 HAP.out.2.2.2)
    replace HR := Lib.hid (HR.out.chg hc (fun j hj e => by omega))
    replace HR2 := Lib.hid (HR2.out.chg hc (fun j hj e => by omega))
    replace HT := Lib.hid ht
    replace HX := Lib.hid (HX.out.trans hc (fun _ _ e => e))
    clear hsm ht hc
    clear HPR s1
    go_wp2_with fail
    go_ret
    refine ⟨ret_b (by simp), o1, o3, ?_, HX.out⟩
    rw [HV.out]
    exact HT.out
  by_cases h2 : k % 8 = 3
  case pos =>
    have t2 : (k % 8 == 3) = true := by simpa using h2
    have HV := Lib.hid (show stS y ⟨k, A, b.length, c, b, A2, lb.length, c2, ⟨lm, lp, la, ls, lb⟩⟩ = y from (if_neg h1).trans (if_pos h2))
    go_enter Try.func17, Try.ntmps17
    go_upto_region 1 with fail
    generalize w.alloc (.cells #[.int .u8 k, .slice A b.length c, .int .i64 lm, .int .i64 lp, .int .i64 la, .int .i64 ls, .slice A2 lb.length c2] 49) = w1 at *
    have hql : w.heap.size < w1.heap.size := HQ.out.lt
    obtain ⟨y0, y1, y2, y3, y4, y5, y6⟩ := HCEL.out _ HQ.out
    have HOU := Lib.hid (sout_any p o _ y w1 HT.out.sn HOK.out)
    go_wp2_with fail
    refine HOU.out.mono ?_
    rintro e w2 ⟨E, en, ec, ys, rfl, hen, hown, hlb, hc⟩
    clear y0 y1 y2 y3 y4 y5 y6
    replace HQ := Lib.hid (HQ.out.chg hc id)
    replace HR := Lib.hid (HR.out.chg hc (fun _ _ => id))
    replace HR2 := Lib.hid (HR2.out.chg hc (fun _ _ => id))
    replace HT := Lib.hid (HT.out.new hc)
    replace HX := Lib.hid (HX.out.trans (hc.mono (S' := fun j => B ≤ j) (fun _ _ h => h.elim)) (fun _ _ e => e))
    obtain ⟨y0, y1, y2, y3, y4, y5, y6⟩ := HCEL.out _ HQ.out
    have HO := Lib.hid hown
    have HL := Lib.hid hlb
    have HEN := Lib.hid hen
    have HRO := Lib.hid (rout_any q o2 y w2 HT.out.rn HOK.out.len HOK.out.nx0)
    clear hc hown hlb hen HOU
    go_wp2_with fail
    refine HRO.out.mono ?_
    rintro e w3 ⟨E2, en2, ec2, rfl, hen2, hown2, hc⟩
    clear y0 y1 y2 y3 y4 y5 y6
    replace HQ := Lib.hid (HQ.out.chg hc id)
    replace HR := Lib.hid (HR.out.chg hc (fun _ _ => id))
    replace HR2 := Lib.hid (HR2.out.chg hc (fun _ _ => id))
    replace HT := Lib.hid (HT.out.new hc)
    replace HX := Lib.hid (HX.out.trans (hc.mono (S' := fun j => B ≤ j) (fun _ _ h => h.elim)) (fun _ _ e => e))
    obtain ⟨y0, y1, y2, y3, y4, y5, y6⟩ := HCEL.out _ HQ.out
    have hen3 : en = en2 := by rw [HEN.out, hen2]
    subst hen3
    have HLE := Lib.hid (letters_any E E2 en ec ec2 _ _ ys (outS y) _ w3 (own_chg HO.out hc (fun _ _ => id)) (HL.out.chg hc (fun _ _ => id)) hown2 HEN.out (by have := HEN.out; have := outS_len y; omega))
    clear hc hown2 hen2 HRO
    go_wp2_with fail
    refine HLE.out.mono ?_
    rintro e w4 ⟨rfl, hc⟩
    clear y0 y1 y2 y3 y4 y5 y6
    replace HQ := Lib.hid (HQ.out.chg hc id)
    replace HR := Lib.hid (HR.out.chg hc (fun _ _ => id))
    replace HR2 := Lib.hid (HR2.out.chg hc (fun _ _ => id))
    replace HT := Lib.hid (HT.out.new hc)
    replace HX := Lib.hid (HX.out.trans (hc.mono (S' := fun j => B ≤ j) (fun _ _ h => h.elim)) (fun _ _ e => e))
    clear hc HLE
    go_wp2_with fail
    go_ret
    refine ⟨rfl, o, o2, ?_, HX.out⟩
    rw [HV.out]
    exact HT.out
  case neg =>
    have t2 : (k % 8 == 3) = false := by simpa using h2
    have HV := Lib.hid (show stS y ⟨k, A, b.length, c, b, A2, lb.length, c2, ⟨lm, lp, la, ls, lb⟩⟩ = tkS y ⟨lm, lp, la, ls, lb⟩ from (if_neg h1).trans (if_neg h2))
    go_enter Try.func17, Try.ntmps17
    go_upto_region 1 with fail
    generalize w.alloc (.cells #[.int .u8 k, .slice A b.length c, .int .i64 lm, .int .i64 lp, .int .i64 la, .int .i64 ls, .slice A2 lb.length c2] 49) = w1 at *
    have hql : w.heap.size < w1.heap.size := HQ.out.lt
    obtain ⟨y0, y1, y2, y3, y4, y5, y6⟩ := HCEL.out _ HQ.out
    have HTK := Lib.hid (stake_any p o _ y ⟨lm, lp, la, ls, lb⟩ A2 lb.length c2 _ w1 HT.out.sn HOK.out rfl HR2.out hz2 (by omega) (by omega) (fun j hj e => by have := hbo j hj; omega))
    unfold TakeP at HTK
    generalize htb : tkB y ⟨lm, lp, la, ls, lb⟩ = tb at *
    generalize htg : tkGot y ⟨lm, lp, la, ls, lb⟩ = tg at *
    generalize htr : tkRes y ⟨lm, lp, la, ls, lb⟩ = tr at *
    generalize hte : tkE y ⟨lm, lp, la, ls, lb⟩ = te at *
    have HTE := Lib.hid (And.intro htb (And.intro htg (And.intro htr hte)))
    clear htb htg htr hte
    unfold ltC at HTK
    go_wp2_with fail
    refine HTK.out.mono ?_
    rintro e w2 ⟨E, ed, rfl, hez, hre, hsmq⟩
    have hsm := hsmq.sm
    clear hsmq
    clear y0 y1 y2 y3 y4 y5 y6
    obtain ⟨o1, ht, hc⟩ := HT.out.fst hsm
    replace HQ := Lib.hid (sm_keep hsm HQ.out HAP.out.1 HAP.out.2.1)
    replace HR := Lib.hid (HR.out.chg hc (fun j hj e => by omega))
    replace HR2 := Lib.hid (HR2.out.chg hc (fun j hj e => by omega))
    replace HT := Lib.hid ht
    replace HX := Lib.hid (HX.out.trans hc (fun _ _ e => e))
    clear hsm ht hc
    have hb8 : w.heap.size < w2.heap.size := HQ.out.lt
    have hc := (Chg.refl (fun _ => False) w2).alloc (.cells #[.slice E tb.length ed, .bool tg, .bool tr] 55)
    have HE8 : Hid (Blk (w2.alloc (.cells #[.slice E tb.length ed, .bool tg, .bool tr] 55)) w2.heap.size 55 (tkC E tb.length ed tg tr)) := Lib.hid (blk_new rfl)
    replace HQ := Lib.hid (HQ.out.chg hc id)
    replace HR := Lib.hid (HR.out.chg hc (fun _ _ => id))
    replace HR2 := Lib.hid (HR2.out.chg hc (fun _ _ => id))
    replace HT := Lib.hid (HT.out.new hc)
    replace HX := Lib.hid (HX.out.trans (hc.mono (S' := fun j => B ≤ j) (fun _ _ h => h.elim)) (fun _ _ e => e))
    have HRE := Lib.hid (hre.chg hc (fun _ _ => id))
    have HOF := Lib.hid (of11_any lm lp la ls A2 lb.length c2 lb _ _ rfl HR2.out)
    obtain ⟨y0, y1, y2, y3, y4, y5, y6⟩ := HCEL.out _ HQ.out
    unfold tkC
    unfold ltC at HOF
    clear hc hre hez HTK
    go_wp2_with fail
    refine HOF.out.mono ?_
    rintro e w3 ⟨rfl, hc⟩
    clear y0 y1 y2 y3 y4 y5 y6
    replace HQ := Lib.hid (HQ.out.chg hc id)
    replace HR := Lib.hid (HR.out.chg hc (fun _ _ => id))
    replace HR2 := Lib.hid (HR2.out.chg hc (fun _ _ => id))
    replace HT := Lib.hid (HT.out.new hc)
    replace HX := Lib.hid (HX.out.trans (hc.mono (S' := fun j => B ≤ j) (fun _ _ h => h.elim)) (fun _ _ e => e))
    obtain ⟨y0, y1, y2, y3, y4, y5, y6⟩ := HCEL.out _ HQ.out
    replace HE8 := Lib.hid (HE8.out.chg hc id)
    replace HRE := Lib.hid (HRE.out.chg hc (fun _ _ => id))
    have HRT := Lib.hid (rtake_any q o2 y ⟨lm, lp, la, ls, lb⟩ w3 HT.out.rn HOK.out (by omega))
    unfold RTakeP at HRT
    rw [HTE.out.1, HTE.out.2.1, HTE.out.2.2.1, HTE.out.2.2.2] at HRT
    generalize hbl8 : w2.heap.size = h8 at *
    clear hc HOF hbl8
    go_wp2_with fail
    refine HRT.out.mono ?_
    rintro e w4 ⟨rfl, hsm⟩
    replace HE8 := Lib.hid (rm_keep hsm HE8.out (by omega) (fun e => by have := ho2lt _ e; omega))
    obtain ⟨o9, hs9, hm9⟩ := hsm
    replace HRE := Lib.hid (HRE.out.chg hm9.1 (fun j hj e => e.elim (fun e => by omega) (fun e => by have := ho2lt _ e; omega)))
    have hsm : RMv q o2 (tkS y ⟨lm, lp, la, ls, lb⟩) w3 w4 := ⟨o9, hs9, hm9⟩
    clear y0 y1 y2 y3 y4 y5 y6
    obtain ⟨o3, ht, hc⟩ := HT.out.snd hsm
    replace HQ := Lib.hid (rm_keep hsm HQ.out HAP.out.2.2.1 HAP.out.2.2.2)
    replace HR := Lib.hid (HR.out.chg hc (fun j hj e => by omega))
    replace HR2 := Lib.hid (HR2.out.chg hc (fun j hj e => by omega))
    replace HT := Lib.hid ht
    replace HX := Lib.hid (HX.out.trans hc (fun _ _ e => e))
    clear hsm ht hc
    have hc := (Chg.refl (fun _ => False) w4).alloc (.cells #[.string ⟨tb.toArray⟩, .bool tg, .bool tr] 98)
    have HE10 : Hid (Blk (w4.alloc (.cells #[.string ⟨tb.toArray⟩, .bool tg, .bool tr] 98)) w4.heap.size 98 (rkC ⟨tb.toArray⟩ tg tr)) := Lib.hid (blk_new rfl)
    replace HE8 := Lib.hid (HE8.out.chg hc id)
    have s1 := conv_any (c := ed) (HRE.out.chg hc (fun _ _ => id))
    replace HQ := Lib.hid (HQ.out.chg hc id)
    replace HR := Lib.hid (HR.out.chg hc (fun _ _ => id))
    replace HR2 := Lib.hid (HR2.out.chg hc (fun _ _ => id))
    replace HT := Lib.hid (HT.out.new hc)
    replace HX := Lib.hid (HX.out.trans (hc.mono (S' := fun j => B ≤ j) (fun _ _ h => h.elim)) (fun _ _ e => e))
    obtain ⟨v0, v1, v2⟩ := tk_cells HE8.out
    obtain ⟨u0, u1, u2⟩ := rk_cells HE10.out
    unfold rkC
    clear hc HRE HRT hs9 hm9
    go_wp2_with fail
    go_ret
    refine ⟨ret_b (by simp), o1, o3, ?_, HX.out⟩
    rw [HV.out]
    exact HT.out

end Go.Proofs.Ytbbjecjhkjjbkaa
