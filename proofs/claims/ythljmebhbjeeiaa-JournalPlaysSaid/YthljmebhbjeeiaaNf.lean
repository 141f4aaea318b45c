/-
  Walks: rutterref08.Same (of the same), journal.Open, rutterref08.Open. Conditions: the slices are read in memory; the file lies in memory, its bytes are no more than its room, which is at most 2^24.
-/
import Derived.Test.YthljmebhbjeeiaaNe
import Derived.Test.YthljmebhbjeeiaaLg
namespace Go.Proofs.Ythljmebhbjeeiaa
open Go.RowKit
set_option linter.unusedVariables false
set_option linter.unusedSimpArgs false

/-- A slice of slices: the row's cells and each one's bytes, in blocks of S. -/
def LL (w : World) (S : Nat → Prop) (A : Option Addr) (m : Nat) (ls : List (List UInt8)) : Prop := ∃ vs, m = ls.length ∧ Rds w S A m vs ∧ BL w S vs ls
section
variable {w w' : World} {S S' : Nat → Prop} {A : Option Addr} {m : Nat} {ls : List (List UInt8)}
theorem LL.chg (h : LL w S A m ls) (hc : Chg S' w w') (hd : ∀ k, S k → ¬ S' k) : LL w' S A m ls := by
  obtain ⟨vs, h1, h2, h3⟩ := h
  exact ⟨vs, h1, h2.chg hc hd, h3.chg hc hd⟩
theorem LL.new (h : LL w S A m ls) (hc : Chg (fun _ => False) w w') : LL w' S A m ls := h.chg hc (fun _ _ => id)
theorem LL.mono (h : LL w S A m ls) (hs : ∀ k, S k → S' k) : LL w S' A m ls := by
  obtain ⟨vs, h1, h2, h3⟩ := h
  exact ⟨vs, h1, h2.mono hs, h3.mono hs⟩
theorem LL.take (h : LL w S A m ls) (k : Nat) (hk : k ≤ m) : LL w S A k (ls.take k) := by
  obtain ⟨vs, h1, h2, h3⟩ := h
  exact ⟨vs.take k, by rw [List.length_take]; omega, h2.take k hk, h3.take k⟩
theorem LL.at (h : LL w S A m ls) {j : Nat} {l : List UInt8} (hl : ls[j]? = some l) : ∃ ad B c, A = some ad ∧ w.cell? (ad.add j) = some (.slice B l.length c) ∧ Rds w S B l.length (bcs l) := by
  obtain ⟨vs, h1, h2, h3⟩ := h
  have hj : j < ls.length := (List.getElem?_eq_some_iff.1 hl).1
  obtain ⟨ad, e, _, _, hc⟩ := h2.cellAt (k := j) (by omega)
  obtain ⟨B, c, hv, hr⟩ := h3.2 j l hl
  exact ⟨ad, B, c, e, by rw [hc, hv], hr⟩
end
theorem ll_own {w : World} {base m c : Nat} {A : Option Addr} {vs : List Value} {ls : List (List UInt8)} (h : w.ownsRow base 35 1 (.slice A m c) m vs) (hb : BL w (fun k => base ≤ k) vs ls) : LL w (fun k => base ≤ k) A m ls :=
  ⟨vs, by have h1 := h.1; have h2 := hb.1; simp only [Nat.mul_one] at h1; omega, (own_rds2 h).mono (fun k hk => hk.1), hb⟩

set_option maxHeartbeats 1000000 in
theorem same8_eq (A B : Option Addr) (m c d : Nat) (ls : List (List UInt8)) (S S2 : Nat → Prop) (w : World) (h : LL w S A m ls) (h2 : LL w S2 B m ls) (hm : m ≤ 9223372036854775807) :
    Calls Try.prog 15 #[.slice A m c, .slice B m d] w fun e w' => e = .returned (.bool true) ∧ Chg (fun _ => False) w w' := by
  have hne : ((m : Int) != (m : Int)) = false := by simp
  have HM : Hid (m = ls.length) := by obtain ⟨_, h1, _⟩ := h; exact h1
  have HA := Lib.hid h
  have HB := Lib.hid h2
  clear h h2
  go_enter Try.func15, Try.ntmps15
  go_wp2_with fail
  go_loopg [5] m (fun g i wr => ∃ j : Nat, g = m - j ∧ j ≤ m ∧ i = .int .i64 (j : Int) ∧ Hid (Chg (fun _ => False) w wr))
  case atStart => exact ⟨0, rfl, Nat.zero_le _, rfl, Chg.refl _ _⟩
  case round =>
    obtain ⟨j, rfl, hj, rfl, HC⟩ := hrel
    by_cases hlt : j < m
    · have hjl : j < ls.length := by have := HM.out; omega
      have hx : ls[j]? = some ls[j] := List.getElem?_eq_getElem hjl
      obtain ⟨ad, X, xc, rfl, hc1, hr1⟩ := (HA.out.new HC.out).at hx
      obtain ⟨bd, Y, yc, rfl, hc2, hr2⟩ := (HB.out.new HC.out).at hx
      have k1 := fun q => conv8 (c := xc) (hr1.drewN q)
      have k2 := fun q => conv8 (c := yc) (hr2.drewN q)
      generalize ls[j] = x at *
      clear hx hr1 hr2 hjl
      go_upto_region 6 with fail
      go_quiet (fail)
      replace HC := Lib.hid (HC.out.drewN nq)
      clear hc1 hc2 k1 k2
      go_wp2_with fail
      go_roundg (m - (j + 1))
      case measure => omega
      case rel => exact ⟨j + 1, rfl, by omega, by go_num, HC⟩
    · go_wp2_with fail
      go_ret
      exact ⟨rfl, HC.out⟩

/-- How many bytes of a file are safe behind Open. -/
def opS (bs : List UInt8) (s : Nat) : Nat := if used8 bs < bs.length then used8 bs else s
theorem used_le (bs : List UInt8) : used8 bs ≤ bs.length := scan_le bs
theorem op_cut {bs : List UInt8} {s : Nat} (h : used8 bs < bs.length) : cutE bs (used8 bs : Int) = 0 ∧ cutB bs (used8 bs : Int) = recs8 (scan8 bs) ∧ cutS bs s (used8 bs : Int) = opS bs s := by
  unfold cutE cutB cutS opS
  rw [if_neg (by omega), if_neg (by omega), if_neg (by omega), if_pos h, Int.toNat_natCast]
  exact ⟨rfl, scan_take bs, rfl⟩
theorem op_all {bs : List UInt8} {s : Nat} (h : ¬ used8 bs < bs.length) : bs = recs8 (scan8 bs) ∧ s = opS bs s := by
  have h1 := used_le bs
  have h2 := scan_take bs
  unfold opS
  rw [if_neg h]
  unfold used8 at h h1
  rw [List.take_of_length_le (by omega)] at h2
  exact ⟨h2, rfl⟩
theorem jopen_nil (w : World) : Calls Try.prog 9 #[.pointer none] w fun e w' => e = .returned (.tuple #[.pointer none, .slice none 0 0, .int .i64 1]) ∧ w = w' := by
  go_enter Try.func9, Try.ntmps9
  go_wp2
  go_ret3
  exact ⟨rfl, rfl⟩
/-- What Open leaves: a journal of the file, the bodies; the file has its records alone. -/
def OpenP (w : World) (p : Nat) (o : Option Nat) (bs : List UInt8) (s r : Nat) (e : Ending) (w' : World) : Prop :=
  ∃ j A m c, e = .returned (.tuple #[.pointer (some ⟨j, 0, none⟩), .slice A m c, .int .i64 0]) ∧ w.heap.size ≤ j ∧ Blk w' j 62 #[.pointer (some ⟨p, 0, none⟩)] ∧
    m = (scan8 bs).length ∧ LL w' (fun k => w.heap.size ≤ k) A m (scan8 bs) ∧ Fi 59 w' p o (recs8 (scan8 bs)) (opS bs s) r ∧ Mvd p o o w w'

set_option maxHeartbeats 2000000 in
theorem jopen_any (p : Nat) (o : Option Nat) (bs : List UInt8) (s r : Nat) (w : World) (h : Fi 59 w p o bs s r) (hbr : bs.length ≤ r) (hr24 : r ≤ 16777216) :
    Calls Try.prog 9 #[.pointer (some ⟨p, 0, none⟩)] w (OpenP w p o bs s r) := by
  have HB := Lib.hid (dbytes_any p o bs s r w h hbr hr24)
  have HF := Lib.hid h
  clear h
  go_enter Try.func9, Try.ntmps9
  go_wp2_with fail
  refine HB.out.mono ?_
  rintro e w1 ⟨A1, c1, rfl, hown1, hc1⟩
  have HC1 := Lib.hid hc1
  have HS := Lib.hid (jscan_any A1 bs.length c1 bs _ w1 rfl (own_rds hown1) (own_nil hown1) (by omega))
  clear HB hown1 hc1
  go_wp2_with fail
  refine HS.out.mono ?_
  rintro e w2 ⟨A2, m, c2, vs, rfl, hm, hown2, hbl, hc2⟩
  have HC2 := Lib.hid (HC1.out.trans hc2 (fun _ _ e => e))
  have HL := Lib.hid ((ll_own hown2 hbl).mono (S' := fun k => w.heap.size ≤ k) (fun k hk => Nat.le_trans HC1.out.size hk))
  have HF2 := Lib.hid (HF.out.chg HC2.out id (fun _ _ => id))
  have HM := Lib.hid hm
  have hlt := HF.out.lt
  have hmm : m ≤ bs.length + 1 := by
    have h1 := used_le bs
    have h2 : ∀ l : List (List UInt8), l.length ≤ (recs8 l).length := fun l => by
      induction l with
      | nil => exact Nat.zero_le _
      | cons x l ih => rw [recs_cons, List.length_append, recB_len, List.length_cons]; omega
    have h3 := h2 (scan8 bs)
    unfold used8 at h1
    omega
  clear hown2 hbl hc2 hm HS HC1 HF
  by_cases hu : used8 bs < bs.length
  · have hu' : (used8 bs : Int) < (bs.length : Int) := by omega
    have HCU := Lib.hid (dcut_any p o bs s r (used8 bs : Int) w2 HF2.out hbr hr24)
    obtain ⟨u1, u2, u3⟩ := op_cut (s := s) hu
    rw [u1, u2, u3] at HCU
    clear u1 u2 u3 hu
    go_wp2_with fail
    refine HCU.out.mono ?_
    rintro e w3 ⟨rfl, hf3, hm3⟩
    have HF3 := Lib.hid hf3
    have HM3 := Lib.hid hm3
    clear hf3 hm3 HCU
    go_wp2_with fail
    go_ret3
    have ha : Chg (fun _ => False) w3 (w3.alloc (.cells #[.pointer (some ⟨p, 0, none⟩)] 62)) := (Chg.refl _ w3).alloc _
    refine ⟨w3.heap.size, A2, m, c2, rfl, Nat.le_trans HC2.out.size HM3.out.1.size, blk_new rfl, HM.out, ?_, HF3.out.chg ha id (fun _ _ => id), (Mvd.pre HC2.out HM3.out).post ha⟩
    refine (HL.out.chg HM3.out.1 (fun k hk e => ?_)).new ha
    rcases e with e | e
    · have := hlt.1
      omega
    · have := hlt.2 k e
      omega
  · have hu' : ¬ (used8 bs : Int) < (bs.length : Int) := by omega
    obtain ⟨u1, u2⟩ := op_all (s := s) hu
    have HF3 : Hid (Fi 59 w2 p o (recs8 (scan8 bs)) (opS bs s) r) := by
      unfold Hid
      rw [← u1, ← u2]
      exact HF2.out
    clear u1 u2 hu
    go_wp2_with fail
    go_ret3
    have ha : Chg (fun _ => False) w2 (w2.alloc (.cells #[.pointer (some ⟨p, 0, none⟩)] 62)) := (Chg.refl _ w2).alloc _
    exact ⟨w2.heap.size, A2, m, c2, rfl, HC2.out.size, blk_new rfl, HM.out, HL.out.new ha, HF3.out.chg ha id (fun _ _ => id), ((Mvd.refl p o w2).pre HC2.out).post ha⟩

/-- What the document's Open leaves. -/
def OpenR (w : World) (p : Nat) (o : Option Nat) (bs : List UInt8) (s r : Nat) (e : Ending) (w' : World) : Prop :=
  ∃ j A m c, e = .returned (.tuple #[.pointer (some ⟨j, 0, none⟩), .slice A m c]) ∧ w.heap.size ≤ j ∧ Blk w' j 48 #[.pointer (some ⟨p, 0, none⟩), .int .i64 ((scan8 bs).length : Int)] ∧
    m = (scan8 bs).length ∧ LL w' (fun k => w.heap.size ≤ k) A m (scan8 bs) ∧ Fi 37 w' p o (recs8 (scan8 bs)) (opS bs s) r ∧ Mvd p o o w w'

set_option maxHeartbeats 2000000 in
theorem ropen_any (p : Nat) (o : Option Nat) (bs : List UInt8) (s r : Nat) (w : World) (h : Fi 37 w p o bs s r) (hbr : bs.length ≤ r) (hr24 : r ≤ 16777216) :
    Calls Try.prog 10 #[.pointer (some ⟨p, 0, none⟩)] w (OpenR w p o bs s r) := by
  have HF := Lib.hid h
  obtain ⟨A1, c1, hfl⟩ := h
  obtain ⟨x0, x1, x2, _, _, _⟩ := hfl.cells
  have hcap := own_cap hfl.own
  have HS := Lib.hid (rscan_any A1 bs.length c1 bs _ w rfl hfl.rds hcap.1 hcap.2 (by omega))
  have HFL := Lib.hid hfl
  clear hfl hcap
  go_enter Try.func10, Try.ntmps10
  go_wp2_with fail
  refine HS.out.mono ?_
  rintro e w2 ⟨A2, m, c2, vs, rfl, hm, hown2, hbl, hc2⟩
  have HC2 := Lib.hid hc2
  have HL := Lib.hid (ll_own hown2 hbl)
  have HF2 := Lib.hid (HF.out.chg HC2.out id (fun _ _ => id))
  obtain ⟨y0, y1, y2, _, _, _⟩ := (HFL.out.chg HC2.out id (fun _ _ => id)).cells
  have HM := Lib.hid hm
  have hlt := HF.out.lt
  have hmm : m ≤ 9223372036854775807 := by
    have h1 := used_le bs
    have h2 : ∀ l : List (List UInt8), l.length ≤ (recs8 l).length := fun l => by
      induction l with
      | nil => exact Nat.zero_le _
      | cons x l ih => rw [recs_cons, List.length_append, recB_len, List.length_cons]; omega
    have h3 := h2 (scan8 bs)
    unfold used8 at h1
    omega
  clear hown2 hbl hc2 hm HS HF HFL x0 x1 x2
  by_cases hu : used8 bs < bs.length
  · have hu' : (used8 bs : Int) < (bs.length : Int) := by omega
    have HCU := Lib.hid (rcut_any p o bs s r (used8 bs : Int) w2 HF2.out hbr hr24)
    obtain ⟨u1, u2, u3⟩ := op_cut (s := s) hu
    rw [u1, u2, u3] at HCU
    clear u1 u2 u3 hu
    go_wp2_with fail
    refine HCU.out.mono ?_
    rintro e w3 ⟨rfl, hf3, hm3⟩
    have HF3 := Lib.hid hf3
    have HM3 := Lib.hid hm3
    clear hf3 hm3 HCU y0 y1 y2
    go_wp2_with fail
    go_ret2
    have ha : Chg (fun _ => False) w3 (w3.alloc (.cells #[.pointer (some ⟨p, 0, none⟩), .int .i64 (m : Int)] 48)) := (Chg.refl _ w3).alloc _
    refine ⟨w3.heap.size, A2, m, c2, rfl, Nat.le_trans HC2.out.size HM3.out.1.size, ?_, HM.out, ?_, HF3.out.chg ha id (fun _ _ => id), (Mvd.pre HC2.out HM3.out).post ha⟩
    · rw [← HM.out]
      exact blk_new rfl
    refine (HL.out.chg HM3.out.1 (fun k hk e => ?_)).new ha
    rcases e with e | e
    · have := hlt.1
      omega
    · have := hlt.2 k e
      omega
  · have hu' : ¬ (used8 bs : Int) < (bs.length : Int) := by omega
    obtain ⟨u1, u2⟩ := op_all (s := s) hu
    have HF3 : Hid (Fi 37 w2 p o (recs8 (scan8 bs)) (opS bs s) r) := by
      unfold Hid
      rw [← u1, ← u2]
      exact HF2.out
    clear u1 u2 hu
    go_wp2_with fail
    go_ret2
    have ha : Chg (fun _ => False) w2 (w2.alloc (.cells #[.pointer (some ⟨p, 0, none⟩), .int .i64 (m : Int)] 48)) := (Chg.refl _ w2).alloc _
    refine ⟨w2.heap.size, A2, m, c2, rfl, HC2.out.size, ?_, HM.out, HL.out.new ha, HF3.out.chg ha id (fun _ _ => id), ((Mvd.refl p o w2).pre HC2.out).post ha⟩
    rw [← HM.out]
    exact blk_new rfl

end Go.Proofs.Ythljmebhbjeeiaa
