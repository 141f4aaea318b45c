/-
  Records that lie in memory; may a message be? Walks: the closure of control.kept, slices.IndexFunc, slices.ContainsFunc, control.kept, Right. Conditions: the records are read in memory.
-/
import Derived.Test.YtalfbijcjghemaaUa
import Derived.Deep.LoopGhost
import Derived.Laws.StructEq
import Derived.Lib.SmallJoins
namespace Go.Proofs.Ytalfbijcjghemaa
open Go.RowKit
set_option linter.unusedVariables false

/-- A record. -/
structure Rc where
  pr : Int
  sr : Int
  ds : Int
  sp : Int
  dp : Int
  un : Int
def Rc.cs (x : Rc) : Array Value := rcC x.pr x.sr x.ds x.sp x.dp x.un
/-- A slice of m records, of six cells each. -/
def RcR (w : World) (S : Nat → Prop) (L : Option Addr) (m : Nat) (l : List Rc) : Prop :=
  m = l.length ∧ (0 < m → ∃ ad, L = some ad ∧ S ad.block ∧ ad.block < w.heap.size ∧ ∀ (i : Nat) (x : Rc), l[i]? = some x → ∀ (j : Nat) (u : Value), x.cs[j]? = some u → w.cell? (ad.add (i * 6 + j)) = some u)
section
variable {w w' : World} {S S' : Nat → Prop} {L : Option Addr} {m : Nat} {l : List Rc}
theorem RcR.keep (h : RcR w S L m l) (hz : w.heap.size ≤ w'.heap.size) (hk : ∀ k, S k → k < w.heap.size → w'.heap[k]? = w.heap[k]?) : RcR w' S L m l := by
  refine ⟨h.1, fun hm => ?_⟩
  obtain ⟨ad, e, hs, hb, hc⟩ := h.2 hm
  refine ⟨ad, e, hs, Nat.lt_of_lt_of_le hb hz, fun i x hi j u hu => ?_⟩
  rw [← hc i x hi j u hu]
  exact World.cell?_of_block (by rw [block_add]; exact hk _ hs hb)
theorem RcR.chg (h : RcR w S L m l) (hc : Chg S' w w') (hd : ∀ k, S k → ¬ S' k) : RcR w' S L m l := h.keep hc.size fun k hs hk => hc.block k hk (hd k hs)
theorem RcR.alloc (h : RcR w S L m l) (o : Obj) : RcR (w.alloc o) S L m l := h.chg ((Chg.refl (fun _ => False) w).alloc o) (fun _ _ => id)
theorem RcR.mono (h : RcR w S L m l) (hs : ∀ k, S k → S' k) : RcR w S' L m l :=
  ⟨h.1, fun hm => by obtain ⟨ad, e, h1, h2⟩ := h.2 hm; exact ⟨ad, e, hs _ h1, h2⟩⟩
theorem RcR.nil (w : World) (S : Nat → Prop) (L : Option Addr) : RcR w S L 0 [] := ⟨rfl, fun h => absurd h (by omega)⟩
theorem RcR.old (h : RcR w S L m l) : RcR w (fun k => S k ∧ k < w.heap.size) L m l :=
  ⟨h.1, fun hm => by obtain ⟨ad, e, h1, h2, h3⟩ := h.2 hm; exact ⟨ad, e, ⟨h1, h2⟩, h2, h3⟩⟩
theorem RcR.back {w0 : World} (h : RcR w' S L m l) (hc : Chg S' w0 w') (hS : ∀ k, S k → k < w0.heap.size ∧ ¬ S' k) : RcR w0 S L m l := by
  refine ⟨h.1, fun hm => ?_⟩
  obtain ⟨ad, e, hs, hb, hcell⟩ := h.2 hm
  obtain ⟨h1, h2⟩ := hS _ hs
  refine ⟨ad, e, hs, h1, fun i x hi j u hu => ?_⟩
  rw [← hcell i x hi j u hu]
  exact (World.cell?_of_block (by rw [block_add]; exact hc.block _ h1 h2)).symm
/-- The cells of a record, as the walk spells them. -/
theorem RcR.at {ad : Addr} {i : Nat} {x : Rc} (h : RcR w S (some ad) m l) (hi : l[i]? = some x) :
    w.cell? (ad.add (i * 6)) = some (.int .i64 x.pr) ∧ w.cell? ⟨(ad.add (i * 6)).block, (ad.add (i * 6)).off + 1, none⟩ = some (.int .u32 x.sr) ∧ w.cell? ⟨(ad.add (i * 6)).block, (ad.add (i * 6)).off + 2, none⟩ = some (.int .u32 x.ds) ∧
    w.cell? ⟨(ad.add (i * 6)).block, (ad.add (i * 6)).off + 3, none⟩ = some (.int .i64 x.sp) ∧ w.cell? ⟨(ad.add (i * 6)).block, (ad.add (i * 6)).off + 4, none⟩ = some (.int .i64 x.dp) ∧ w.cell? ⟨(ad.add (i * 6)).block, (ad.add (i * 6)).off + 5, none⟩ = some (.int .i64 x.un) := by
  have hl : i < l.length := (List.getElem?_eq_some_iff.1 hi).1
  obtain ⟨ad', e, _, _, hc⟩ := h.2 (by have := h.1; omega)
  injection e with e
  subst e
  have h2 := hc i x hi
  have g0 := h2 0 (.int .i64 x.pr) rfl
  have g1 := h2 1 (.int .u32 x.sr) rfl
  have g2 := h2 2 (.int .u32 x.ds) rfl
  have g3 := h2 3 (.int .i64 x.sp) rfl
  have g4 := h2 4 (.int .i64 x.dp) rfl
  have g5 := h2 5 (.int .i64 x.un) rfl
  rw [← off_add] at g0 g1 g2 g3 g4 g5
  exact ⟨g0, g1, g2, g3, g4, g5⟩
end
/-- May a record be? -/
def rcR1 (pr sp dp un : Int) : Bool := flR pr sp dp && withinB 0 1099511627776 [un]
def rcR (x : Rc) : Bool := rcR1 x.pr x.sp x.dp x.un

set_option maxHeartbeats 800000 in
theorem kept1_any (pr sr ds sp dp un : Int) (w : World) : Calls Try.prog 41 #[.agg (rcC pr sr ds sp dp un)] w fun e w' => e = .returned (.bool (!rcR1 pr sp dp un)) ∧ Chg (fun _ => False) w w' := by
  have HX := Lib.hid (Chg.refl (fun _ => False) (w.alloc (.cells #[.int .i64 pr, .int .u32 sr, .int .u32 ds, .int .i64 sp, .int .i64 dp, .int .i64 un] 46)))
  have HB0 : Hid (Blk (w.alloc (.cells #[.int .i64 pr, .int .u32 sr, .int .u32 ds, .int .i64 sp, .int .i64 dp, .int .i64 un] 46)) w.heap.size 46 (rcC pr sr ds sp dp un)) := Lib.hid (blk_new rfl)
  have HC0 := Lib.hid ((Chg.refl (fun _ => False) w).alloc (.cells #[.int .i64 pr, .int .u32 sr, .int .u32 ds, .int .i64 sp, .int .i64 dp, .int .i64 un] 46))
  have hf := fun W => iright_any pr sr ds sp dp W
  unfold rcR1
  generalize flR pr sp dp = b1 at *
  generalize hb2 : withinB 0 1099511627776 [un] = b2
  have HB2 := Lib.hid hb2
  clear hb2
  unfold rcC
  unfold flC at hf
  have HF := Lib.hid hf
  clear hf
  cases b1 with
  | false =>
    go_enter Try.func41, Try.ntmps41
    go_wp2_with fail
    refine (HF.out _).mono ?_
    rintro e w1 ⟨rfl, hc1⟩
    have HX := Lib.hid (HX.out.trans hc1 (fun _ _ e => e))
    clear hc1
    obtain ⟨y0, y1, y2, y3, y4, y5⟩ := rc_kept HB0.out HX.out
    go_wp2_with fail
    go_ret
    exact ⟨rfl, HC0.out.trans HX.out (fun _ _ e => e)⟩
  | true =>
    go_enter Try.func41, Try.ntmps41
    go_wp2_with fail
    refine (HF.out _).mono ?_
    rintro e w1 ⟨rfl, hc1⟩
    have HX := Lib.hid (HX.out.trans hc1 (fun _ _ e => e))
    clear hc1
    obtain ⟨y0, y1, y2, y3, y4, y5⟩ := rc_kept HB0.out HX.out
    go_wp2_with fail
    refine (cwithin_t 0 1099511627776 [un] _ 1 1 _ _ rfl (rds_new1 _ _ _ _ _ rfl _ _ rfl rfl) (by decide)).mono ?_
    rw [HB2.out]
    rintro e w2 ⟨rfl, hw⟩
    have HX := Lib.hid (chg_eq6 HX.out hw)
    clear hw
    go_wp2_with fail
    go_ret
    exact ⟨ret_b (by simp), HC0.out.trans HX.out (fun _ _ e => e)⟩

set_option maxHeartbeats 2000000 in
theorem cindex_any (L : Option Addr) (m lc : Nat) (l : List Rc) (w : World) (S : Nat → Prop) (h : RcR w S L m l) (hmc : m ≤ 9223372036854775807) :
    Calls Try.prog 55 #[.slice L m lc, .func (.func 41) #[] #[]] w fun e w' => ∃ z : Int, e = .returned (.int .i64 z) ∧ decide (0 ≤ z) = !(l.all rcR) ∧ Chg (fun _ => False) w w' := by
  have HH := Lib.hid h
  have hl := h.1
  have HL := Lib.hid hl
  clear h hl
  go_enter Try.func55, Try.ntmps55
  go_wp2_with fail
  go_loopg [5, 8] m (fun g s5 i wr => ∃ j : Nat, g = m - j ∧ j ≤ m ∧ i = .int .i64 (j : Int) ∧ Hid (∀ (i : Nat) (x : Rc), i < j → l[i]? = some x → rcR x = true) ∧ Hid (Chg (fun _ => False) w wr))
  case atStart => exact ⟨0, rfl, Nat.zero_le _, rfl, fun i x hi => absurd hi (by omega), Chg.refl _ _⟩
  case round =>
    obtain ⟨j, rfl, hj, rfl, HA, HX⟩ := hrel
    by_cases hlt : j < m
    · have hh := HH.out.chg HX.out (fun _ _ => id)
      obtain ⟨ad, rfl, _, _, _⟩ := hh.2 (by omega)
      have hjl : j < l.length := by have := HL.out; omega
      have hx : l[j]? = some l[j] := List.getElem?_eq_getElem hjl
      generalize l[j] = x at *
      obtain ⟨z0, z1, z2, z3, z4, z5⟩ := hh.at hx
      have hk := fun W => kept1_any x.pr x.sr x.ds x.sp x.dp x.un W
      have hr : rcR1 x.pr x.sp x.dp x.un = rcR x := rfl
      rw [hr] at hk
      clear hr
      have HJ := Lib.hid hx
      clear hx hh
      unfold rcC at hk
      cases hb : rcR x with
      | false =>
        rw [hb] at hk
        have HK := Lib.hid hk
        clear hk
        go_wp2_with fail
        refine (HK.out _).mono ?_
        rintro e w1 ⟨rfl, hc1⟩
        have HX := Lib.hid (HX.out.trans hc1 (fun _ _ e => e))
        clear hc1
        go_wp2_with fail
        go_ret
        refine ⟨(j : Int), rfl, ?_, HX.out⟩
        have e1 : l.all rcR = false := List.all_eq_false.2 ⟨x, List.mem_of_getElem? HJ.out, by rw [hb]; decide⟩
        rw [e1]
        simp
      | true =>
        rw [hb] at hk
        have HK := Lib.hid hk
        clear hk
        go_wp2_with fail
        refine (HK.out _).mono ?_
        rintro e w1 ⟨rfl, hc1⟩
        have HX := Lib.hid (HX.out.trans hc1 (fun _ _ e => e))
        clear hc1
        go_wp2_with fail
        go_roundg (m - (j + 1))
        case measure => omega
        case rel =>
          refine ⟨j + 1, rfl, by omega, by go_num, fun i y hi hy => ?_, HX.out⟩
          by_cases e : i < j
          · exact HA.out i y e hy
          · have : i = j := by omega
            subst this
            have := HJ.out
            rw [hy] at this
            injection this with this
            subst this
            exact hb
    · have : j = m := by omega
      subst this
      go_wp2_with fail
      go_ret
      refine ⟨-1, rfl, ?_, HX.out⟩
      have e1 : l.all rcR = true := List.all_eq_true.2 (fun y hy => by
        obtain ⟨i, hi⟩ := List.getElem?_of_mem hy
        have := (List.getElem?_eq_some_iff.1 hi).1
        have := HL.out
        exact HA.out i y (by omega) hi)
      rw [e1]
      rfl

set_option maxHeartbeats 800000 in
theorem ccontains_any (L : Option Addr) (m lc : Nat) (l : List Rc) (w : World) (S : Nat → Prop) (h : RcR w S L m l) (hmc : m ≤ 9223372036854775807) :
    Calls Try.prog 43 #[.slice L m lc, .func (.func 41) #[] #[]] w fun e w' => e = .returned (.bool (!(l.all rcR))) ∧ Chg (fun _ => False) w w' := by
  have HK := Lib.hid (cindex_any L m lc l w S h hmc)
  clear h hmc
  go_enter Try.func43, Try.ntmps43
  go_wp2_with fail
  refine HK.out.mono ?_
  rintro e w1 ⟨z, rfl, hz, hc⟩
  have HZ := Lib.hid hz
  have HC := Lib.hid hc
  clear hz hc
  go_wp2_with fail
  go_ret
  exact ⟨ret_b HZ.out, HC.out⟩

/-- May these records stand in a message? -/
def keptB (l : List Rc) : Bool := decide (l.length ≤ 16) && l.all rcR
set_option maxHeartbeats 800000 in
theorem ckept_any (L : Option Addr) (m lc : Nat) (l : List Rc) (w : World) (S : Nat → Prop) (h : RcR w S L m l) (hmc : m ≤ 9223372036854775807) :
    Calls Try.prog 20 #[.slice L m lc] w fun e w' => e = .returned (.bool (keptB l)) ∧ Chg (fun _ => False) w w' := by
  have HK := Lib.hid (ccontains_any L m lc l w S h hmc)
  have HL := Lib.hid h.1
  clear h
  by_cases hm : m ≤ 16
  · have hR := Lib.hid (show keptB l = l.all rcR by unfold keptB; rw [← HL.out]; simp [hm])
    generalize l.all rcR = b at *
    go_enter Try.func20, Try.ntmps20
    go_wp2_with fail
    refine HK.out.mono ?_
    rintro e w1 ⟨rfl, hc⟩
    have HC := Lib.hid hc
    clear hc
    go_wp2_with fail
    go_ret
    exact ⟨ret_b (by rw [hR.out]), HC.out⟩
  · have hR := Lib.hid (show keptB l = false by unfold keptB; rw [← HL.out]; simp [hm])
    go_enter Try.func20, Try.ntmps20
    go_wp2_with fail
    go_ret
    exact ⟨ret_b hR.out.symm, Chg.refl _ _⟩

end Go.Proofs.Ytalfbijcjghemaa
