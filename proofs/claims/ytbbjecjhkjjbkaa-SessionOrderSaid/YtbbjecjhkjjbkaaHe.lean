/-
  Two ends: a letter is taken; a new boot: plain. No condition.
-/
import Derived.Test.YtbbjecjhkjjbkaaHd
namespace Go.Proofs.Ytbbjecjhkjjbkaa
open Go.RowKit
set_option linter.unusedVariables false
set_option linter.unusedSimpArgs false

theorem tk_off {x : SV} {l : LV} (h : tkOk x l = false) : tkS x l = x ∧ tkRes x l = false ∧ tkGot x l = false ∧ tkB x l = [] := by
  have h2 : tkGot x l = false := by unfold tkGot; rw [h]; rfl
  refine ⟨by unfold tkS; rw [h]; rfl, by unfold tkRes; rw [h]; rfl, h2, by unfold tkB; rw [h2]; rfl⟩
theorem tk_on {x : SV} {l : LV} (h : tkOk x l = true) : ltR l.mi l.pe l.ac l.se l.b.length = true ∧ x.pe ≤ l.mi ∧ tkRes x l = decide (x.pe < l.mi) ∧ tkGot x l = tkHit x l ∧ tkS x l = (if tkHit x l = true then { tkS2 x l with go := l.se } else tkS2 x l) := by
  have h1 := h
  unfold tkOk at h1
  rw [Bool.and_eq_true, decide_eq_true_eq] at h1
  refine ⟨h1.1, h1.2, by unfold tkRes; rw [h]; rfl, by unfold tkGot; rw [h]; rfl, by unfold tkS; rw [h]; rfl⟩
theorem ackS_mi (x : SV) (a : Int) : (ackS x a).mi = x.mi ∧ (ackS x a).pe = x.pe ∧ (ackS x a).go = x.go := ⟨rfl, rfl, rfl⟩
theorem tkS1_of (x : SV) (l : LV) : (tkS1 x l).mi = x.mi ∧ (x.pe < l.mi → tkS1 x l = ⟨x.mi, l.mi, 1, 0, []⟩) ∧ (¬ x.pe < l.mi → tkS1 x l = x) := by
  unfold tkS1
  split
  · exact ⟨rfl, fun _ => rfl, fun h => absurd ‹_› h⟩
  · exact ⟨rfl, fun h => absurd h ‹_›, fun _ => rfl⟩
theorem tkS2_of (x : SV) (l : LV) : (tkS2 x l).mi = x.mi ∧ (tkS2 x l).pe = (tkS1 x l).pe ∧ (tkS2 x l).go = (tkS1 x l).go := by
  have h1 := (tkS1_of x l).1
  unfold tkS2
  split
  · exact ⟨h1, rfl, rfl⟩
  · exact ⟨h1, rfl, rfl⟩
theorem tkS_mi (x : SV) (l : LV) : (tkS x l).mi = x.mi ∧ (tkS x l).pe = if tkRes x l = true then l.mi else x.pe := by
  cases h : tkOk x l with
  | false =>
    obtain ⟨e1, e2, _⟩ := tk_off h
    rw [e1, e2]
    exact ⟨rfl, rfl⟩
  | true =>
    obtain ⟨_, hle, e2, _, e3⟩ := tk_on h
    obtain ⟨a1, a2, a3⟩ := tkS2_of x l
    obtain ⟨_, b1, b2⟩ := tkS1_of x l
    have hp : (tkS1 x l).pe = if tkRes x l = true then l.mi else x.pe := by
      rw [e2]
      by_cases hlt : x.pe < l.mi
      · rw [b1 hlt, if_pos (by simpa using hlt)]
      · rw [b2 hlt, if_neg (by simpa using hlt)]
    rw [e3]
    split
    · exact ⟨a1, a2.trans hp⟩
    · exact ⟨a1, a2.trans hp⟩
theorem QI.ack {s : SV} {inp : List UInt8} (h : QI s inp) (a : Int) : QI (ackS s a) inp := by
  obtain ⟨k, h1, h2, h3⟩ := h
  have hl : s.q.length = inp.length - k := by rw [h3, List.length_map, List.length_drop]
  have hk : ackK s.nx a s.q.length ≤ s.q.length := Nat.min_le_left _ _
  refine ⟨k + ackK s.nx a s.q.length, ?_, by omega, ?_⟩
  · show s.nx + (ackK s.nx a s.q.length : Int) = _
    omega
  · show s.q.drop (ackK s.nx a s.q.length) = _
    generalize ackK s.nx a s.q.length = n
    rw [h3, ← List.map_drop, List.drop_drop]
theorem One11.take {j : Nat} {x : EV} {l : LV} (h : One11 j x) (hlen : l.se ≠ 0 → l.b.length = 1) (hmi : l.mi ≤ 1 + (j : Int)) : One11 (j + 1) (takeV x l) := by
  obtain ⟨m1, m2⟩ := tkS_mi x.sv l
  have hpe0 := h.pe
  have hmi0 := h.mi
  cases hok : tkOk x.sv l with
  | false =>
    obtain ⟨e1, e2, e3, e4⟩ := tk_off hok
    have hx : takeV x l = x := by
      unfold takeV
      rw [e1, e2, e4]
      simp
    rw [hx]
    exact h.le (by omega)
  | true =>
    obtain ⟨hr, hle, e2, e4, e3⟩ := tk_on hok
    have hlm := (ltR_parts hr).1
    obtain ⟨_, a2, a3⟩ := tkS2_of x.sv l
    obtain ⟨_, b1, b2⟩ := tkS1_of x.sv l
    -- what is left of both behind a reset
    have key : QI (tkS1 x.sv l) (if tkRes x.sv l = true then [] else x.inp) ∧ (tkS1 x.sv l).go = (((if tkRes x.sv l = true then [] else x.out) : List UInt8).length : Int) ∧ (tkS1 x.sv l).q.length ≤ 64 ∧ (if tkRes x.sv l = true then [] else x.inp).length ≤ j ∧ (if tkRes x.sv l = true then [] else x.out).length ≤ j := by
      rw [e2]
      by_cases hlt : x.sv.pe < l.mi
      · rw [b1 hlt, if_pos (by simpa using hlt), if_pos (by simpa using hlt)]
        exact ⟨⟨0, rfl, Nat.le_refl _, rfl⟩, rfl, by simp, by simp, by simp⟩
      · rw [b2 hlt, if_neg (by simpa using hlt), if_neg (by simpa using hlt)]
        exact ⟨h.qi, h.go, h.q64, h.il, h.ol⟩
    obtain ⟨k1, k2, k3, k4, k5⟩ := key
    have q2 : QI (tkS2 x.sv l) (if tkRes x.sv l = true then [] else x.inp) ∧ (tkS2 x.sv l).q.length ≤ 64 := by
      unfold tkS2
      split
      · refine ⟨k1.ack _, ?_⟩
        show ((tkS1 x.sv l).q.drop _).length ≤ 64
        rw [List.length_drop]
        omega
      · exact ⟨k1, k3⟩
    have q3 : QI (tkS x.sv l) (if tkRes x.sv l = true then [] else x.inp) ∧ (tkS x.sv l).q.length ≤ 64 := by
      rw [e3]
      split
      · exact q2
      · exact q2
    have g3 : (tkS x.sv l).go = ((((if tkRes x.sv l = true then [] else x.out) : List UInt8) ++ tkB x.sv l).length : Int) ∧ (((if tkRes x.sv l = true then [] else x.out) : List UInt8) ++ tkB x.sv l).length ≤ j + 1 := by
      rw [e3, List.length_append]
      unfold tkB
      rw [e4]
      by_cases hh : tkHit x.sv l = true
      · rw [if_pos hh, if_pos hh]
        have h2 := hh
        unfold tkHit at h2
        rw [Bool.and_eq_true, decide_eq_true_eq, decide_eq_true_eq] at h2
        have h3 := hlen (by rw [h2.2, k2]; omega)
        show l.se = _ ∧ _
        rw [h2.2, k2, h3]
        exact ⟨by omega, by omega⟩
      · rw [if_neg hh, if_neg hh, List.length_nil]
        rw [a3, k2]
        exact ⟨by omega, by omega⟩
    refine ⟨h.bt.trans m1.symm, ?_, q3.1, g3.1, ?_, g3.2, q3.2, ?_, ?_, ?_⟩
    · show (if tkRes x.sv l = true then l.mi else x.known) = (tkS x.sv l).pe
      rw [m2, h.kn]
    · exact Nat.le_trans k4 (by omega)
    · show x.ls.length ≤ _
      have := h.ll
      omega
    · show 1 ≤ (tkS x.sv l).mi ∧ (tkS x.sv l).mi ≤ _
      rw [m1]
      omega
    · show 0 ≤ (tkS x.sv l).pe ∧ (tkS x.sv l).pe ≤ _
      rw [m2]
      split <;> omega
/-- What the taker's side keeps. -/
theorem Dir11.take_r {j : Nat} {x y : EV} {l : LV} (h : Dir11 x y) (hy : One11 j y) (hl : l ∈ y.ls) (hx : x.sv.pe ≤ y.sv.mi) : Dir11 x (takeV y l) := by
  obtain ⟨m1, m2⟩ := tkS_mi y.sv l
  obtain ⟨o1, o2, o3⟩ := h.ok l hl
  refine ⟨?_, h.ok, h.l2, h.l3, fun hb => ?_⟩
  · show (tkS y.sv l).pe ≤ _
    rw [m2]
    have := h.pe
    split <;> omega
  · have hb : (tkS y.sv l).pe = x.sv.mi := hb
    show (x.sv.pe ≠ (tkS y.sv l).mi → _ = []) ∧ (x.sv.pe = (tkS y.sv l).mi → _ <+: x.inp)
    rw [m1]
    cases hok : tkOk y.sv l with
    | false =>
      obtain ⟨e1, e2, e3, e4⟩ := tk_off hok
      have ho : (takeV y l).out = y.out := by
        unfold takeV
        rw [e2, e4]
        simp
      rw [ho]
      exact h.b (by rw [← hb, e1])
    | true =>
      obtain ⟨hr, hle, e2, e4, e3⟩ := tk_on hok
      obtain ⟨_, b1, b2⟩ := tkS1_of y.sv l
      have hlm : l.mi = x.sv.mi := by
        rw [m2, e2] at hb
        by_cases hlt : y.sv.pe < l.mi
        · rw [if_pos (by simpa using hlt)] at hb
          exact hb
        · rw [if_neg (by simpa using hlt)] at hb
          omega
      have base : (x.sv.pe ≠ y.sv.mi → (if tkRes y.sv l = true then [] else y.out) = []) ∧ (x.sv.pe = y.sv.mi → (if tkRes y.sv l = true then [] else y.out) <+: x.inp) ∧ (tkS1 y.sv l).go = (((if tkRes y.sv l = true then [] else y.out) : List UInt8).length : Int) := by
        rw [e2]
        by_cases hlt : y.sv.pe < l.mi
        · rw [if_pos (by simpa using hlt), b1 hlt]
          exact ⟨fun _ => rfl, fun _ => List.nil_prefix, rfl⟩
        · rw [if_neg (by simpa using hlt), b2 hlt]
          obtain ⟨c1, c2⟩ := h.b (by omega)
          exact ⟨c1, c2, hy.go⟩
      obtain ⟨c1, c2, c3⟩ := base
      have hout : (takeV y l).out = (if tkRes y.sv l = true then [] else y.out) ++ tkB y.sv l := rfl
      rw [hout]
      generalize (if tkRes y.sv l = true then [] else y.out) = o0 at c1 c2 c3
      unfold tkB
      rw [e4]
      by_cases hh : tkHit y.sv l = true
      · rw [if_pos hh]
        have h2 := hh
        unfold tkHit at h2
        rw [Bool.and_eq_true, decide_eq_true_eq, decide_eq_true_eq] at h2
        have hp := h.l2 l hl hlm
        have hpe : l.pe = x.sv.pe := by omega
        obtain ⟨c, g1, g2⟩ := h.l3 l hl hlm hpe o0.length (by rw [h2.2, c3])
        refine ⟨fun e => absurd (by omega) e, fun e => ?_⟩
        obtain ⟨t, ht⟩ := c2 e
        rw [g2]
        rw [← ht, List.getElem?_append_right (Nat.le_refl _), Nat.sub_self] at g1
        cases t with
        | nil => cases g1
        | cons d t =>
          injection g1 with g1
          subst g1
          exact ⟨t, by rw [← ht]; simp⟩
      · rw [if_neg hh, List.append_nil]
        exact ⟨c1, c2⟩
/-- What the taker keeps as a sender. -/
theorem Dir11.take_s {x y : EV} {l : LV} (h : Dir11 y x) (hxy : Dir11 x y) (hl : l ∈ y.ls) : Dir11 (takeV y l) x := by
  obtain ⟨m1, m2⟩ := tkS_mi y.sv l
  obtain ⟨o1, o2, o3⟩ := hxy.ok l hl
  have hres : tkRes y.sv l = true → y.sv.pe < l.mi := fun e => by
    unfold tkRes at e
    rw [Bool.and_eq_true, decide_eq_true_eq] at e
    exact e.2
  refine ⟨?_, fun l' h' => ?_, fun l' h' hm => ?_, fun l' h' hm hpe k hk => ?_, fun hb => ?_⟩
  · show _ ≤ (tkS y.sv l).mi
    rw [m1]; exact h.pe
  · show _ ∧ l'.mi ≤ (tkS y.sv l).mi ∧ _
    rw [m1]; exact h.ok l' h'
  · show l'.pe ≤ (tkS y.sv l).pe
    have h1 := h.l2 l' h' (hm.trans m1)
    rw [m2]
    split
    · have := hres ‹_›
      omega
    · exact h1
  · have hpe : l'.pe = (tkS y.sv l).pe := hpe
    have h1 := h.l2 l' h' (hm.trans m1)
    show ∃ c, (if tkRes y.sv l = true then [] else y.inp)[k]? = some c ∧ _
    by_cases hr : tkRes y.sv l = true
    · rw [m2, if_pos hr] at hpe
      have := hres hr
      omega
    · rw [m2, if_neg hr] at hpe
      rw [if_neg hr]
      exact h.l3 l' h' (hm.trans m1) hpe k hk
  · have hb : x.sv.pe = (tkS y.sv l).mi := hb
    obtain ⟨c1, c2⟩ := h.b (hb.trans m1)
    show ((tkS y.sv l).pe ≠ _ → _) ∧ ((tkS y.sv l).pe = _ → x.out <+: (if tkRes y.sv l = true then [] else y.inp))
    rw [m2]
    by_cases hr : tkRes y.sv l = true
    · have h3 := hres hr
      have h4 := c1 (by omega)
      rw [if_pos hr, if_pos hr, h4]
      exact ⟨fun _ => rfl, fun _ => List.nil_prefix⟩
    · rw [if_neg hr, if_neg hr]
      exact ⟨c1, c2⟩
theorem One11.new {j : Nat} {ls : List LV} {n : Int} (hn : 1 ≤ n ∧ n ≤ 1 + (j : Int)) (hl : ls.length ≤ 8 * j) : One11 j (newV n ls) :=
  ⟨rfl, rfl, ⟨0, rfl, Nat.le_refl _, rfl⟩, rfl, Nat.zero_le _, Nat.zero_le _, by show 0 ≤ 64; omega, hl, hn, by show (0 : Int) ≤ 0 ∧ (0 : Int) ≤ _; omega⟩
theorem Dir11.new_r {x y : EV} {n : Int} (h : Dir11 x y) (hx : 1 ≤ x.sv.mi) : Dir11 x (newV n y.ls) :=
  ⟨by show (0 : Int) ≤ _; omega, h.ok, h.l2, h.l3, fun hb => by have hb : (0 : Int) = x.sv.mi := hb; omega⟩
theorem Dir11.new_s {x y : EV} {ls : List LV} (h : Dir11 y x) : Dir11 (newV (y.sv.mi + 1) ls) x := by
  refine ⟨by show _ ≤ y.sv.mi + 1; have := h.pe; omega, fun l hl => ?_, fun l hl hm => ?_, fun l hl hm => ?_, fun hb => ?_⟩
  · obtain ⟨a1, a2, a3⟩ := h.ok l hl
    exact ⟨a1, by show _ ≤ y.sv.mi + 1; omega, a3⟩
  · have hm : l.mi = y.sv.mi + 1 := hm
    have := (h.ok l hl).2.1
    omega
  · have hm : l.mi = y.sv.mi + 1 := hm
    have := (h.ok l hl).2.1
    omega
  · have hb : x.sv.pe = y.sv.mi + 1 := hb
    have := h.pe
    omega
theorem Dir11.begin : Dir11 (newV 1 []) (newV 1 []) :=
  ⟨by show (0 : Int) ≤ 1; omega, fun l hl => by simp [newV] at hl, fun l hl => by simp [newV] at hl, fun l hl => by simp [newV] at hl, fun hb => by have hb : (0 : Int) = 1 := hb; omega⟩
/-- Both. -/
structure Two11 (j : Nat) (x y : EV) : Prop where
  a : One11 j x
  b : One11 j y
  ab : Dir11 x y
  ba : Dir11 y x
theorem Two11.swap {j : Nat} {x y : EV} (h : Two11 j x y) : Two11 j y x := ⟨h.b, h.a, h.ba, h.ab⟩
theorem Two11.push {j : Nat} {x y : EV} (h : Two11 j x y) (c : UInt8) : Two11 (j + 1) (pushV x c) y := ⟨h.a.push c, h.b.le (by omega), h.ab.push_s c, h.ba.push_r c⟩
theorem Two11.sent {j : Nat} {x y : EV} (h : Two11 j x y) (hj : j ≤ 1000) : Two11 (j + 1) x (sentV x y) := ⟨h.a.le (by omega), h.b.sent, h.ab.sent h.a hj, h.ba.sent_s⟩
theorem Two11.take {j : Nat} {x y : EV} {l : LV} (h : Two11 j x y) (hl : l ∈ x.ls) : Two11 (j + 1) (takeV x l) y :=
  ⟨h.a.take (h.ba.ok l hl).2.2 (by have := (h.ba.ok l hl).2.1; have := h.b.mi; omega), h.b.le (by omega), h.ab.take_s h.ba hl, h.ba.take_r h.a hl h.ab.pe⟩
theorem Two11.boot {j : Nat} {x y : EV} (h : Two11 j x y) : Two11 (j + 1) x (newV (y.sv.mi + 1) y.ls) :=
  ⟨h.a.le (by omega), One11.new (by have := h.b.mi; omega) (by have := h.b.ll; omega), h.ab.new_r (by have := h.a.mi; omega), h.ba.new_s⟩
theorem Two11.le {j k : Nat} {x y : EV} (h : Two11 j x y) (hk : j ≤ k) : Two11 k x y := ⟨h.a.le hk, h.b.le hk, h.ab, h.ba⟩
theorem Two11.begin : Two11 0 (newV 1 []) (newV 1 []) := ⟨One11.new (by omega) (by simp), One11.new (by omega) (by simp), Dir11.begin, Dir11.begin⟩


end Go.Proofs.Ytbbjecjhkjjbkaa
