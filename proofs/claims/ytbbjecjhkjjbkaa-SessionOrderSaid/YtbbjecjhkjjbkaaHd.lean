/-
  Two ends that know one another, or not: plain. No condition.
-/
import Derived.Test.YtbbjecjhkjjbkaaGo
namespace Go.Proofs.Ytbbjecjhkjjbkaa
open Go.RowKit
set_option linter.unusedVariables false
set_option linter.unusedSimpArgs false

/-- An end: a session, its boot, whom it knows, what it was pushed, what it handed out, what was sent to it. -/
structure EV where
  sv : SV
  boot : Int
  known : Int
  inp : List UInt8
  out : List UInt8
  ls : List LV
/-- The queue is what was pushed and is not acknowledged. -/
def QI (s : SV) (inp : List UInt8) : Prop := ∃ k : Nat, s.nx = (k : Int) + 1 ∧ k ≤ inp.length ∧ s.q = (inp.drop k).map (fun c => [c])
structure One11 (j : Nat) (x : EV) : Prop where
  bt : x.boot = x.sv.mi
  kn : x.known = x.sv.pe
  qi : QI x.sv x.inp
  go : x.sv.go = (x.out.length : Int)
  il : x.inp.length ≤ j
  ol : x.out.length ≤ j
  q64 : x.sv.q.length ≤ 64
  ll : x.ls.length ≤ 8 * j
  mi : 1 ≤ x.sv.mi ∧ x.sv.mi ≤ 1 + (j : Int)
  pe : 0 ≤ x.sv.pe ∧ x.sv.pe ≤ 1 + (j : Int)
/-- From x to y. -/
structure Dir11 (x y : EV) : Prop where
  pe : y.sv.pe ≤ x.sv.mi
  ok : ∀ l ∈ y.ls, ltR l.mi l.pe l.ac l.se l.b.length = true ∧ l.mi ≤ x.sv.mi ∧ (l.se ≠ 0 → l.b.length = 1)
  l2 : ∀ l ∈ y.ls, l.mi = x.sv.mi → l.pe ≤ x.sv.pe
  l3 : ∀ l ∈ y.ls, l.mi = x.sv.mi → l.pe = x.sv.pe → ∀ k : Nat, l.se = (k : Int) + 1 → ∃ c, x.inp[k]? = some c ∧ l.b = [c]
  b : y.sv.pe = x.sv.mi → (x.sv.pe ≠ y.sv.mi → y.out = []) ∧ (x.sv.pe = y.sv.mi → y.out <+: x.inp)
def pushV (x : EV) (c : UInt8) : EV := { x with sv := pushS x.sv [c], inp := if pushE x.sv [c] = 0 then x.inp ++ [c] else x.inp }
def sentV (x y : EV) : EV := { y with ls := y.ls ++ outS x.sv }
def takeV (x : EV) (l : LV) : EV := { x with sv := tkS x.sv l, known := if tkRes x.sv l = true then l.mi else x.known, inp := if tkRes x.sv l = true then [] else x.inp, out := (if tkRes x.sv l = true then [] else x.out) ++ tkB x.sv l }
def newV (n : Int) (ls : List LV) : EV := ⟨⟨n, 0, 1, 0, []⟩, n, 0, [], [], ls⟩

theorem One11.le {j k : Nat} {x : EV} (h : One11 j x) (hk : j ≤ k) : One11 k x :=
  ⟨h.bt, h.kn, h.qi, h.go, by have := h.il; omega, by have := h.ol; omega, h.q64, by have := h.ll; omega, by have := h.mi; omega, by have := h.pe; omega⟩
theorem One11.ok {j : Nat} {x : EV} (h : One11 j x) (hj : j ≤ 1000) : SOk x.sv := by
  obtain ⟨k, h1, h2, h3⟩ := h.qi
  refine ⟨h.q64, fun b hb => ?_, by have := h.il; omega, by have := h.go; have := h.ol; omega⟩
  rw [h3] at hb
  obtain ⟨c, _, rfl⟩ := List.mem_map.1 hb
  exact ⟨by simp, by simp⟩
theorem pushS_mi (x : SV) (b : List UInt8) : (pushS x b).mi = x.mi ∧ (pushS x b).pe = x.pe ∧ (pushS x b).go = x.go := by
  unfold pushS
  split <;> exact ⟨rfl, rfl, rfl⟩
theorem One11.push {j : Nat} {x : EV} (h : One11 j x) (c : UInt8) : One11 (j + 1) (pushV x c) := by
  obtain ⟨e1, e2, e3⟩ := pushS_mi x.sv [c]
  have hq : QI (pushS x.sv [c]) (if pushE x.sv [c] = 0 then x.inp ++ [c] else x.inp) ∧ (pushS x.sv [c]).q.length ≤ 64 := by
    unfold pushS
    by_cases h0 : pushE x.sv [c] = 0
    · rw [if_pos h0, if_pos h0]
      have h64 : x.sv.q.length ≠ 64 := fun e => by
        unfold pushE at h0
        rw [if_pos (by simp [withinB]), if_pos e] at h0
        omega
      obtain ⟨k, h1, h2, h3⟩ := h.qi
      refine ⟨⟨k, h1, by rw [List.length_append]; omega, ?_⟩, ?_⟩
      · show x.sv.q ++ [[c]] = _
        rw [List.drop_append_of_le_length h2, List.map_append, h3]
        rfl
      · show (x.sv.q ++ [[c]]).length ≤ 64
        have := h.q64
        rw [List.length_append, List.length_singleton]
        omega
    · rw [if_neg h0, if_neg h0]
      exact ⟨h.qi, h.q64⟩
  refine ⟨h.bt.trans e1.symm, h.kn.trans e2.symm, hq.1, e3.trans h.go, ?_, by have := h.ol; show x.out.length ≤ _; omega, hq.2, by have := h.ll; show x.ls.length ≤ _; omega, ?_, ?_⟩
  · show (if pushE x.sv [c] = 0 then x.inp ++ [c] else x.inp).length ≤ _
    have := h.il
    split
    · rw [List.length_append, List.length_singleton]; omega
    · omega
  · show 1 ≤ (pushS x.sv [c]).mi ∧ (pushS x.sv [c]).mi ≤ _
    have := h.mi
    omega
  · show 0 ≤ (pushS x.sv [c]).pe ∧ (pushS x.sv [c]).pe ≤ _
    have := h.pe
    omega
theorem Dir11.push_s {x y : EV} (h : Dir11 x y) (c : UInt8) : Dir11 (pushV x c) y := by
  obtain ⟨e1, e2, e3⟩ := pushS_mi x.sv [c]
  have hp : x.inp <+: (pushV x c).inp := by
    show x.inp <+: (if pushE x.sv [c] = 0 then x.inp ++ [c] else x.inp)
    split
    · exact List.prefix_append _ _
    · exact List.prefix_refl _
  refine ⟨?_, fun l hl => ?_, fun l hl hm => ?_, fun l hl hm hpe k hk => ?_, fun hb => ?_⟩
  · show y.sv.pe ≤ (pushS x.sv [c]).mi
    rw [e1]; exact h.pe
  · show _ ∧ l.mi ≤ (pushS x.sv [c]).mi ∧ _
    rw [e1]; exact h.ok l hl
  · show l.pe ≤ (pushS x.sv [c]).pe
    rw [e2]
    exact h.l2 l hl (hm.trans e1)
  · obtain ⟨d, h1, h2⟩ := h.l3 l hl (hm.trans e1) (hpe.trans e2) k hk
    obtain ⟨t, ht⟩ := hp
    refine ⟨d, ?_, h2⟩
    rw [← ht, List.getElem?_append_left (List.getElem?_eq_some_iff.1 h1).1]
    exact h1
  · obtain ⟨h1, h2⟩ := h.b (hb.trans e1)
    refine ⟨fun e => h1 (fun e4 => e (e2.trans e4)), fun e => (h2 (e2.symm.trans e)).trans hp⟩
theorem Dir11.push_r {x y : EV} (h : Dir11 x y) (c : UInt8) : Dir11 x (pushV y c) := by
  obtain ⟨e1, e2, e3⟩ := pushS_mi y.sv [c]
  refine ⟨?_, h.ok, h.l2, h.l3, fun hb => ?_⟩
  · show (pushS y.sv [c]).pe ≤ _
    rw [e2]; exact h.pe
  · obtain ⟨h1, h2⟩ := h.b (e2.symm.trans hb)
    exact ⟨fun e => h1 (fun e4 => e (e4.trans e1.symm)), fun e => h2 (e.trans e1)⟩
theorem outS_mem {x : SV} {l : LV} (h : l ∈ outS x) : l.mi = x.mi ∧ l.pe = x.pe ∧ l.ac = x.go ∧ ((l.se = 0 ∧ l.b = []) ∨ ∃ i : Nat, i < x.q.length ∧ l.se = x.nx + (i : Int) ∧ x.q[i]? = some l.b) := by
  unfold outS at h
  split at h
  · rw [List.mem_singleton.1 h]
    exact ⟨rfl, rfl, rfl, .inl ⟨rfl, rfl⟩⟩
  · obtain ⟨i, hi, rfl⟩ := List.mem_map.1 h
    have hi := List.mem_range.1 hi
    have hi2 : i < x.q.length := by omega
    refine ⟨rfl, rfl, rfl, .inr ⟨i, hi2, rfl, ?_⟩⟩
    show x.q[i]? = some (x.q.getD i [])
    rw [List.getElem?_eq_getElem hi2]
    simp [List.getD, hi2]
theorem ltR_intro {m p a s : Int} {n : Nat} (hm : 1 ≤ m ∧ m ≤ 4294967296) (hp : 0 ≤ p ∧ p ≤ 4294967296) (ha : 0 ≤ a ∧ a ≤ 1099511627776) (hs : 0 ≤ s ∧ s ≤ 1099511627776) (hb : (s = 0 ∧ n = 0) ∨ (s ≠ 0 ∧ 1 ≤ n ∧ n ≤ 1000)) : ltR m p a s n = true := by
  unfold ltR withinB bodB withinB
  rcases hb with ⟨h1, h2⟩ | ⟨h1, h2, h3⟩
  · simp [h1, h2]
    omega
  · simp [h1]
    omega
theorem QI.at {s : SV} {inp : List UInt8} (h : QI s inp) {i : Nat} {b : List UInt8} (hi : s.q[i]? = some b) : ∃ (k : Nat) (c : UInt8), s.nx + (i : Int) = (k : Int) + 1 ∧ inp[k]? = some c ∧ b = [c] := by
  obtain ⟨k, h1, h2, h3⟩ := h
  rw [h3, List.getElem?_map, List.getElem?_drop] at hi
  cases hc : inp[k + i]? with
  | none => rw [hc] at hi; cases hi
  | some c =>
    rw [hc] at hi
    injection hi with hi
    exact ⟨k + i, c, by omega, hc, hi.symm⟩
theorem Dir11.sent {j : Nat} {x y : EV} (h : Dir11 x y) (hx : One11 j x) (hj : j ≤ 1000) : Dir11 x (sentV x y) := by
  have hn : ∀ l ∈ outS x.sv, ltR l.mi l.pe l.ac l.se l.b.length = true ∧ l.mi ≤ x.sv.mi ∧ (l.se ≠ 0 → l.b.length = 1) ∧ l.pe = x.sv.pe ∧ ∀ k : Nat, l.se = (k : Int) + 1 → ∃ c, x.inp[k]? = some c ∧ l.b = [c] := by
    intro l hl
    obtain ⟨e1, e2, e3, e4⟩ := outS_mem hl
    have m1 := hx.mi
    have m2 := hx.pe
    have m3 := hx.go
    have m4 := hx.ol
    have m5 := hx.il
    rcases e4 with ⟨e4, e5⟩ | ⟨i, hi, e4, e5⟩
    · refine ⟨ltR_intro (by omega) (by omega) (by omega) (by omega) (.inl ⟨e4, by rw [e5]; rfl⟩), by omega, fun h => absurd e4 h, e2, fun k hk => by omega⟩
    · obtain ⟨k, c, h1, h2, h3⟩ := hx.qi.at e5
      have hk := (List.getElem?_eq_some_iff.1 h2).1
      refine ⟨ltR_intro (by omega) (by omega) (by omega) (by omega) (.inr ⟨by omega, by rw [h3]; simp, by rw [h3]; simp⟩), by omega, fun _ => by rw [h3]; rfl, e2, fun k2 hk2 => ?_⟩
      have : k2 = k := by omega
      subst this
      exact ⟨c, h2, h3⟩
  refine ⟨h.pe, fun l hl => ?_, fun l hl hm => ?_, fun l hl hm hpe k hk => ?_, h.b⟩
  · rcases List.mem_append.1 hl with hl | hl
    · exact h.ok l hl
    · obtain ⟨a1, a2, a3, _⟩ := hn l hl
      exact ⟨a1, a2, a3⟩
  · rcases List.mem_append.1 hl with hl | hl
    · exact h.l2 l hl hm
    · obtain ⟨_, _, _, a4, _⟩ := hn l hl
      omega
  · rcases List.mem_append.1 hl with hl | hl
    · exact h.l3 l hl hm hpe k hk
    · obtain ⟨_, _, _, _, a5⟩ := hn l hl
      exact a5 k hk
theorem Dir11.sent_s {x y : EV} (h : Dir11 y x) : Dir11 (sentV x y) x := ⟨h.pe, h.ok, h.l2, h.l3, h.b⟩
theorem One11.sent {j : Nat} {x y : EV} (h : One11 j y) : One11 (j + 1) (sentV x y) :=
  ⟨h.bt, h.kn, h.qi, h.go, by have := h.il; show y.inp.length ≤ _; omega, by have := h.ol; show y.out.length ≤ _; omega, h.q64, by
    have := h.ll
    have := outS_len x.sv
    show (y.ls ++ outS x.sv).length ≤ _
    rw [List.length_append]
    omega, by have := h.mi; show 1 ≤ y.sv.mi ∧ y.sv.mi ≤ _; omega, by have := h.pe; show 0 ≤ y.sv.pe ∧ y.sv.pe ≤ _; omega⟩


end Go.Proofs.Ytbbjecjhkjjbkaa
