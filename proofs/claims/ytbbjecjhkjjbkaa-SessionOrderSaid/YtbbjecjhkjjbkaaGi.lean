/-
  Walks: session.Right, New, Push, on nil too. Conditions: the session lies in memory, its queue has at most 64 bodies; the body is read in memory.
-/
import Derived.Test.YtbbjecjhkjjbkaaGh
import Derived.Deep.DeepCutAuto
namespace Go.Proofs.Ytbbjecjhkjjbkaa
open Go.RowKit
set_option linter.unusedVariables false
set_option linter.unusedSimpArgs false

def bodB (s : Int) (n : Nat) : Bool := if s = 0 then decide (n = 0) else withinB 1 1000 [(n : Int)]
/-- May a letter be? -/
def ltR (m p a s : Int) (n : Nat) : Bool := withinB 1 4294967296 [m] && (withinB 0 4294967296 [p] && (withinB 0 1099511627776 [a, s] && bodB s n))
theorem ltR_parts {m p a s : Int} {n : Nat} (h : ltR m p a s n = true) : (1 ≤ m ∧ m ≤ 4294967296) ∧ (0 ≤ p ∧ p ≤ 4294967296) ∧ (0 ≤ a ∧ a ≤ 1099511627776) ∧ (0 ≤ s ∧ s ≤ 1099511627776) ∧ n ≤ 1000 ∧ (s ≠ 0 → 1 ≤ n) ∧ (s = 0 → n = 0) := by
  unfold ltR withinB at h
  simp only [List.all_cons, List.all_nil, Bool.and_true, Bool.and_eq_true, decide_eq_true_eq] at h
  obtain ⟨h1, h2, ⟨h3, h4⟩, h5⟩ := h
  refine ⟨h1, h2, h3, h4, ?_⟩
  unfold bodB withinB at h5
  by_cases hs : s = 0
  · rw [if_pos hs] at h5
    simp only [decide_eq_true_eq] at h5
    omega
  · rw [if_neg hs] at h5
    simp only [List.all_cons, List.all_nil, Bool.and_true, Bool.and_eq_true, decide_eq_true_eq] at h5
    omega
theorem ret_i11 {a b : Int} (h : a = b) : Ending.returned (.int .i64 a) = .returned (.int .i64 b) := by rw [h]

set_option maxRecDepth 100000 in
set_option maxHeartbeats 4000000 in
theorem right11_any (m p a s : Int) (A : Option Addr) (n c : Nat) (w : World) (hn : n ≤ 9223372036854775807) : Calls Try.prog 10 #[.agg (ltC m p a s A n c)] w fun e w' => e = .returned (.bool (ltR m p a s n)) ∧ Chg (fun _ => False) w w' := by
  have hw1 := fun (W : World) (g : Nat) (hg : g = W.heap.size) => (show Calls Try.prog 30 #[.int .i64 1, .int .i64 4294967296, .slice (some ⟨g, 0, none⟩) 1 1] (W.alloc (.cells #[.int .i64 m] 3)) (fun e w' => e = .returned (.bool (withinB 1 4294967296 [m])) ∧ W.alloc (.cells #[.int .i64 m] 3) = w') from within11 1 4294967296 [m] _ 1 1 _ _ rfl (rds_new1 W 3 #[.int .i64 m] (0, 0) g hg _ 1 rfl rfl) (by decide))
  have hw2 := fun (W : World) (g : Nat) (hg : g = W.heap.size) => (show Calls Try.prog 30 #[.int .i64 0, .int .i64 4294967296, .slice (some ⟨g, 0, none⟩) 1 1] (W.alloc (.cells #[.int .i64 p] 3)) (fun e w' => e = .returned (.bool (withinB 0 4294967296 [p])) ∧ W.alloc (.cells #[.int .i64 p] 3) = w') from within11 0 4294967296 [p] _ 1 1 _ _ rfl (rds_new1 W 3 #[.int .i64 p] (0, 0) g hg _ 1 rfl rfl) (by decide))
  have hw3 := fun (W : World) (g : Nat) (hg : g = W.heap.size) => (show Calls Try.prog 30 #[.int .i64 0, .int .i64 1099511627776, .slice (some ⟨g, 0, none⟩) 2 2] (W.alloc (.cells #[.int .i64 a, .int .i64 s] 3)) (fun e w' => e = .returned (.bool (withinB 0 1099511627776 [a, s])) ∧ W.alloc (.cells #[.int .i64 a, .int .i64 s] 3) = w') from within11 0 1099511627776 [a, s] _ 2 2 _ _ rfl (rds_new1 W 3 #[.int .i64 a, .int .i64 s] (0, 0) g hg _ 2 rfl rfl) (by decide))
  have hs := fun (W : World) => sized11 A n c W hn
  have hr : ltR m p a s n = (withinB 1 4294967296 [m] && (withinB 0 4294967296 [p] && (withinB 0 1099511627776 [a, s] && bodB s n))) := rfl
  have hb5 : bodB s n = if s = 0 then decide (n = 0) else withinB 1 1000 [(n : Int)] := rfl
  rw [hr]
  clear hr
  generalize withinB 1 4294967296 [m] = b1 at *
  generalize withinB 0 4294967296 [p] = b2 at *
  generalize withinB 0 1099511627776 [a, s] = b3 at *
  generalize withinB 1 1000 [(n : Int)] = b4 at *
  generalize bodB s n = b5 at *
  have HB5 := Lib.hid hb5
  clear hb5
  have HW1 := Lib.hid hw1
  have HW2 := Lib.hid hw2
  have HW3 := Lib.hid hw3
  have HS := Lib.hid hs
  clear hw1 hw2 hw3 hs
  unfold ltC
  go_enter Try.func10, Try.ntmps10
  cases b1 with
  | false =>
    go_wp2_with fail
    refine (HW1.out _ _ (by simp)).mono ?_
    rintro e _ ⟨rfl, rfl⟩
    go_wp2_with fail
    go_ret
    exact ⟨rfl, (by repeat (first | exact Chg.refl _ _ | exact Chg.drew (Chg.refl _ _) | refine Chg.alloc ?_ _))⟩
  | true =>
    cases b2 with
    | false =>
      go_wp2_with fail
      refine (HW1.out _ _ (by simp)).mono ?_
      rintro e _ ⟨rfl, rfl⟩
      go_wp2_with fail
      refine (HW2.out _ _ (by simp)).mono ?_
      rintro e _ ⟨rfl, rfl⟩
      go_wp2_with fail
      go_ret
      exact ⟨rfl, (by repeat (first | exact Chg.refl _ _ | exact Chg.drew (Chg.refl _ _) | refine Chg.alloc ?_ _))⟩
    | true =>
      cases b3 with
      | false =>
        go_wp2_with fail
        refine (HW1.out _ _ (by simp)).mono ?_
        rintro e _ ⟨rfl, rfl⟩
        go_wp2_with fail
        refine (HW2.out _ _ (by simp)).mono ?_
        rintro e _ ⟨rfl, rfl⟩
        go_wp2_with fail
        refine (HW3.out _ _ (by simp)).mono ?_
        rintro e _ ⟨rfl, rfl⟩
        go_wp2_with fail
        go_ret
        exact ⟨rfl, (by repeat (first | exact Chg.refl _ _ | exact Chg.drew (Chg.refl _ _) | refine Chg.alloc ?_ _))⟩
      | true =>
        by_cases hs0 : s = 0
        · have e1 : (s == 0) = true := by simp [hs0]
          have HE := Lib.hid (show b5 = ((n : Int) == 0) from by rw [HB5.out, if_pos hs0, Bool.eq_iff_iff]; simp)
          clear hs0
          go_wp2_with fail
          refine (HW1.out _ _ (by simp)).mono ?_
          rintro e _ ⟨rfl, rfl⟩
          go_wp2_with fail
          refine (HW2.out _ _ (by simp)).mono ?_
          rintro e _ ⟨rfl, rfl⟩
          go_wp2_with fail
          refine (HW3.out _ _ (by simp)).mono ?_
          rintro e _ ⟨rfl, rfl⟩
          go_wp2_with fail
          go_ret
          exact ⟨ret_b HE.out.symm, (by repeat (first | exact Chg.refl _ _ | exact Chg.drew (Chg.refl _ _) | refine Chg.alloc ?_ _))⟩
        · have e1 : (s == 0) = false := by simpa using hs0
          have HE := Lib.hid (show b5 = b4 from by rw [HB5.out, if_neg hs0])
          clear hs0
          go_wp2_with fail
          refine (HW1.out _ _ (by simp)).mono ?_
          rintro e _ ⟨rfl, rfl⟩
          go_wp2_with fail
          refine (HW2.out _ _ (by simp)).mono ?_
          rintro e _ ⟨rfl, rfl⟩
          go_wp2_with fail
          refine (HW3.out _ _ (by simp)).mono ?_
          rintro e _ ⟨rfl, rfl⟩
          go_wp2_with fail
          refine (HS.out _).mono ?_
          rintro e w2 ⟨rfl, hc2⟩
          go_wp2_with fail
          go_ret
          refine ⟨ret_b HE.out.symm, Chg.trans ?_ hc2 (fun _ _ e => e)⟩
          exact (by repeat (first | exact Chg.refl _ _ | exact Chg.drew (Chg.refl _ _) | refine Chg.alloc ?_ _))

/-- What New hands back. -/
def NewSP (mi : Int) (w : World) (e : Ending) (w' : World) : Prop :=
  if withinB 1 4294967296 [mi] = true then ∃ p, e = .returned (.tuple #[.pointer (some ⟨p, 0, none⟩), .int .i64 0]) ∧ w.heap.size ≤ p ∧ Blk w' p 92 (snC mi 0 none 0 0 1 0) ∧ Chg (fun _ => False) w w'
  else e = .returned (.tuple #[.pointer none, .int .i64 1]) ∧ Chg (fun _ => False) w w'
set_option maxRecDepth 100000 in
set_option maxHeartbeats 1000000 in
theorem snew11_any (mi : Int) (w : World) : Calls Try.prog 15 #[.int .i64 mi] w (NewSP mi w) := by
  have hw1 := fun (W : World) (g : Nat) (hg : g = W.heap.size) => (show Calls Try.prog 30 #[.int .i64 1, .int .i64 4294967296, .slice (some ⟨g, 0, none⟩) 1 1] (W.alloc (.cells #[.int .i64 mi] 3)) (fun e w' => e = .returned (.bool (withinB 1 4294967296 [mi])) ∧ W.alloc (.cells #[.int .i64 mi] 3) = w') from within11 1 4294967296 [mi] _ 1 1 _ _ rfl (rds_new1 W 3 #[.int .i64 mi] (0, 0) g hg _ 1 rfl rfl) (by decide))
  unfold NewSP
  generalize withinB 1 4294967296 [mi] = b1 at *
  have HW1 := Lib.hid hw1
  clear hw1
  cases b1 with
  | false =>
    simp only [Bool.false_eq_true, if_false]
    go_enter Try.func15, Try.ntmps15
    go_wp2_with fail
    refine (HW1.out _ _ (by simp)).mono ?_
    rintro e _ ⟨rfl, rfl⟩
    go_wp2_with fail
    go_ret2
    exact ⟨rfl, (by repeat (first | exact Chg.refl _ _ | exact Chg.drew (Chg.refl _ _) | refine Chg.alloc ?_ _))⟩
  | true =>
    simp only [if_true]
    go_enter Try.func15, Try.ntmps15
    go_wp2_with fail
    refine (HW1.out _ _ (by simp)).mono ?_
    rintro e _ ⟨rfl, rfl⟩
    go_wp2_with fail
    go_ret2
    exact ⟨w.heap.size + 1, rfl, by omega, blk_new (by simp), (by repeat (first | exact Chg.refl _ _ | exact Chg.drew (Chg.refl _ _) | refine Chg.alloc ?_ _))⟩

/-- Where bodies may lie behind a call that moves the queue's row to o'. -/
def GN (G : Nat → Prop) (w : World) (o' : Option Nat) (k : Nat) : Prop := (G k ∧ k < w.heap.size) ∨ (w.heap.size ≤ k ∧ o' ≠ some k)
/-- A call leaves the session x. -/
def SM (p : Nat) (o : Option Nat) (G : Nat → Prop) (x : SV) (w w' : World) : Prop := ∃ o', SN w' p o' (GN G w o') x ∧ Mvd p o o' w w'
theorem GN.ok {G : Nat → Prop} {w w' : World} {p : Nat} {o o' : Option Nat} {x : SV} (h : SN w p o G x) (hm : Mvd p o o' w w') : ¬ GN G w o' p ∧ ∀ k, o' = some k → ¬ GN G w o' k := by
  have hlt := h.lt
  obtain ⟨A, c, vs, hb, hown, h1, h2, h3, h4, h5⟩ := h
  refine ⟨fun e => ?_, fun k hk e => ?_⟩
  · rcases e with e | e
    · exact h4 e.1
    · omega
  · rcases e with e | e
    · rcases hm.2 with h | h | ⟨j, h, hj⟩
      · exact h5 k (by rw [← h]; exact hk) e.1
      · rw [h] at hk; cases hk
      · rw [h] at hk
        injection hk with hk
        omega
    · exact e.2 hk
theorem SN.sm {w w' : World} {p : Nat} {o : Option Nat} {G : Nat → Prop} {x y : SV} (h : SN w p o G x) (h2 : SN w' p o (fun k => G k ∧ k < w.heap.size) y) (hc : Chg (fun k => k = p ∨ o = some k) w w') : SM p o G y w w' := by
  have hm : Mvd p o o w w' := ⟨hc, .inl rfl⟩
  obtain ⟨g1, g2⟩ := GN.ok h hm
  exact ⟨o, h2.mono (fun k hk _ => .inl hk) g1 g2, hm⟩
theorem SM.refl {w : World} {p : Nat} {o : Option Nat} {G : Nat → Prop} {x : SV} (h : SN w p o G x) : SM p o G x w w := h.sm h.old (Chg.refl _ _)
theorem GN.pre {G : Nat → Prop} {w w1 w2 : World} {p : Nat} {o' : Option Nat} {x : SV} (hs : w.heap.size ≤ w1.heap.size) (hp : p < w.heap.size) (h : SN w2 p o' (GN G w1 o') x) : SN w2 p o' (GN G w o') x := by
  have h6 : ¬ GN G w1 o' p := by obtain ⟨_, _, _, _, _, _, _, _, h, _⟩ := h; exact h
  have h7 : ∀ k, o' = some k → ¬ GN G w1 o' k := by obtain ⟨_, _, _, _, _, _, _, _, _, h⟩ := h; exact h
  refine h.mono (fun k hk _ => ?_) (fun e => ?_) (fun k hk e => ?_)
  · rcases Nat.lt_or_ge k w.heap.size with hl | hl
    · rcases hk with hk | hk
      · exact .inl ⟨hk.1, hl⟩
      · omega
    · exact .inr ⟨hl, fun e => h7 k e hk⟩
  · rcases e with e | e
    · exact h6 (.inl ⟨e.1, by omega⟩)
    · omega
  · rcases e with e | e
    · exact h7 k hk (.inl ⟨e.1, by omega⟩)
    · exact e.2 hk
theorem SM.pre {w w1 w2 : World} {p : Nat} {o : Option Nat} {G : Nat → Prop} {x : SV} (hc : Chg (fun _ => False) w w1) (h : SM p o G x w1 w2) (hp : p < w.heap.size) : SM p o G x w w2 := by
  obtain ⟨o', hs, hm⟩ := h
  exact ⟨o', GN.pre hc.size hp hs, Mvd.pre hc hm⟩
theorem SM.post {w w1 w2 : World} {p : Nat} {o : Option Nat} {G : Nat → Prop} {x : SV} (h : SM p o G x w w1) (hc : Chg (fun _ => False) w1 w2) : SM p o G x w w2 := by
  obtain ⟨o', hs, hm⟩ := h
  exact ⟨o', hs.new hc, Mvd.post hm hc⟩
def pushE (x : SV) (b : List UInt8) : Int := if withinB 1 1000 [(b.length : Int)] = true then (if x.q.length = 64 then 3 else 0) else 1
def pushS (x : SV) (b : List UInt8) : SV := if pushE x b = 0 then { x with q := x.q ++ [b] } else x
/-- Behind the append of a body, and the store of what it gave. -/
theorem SN.push {w w3 w5 : World} {p : Nat} {G : Nat → Prop} {mi pe nx go : Int} {A A5 E : Option Addr} {n c c5 d : Nat} {q : List (List UInt8)} {vs : List Value} {b : List UInt8} (hb : Blk w p 92 (snC mi pe A n c nx go)) (hown : w.ownsRow 0 22 1 (.slice A n c) n vs) (hbq : BQ w (fun k => G k ∧ k < w.heap.size) vs q)
    (hne : A.map (·.block) ≠ some p) (hgp : ¬ G p) (hgo : ∀ k, A.map (·.block) = some k → ¬ G k) (hn : n = q.length) (hc : Chg (fun _ => False) w w3) (hz : E = none → d = 0) (hr : Rds w3 (fun k => w.heap.size ≤ k) E b.length (bcs b))
    (hown5 : w5.ownsRow 0 22 1 (.slice A5 (n + 1) c5) (n + 1) (vs ++ [.slice E b.length d])) (hg : (w3.alloc (.cells #[.slice E b.length d] 22)).grownBy w5 (Value.slice A n c).ownBlock)
    (hat : (Value.slice A5 (n + 1) c5).ownBlock = (Value.slice A n c).ownBlock ∨ (Value.slice A5 (n + 1) c5).ownBlock = some (w3.alloc (.cells #[.slice E b.length d] 22)).heap.size) :
    SM p (A.map (·.block)) G ⟨mi, pe, nx, go, q ++ [b]⟩ w (w5.setCell ⟨p, 2, none⟩ (.slice A5 (n + 1) c5)) ∧ Blk w5 p 92 (snC mi pe A n c nx go) := by
  subst hn
  rw [own_block, own_block] at hat
  rw [own_block] at hg
  have hplt := hb.lt
  have hs3 := hc.size
  have hb3 : Blk (w3.alloc (.cells #[.slice E b.length d] 22)) p _ _ := (hb.chg hc id).alloc _
  have hb5 := blk_grown hb3 hg hne
  have hc4 := hc.alloc (.cells #[.slice E b.length d] 22)
  have hc5 : Chg (fun k => k = p ∨ A.map (·.block) = some k) w w5 := (hc4.mono (fun _ _ h => h.elim)).grown hg (fun k hk _ => .inr hk)
  have hc6 : Chg (fun k => k = p ∨ A.map (·.block) = some k) w (w5.setCell ⟨p, 2, none⟩ (.slice A5 (q.length + 1) c5)) := hc5.put p 2 (fun _ => .inl rfl) _
  have hlt : ∀ k, A.map (·.block) = some k → k < w.heap.size := fun k hk => (hown.lt k (by rw [own_block]; exact hk)).2
  have hsz4 : (w3.alloc (.cells #[.slice E b.length d] 22)).heap.size = w3.heap.size + 1 := by simp
  have hne5 : A5.map (·.block) ≠ some p := by
    rcases hat with e | e
    · rw [e]; exact hne
    · rw [e, hsz4]
      intro e
      injection e with e
      omega
  have hm : Mvd p (A.map (·.block)) (A5.map (·.block)) w (w5.setCell ⟨p, 2, none⟩ (.slice A5 (q.length + 1) c5)) := ⟨hc6, by
    rcases hat with e | e
    · exact .inl e
    · exact .inr (.inr ⟨_, e, by omega⟩)⟩
  have hsn : SN w p (A.map (·.block)) (fun k => G k ∧ k < w.heap.size) ⟨mi, pe, nx, go, q⟩ := ⟨A, c, vs, hb, hown, rfl, hne, hbq, fun e => hgp e.1, fun k hk e => hgo k hk e.1⟩
  obtain ⟨g1, g2⟩ := GN.ok hsn hm
  have e1 : ∀ k, GN (fun k => G k ∧ k < w.heap.size) w (A5.map (·.block)) k ↔ GN G w (A5.map (·.block)) k := fun k => by
    unfold GN
    constructor
    · rintro (h | h)
      · exact .inl ⟨h.1.1, h.2⟩
      · exact .inr h
    · rintro (h | h)
      · exact .inl ⟨⟨h.1, h.2⟩, h.2⟩
      · exact .inr h
  refine ⟨⟨A5.map (·.block), ⟨A5, c5, vs ++ [.slice E b.length d], ?_, ?_, rfl, hne5, ?_, fun e => g1 ((e1 p).2 e), fun k hk e => g2 k hk ((e1 k).2 e)⟩, hm⟩, hb5⟩
  · have h := hb5.set 2 (.slice A5 (q.length + 1) c5)
    show Blk _ _ _ (snC mi pe A5 (q ++ [b]).length c5 nx go)
    rw [List.length_append]
    exact h
  · show World.ownsRow _ _ _ _ (.slice A5 (q ++ [b]).length c5) (q ++ [b]).length _
    rw [List.length_append]
    exact own_chg hown5 ((Chg.refl (fun k => k = p) w5).put p 2 (fun _ => rfl) _) (fun k hk e => by subst e; exact hne5 hk)
  · refine BQ.snoc ?_ rfl hz ?_
    · exact (hbq.chg hc6 (fun k hk e => by
        rcases e with e | e
        · subst e; exact hgp hk.1
        · exact hgo k e hk.1)).mono (fun k hk => .inl hk)
    · have hr2 := hr.old
      have hc35 : Chg (fun k => k = p ∨ A.map (·.block) = some k) w3 (w5.setCell ⟨p, 2, none⟩ (.slice A5 (q.length + 1) c5)) :=
        ((((Chg.refl (fun _ => False) w3).alloc (.cells #[.slice E b.length d] 22)).mono (fun _ _ h => h.elim)).grown hg (fun k hk _ => .inr hk)).put p 2 (fun _ => .inl rfl) _
      refine (hr2.chg hc35 (fun k hk e => ?_)).mono (fun k hk => .inr ⟨hk.1, ?_⟩)
      · rcases e with e | e
        · have := hk.1
          omega
        · have := hlt k e
          have := hk.1
          omega
      · rcases hat with e | e
        · rw [e]
          intro e
          have := hlt k e
          have := hk.1
          omega
        · rw [e, hsz4]
          intro e
          injection e with e
          have := hk.2
          omega
def PushP (p : Nat) (o : Option Nat) (G : Nat → Prop) (x : SV) (b : List UInt8) (w : World) (e : Ending) (w' : World) : Prop := e = .returned (.int .i64 (pushE x b)) ∧ SM p o G (pushS x b) w w'
set_option maxRecDepth 100000 in
set_option maxHeartbeats 400000 in
theorem spush_nil (A : Option Addr) (n c : Nat) (w : World) : Calls Try.prog 21 #[.pointer none, .slice A n c] w fun e w' => e = .returned (.int .i64 1) ∧ w = w' := by
  go_enter Try.func21, Try.ntmps21
  go_wp2
  go_ret
  exact ⟨rfl, rfl⟩
set_option maxRecDepth 100000 in
set_option maxHeartbeats 4000000 in
theorem spush_any (p : Nat) (o : Option Nat) (G : Nat → Prop) (x : SV) (A2 : Option Addr) (n2 c2 : Nat) (b : List UInt8) (S : Nat → Prop) (w : World) (h : SN w p o G x) (hq : x.q.length ≤ 64) (hn2 : n2 = b.length) (hr : Rds w S A2 n2 (bcs b)) (hz2' : A2 = none → c2 = 0) (hmax : n2 ≤ 9223372036854775807) : Calls Try.prog 21 #[.pointer (some ⟨p, 0, none⟩), .slice A2 n2 c2] w (PushP p o G x b w) := by
  subst hn2
  obtain ⟨i0, hi0, hz0, hz1, hz2⟩ := info_parts infoSl11
  have HSN := Lib.hid h
  have HLT := Lib.hid h.lt.1
  have hs := fun W => sized11 A2 b.length c2 W hmax
  have HLEN := Lib.hid (fun W (hw : Chg (fun _ => False) w W) => slen_any p o G x W (h.new hw))
  unfold PushP
  have hpe : pushE x b = if withinB 1 1000 [(b.length : Int)] = true then (if x.q.length = 64 then 3 else 0) else 1 := rfl
  have hps : pushS x b = if pushE x b = 0 then { x with q := x.q ++ [b] } else x := rfl
  by_cases hb1 : withinB 1 1000 [(b.length : Int)] = true
  case neg =>
    have hb2 : withinB 1 1000 [(b.length : Int)] = false := by simpa using hb1
    rw [hb2] at hs hpe
    rw [hps, hpe]
    simp only [Bool.false_eq_true, if_false, show ¬ ((1 : Int) = 0) from by decide]
    have HS := Lib.hid hs
    clear hs hb1 hb2 hpe hps h hr
    go_enter Try.func21, Try.ntmps21
    go_wp2_with fail
    refine (HS.out _).mono ?_
    rintro e w1 ⟨rfl, hc1⟩
    go_wp2_with fail
    go_ret
    exact ⟨rfl, (SM.refl HSN.out).post hc1⟩
  rw [hb1] at hs hpe
  simp only [if_true] at hpe
  have hbl : 1 ≤ b.length ∧ b.length ≤ 1000 := by
    unfold withinB at hb1
    simp only [List.all_cons, List.all_nil, Bool.and_true, Bool.and_eq_true, decide_eq_true_eq] at hb1
    omega
  by_cases hfull : x.q.length = 64
  · rw [if_pos hfull] at hpe
    rw [hps, hpe, if_neg (by decide)]
    have HS := Lib.hid hs
    rw [hfull] at HLEN
    clear hs hb1 hpe hps h hr hbl hfull hq
    go_enter Try.func21, Try.ntmps21
    go_wp2_with fail
    refine (HS.out _).mono ?_
    rintro e w1 ⟨rfl, hc1⟩
    go_wp2_with fail
    refine (HLEN.out _ hc1).mono ?_
    rintro e _ ⟨rfl, rfl⟩
    go_wp2_with fail
    go_ret
    exact ⟨rfl, (SM.refl HSN.out).post hc1⟩
  rw [if_neg hfull] at hpe
  have HE := Lib.hid (And.intro hpe (show pushS x b = ⟨x.mi, x.pe, x.nx, x.go, x.q ++ [b]⟩ from by rw [hps, hpe]; rfl))
  have HS := Lib.hid hs
  have hg1 : ¬ G p := by obtain ⟨_, _, _, _, _, _, _, _, h1, _⟩ := h; exact h1
  have hg2 : ∀ k, o = some k → ¬ G k := by obtain ⟨_, _, _, _, _, _, _, _, _, h1⟩ := h; exact h1
  have HRB := Lib.hid hr
  have tf : ((x.q.length : Int) == 64) = false := by simp; omega
  obtain ⟨mi, pe, nx, go, q⟩ := x
  simp only at tf hfull hq HE HLEN
  generalize hqn : q.length = n at *
  have HN := Lib.hid hqn.symm
  clear hs hb1 hpe hps hr hqn
  go_enter Try.func21, Try.ntmps21
  go_wp2_with fail
  refine (HS.out _).mono ?_
  rintro e w1 ⟨rfl, hc1⟩
  have HC1 := Lib.hid hc1
  have hl := HLEN.out _ hc1
  clear HS HLEN
  go_wp2_with fail
  refine hl.mono ?_
  rintro e _ ⟨rfl, rfl⟩
  clear hl
  obtain ⟨A, c, vs, hb, hown, ho, hne, hbq, -, -⟩ := (HSN.out.new HC1.out).old
  rw [show (SV.mk mi pe nx go q).q.length = n from HN.out.symm] at hb hown
  subst ho
  obtain ⟨z0, z1, z2, z3, z4⟩ := sn_cells hb
  have HPB := Lib.hid hb
  have HOW := Lib.hid hown
  have HBQ := Lib.hid hbq
  have HGS := Lib.hid (And.intro hne (And.intro hg1 hg2))
  have HCL := Lib.hid (fun W (hw : Chg (fun _ => False) w1 W) => tclone_any A2 b.length c2 b S W rfl (HRB.out.chg (HC1.out.trans hw (fun _ _ e => e)) (fun _ _ => id)) hz2' (by omega))
  have HX := Lib.hid (Chg.refl (fun _ => False) w1).drew
  clear hb hown hbq hne hg1 hg2 hc1 h HSN
  go_wp2_with fail
  refine wp_region_noPanic ?_
  refine wp_region_held_drew (S := (fun _ => True)) (by kernel_rfl) trivial (fun hHeld => ?_)
  refine wpAnyH_take (i := 0) (v := ?_) rfl (by kernel_rfl) (by kernel_rfl) (by kernel_rfl) (fun _ _ _ h => h) (Or.inl ⟨by rfl, ?_⟩) (by assumption) ?_
  rotate_left
  · intro w' hSw
    try dsimp only at hSw
    go_simp
    first | done | (with_reducible rfl)
  try simp only [List.getElem_toArray, List.getElem_cons_succ, List.getElem_cons_zero, Act.put, List.setIfInBounds_toArray, List.set_cons_zero, List.set_cons_succ]
  refine wpAnyH_take (i := 1) (v := ?_) rfl (by kernel_rfl) (by kernel_rfl) (by kernel_rfl) (fun _ _ _ h => h) (Or.inl ⟨by rfl, ?_⟩) (by assumption) ?_
  rotate_left
  · intro w' hSw
    try dsimp only at hSw
    go_simp
    first | done | (with_reducible rfl)
  try simp only [List.getElem_toArray, List.getElem_cons_succ, List.getElem_cons_zero, Act.put, List.setIfInBounds_toArray, List.set_cons_zero, List.set_cons_succ]
  refine wpAnyH_take (i := 2) (v := ?_) rfl (by kernel_rfl) (by kernel_rfl) (by kernel_rfl) (fun _ _ _ h => h) (Or.inl ⟨by rfl, ?_⟩) (by assumption) ?_
  rotate_left
  · intro w' hSw
    try dsimp only at hSw
    go_simp
    first | done | (with_reducible rfl)
  try simp only [List.getElem_toArray, List.getElem_cons_succ, List.getElem_cons_zero, Act.put, List.setIfInBounds_toArray, List.set_cons_zero, List.set_cons_succ]
  refine wpAnyH_take (i := 3) (v := ?_) rfl (by kernel_rfl) (by kernel_rfl) (by kernel_rfl) (fun _ _ _ h => h) (Or.inl ⟨by rfl, ?_⟩) (by assumption) ?_
  rotate_left
  · intro w' hSw
    try dsimp only at hSw
    go_simp
    first | done | (with_reducible rfl)
  try simp only [List.getElem_toArray, List.getElem_cons_succ, List.getElem_cons_zero, Act.put, List.setIfInBounds_toArray, List.set_cons_zero, List.set_cons_succ]
  refine wpAnyH_take (i := 5) (v := ?_) rfl (by kernel_rfl) (by kernel_rfl) (by kernel_rfl) (fun _ _ _ h => h) (Or.inl ⟨by rfl, ?_⟩) (by assumption) ?_
  rotate_left
  · intro w' hSw
    try dsimp only at hSw
    go_simp
    first | done | (with_reducible rfl)
  try simp only [List.getElem_toArray, List.getElem_cons_succ, List.getElem_cons_zero, Act.put, List.setIfInBounds_toArray, List.set_cons_zero, List.set_cons_succ]
  refine wpAnyH_ready (rs := [4, 6]) (by kernel_rfl) (by simp) ?_
  refine AllReadyH.cons rfl (fun K hK => ?_) (AllReadyH.cons rfl (fun K hK => ?_) AllReadyH.nil)
  · go_simp
    refine hK.out _ _ trivial (fun hHeld => ?_)
    clear hK K
    try simp only [List.getElem_toArray, List.getElem_cons_succ, List.getElem_cons_zero, Act.put, List.setIfInBounds_toArray, List.set_cons_zero, List.set_cons_succ]
    refine wpAnyH_ready (rs := [6]) (by kernel_rfl) (by simp) ?_
    refine AllReadyH.cons rfl (fun K hK => ?_) AllReadyH.nil
    go_simp
    refine (HCL.out _ HX.out).mono ?_
    rintro e w3 ⟨E, d3, rfl, hown3, hc3⟩
    have HZ3 := Lib.hid (own_nil hown3)
    have HR3 := Lib.hid ((own_rds2 hown3).mono (S' := fun k => w1.heap.size ≤ k) (fun k hk => hk.1))
    have HX := Lib.hid (HX.out.trans hc3 (fun _ _ e => e))
    clear hown3 hc3
    go_wp2_with fail
    refine hK.out _ _ trivial (fun hHeld => ?_)
    clear hK K
    try simp only [List.getElem_toArray, List.getElem_cons_succ, List.getElem_cons_zero, Act.put, List.setIfInBounds_toArray, List.set_cons_zero, List.set_cons_succ]
    refine wpAnyH_ready (rs := [7]) (by kernel_rfl) (by simp) ?_
    refine AllReadyH.cons rfl (fun K hK => ?_) AllReadyH.nil
    go_simp
    refine hK.out _ _ trivial (fun hHeld => ?_)
    clear hK K
    try simp only [List.getElem_toArray, List.getElem_cons_succ, List.getElem_cons_zero, Act.put, List.setIfInBounds_toArray, List.set_cons_zero, List.set_cons_succ]
    refine wpAnyH_ready (rs := [8]) (by kernel_rfl) (by simp) ?_
    refine AllReadyH.cons rfl (fun K hK => ?_) AllReadyH.nil
    refine step_app11 _ rfl (.tmp 21) (.tmp 24) 90 rfl 0 22 i0 _ 1 24 Try.underlying90 hi0 hz0 hz1 hz2 rfl (by decide) (.slice A n c) n _ rfl ((own_chg HOW.out HX.out (fun _ _ => id)).alloc _) ⟨w3.heap.size, 0, none⟩ 1 1 [.slice E b.length d3] rfl rfl (fun j u hu => by rw [show (⟨w3.heap.size, 0, none⟩ : Addr).add j = ⟨w3.heap.size, j, none⟩ from by unfold Addr.add; split <;> simp_all, (Blk.new w3 22 #[.slice E b.length d3]).cell j]; simpa using hu) (by simp [Value.oneCell']) (by unfold maxLen; omega) (by omega) (Nat.zero_le _) ?_
    intro v5 w5 hown5 hg5 hat5
    obtain ⟨A5, c5, rfl, _, _⟩ := own_form hown5
    obtain ⟨hsm, hb5⟩ := SN.push HPB.out HOW.out HBQ.out HGS.out.1 HGS.out.2.1 HGS.out.2.2 HN.out HX.out HZ3.out HR3.out hown5 hg5 hat5
    have HSM := Lib.hid hsm
    have g2 := hb5.frozen 2
    have x2 := (sn_cells hb5).2.2.1
    clear hsm hown5 hg5 hat5 hb5
    refine hK.out _ _ trivial (fun hHeld => ?_)
    clear hK K
    try simp only [List.getElem_toArray, List.getElem_cons_succ, List.getElem_cons_zero, Act.put, List.setIfInBounds_toArray, List.set_cons_zero, List.set_cons_succ]
    refine wpAnyH_take (i := 9) (v := ?_) rfl (by kernel_rfl) (by kernel_rfl) (by kernel_rfl) (fun _ _ _ h => h) (Or.inl ⟨by rfl, ?_⟩) (by assumption) ?_
    rotate_left
    · intro w' hSw
      try dsimp only at hSw
      go_simp
      first | done | (with_reducible rfl)
    try simp only [List.getElem_toArray, List.getElem_cons_succ, List.getElem_cons_zero, Act.put, List.setIfInBounds_toArray, List.set_cons_zero, List.set_cons_succ]
    refine wpAnyH_take (i := 10) (v := ?_) rfl (by kernel_rfl) (by kernel_rfl) (by kernel_rfl) (fun _ _ _ h => h) (Or.inl ⟨by rfl, ?_⟩) (by assumption) ?_
    rotate_left
    · intro w' hSw
      try dsimp only at hSw
      go_simp
      first | done | (with_reducible rfl)
    try simp only [List.getElem_toArray, List.getElem_cons_succ, List.getElem_cons_zero, Act.put, List.setIfInBounds_toArray, List.set_cons_zero, List.set_cons_succ]
    refine wpAnyH_ready (rs := [11]) (by kernel_rfl) (by simp) ?_
    refine AllReadyH.cons rfl (fun K hK => ?_) AllReadyH.nil
    go_simp
    refine hK.out _ _ trivial (fun hHeld => ?_)
    clear hK K
    try simp only [List.getElem_toArray, List.getElem_cons_succ, List.getElem_cons_zero, Act.put, List.setIfInBounds_toArray, List.set_cons_zero, List.set_cons_succ]
    refine wpAnyH_done (by kernel_rfl) ?_ _
    refine NoPanic.normal ?_
    go_wp2_with fail
    go_ret
    exact ⟨ret_i11 HE.out.1.symm, by rw [HE.out.2]; exact SM.pre HC1.out HSM.out HLT.out⟩
  · go_simp
    refine (HCL.out _ HX.out).mono ?_
    rintro e w3 ⟨E, d3, rfl, hown3, hc3⟩
    have HZ3 := Lib.hid (own_nil hown3)
    have HR3 := Lib.hid ((own_rds2 hown3).mono (S' := fun k => w1.heap.size ≤ k) (fun k hk => hk.1))
    have HX := Lib.hid (HX.out.trans hc3 (fun _ _ e => e))
    clear hown3 hc3
    go_wp2_with fail
    refine hK.out _ _ trivial (fun hHeld => ?_)
    clear hK K
    try simp only [List.getElem_toArray, List.getElem_cons_succ, List.getElem_cons_zero, Act.put, List.setIfInBounds_toArray, List.set_cons_zero, List.set_cons_succ]
    have z5 := (sn_cells (HPB.out.chg HX.out id)).2.2.1
    have z6 := (sn_cells (HPB.out.chg (HX.out.alloc (.cells #[.slice E b.length d3] 22)) id)).2.2.1
    refine wpAnyH_ready (rs := [4, 7]) (by kernel_rfl) (by simp) ?_
    refine AllReadyH.cons rfl (fun K hK => ?_) (AllReadyH.cons rfl (fun K hK => ?_) AllReadyH.nil)
    · go_simp
      refine hK.out _ _ trivial (fun hHeld => ?_)
      clear hK K
      try simp only [List.getElem_toArray, List.getElem_cons_succ, List.getElem_cons_zero, Act.put, List.setIfInBounds_toArray, List.set_cons_zero, List.set_cons_succ]
      refine wpAnyH_ready (rs := [7]) (by kernel_rfl) (by simp) ?_
      refine AllReadyH.cons rfl (fun K hK => ?_) AllReadyH.nil
      go_simp
      refine hK.out _ _ trivial (fun hHeld => ?_)
      clear hK K
      try simp only [List.getElem_toArray, List.getElem_cons_succ, List.getElem_cons_zero, Act.put, List.setIfInBounds_toArray, List.set_cons_zero, List.set_cons_succ]
      refine wpAnyH_ready (rs := [8]) (by kernel_rfl) (by simp) ?_
      refine AllReadyH.cons rfl (fun K hK => ?_) AllReadyH.nil
      refine step_app11 _ rfl (.tmp 21) (.tmp 24) 90 rfl 0 22 i0 _ 1 24 Try.underlying90 hi0 hz0 hz1 hz2 rfl (by decide) (.slice A n c) n _ rfl ((own_chg HOW.out HX.out (fun _ _ => id)).alloc _) ⟨w3.heap.size, 0, none⟩ 1 1 [.slice E b.length d3] rfl rfl (fun j u hu => by rw [show (⟨w3.heap.size, 0, none⟩ : Addr).add j = ⟨w3.heap.size, j, none⟩ from by unfold Addr.add; split <;> simp_all, (Blk.new w3 22 #[.slice E b.length d3]).cell j]; simpa using hu) (by simp [Value.oneCell']) (by unfold maxLen; omega) (by omega) (Nat.zero_le _) ?_
      intro v5 w5 hown5 hg5 hat5
      obtain ⟨A5, c5, rfl, _, _⟩ := own_form hown5
      obtain ⟨hsm, hb5⟩ := SN.push HPB.out HOW.out HBQ.out HGS.out.1 HGS.out.2.1 HGS.out.2.2 HN.out HX.out HZ3.out HR3.out hown5 hg5 hat5
      have HSM := Lib.hid hsm
      have g2 := hb5.frozen 2
      have x2 := (sn_cells hb5).2.2.1
      clear hsm hown5 hg5 hat5 hb5
      refine hK.out _ _ trivial (fun hHeld => ?_)
      clear hK K
      try simp only [List.getElem_toArray, List.getElem_cons_succ, List.getElem_cons_zero, Act.put, List.setIfInBounds_toArray, List.set_cons_zero, List.set_cons_succ]
      refine wpAnyH_take (i := 9) (v := ?_) rfl (by kernel_rfl) (by kernel_rfl) (by kernel_rfl) (fun _ _ _ h => h) (Or.inl ⟨by rfl, ?_⟩) (by assumption) ?_
      rotate_left
      · intro w' hSw
        try dsimp only at hSw
        go_simp
        first | done | (with_reducible rfl)
      try simp only [List.getElem_toArray, List.getElem_cons_succ, List.getElem_cons_zero, Act.put, List.setIfInBounds_toArray, List.set_cons_zero, List.set_cons_succ]
      refine wpAnyH_take (i := 10) (v := ?_) rfl (by kernel_rfl) (by kernel_rfl) (by kernel_rfl) (fun _ _ _ h => h) (Or.inl ⟨by rfl, ?_⟩) (by assumption) ?_
      rotate_left
      · intro w' hSw
        try dsimp only at hSw
        go_simp
        first | done | (with_reducible rfl)
      try simp only [List.getElem_toArray, List.getElem_cons_succ, List.getElem_cons_zero, Act.put, List.setIfInBounds_toArray, List.set_cons_zero, List.set_cons_succ]
      refine wpAnyH_ready (rs := [11]) (by kernel_rfl) (by simp) ?_
      refine AllReadyH.cons rfl (fun K hK => ?_) AllReadyH.nil
      go_simp
      refine hK.out _ _ trivial (fun hHeld => ?_)
      clear hK K
      try simp only [List.getElem_toArray, List.getElem_cons_succ, List.getElem_cons_zero, Act.put, List.setIfInBounds_toArray, List.set_cons_zero, List.set_cons_succ]
      refine wpAnyH_done (by kernel_rfl) ?_ _
      refine NoPanic.normal ?_
      go_wp2_with fail
      go_ret
      exact ⟨ret_i11 HE.out.1.symm, by rw [HE.out.2]; exact SM.pre HC1.out HSM.out HLT.out⟩
    · go_simp
      refine hK.out _ _ trivial (fun hHeld => ?_)
      clear hK K
      try simp only [List.getElem_toArray, List.getElem_cons_succ, List.getElem_cons_zero, Act.put, List.setIfInBounds_toArray, List.set_cons_zero, List.set_cons_succ]
      refine wpAnyH_ready (rs := [4]) (by kernel_rfl) (by simp) ?_
      refine AllReadyH.cons rfl (fun K hK => ?_) AllReadyH.nil
      go_simp
      refine hK.out _ _ trivial (fun hHeld => ?_)
      clear hK K
      try simp only [List.getElem_toArray, List.getElem_cons_succ, List.getElem_cons_zero, Act.put, List.setIfInBounds_toArray, List.set_cons_zero, List.set_cons_succ]
      refine wpAnyH_ready (rs := [8]) (by kernel_rfl) (by simp) ?_
      refine AllReadyH.cons rfl (fun K hK => ?_) AllReadyH.nil
      refine step_app11 _ rfl (.tmp 21) (.tmp 24) 90 rfl 0 22 i0 _ 1 24 Try.underlying90 hi0 hz0 hz1 hz2 rfl (by decide) (.slice A n c) n _ rfl ((own_chg HOW.out HX.out (fun _ _ => id)).alloc _) ⟨w3.heap.size, 0, none⟩ 1 1 [.slice E b.length d3] rfl rfl (fun j u hu => by rw [show (⟨w3.heap.size, 0, none⟩ : Addr).add j = ⟨w3.heap.size, j, none⟩ from by unfold Addr.add; split <;> simp_all, (Blk.new w3 22 #[.slice E b.length d3]).cell j]; simpa using hu) (by simp [Value.oneCell']) (by unfold maxLen; omega) (by omega) (Nat.zero_le _) ?_
      intro v5 w5 hown5 hg5 hat5
      obtain ⟨A5, c5, rfl, _, _⟩ := own_form hown5
      obtain ⟨hsm, hb5⟩ := SN.push HPB.out HOW.out HBQ.out HGS.out.1 HGS.out.2.1 HGS.out.2.2 HN.out HX.out HZ3.out HR3.out hown5 hg5 hat5
      have HSM := Lib.hid hsm
      have g2 := hb5.frozen 2
      have x2 := (sn_cells hb5).2.2.1
      clear hsm hown5 hg5 hat5 hb5
      refine hK.out _ _ trivial (fun hHeld => ?_)
      clear hK K
      try simp only [List.getElem_toArray, List.getElem_cons_succ, List.getElem_cons_zero, Act.put, List.setIfInBounds_toArray, List.set_cons_zero, List.set_cons_succ]
      refine wpAnyH_take (i := 9) (v := ?_) rfl (by kernel_rfl) (by kernel_rfl) (by kernel_rfl) (fun _ _ _ h => h) (Or.inl ⟨by rfl, ?_⟩) (by assumption) ?_
      rotate_left
      · intro w' hSw
        try dsimp only at hSw
        go_simp
        first | done | (with_reducible rfl)
      try simp only [List.getElem_toArray, List.getElem_cons_succ, List.getElem_cons_zero, Act.put, List.setIfInBounds_toArray, List.set_cons_zero, List.set_cons_succ]
      refine wpAnyH_take (i := 10) (v := ?_) rfl (by kernel_rfl) (by kernel_rfl) (by kernel_rfl) (fun _ _ _ h => h) (Or.inl ⟨by rfl, ?_⟩) (by assumption) ?_
      rotate_left
      · intro w' hSw
        try dsimp only at hSw
        go_simp
        first | done | (with_reducible rfl)
      try simp only [List.getElem_toArray, List.getElem_cons_succ, List.getElem_cons_zero, Act.put, List.setIfInBounds_toArray, List.set_cons_zero, List.set_cons_succ]
      refine wpAnyH_ready (rs := [11]) (by kernel_rfl) (by simp) ?_
      refine AllReadyH.cons rfl (fun K hK => ?_) AllReadyH.nil
      go_simp
      refine hK.out _ _ trivial (fun hHeld => ?_)
      clear hK K
      try simp only [List.getElem_toArray, List.getElem_cons_succ, List.getElem_cons_zero, Act.put, List.setIfInBounds_toArray, List.set_cons_zero, List.set_cons_succ]
      refine wpAnyH_done (by kernel_rfl) ?_ _
      refine NoPanic.normal ?_
      go_wp2_with fail
      go_ret
      exact ⟨ret_i11 HE.out.1.symm, by rw [HE.out.2]; exact SM.pre HC1.out HSM.out HLT.out⟩

end Go.Proofs.Ytbbjecjhkjjbkaa
