/-
  What rows mean at a chassis, and their entries, plain: what the table tells is what the first row means which means something; rows in memory. No condition.
-/
import Derived.Test.YtacbgelbffmngaaOa
import Derived.Test.YtacbgelbffmngaaYb
namespace Go.Proofs.Ytacbgelbffmngaa
open Go.RowKit
set_option linter.unusedVariables false
set_option linter.unusedSimpArgs false

/-- Is a key a row's? -/
def isB14 (ma po ki km kp : Int) : Bool := if ki = 0 then km == ma else (decide (ki = 1) || decide (ki = 2)) && kp == po
/-- Has it moved away from a chassis? -/
def lfB14 (ph ol c : Int) : Bool := ph == 2 && c == ol
/-- The kind of action that a row means. -/
def mk14 (po ma ow ol ge ph c ki km kp ks ko : Int) : Int :=
  if isB14 ma po ki km kp = false then 0 else if ph = 3 then 0 else if ge < ks then 0 else if c = ow then 1 else if ki = 0 then 2 else if ki = 1 ∧ lfB14 ph ol c = true ∧ ¬ ko = ow then 2 else 0
def RV.kd (r : RV) (c : Int) (k : Ky) : Int := mk14 r.po r.ma r.ow r.ol r.ge r.ph c k.ki k.km k.kp k.ks k.ko
/-- The action of a kind, of a row. -/
def mA14 (v po ow ge : Int) : Array Value := if v = 0 then acC 0 0 0 0 else acC v po ow ge
theorem mA14_0 (po ow ge : Int) : mA14 0 po ow ge = acC 0 0 0 0 := rfl
theorem mA14_1 (po ow ge : Int) : mA14 1 po ow ge = acC 1 po ow ge := rfl
theorem mA14_2 (po ow ge : Int) : mA14 2 po ow ge = acC 2 po ow ge := rfl
theorem mA14_no {v : Int} (h : ¬ v = 0) (po ow ge : Int) : mA14 v po ow ge = acC v po ow ge := if_neg h
/-- May something be asked of a key? -/
def as14 (ki ks ko : Int) : Bool := (ki == 0 && (ks == 0 && ko == -1)) || ((ki == 1 || ki == 2) && (decide (0 ≤ ko) && (decide (ko ≤ 15) && decide (0 ≤ ks))))
theorem as14_cases {ki ks ko : Int} (h : as14 ki ks ko = true) : (ki = 0 ∧ ks = 0 ∧ ko = -1) ∨ ((ki = 1 ∨ ki = 2) ∧ 0 ≤ ko ∧ ko ≤ 15 ∧ 0 ≤ ks) := by
  simpa [as14] using h
/-- A row's entry. -/
def ent14 (po ma ow ge ins no kd : Int) : En := ⟨0, ins, ma, po, -9223372036854775808, ge, no, kd, po, ow, ge⟩
def es14 (po ma ow ol ge ph c : Int) : List En :=
  if ph = 3 then [] else if c = ow then [ent14 po ma ow ge 7 (-9223372036854775808) 1] else if lfB14 ph ol c = true then [ent14 po ma ow ge 1 (-9223372036854775808) 2, ent14 po ma ow ge 2 ow 2] else [ent14 po ma ow ge 1 (-9223372036854775808) 2]
def RV.es (r : RV) (c : Int) : List En := es14 r.po r.ma r.ow r.ol r.ge r.ph c
theorem es14_len (po ma ow ol ge ph c : Int) : (es14 po ma ow ol ge ph c).length ≤ 2 := by
  unfold es14
  split
  · simp
  · split
    · simp
    · split <;> simp
theorem es14_pr {po ma ow ol ge ph c : Int} : ∀ e ∈ es14 po ma ow ol ge ph c, e.pr = 0 := by
  intro e he
  unfold es14 at he
  split at he
  · simp at he
  · split at he
    · simp only [List.mem_singleton] at he; subst he; rfl
    · split at he
      · simp only [List.mem_cons, List.not_mem_nil, or_false] at he
        rcases he with rfl | rfl <;> rfl
      · simp only [List.mem_singleton] at he; subst he; rfl
def cp14 (c : Int) (l : List RV) : List En := l.flatMap fun r => r.es c
theorem cp14_len (c : Int) : ∀ l : List RV, (cp14 c l).length ≤ 2 * l.length
  | [] => Nat.le_refl _
  | r :: l => by
    have h1 := cp14_len c l
    have h2 := es14_len r.po r.ma r.ow r.ol r.ge r.ph c
    unfold cp14 at *
    simp only [List.flatMap_cons, List.length_append, List.length_cons]
    unfold RV.es at *
    omega
theorem cp14_pr (c : Int) (l : List RV) : ∀ e ∈ cp14 c l, e.pr = 0 := by
  intro e he
  unfold cp14 at he
  simp only [List.mem_flatMap] at he
  obtain ⟨r, _, hr⟩ := he
  exact es14_pr e hr
theorem cp14_take {c : Int} {l : List RV} {j : Nat} {r : RV} (h : l[j]? = some r) : cp14 c (l.take (j + 1)) = cp14 c (l.take j) ++ r.es c := by
  unfold cp14
  rw [List.take_add_one, h, List.flatMap_append]
  simp
theorem find14_congr {f g : En → Bool} : ∀ l : List En, (∀ e ∈ l, f e = g e) → l.find? f = l.find? g
  | [], _ => rfl
  | x :: l, h => by
    have ih := find14_congr l (fun e he => h e (by simp [he]))
    have hx := h x (by simp)
    rw [List.find?_cons, List.find?_cons, hx, ih]
theorem beq14 (a b : Int) : (a == b) = (b == a) := by
  by_cases h : a = b
  · subst h; rfl
  · have h2 : ¬ b = a := fun e => h e.symm
    rw [beq_eq_false_iff_ne.2 h, beq_eq_false_iff_ne.2 h2]
/-- Where all are of one rank, the first one that fits is looked up. -/
theorem lk14_find (k : Ky) : ∀ (l : List En), (∀ e ∈ l, e.pr = 0) → lk13 k l = l.find? (fun e => fit13 e k) := by
  intro l h
  cases hf : l.find? (fun e => fit13 e k) with
  | some b =>
    refine lk13_find (m := 0) (fun e he _ => by rw [h e he]; exact Int.le_refl _) ?_
    rw [← hf]
    refine find14_congr l fun e he => ?_
    show (fit13 e k && decide (e.pr = 0)) = fit13 e k
    rw [h e he]
    simp
  | none =>
    have hn := List.find?_eq_none.1 hf
    clear h hf
    unfold lk13
    induction l with
    | nil => rfl
    | cons x l ih =>
      rw [List.foldl_cons, up13_no (by simpa using hn x (by simp))]
      exact ih (fun e he => hn e (by simp [he]))
theorem fit14 (po ma ow ge ins no kd : Int) {k : Ky} (h : as14 k.ki k.ks k.ko = true) : fit13 (ent14 po ma ow ge ins no kd) k = (inB13 ins k.ki && (isB14 ma po k.ki k.km k.kp && (decide (k.ks ≤ ge) && (no != k.ko)))) := by
  have hm : decide ((-9223372036854775808 : Int) ≤ k.ks) = true := by
    rcases as14_cases h with h | h <;> simp <;> omega
  have ht : toB13 ma po k.ki k.km k.kp = isB14 ma po k.ki k.km k.kp := by
    unfold toB13 isB14
    rcases as14_cases h with ⟨h0, _⟩ | ⟨h0 | h0, _⟩
    · rw [h0, if_pos rfl, if_pos rfl, beq14]
    · rw [h0, if_neg (by decide), if_neg (by decide), beq14]; rfl
    · rw [h0, if_neg (by decide), if_neg (by decide), beq14]; rfl
  unfold fit13 fB13 ent14
  dsimp only
  rw [hm, ht, Bool.true_and]
theorem bits14 : (∀ i, inB13 7 i = (decide (i = 0) || decide (i = 1) || decide (i = 2))) ∧ (∀ i, inB13 1 i = decide (i = 0)) ∧ (∀ i, inB13 2 i = decide (i = 1)) := by
  refine ⟨fun i => ?_, fun i => ?_, fun i => ?_⟩
  · have h0 : bit13 7 0 = true := by decide
    have h1 : bit13 7 1 = true := by decide
    have h2 : bit13 7 2 = true := by decide
    simp [inB13, h0, h1, h2]
  · have h0 : bit13 1 0 = true := by decide
    have h1 : bit13 1 1 = false := by decide
    have h2 : bit13 1 2 = false := by decide
    simp [inB13, h0, h1, h2]
  · have h0 : bit13 2 0 = false := by decide
    have h1 : bit13 2 1 = true := by decide
    have h2 : bit13 2 2 = false := by decide
    simp [inB13, h0, h1, h2]
/-- What the entries of one row tell of a key. -/
theorem row14 (r : RV) (c : Int) {k : Ky} (h : as14 k.ki k.ks k.ko = true) :
    ((r.es c).find? (fun e => fit13 e k) = none ∧ r.kd c k = 0) ∨ ∃ e, (r.es c).find? (fun e => fit13 e k) = some e ∧ ¬ r.kd c k = 0 ∧ e.ac = acC (r.kd c k) r.po r.ow r.ge := by
  have hko : (-9223372036854775808 : Int) ≠ k.ko := by rcases as14_cases h with h | h <;> omega
  have hno : ((-9223372036854775808 : Int) != k.ko) = true := by simpa using hko
  have h3 : k.ki = 0 ∨ k.ki = 1 ∨ k.ki = 2 := by rcases as14_cases h with h | ⟨h, _⟩ <;> omega
  obtain ⟨b7, b1, b2⟩ := bits14
  unfold RV.es es14 RV.kd mk14
  by_cases hp : r.ph = 3
  · rw [if_pos hp]
    simp [hp]
  rw [if_neg hp]
  by_cases hc : c = r.ow
  · rw [if_pos hc]
    have hin : inB13 7 k.ki = true := by rw [b7]; rcases h3 with h3 | h3 | h3 <;> simp [h3]
    cases hi : isB14 r.ma r.po k.ki k.km k.kp with
    | false =>
      left
      refine ⟨?_, by simp⟩
      rw [List.find?_cons_of_neg (by rw [fit14 _ _ _ _ _ _ _ h, hi]; simp)]
      rfl
    | true =>
      by_cases hg : r.ge < k.ks
      · left
        refine ⟨?_, by simp [hg]⟩
        rw [List.find?_cons_of_neg (by rw [fit14 _ _ _ _ _ _ _ h]; simp; omega)]
        rfl
      · right
        refine ⟨_, List.find?_cons_of_pos (by rw [fit14 _ _ _ _ _ _ _ h, hi, hin, hno]; simp; omega), by simp [hg, hp, hc], ?_⟩
        simp [hg, hp, hc, En.ac, ent14]
  rw [if_neg hc]
  by_cases hl : lfB14 r.ph r.ol c = true
  · rw [if_pos hl]
    cases hi : isB14 r.ma r.po k.ki k.km k.kp with
    | false =>
      left
      refine ⟨?_, by simp⟩
      rw [List.find?_cons_of_neg (by rw [fit14 _ _ _ _ _ _ _ h, hi]; simp), List.find?_cons_of_neg (by rw [fit14 _ _ _ _ _ _ _ h, hi]; simp)]
      rfl
    | true =>
      by_cases hg : r.ge < k.ks
      · left
        refine ⟨?_, by simp [hg]⟩
        rw [List.find?_cons_of_neg (by rw [fit14 _ _ _ _ _ _ _ h]; simp; omega), List.find?_cons_of_neg (by rw [fit14 _ _ _ _ _ _ _ h]; simp; omega)]
        rfl
      · have hd : decide (k.ks ≤ r.ge) = true := by simp; omega
        rcases h3 with h3 | h3 | h3
        · right
          refine ⟨_, List.find?_cons_of_pos (by rw [fit14 _ _ _ _ _ _ _ h, hi, b1, hno, hd, h3]; rfl), by simp [hg, hp, hc, h3], ?_⟩
          simp [hg, hp, hc, h3, En.ac, ent14]
        · have n1 : ¬ fit13 (ent14 r.po r.ma r.ow r.ge 1 (-9223372036854775808) 2) k = true := by rw [fit14 _ _ _ _ _ _ _ h, b1, h3]; simp
          by_cases ho : k.ko = r.ow
          · left
            refine ⟨?_, by simp [hg, hp, hc, h3, ho]⟩
            rw [List.find?_cons_of_neg (by exact n1), List.find?_cons_of_neg (by rw [fit14 _ _ _ _ _ _ _ h, ho]; simp)]
            rfl
          · right
            have ho2 : (r.ow != k.ko) = true := by simp; exact fun e => ho e.symm
            refine ⟨ent14 r.po r.ma r.ow r.ge 2 r.ow 2, ?_, by simp [hg, hp, hc, h3, ho, hl], ?_⟩
            · rw [List.find?_cons_of_neg (by exact n1), List.find?_cons_of_pos (by rw [fit14 _ _ _ _ _ _ _ h, hi, b2, hd, ho2, h3]; rfl)]
            · simp [hg, hp, hc, h3, ho, hl, En.ac, ent14]
        · left
          refine ⟨?_, by simp [hg, hp, hc, h3]⟩
          rw [List.find?_cons_of_neg (by rw [fit14 _ _ _ _ _ _ _ h, b1, h3]; simp), List.find?_cons_of_neg (by rw [fit14 _ _ _ _ _ _ _ h, b2, h3]; simp)]
          rfl
  · rw [if_neg hl]
    cases hi : isB14 r.ma r.po k.ki k.km k.kp with
    | false =>
      left
      refine ⟨?_, by simp⟩
      rw [List.find?_cons_of_neg (by rw [fit14 _ _ _ _ _ _ _ h, hi]; simp)]
      rfl
    | true =>
      by_cases hg : r.ge < k.ks
      · left
        refine ⟨?_, by simp [hg]⟩
        rw [List.find?_cons_of_neg (by rw [fit14 _ _ _ _ _ _ _ h]; simp; omega)]
        rfl
      · have hd : decide (k.ks ≤ r.ge) = true := by simp; omega
        by_cases h0 : k.ki = 0
        · right
          refine ⟨_, List.find?_cons_of_pos (by rw [fit14 _ _ _ _ _ _ _ h, hi, b1, hno, hd, h0]; rfl), by simp [hg, hp, hc, h0], ?_⟩
          simp [hg, hp, hc, h0, En.ac, ent14]
        · left
          refine ⟨?_, by simp [hg, hp, hc, h0, hl]⟩
          rw [List.find?_cons_of_neg (by rw [fit14 _ _ _ _ _ _ _ h, b1]; simp [h0])]
          rfl
/-- The first row that means something. -/
def fr14 (c : Int) (k : Ky) (l : List RV) : Option RV := l.find? fun r => r.kd c k != 0
/-- Its action. -/
def fA14 (c : Int) (k : Ky) : Option RV → Array Value
  | none => acC 0 0 0 0
  | some r => acC (r.kd c k) r.po r.ow r.ge
/-- What the table tells. -/
theorem tab14 (c : Int) {k : Ky} (h : as14 k.ki k.ks k.ko = true) (l : List RV) : acO13 (lk13 k (cp14 c l)) = fA14 c k (fr14 c k l) ∧ (lk13 k (cp14 c l)).isSome = (fr14 c k l).isSome := by
  rw [lk14_find k _ (cp14_pr c l)]
  induction l with
  | nil => exact ⟨rfl, rfl⟩
  | cons r l ih =>
    unfold cp14 fr14 at *
    rw [List.flatMap_cons, List.find?_append]
    rcases row14 r c h with ⟨h1, h2⟩ | ⟨e, h1, h2, h3⟩
    · rw [h1, List.find?_cons_of_neg (by simp [h2]), Option.none_or]
      exact ih
    · rw [h1, List.find?_cons_of_pos (by simpa using h2), Option.some_or]
      exact ⟨h3, rfl⟩
theorem fr14_some {c : Int} {k : Ky} {l : List RV} {r : RV} (h : fr14 c k l = some r) : r ∈ l ∧ ¬ r.kd c k = 0 := by
  refine ⟨List.mem_of_find?_eq_some h, ?_⟩
  have h2 := List.find?_some h
  simpa using h2
theorem fr14_take {c : Int} {k : Ky} {l : List RV} {j : Nat} {r : RV} (h : l[j]? = some r) (h0 : fr14 c k (l.take j) = none) : fr14 c k (l.take (j + 1)) = if r.kd c k = 0 then none else some r := by
  unfold fr14 at *
  rw [List.take_add_one, h, List.find?_append, h0]
  by_cases hr : r.kd c k = 0 <;> simp [hr]
theorem fr14_hit {c : Int} {k : Ky} {l : List RV} {j : Nat} {r : RV} (h : l[j]? = some r) (h0 : fr14 c k (l.take j) = none) (h1 : ¬ r.kd c k = 0) : fr14 c k l = some r := by
  have h2 := fr14_take h h0
  rw [if_neg h1] at h2
  have h3 : l = l.take (j + 1) ++ l.drop (j + 1) := (List.take_append_drop _ _).symm
  unfold fr14 at *
  rw [h3, List.find?_append, h2]
  rfl

/-! ### rows stand -/
def std14 (l : List RV) : Prop := (∀ r ∈ l, r.ok = true) ∧ ∀ (i j : Nat) (x y : RV), j < i → l[i]? = some x → l[j]? = some y → ¬ y.po = x.po
/-- Of rows that stand, the first one of a port is the one of it. -/
theorem std14_one {l : List RV} (h : std14 l) {i : Nat} {x r : RV} (hx : l[i]? = some x) (hr : r ∈ l) (hp : x.po = r.po) : x = r := by
  obtain ⟨j, hj, he⟩ := List.getElem_of_mem hr
  have hj2 : l[j]? = some r := by rw [List.getElem?_eq_getElem hj, he]
  rcases Nat.lt_trichotomy i j with h1 | h1 | h1
  · exact absurd hp (h.2 j i r x h1 hj2 hx)
  · subst h1
    rw [hx] at hj2
    injection hj2
  · exact absurd hp.symm (h.2 i j x r h1 hx hj2)

/-! ### memory -/
/-- A slice of m rows, of nine cells each. -/
def RwR (w : World) (L : Option Addr) (m : Nat) (l : List RV) : Prop :=
  m = l.length ∧ (0 < m → ∃ ad, L = some ad ∧ ad.block < w.heap.size ∧ ∀ (i : Nat) (x : RV), l[i]? = some x → ∀ (j : Nat) (u : Value), x.cs[j]? = some u → w.cell? (ad.add (i * 9 + j)) = some u)
section
variable {w w' : World} {L : Option Addr} {m : Nat} {l : List RV}
theorem RwR.chg (h : RwR w L m l) (hc : Chg (fun _ => False) w w') : RwR w' L m l := by
  refine ⟨h.1, fun hm => ?_⟩
  obtain ⟨ad, e, hb, hcell⟩ := h.2 hm
  refine ⟨ad, e, Nat.lt_of_lt_of_le hb hc.size, fun i x hi j u hu => ?_⟩
  rw [← hcell i x hi j u hu]
  exact World.cell?_of_block (by rw [block_add]; exact hc.block _ hb id)
theorem RwR.alloc (h : RwR w L m l) (o : Obj) : RwR (w.alloc o) L m l := h.chg ((Chg.refl (fun _ => False) w).alloc o)
theorem RwR.nil (w : World) (L : Option Addr) : RwR w L 0 [] := ⟨rfl, fun h => absurd h (by omega)⟩
theorem RwR.at {ad : Addr} {i : Nat} {x : RV} (h : RwR w (some ad) m l) (hi : l[i]? = some x) :
    w.cell? (ad.add (i * 9)) = some (.int .i64 x.po) ∧ w.cell? ⟨(ad.add (i * 9)).block, (ad.add (i * 9)).off + 1, none⟩ = some (.int .u64 x.ma) ∧ w.cell? ⟨(ad.add (i * 9)).block, (ad.add (i * 9)).off + 2, none⟩ = some (.int .i64 x.ow) ∧ w.cell? ⟨(ad.add (i * 9)).block, (ad.add (i * 9)).off + 3, none⟩ = some (.int .i64 x.ta) ∧ w.cell? ⟨(ad.add (i * 9)).block, (ad.add (i * 9)).off + 4, none⟩ = some (.int .i64 x.ol) ∧ w.cell? ⟨(ad.add (i * 9)).block, (ad.add (i * 9)).off + 5, none⟩ = some (.int .i64 x.ge) ∧ w.cell? ⟨(ad.add (i * 9)).block, (ad.add (i * 9)).off + 6, none⟩ = some (.int .i64 x.ph) ∧ w.cell? ⟨(ad.add (i * 9)).block, (ad.add (i * 9)).off + 7, none⟩ = some (.int .i64 x.ve) ∧ w.cell? ⟨(ad.add (i * 9)).block, (ad.add (i * 9)).off + 8, none⟩ = some (.int .i64 x.si) := by
  have hl : i < l.length := (List.getElem?_eq_some_iff.1 hi).1
  obtain ⟨ad', e, _, hc⟩ := h.2 (by have := h.1; omega)
  injection e with e
  subst e
  have k : ∀ j u, x.cs[j]? = some u → w.cell? ((ad.add (i * 9)).add j) = some u := fun j u hu => by rw [off_add]; exact hc i x hi j u hu
  exact ⟨k 0 _ rfl, k 1 _ rfl, k 2 _ rfl, k 3 _ rfl, k 4 _ rfl, k 5 _ rfl, k 6 _ rfl, k 7 _ rfl, k 8 _ rfl⟩
theorem rwr_one {q : Nat} {T : TypeId} {x : RV} (h : Blk w q T x.cs) : RwR w (some ⟨q, 0, none⟩) 1 [x] := by
  refine ⟨rfl, fun _ => ⟨⟨q, 0, none⟩, rfl, h.lt, fun i y hi j u hu => ?_⟩⟩
  have h0 : i = 0 := by
    rcases Nat.eq_zero_or_pos i with h0 | h0
    · exact h0
    · rw [List.getElem?_eq_none (by simp only [List.length_cons, List.length_nil]; omega)] at hi
      cases hi
  subst h0
  injection hi with hi
  subst hi
  have e : (⟨q, 0, none⟩ : Addr).add (0 * 9 + j) = ⟨q, j, none⟩ := by unfold Addr.add; split <;> simp_all
  rw [e, h.cell]
  exact hu
end

end Go.Proofs.Ytacbgelbffmngaa
