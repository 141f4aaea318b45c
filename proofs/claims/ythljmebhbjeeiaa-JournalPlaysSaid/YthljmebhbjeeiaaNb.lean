/-
  Records, plain: a record's bytes, the records of bytes, there and back, a beginning. No condition.
-/
import Derived.Test.YthljmebhbjeeiaaNa
import Derived.Test.YthljmebhbjeeiaaJp
import Derived.Test.YthljmebhbjeeiaaFp
namespace Go.Proofs.Ythljmebhbjeeiaa
open Go.RowKit
set_option linter.unusedVariables false

/-- Can a body have a record? -/
def Bok (b : List UInt8) : Prop := 1 ≤ b.length ∧ b.length ≤ 200
/-- The record of a body. -/
def recB (b : List UInt8) : List UInt8 := be 2 b.length ++ (b ++ be 4 (sumN b))
theorem recB_len (b : List UInt8) : (recB b).length = b.length + 6 := by
  unfold recB
  simp only [List.length_append, be_len]
  omega
/-- The body of the first record of bytes. -/
def head8 (r : List UInt8) : Option (List UInt8) :=
  if 2 ≤ r.length ∧ 1 ≤ num (r.take 2) ∧ num (r.take 2) ≤ 200 ∧ num (r.take 2) + 6 ≤ r.length ∧ num ((r.drop (num (r.take 2) + 2)).take 4) = sumN ((r.drop 2).take (num (r.take 2))) then some ((r.drop 2).take (num (r.take 2))) else none

theorem rec_of (r x : List UInt8) (n : Nat) (hn : n = num (r.take 2)) (hx : x = (r.drop 2).take n) (h : n + 6 ≤ r.length) (hs : num ((r.drop (n + 2)).take 4) = sumN x) : recB x = r.take (n + 6) := by
  have hl : x.length = n := by rw [hx, List.length_take, List.length_drop]; omega
  have e1 : be 2 n = r.take 2 := by rw [hn]; exact be_num_take r 2 (by omega)
  have e2 : be 4 (sumN x) = (r.drop (n + 2)).take 4 := by rw [← hs]; exact be_num_take _ 4 (by rw [List.length_drop]; omega)
  unfold recB
  rw [hl, e1, e2]
  have e3 : r.take (n + 6) = r.take 2 ++ (r.drop 2).take (n + 4) := by rw [show n + 6 = 2 + (n + 4) by omega, List.take_add]
  have e4 : (r.drop 2).take (n + 4) = (r.drop 2).take n ++ (r.drop (n + 2)).take 4 := by rw [List.take_add, List.drop_drop, Nat.add_comm 2 n]
  rw [e3, e4, ← hx]
theorem head_some {r x : List UInt8} (h : head8 r = some x) : Bok x ∧ x.length + 6 ≤ r.length ∧ recB x = r.take (x.length + 6) := by
  unfold head8 at h
  split at h
  · rename_i hc
    obtain ⟨h1, h2, h3, h4, h5⟩ := hc
    injection h with h
    have hl : x.length = num (r.take 2) := by rw [← h, List.length_take, List.length_drop]; omega
    have hr := rec_of r x _ rfl h.symm h4 (by rw [h5, h])
    rw [← hl] at hr
    exact ⟨⟨by omega, by omega⟩, by omega, hr⟩
  · cases h
theorem num_rec (x y : List UInt8) (h : Bok x) : num ((recB x ++ y).take 2) = x.length := by
  have e : recB x ++ y = be 2 x.length ++ ((x ++ be 4 (sumN x)) ++ y) := by unfold recB; simp only [List.append_assoc]
  rw [e, take_be, num_be_lt]
  have := h.2
  omega
theorem head_rec (x y : List UInt8) (h : Bok x) : head8 (recB x ++ y) = some x := by
  have hn := num_rec x y h
  have e : recB x ++ y = be 2 x.length ++ (x ++ (be 4 (sumN x) ++ y)) := by unfold recB; simp only [List.append_assoc]
  have e1 : ((recB x ++ y).drop 2).take x.length = x := by rw [e, drop_be]; exact List.take_left' rfl
  have e2 : ((recB x ++ y).drop (x.length + 2)).take 4 = be 4 (sumN x) := by
    rw [Nat.add_comm, ← List.drop_drop, e, drop_be, List.drop_left' rfl, take_be]
  have hlen : (recB x ++ y).length = x.length + 6 + y.length := by rw [List.length_append, recB_len]
  have hs := sumN_le x
  unfold head8
  rw [hn, e1, e2, num_be_lt _ _ (by omega)]
  exact if_pos ⟨by omega, h.1, h.2, by omega, rfl⟩
theorem head_short (r : List UInt8) (h : r.length < 2 ∨ r.length < num (r.take 2) + 6) : head8 r = none := by
  unfold head8
  refine if_neg ?_
  rintro ⟨h1, h2, h3, h4, h5⟩
  omega
theorem head_cut (x : List UInt8) (k : Nat) (h : Bok x) (hk : k < x.length + 6) : head8 ((recB x).take k) = none := by
  have hlen : ((recB x).take k).length = k := by rw [List.length_take, recB_len]; omega
  refine head_short _ ?_
  rw [hlen]
  by_cases h2 : k < 2
  · exact .inl h2
  · right
    have hn := num_rec x [] h
    rw [List.append_nil] at hn
    rw [List.take_take, Nat.min_eq_left (by omega), hn]
    exact hk

def scanF : Nat → List UInt8 → List (List UInt8)
  | 0, _ => []
  | f + 1, r => match head8 r with
    | none => []
    | some x => x :: scanF f (r.drop (x.length + 6))
/-- The bodies of bytes. -/
def scan8 (r : List UInt8) : List (List UInt8) := scanF r.length r
theorem scanF_none {r : List UInt8} (f : Nat) (h : head8 r = none) : scanF f r = [] := by
  cases f with
  | zero => rfl
  | succ f => unfold scanF; rw [h]
theorem scanF_some {r x : List UInt8} (f : Nat) (h : head8 r = some x) : scanF (f + 1) r = x :: scanF f (r.drop (x.length + 6)) := by
  rw [scanF, h]
theorem scanF_same : ∀ (f g : Nat) (r : List UInt8), r.length ≤ f → r.length ≤ g → scanF f r = scanF g r := by
  intro f
  induction f with
  | zero =>
    intro g r h1 h2
    have : r = [] := List.eq_nil_of_length_eq_zero (by omega)
    subst this
    rw [scanF_none 0 (head_short [] (.inl (by decide))), scanF_none g (head_short [] (.inl (by decide)))]
  | succ f ih =>
    intro g r h1 h2
    rcases hh : head8 r with _ | x
    · rw [scanF_none _ hh, scanF_none _ hh]
    · obtain ⟨hb, hl, _⟩ := head_some hh
      rcases g with _ | g
      · omega
      · rw [scanF_some _ hh, scanF_some _ hh, ih g _ (by rw [List.length_drop]; omega) (by rw [List.length_drop]; omega)]
theorem scan_none {r : List UInt8} (h : head8 r = none) : scan8 r = [] := scanF_none _ h
theorem scan_some {r x : List UInt8} (h : head8 r = some x) : scan8 r = x :: scan8 (r.drop (x.length + 6)) := by
  obtain ⟨hb, hl, _⟩ := head_some h
  unfold scan8
  rw [scanF_same r.length (r.length + 1) r (Nat.le_refl _) (by omega), scanF_some _ h, scanF_same r.length (r.drop (x.length + 6)).length _ (by rw [List.length_drop]; omega) (Nat.le_refl _)]
/-- The records of bodies. -/
def recs8 (l : List (List UInt8)) : List UInt8 := l.flatMap recB
theorem recs_cons (x : List UInt8) (l : List (List UInt8)) : recs8 (x :: l) = recB x ++ recs8 l := by unfold recs8; rw [List.flatMap_cons]
theorem recs_app (l m : List (List UInt8)) : recs8 (l ++ m) = recs8 l ++ recs8 m := by unfold recs8; rw [List.flatMap_append]
theorem recs_snoc (l : List (List UInt8)) (x : List UInt8) : recs8 (l ++ [x]) = recs8 l ++ recB x := by rw [recs_app, recs_cons]; simp [recs8]
theorem scan_recs (l : List (List UInt8)) (y : List UInt8) (h : ∀ x ∈ l, Bok x) : scan8 (recs8 l ++ y) = l ++ scan8 y := by
  induction l with
  | nil => rfl
  | cons x l ih =>
    have hx := h x (by simp)
    rw [recs_cons, List.append_assoc, scan_some (head_rec x _ hx), List.drop_left' (recB_len x), ih (fun z hz => h z (by simp [hz]))]
    rfl
theorem scan_nil : scan8 [] = [] := rfl
theorem scan_of (l : List (List UInt8)) (h : ∀ x ∈ l, Bok x) : scan8 (recs8 l) = l := by
  have := scan_recs l [] h
  rwa [List.append_nil, scan_nil, List.append_nil] at this
theorem scan_facts : ∀ (f : Nat) (r : List UInt8), r.length ≤ f → (∀ x ∈ scan8 r, Bok x) ∧ (recs8 (scan8 r)).length ≤ r.length ∧ recs8 (scan8 r) = r.take (recs8 (scan8 r)).length := by
  intro f
  induction f with
  | zero =>
    intro r h
    have : r = [] := List.eq_nil_of_length_eq_zero (by omega)
    subst this
    exact ⟨fun x hx => by simp [scan_nil] at hx, Nat.le_refl _, rfl⟩
  | succ f ih =>
    intro r h
    rcases hh : head8 r with _ | x
    · rw [scan_none hh]
      exact ⟨fun x hx => by simp at hx, Nat.zero_le _, rfl⟩
    · obtain ⟨hb, hl, hr⟩ := head_some hh
      obtain ⟨h1, h2, h3⟩ := ih (r.drop (x.length + 6)) (by rw [List.length_drop]; omega)
      rw [scan_some hh]
      have hlen : (recs8 (x :: scan8 (r.drop (x.length + 6)))).length = x.length + 6 + (recs8 (scan8 (r.drop (x.length + 6)))).length := by rw [recs_cons, List.length_append, recB_len]
      rw [List.length_drop] at h2
      refine ⟨fun z hz => ?_, by omega, ?_⟩
      · rcases List.mem_cons.1 hz with rfl | hz
        · exact hb
        · exact h1 z hz
      · rw [hlen, List.take_add, recs_cons, hr]
        congr 1
theorem scan_ok {r x : List UInt8} (h : x ∈ scan8 r) : Bok x := (scan_facts _ r (Nat.le_refl _)).1 x h
theorem scan_le (r : List UInt8) : (recs8 (scan8 r)).length ≤ r.length := (scan_facts _ r (Nat.le_refl _)).2.1
theorem scan_take (r : List UInt8) : r.take (recs8 (scan8 r)).length = recs8 (scan8 r) := (scan_facts _ r (Nat.le_refl _)).2.2.symm

/-- How many records are whole in the first N bytes. -/
def keep8 : List (List UInt8) → Nat → Nat
  | [], _ => 0
  | x :: l, N => if x.length + 6 ≤ N then keep8 l (N - (x.length + 6)) + 1 else 0
theorem keep_le (l : List (List UInt8)) : ∀ N, keep8 l N ≤ l.length := by
  induction l with
  | nil => intro N; exact Nat.le_refl _
  | cons x l ih =>
    intro N
    unfold keep8
    split
    · have := ih (N - (x.length + 6))
      rw [List.length_cons]
      omega
    · exact Nat.zero_le _
theorem keep_scan (l : List (List UInt8)) : ∀ N, (∀ x ∈ l, Bok x) → scan8 ((recs8 l).take N) = l.take (keep8 l N) := by
  induction l with
  | nil => intro N _; simp [recs8, keep8, scan_nil]
  | cons x l ih =>
    intro N h
    have hx := h x (by simp)
    unfold keep8
    rw [recs_cons]
    by_cases hN : x.length + 6 ≤ N
    · rw [if_pos hN, List.take_append, List.take_of_length_le (by rw [recB_len]; exact hN), recB_len, List.take_succ_cons]
      have := scan_recs [x] ((recs8 l).take (N - (x.length + 6))) (fun z hz => by simp only [List.mem_singleton] at hz; subst hz; exact hx)
      rw [recs_cons, show recs8 [] = [] from rfl, List.append_nil, ih _ (fun z hz => h z (by simp [hz]))] at this
      exact this
    · rw [if_neg hN, List.take_append_of_le_length (by rw [recB_len]; omega), scan_none (head_cut x N hx (by omega))]
      rfl
theorem keep_ge (l : List (List UInt8)) : ∀ N k, k ≤ l.length → (recs8 (l.take k)).length ≤ N → k ≤ keep8 l N := by
  induction l with
  | nil =>
    intro N k h1 h2
    have : k = 0 := by simpa using h1
    subst this
    exact Nat.zero_le _
  | cons x l ih =>
    intro N k h1 h2
    rcases k with _ | k
    · exact Nat.zero_le _
    · rw [List.length_cons] at h1
      rw [List.take_succ_cons, recs_cons, List.length_append, recB_len] at h2
      have := ih (N - (x.length + 6)) k (by omega) (by omega)
      unfold keep8
      rw [if_pos (by omega)]
      omega
theorem keep_eq (l : List (List UInt8)) : ∀ k, k ≤ l.length → keep8 l (recs8 (l.take k)).length = k := by
  induction l with
  | nil =>
    intro k h1
    have : k = 0 := by simpa using h1
    subst this
    rfl
  | cons x l ih =>
    intro k h1
    unfold keep8
    rcases k with _ | k
    · have : (recs8 ((x :: l).take 0)).length = 0 := rfl
      rw [this, if_neg (by omega)]
    · rw [List.length_cons] at h1
      have := ih k (by omega)
      rw [List.take_succ_cons, recs_cons, List.length_append, recB_len, if_pos (by omega), show x.length + 6 + (recs8 (l.take k)).length - (x.length + 6) = (recs8 (l.take k)).length by omega, this]

/-- What a reader tells of the first record. -/
theorem sc_read (r : List UInt8) : (head8 r = none ∧ ∃ st, bytesR 200 (some r) = ([], st)) ∨
    (∃ x y, bytesR 200 (some r) = (x, some y) ∧ Bok x ∧ y = r.drop (x.length + 2) ∧ x.length + 2 ≤ r.length ∧
      ((r.length < x.length + 6 ∧ head8 r = none) ∨ (x.length + 6 ≤ r.length ∧ ∃ z : Nat, getS 4 (some y) = ((z : Int), some (r.drop (x.length + 6))) ∧ ((z ≠ sumN x ∧ head8 r = none) ∨ (z = sumN x ∧ head8 r = some x))))) := by
  by_cases h2 : 2 ≤ r.length
  · have hg : getS 2 (some r) = ((num (r.take 2) : Int), some (r.drop 2)) := get_nat r 2 (by omega) (by omega) h2
    unfold bytesR
    rw [hg]
    have e2 : head8 r = if 2 ≤ r.length ∧ 1 ≤ num (r.take 2) ∧ num (r.take 2) ≤ 200 ∧ num (r.take 2) + 6 ≤ r.length ∧ num ((r.drop (num (r.take 2) + 2)).take 4) = sumN ((r.drop 2).take (num (r.take 2))) then some ((r.drop 2).take (num (r.take 2))) else none := rfl
    generalize num (r.take 2) = n at *
    by_cases h200 : 200 < n
    · refine .inl ⟨?_, none, if_pos (by simp only; omega)⟩
      rw [e2]
      exact if_neg (by omega)
    · by_cases hz : n = 0
      · subst hz
        refine .inl ⟨?_, some (r.drop 2), ?_⟩
        · rw [e2]
          exact if_neg (by omega)
        · rw [if_neg (by simp only; omega)]
          simp only [Int.toNat_natCast, takeS]
          rw [if_pos (Nat.zero_le _)]
          rfl
      · have hne : ¬ (200 : Int) < (n : Int) := by omega
        simp only [if_neg hne, Int.toNat_natCast, takeS, List.length_drop]
        by_cases hl : n ≤ r.length - 2
        · rw [if_pos hl, List.drop_drop]
          refine .inr ⟨_, _, rfl, ?_⟩
          have hlen : ((r.drop 2).take n).length = n := by rw [List.length_take, List.length_drop]; omega
          rw [hlen]
          refine ⟨⟨by omega, by omega⟩, by rw [Nat.add_comm 2 n], by omega, ?_⟩
          by_cases h6 : n + 6 ≤ r.length
          · right
            refine ⟨h6, num ((r.drop (n + 2)).take 4), ?_, ?_⟩
            · have hg4 : getS 4 (some (r.drop (n + 2))) = ((num ((r.drop (n + 2)).take 4) : Int), some ((r.drop (n + 2)).drop 4)) := get_nat (r.drop (n + 2)) 4 (by omega) (by omega) (by rw [List.length_drop]; omega)
              rw [Nat.add_comm 2 n, hg4, List.drop_drop]
            · by_cases hs : num ((r.drop (n + 2)).take 4) = sumN ((r.drop 2).take n)
              · right
                refine ⟨hs, ?_⟩
                rw [e2]
                exact if_pos ⟨h2, by omega, by omega, h6, hs⟩
              · left
                refine ⟨hs, ?_⟩
                rw [e2]
                exact if_neg (fun h => hs h.2.2.2.2)
          · left
            refine ⟨by omega, ?_⟩
            rw [e2]
            exact if_neg (by omega)
        · rw [if_neg hl]
          refine .inl ⟨?_, none, rfl⟩
          rw [e2]
          exact if_neg (by omega)
  · refine .inl ⟨head_short r (.inl (by omega)), none, ?_⟩
    have hg : getS 2 (some r) = (0, none) := if_neg (by intro h; have := h.2.2.1; simp at this; omega)
    unfold bytesR
    rw [hg]
    rfl
/-- What the document's Scan tells of the first record. -/
theorem rf_read (r x : List UInt8) (n : Nat) (hn : n = num (r.take 2)) (hx : x = (r.drop 2).take n) (h : n + 6 ≤ r.length) (h1 : 1 ≤ n) (h200 : n ≤ 200) :
    (recB x = r.take (n + 6) ∧ head8 r = some x) ∨ (recB x ≠ r.take (n + 6) ∧ head8 r = none) := by
  have hl : x.length = n := by rw [hx, List.length_take, List.length_drop]; omega
  rcases hh : head8 r with _ | z
  · right
    refine ⟨fun e => ?_, rfl⟩
    have h2 := head_rec x (r.drop (n + 6)) ⟨by omega, by omega⟩
    rw [e, List.take_append_drop, hh] at h2
    cases h2
  · left
    have hz := hh
    unfold head8 at hz
    split at hz
    · injection hz with hz
      rw [← hn, ← hx] at hz
      subst hz
      have := (head_some hh).2.2
      rw [hl] at this
      exact ⟨this, rfl⟩
    · cases hz
theorem rf_bad (r : List UInt8) (h : num (r.take 2) = 0 ∨ 200 < num (r.take 2)) : head8 r = none := by
  unfold head8
  exact if_neg (by omega)
theorem num_two (r : List UInt8) (a b : UInt8) (h0 : r[0]? = some a) (h1 : r[1]? = some b) : num (r.take 2) = 256 * a.toNat + b.toNat := by
  match r, h0, h1 with
  | _ :: _ :: _, rfl, rfl => simp [num]

end Go.Proofs.Ythljmebhbjeeiaa
