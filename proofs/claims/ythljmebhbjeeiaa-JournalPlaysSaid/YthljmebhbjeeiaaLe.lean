/-
  Two files under one word. Walk: rutterlaw07.step. Conditions: both are files in memory that have the same; the act's bytes are read in memory.
-/
import Derived.Test.YthljmebhbjeeiaaLd
namespace Go.Proofs.Ythljmebhbjeeiaa
open Go.RowKit
set_option linter.unusedVariables false
set_option linter.unusedSimpArgs false

theorem conv7 {w : World} {S : Nat → Prop} {A : Option Addr} {n c : Nat} {l : List UInt8} (h : Rds w S A n (bcs l)) : (convert 35 9 (.slice A n c)).run Try.prog w = .ok (.string ⟨l.toArray⟩) w :=
  conv_str 35 9 5 Try.underlying35 Try.underlying5 Try.underlying9 h

/-- The world of a walk that began in W: nothing of W has turned; two files (blocks p, q; bytes at o1, o2) have the same. -/
structure DE (W : World) (p q : Nat) (bs : List UInt8) (s r : Nat) (o1 o2 : Option Nat) (w : World) : Prop where
  chg : Chg (fun _ => False) W w
  lo1 : W.heap.size ≤ p
  lo2 : W.heap.size ≤ q
  f1 : Fi 59 w p o1 bs s r
  f2 : Fi 37 w q o2 bs s r
  ol1 : ∀ k, o1 = some k → W.heap.size ≤ k ∧ k ≠ q
  ol2 : ∀ k, o2 = some k → W.heap.size ≤ k ∧ k ≠ p
  ne : p ≠ q
  neo : ∀ k, o1 = some k → o2 ≠ some k
/-- The same, between a call of one and the same call of the other: they have not the same. -/
structure DF (W : World) (p q : Nat) (bs : List UInt8) (s : Nat) (bs' : List UInt8) (s' : Nat) (r : Nat) (o1 o2 : Option Nat) (w : World) : Prop where
  chg : Chg (fun _ => False) W w
  lo1 : W.heap.size ≤ p
  lo2 : W.heap.size ≤ q
  f1 : Fi 59 w p o1 bs s r
  f2 : Fi 37 w q o2 bs' s' r
  ol1 : ∀ k, o1 = some k → W.heap.size ≤ k ∧ k ≠ q
  ol2 : ∀ k, o2 = some k → W.heap.size ≤ k ∧ k ≠ p
  ne : p ≠ q
  neo : ∀ k, o1 = some k → o2 ≠ some k
section
variable {W w w' : World} {p q : Nat} {bs bs' bs1 : List UInt8} {s s' s1 r : Nat} {o1 o2 o' : Option Nat}
theorem DF.set1 (h : DF W p q bs s bs' s' r o1 o2 w) (hw : Fi 59 w' p o' bs1 s1 r) (hm : Mvd p o1 o' w w') : DF W p q bs1 s1 bs' s' r o' o2 w' := by
  obtain ⟨hC, ho⟩ := fresh_mvd h.chg hm h.lo1 (fun k hk => (h.ol1 k hk).1)
  have hne := h.ne
  have hlo := h.lo1
  have hlt := h.f2.lt
  refine ⟨hC, h.lo1, h.lo2, hw, h.f2.chg hm.1 (fun e => ?_) (fun k hk e => ?_), fun k hk => ⟨ho k hk, ?_⟩, h.ol2, hne, fun k hk e => ?_⟩
  · rcases e with e | e
    · exact hne e.symm
    · exact (h.ol1 _ e).2 rfl
  · rcases e with e | e
    · exact (h.ol2 k hk).2 e
    · exact h.neo k e hk
  · rcases hm.2 with e | e | ⟨j, e, hj⟩
    · exact (h.ol1 k (by rw [← e, hk])).2
    · rw [e] at hk; cases hk
    · rw [e] at hk
      injection hk with hk
      omega
  · rcases hm.2 with e1 | e1 | ⟨j, e1, hj⟩
    · exact h.neo k (by rw [← e1, hk]) e
    · rw [e1] at hk; cases hk
    · rw [e1] at hk
      injection hk with hk
      have := hlt.2 k e
      omega
theorem DF.set2 (h : DF W p q bs s bs' s' r o1 o2 w) (hw : Fi 37 w' q o' bs1 s1 r) (hm : Mvd q o2 o' w w') : DF W p q bs s bs1 s1 r o1 o' w' := by
  obtain ⟨hC, ho⟩ := fresh_mvd h.chg hm h.lo2 (fun k hk => (h.ol2 k hk).1)
  have hne := h.ne
  have hlo := h.lo2
  have hlt := h.f1.lt
  refine ⟨hC, h.lo1, h.lo2, h.f1.chg hm.1 (fun e => ?_) (fun k hk e => ?_), hw, h.ol1, fun k hk => ⟨ho k hk, ?_⟩, hne, fun k hk e => ?_⟩
  · rcases e with e | e
    · exact hne e
    · exact (h.ol2 _ e).2 rfl
  · rcases e with e | e
    · exact (h.ol1 k hk).2 e
    · exact h.neo k hk e
  · rcases hm.2 with e | e | ⟨j, e, hj⟩
    · exact (h.ol2 k (by rw [← e, hk])).2
    · rw [e] at hk; cases hk
    · rw [e] at hk
      injection hk with hk
      omega
  · rcases hm.2 with e1 | e1 | ⟨j, e1, hj⟩
    · exact h.neo k hk (by rw [← e1, e])
    · rw [e1] at e; cases e
    · rw [e1] at e
      injection e with e
      have := hlt.2 k hk
      omega
theorem DF.new (h : DF W p q bs s bs' s' r o1 o2 w) (hc : Chg (fun _ => False) w w') : DF W p q bs s bs' s' r o1 o2 w' :=
  ⟨h.chg.trans hc (fun _ _ e => e), h.lo1, h.lo2, h.f1.chg hc id (fun _ _ => id), h.f2.chg hc id (fun _ _ => id), h.ol1, h.ol2, h.ne, h.neo⟩
end
/-- Both have the same, whatever it is; no more than there is room for. -/
def DX (W : World) (p q r : Nat) (w : World) : Prop := ∃ bs s o1 o2, DF W p q bs s bs s r o1 o2 w ∧ s ≤ bs.length ∧ bs.length ≤ r

theorem addB_le {r s : Nat} {bs b : List UInt8} (hs : s ≤ bs.length) (h : bs.length ≤ r) : s ≤ (addB r bs b).length ∧ (addB r bs b).length ≤ r := by
  unfold addB
  split
  · exact ⟨hs, h⟩
  · rw [List.length_append]
    omega
theorem cut_le {r s : Nat} {bs : List UInt8} {n : Int} (hs : s ≤ bs.length) (h : bs.length ≤ r) : cutS bs s n ≤ (cutB bs n).length ∧ (cutB bs n).length ≤ r := by
  unfold cutS cutB
  split
  · exact ⟨hs, h⟩
  · rw [List.length_take]
    omega
theorem cr_le {r s : Nat} {bs : List UInt8} {n : Int} (hs : s ≤ bs.length) (h : bs.length ≤ r) : crN bs s n ≤ (bs.take (crN bs s n)).length ∧ (bs.take (crN bs s n)).length ≤ r := by
  unfold crN
  simp
  omega
end Go.Proofs.Ythljmebhbjeeiaa
