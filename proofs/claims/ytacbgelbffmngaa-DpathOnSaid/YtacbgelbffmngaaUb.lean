/-
  Records that lie in memory; may a message be? Walks: the closure of control.kept, slices.IndexFunc, slices.ContainsFunc, control.kept, Right. Conditions: the records are read in memory.
-/
import Derived.Test.YtacbgelbffmngaaUa
import Derived.Deep.LoopGhost
import Derived.Laws.StructEq
import Derived.Lib.SmallJoins
namespace Go.Proofs.Ytacbgelbffmngaa
open Go.RowKit
set_option linter.unusedVariables false

/-- A record. -/
structure Rc where
  pr : Int
  sr : Int
  ds : Int
  sp : Int
  dp : Int
  un : Int
def Rc.cs (x : Rc) : Array Value := rcC x.pr x.sr x.ds x.sp x.dp x.un
/-- A slice of m records, of six cells each. -/
def RcR (w : World) (S : Nat → Prop) (L : Option Addr) (m : Nat) (l : List Rc) : Prop :=
  m = l.length ∧ (0 < m → ∃ ad, L = some ad ∧ S ad.block ∧ ad.block < w.heap.size ∧ ∀ (i : Nat) (x : Rc), l[i]? = some x → ∀ (j : Nat) (u : Value), x.cs[j]? = some u → w.cell? (ad.add (i * 6 + j)) = some u)
section
variable {w w' : World} {S S' : Nat → Prop} {L : Option Addr} {m : Nat} {l : List Rc}
theorem RcR.keep (h : RcR w S L m l) (hz : w.heap.size ≤ w'.heap.size) (hk : ∀ k, S k → k < w.heap.size → w'.heap[k]? = w.heap[k]?) : RcR w' S L m l := by
  refine ⟨h.1, fun hm => ?_⟩
  obtain ⟨ad, e, hs, hb, hc⟩ := h.2 hm
  refine ⟨ad, e, hs, Nat.lt_of_lt_of_le hb hz, fun i x hi j u hu => ?_⟩
  rw [← hc i x hi j u hu]
  exact World.cell?_of_block (by rw [block_add]; exact hk _ hs hb)
theorem RcR.chg (h : RcR w S L m l) (hc : Chg S' w w') (hd : ∀ k, S k → ¬ S' k) : RcR w' S L m l := h.keep hc.size fun k hs hk => hc.block k hk (hd k hs)
theorem RcR.alloc (h : RcR w S L m l) (o : Obj) : RcR (w.alloc o) S L m l := h.chg ((Chg.refl (fun _ => False) w).alloc o) (fun _ _ => id)
theorem RcR.mono (h : RcR w S L m l) (hs : ∀ k, S k → S' k) : RcR w S' L m l :=
  ⟨h.1, fun hm => by obtain ⟨ad, e, h1, h2⟩ := h.2 hm; exact ⟨ad, e, hs _ h1, h2⟩⟩
theorem RcR.nil (w : World) (S : Nat → Prop) (L : Option Addr) : RcR w S L 0 [] := ⟨rfl, fun h => absurd h (by omega)⟩
theorem RcR.old (h : RcR w S L m l) : RcR w (fun k => S k ∧ k < w.heap.size) L m l :=
  ⟨h.1, fun hm => by obtain ⟨ad, e, h1, h2, h3⟩ := h.2 hm; exact ⟨ad, e, ⟨h1, h2⟩, h2, h3⟩⟩
theorem RcR.back {w0 : World} (h : RcR w' S L m l) (hc : Chg S' w0 w') (hS : ∀ k, S k → k < w0.heap.size ∧ ¬ S' k) : RcR w0 S L m l := by
  refine ⟨h.1, fun hm => ?_⟩
  obtain ⟨ad, e, hs, hb, hcell⟩ := h.2 hm
  obtain ⟨h1, h2⟩ := hS _ hs
  refine ⟨ad, e, hs, h1, fun i x hi j u hu => ?_⟩
  rw [← hcell i x hi j u hu]
  exact (World.cell?_of_block (by rw [block_add]; exact hc.block _ h1 h2)).symm
/-- The cells of a record, as the walk spells them. -/
theorem RcR.at {ad : Addr} {i : Nat} {x : Rc} (h : RcR w S (some ad) m l) (hi : l[i]? = some x) :
    w.cell? (ad.add (i * 6)) = some (.int .i64 x.pr) ∧ w.cell? ⟨(ad.add (i * 6)).block, (ad.add (i * 6)).off + 1, none⟩ = some (.int .u32 x.sr) ∧ w.cell? ⟨(ad.add (i * 6)).block, (ad.add (i * 6)).off + 2, none⟩ = some (.int .u32 x.ds) ∧
    w.cell? ⟨(ad.add (i * 6)).block, (ad.add (i * 6)).off + 3, none⟩ = some (.int .i64 x.sp) ∧ w.cell? ⟨(ad.add (i * 6)).block, (ad.add (i * 6)).off + 4, none⟩ = some (.int .i64 x.dp) ∧ w.cell? ⟨(ad.add (i * 6)).block, (ad.add (i * 6)).off + 5, none⟩ = some (.int .i64 x.un) := by
  have hl : i < l.length := (List.getElem?_eq_some_iff.1 hi).1
  obtain ⟨ad', e, _, _, hc⟩ := h.2 (by have := h.1; omega)
  injection e with e
  subst e
  have h2 := hc i x hi
  have g0 := h2 0 (.int .i64 x.pr) rfl
  have g1 := h2 1 (.int .u32 x.sr) rfl
  have g2 := h2 2 (.int .u32 x.ds) rfl
  have g3 := h2 3 (.int .i64 x.sp) rfl
  have g4 := h2 4 (.int .i64 x.dp) rfl
  have g5 := h2 5 (.int .i64 x.un) rfl
  rw [← off_add] at g0 g1 g2 g3 g4 g5
  exact ⟨g0, g1, g2, g3, g4, g5⟩
end
/-- May a record be? -/
def rcR1 (pr sp dp un : Int) : Bool := flR pr sp dp && withinB 0 1099511627776 [un]
def rcR (x : Rc) : Bool := rcR1 x.pr x.sp x.dp x.un

/-- May these records stand in a message? -/
def keptB (l : List Rc) : Bool := decide (l.length ≤ 16) && l.all rcR
end Go.Proofs.Ytacbgelbffmngaa
