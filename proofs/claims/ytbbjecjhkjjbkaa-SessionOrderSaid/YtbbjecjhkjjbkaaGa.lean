/-
  A region that draws its order, in a round of a range over a function, by the walk of the same region outside of it; what is in memory abides the turn of a block that is no cells. No condition.
-/
import Derived.Test.YtbbjecjhkjjbkaaGen
import Derived.RangeFuncNested
import Derived.RangeFuncBound
import Derived.RangeFuncCalls
import Derived.RangeFuncLeaves
import Derived.Shelf.Abstract
import Derived.WalkKit
import Derived.OwnWalkIn
import Derived.TacticsInMore
import Derived.LoopNIn
import Derived.LoopIn
import Derived.Deep.RegionHeld3
import Derived.OrdersIn
namespace Go.Proofs.Ytbbjecjhkjjbkaa
open Go.RowKit
set_option linter.unusedVariables false

section
variable {P : Program} {ops : Array Oper} {Q : Exit → Act → World → Prop} {md : Region.Mode}
/-- No operation of these is a defer statement. -/
def noDefer11 (ops : Array Oper) : Bool := ops.all fun o => match o.op with | .defer _ => false | _ => true
theorem noDefer_spec {ops : Array Oper} (h : noDefer11 ops = true) {i : Nat} {o : Oper} (ho : ops[i]? = some o) : ∀ c, o.op ≠ .defer c := by
  intro c hc
  obtain ⟨hi, he⟩ := Array.getElem?_eq_some_iff.1 ho
  have h2 := Array.all_eq_true.1 h i hi
  rw [he, hc] at h2
  cases h2
theorem rowsIn_wide {n : Nat} {row : String} {args : Array Value} {w : World} {R : Value → World → Prop} (h : Rows P row args w R) (l : Nat) : RowsIn (Fence.wide.inRound l) n P row args w R :=
  fun c cs _ => let ⟨v, w', r, s⟩ := h c cs; ⟨v, w', r, stepsIn_wide.2 s⟩
theorem wpOp_round {l n i : Nat} {K : Act → World → Prop} {a : Act} {w : World} (hd : noDefer11 ops = true) (hQ : ¬ LetsOut Q) (h : wpOp P ops Q i K a w) : wpOpIn (Fence.wide.inRound l) n P ops Q i K a w := by
  unfold wpOp at h
  unfold wpOpIn
  cases ho : ops[i]? with
  | none => simpa [ho] using h
  | some o =>
    simp only [ho] at h ⊢
    split
    · rename_i hw
      simp only [hw, if_true] at h
      rcases h with h | ⟨_, h⟩
      · refine ⟨fun _ _ => trivial, ?_⟩
        rw [Fence.inRound_round, Oper.semAt_some l _ _ (noDefer_spec hd ho)]
        unfold Oper.wp at h
        generalize (execOp a.eval o).run P w = r at *
        cases r with
        | ok x w' =>
          cases x <;> simp only [Oper.upon, Oper.uponIn] at h ⊢ <;>
            first
              | exact h
              | exact ⟨fun hh => by simp [Fence.wide] at hh, callsIn_wide.2 h⟩
              | exact ⟨fun hh => by simp [Fence.wide] at hh, rowsIn_wide h l⟩
        | halt x w' => cases x <;> simp only [Oper.upon, Oper.uponIn] at h ⊢ <;> exact h
      · exact absurd h hQ
    · rename_i hw
      simp only [hw] at h
      exact ⟨fun _ _ => trivial, h⟩
theorem wpAny_round {l n : Nat} (hd : noDefer11 ops = true) (hQ : ¬ LetsOut Q) : ∀ (fuel : Nat) (listed : Array Bool) (a : Act) (w : World), wpAny P md ops Q fuel listed a w → wpAnyIn (Fence.wide.inRound l) n P md ops Q fuel listed a w
  | 0, _, _, _, h => h
  | fuel + 1, listed, a, w, h => ⟨h.1, fun i hi => wpOpIn_mono (fun a' w' h' => wpAny_round hd hQ fuel _ a' w' h') (wpOp_round hd hQ (h.2 i hi))⟩
/-- **A region that draws, in a round.** -/
theorem round_region {l n id : Nat} {a : Act} {w : World} {S : World → Prop} (hm : P.follows .mixedOrders = true) (hd : noDefer11 ops = true) (hQ : ¬ LetsOut Q) (hS : S w.drew)
    (h : S w.drew → wpAnyH P .any ops Q S ops.size (Array.replicate ops.size false) a w.drew) : (Code.region id ops true).wpIn (Fence.wide.inRound l) n P Q a w :=
  wpIn_region_any hm (wpAny_round hd hQ _ _ _ _ (wpAny_of_held _ _ _ _ (h hS)))
end

section
variable {w w' : World} {row : Option Nat}
/-- Only a block that is no cells has turned. -/
def Abd (w w' : World) : Prop := ∃ row : Option Nat, w.grownBy w' row ∧ ∀ r, row = some r → ∃ o : Obj, w.heap[r]? = some o ∧ o.isCells = false
theorem Abd.of (hg : w.grownBy w' row) (hr : ∀ r, row = some r → ∃ o : Obj, w.heap[r]? = some o ∧ o.isCells = false) : Abd w w' := ⟨row, hg, hr⟩
theorem Abd.block (h : Abd w w') {g : Nat} {cs : Array Value} {t : TypeId} {fr : Nat × Nat} (hb : w.heap[g]? = some (.cells cs t fr)) : w'.heap[g]? = some (.cells cs t fr) := by
  obtain ⟨row, hg, hr⟩ := h
  exact (grownBy_keeps_cells hg hr hb rfl).trans hb
theorem Blk.abd {g : Nat} {t : TypeId} {cs : Array Value} (hb : Blk w g t cs) (h : Abd w w') : Blk w' g t cs := h.block hb
theorem Rds.abd {S : Nat → Prop} {A : Option Addr} {n : Nat} {xs : List Value} (hr : Rds w S A n xs) (h : Abd w w') : Rds w' S A n xs := by
  refine ⟨hr.1, fun hn => ?_⟩
  obtain ⟨ad, e, hs, hb, hc⟩ := hr.2 hn
  obtain ⟨row, hg, hrow⟩ := h
  exact ⟨ad, e, hs, Nat.lt_of_lt_of_le hb hg.size, fun j u hu => cell_kept (hc j u hu) hg hrow⟩
theorem own_abd {base : Nat} {e : TypeId} {size n : Nat} {v : Value} {xs : List Value} (ho : w.ownsRow base e size v n xs) (h : Abd w w') : w'.ownsRow base e size v n xs := by
  refine ⟨ho.1, ?_⟩
  rcases ho.2 with h2 | ⟨g, cap, cur, hv, hg, hh, r⟩
  · exact .inl h2
  · exact .inr ⟨g, cap, cur, hv, hg, h.block hh, r⟩
/-- A fact of memory that abides such turns, for the law. -/
theorem own_of_abd {β : Type} {I : β → World → Prop} (h : ∀ s W W', I s W → Abd W W' → I s W') : Own I := fun s W W' row hs hg hr => h s W W' hs (Abd.of hg hr)
theorem below_chg {n₀ : Nat} {S : Nat → Prop} (h : Below n₀ w w') (hS : ∀ k, n₀ ≤ k → S k) : Chg S w w' := ⟨h.os, h.tape, h.output, h.size, fun k hk hn => h.block k (by
  rcases Nat.lt_or_ge k n₀ with hl | hl
  · exact hl
  · exact absurd (hS k hl) hn)⟩
theorem chg_below {n₀ : Nat} (h : Chg (fun k => n₀ ≤ k) w w') (hn : n₀ ≤ w.heap.size) : Below n₀ w w' := ⟨h.os, h.tape, h.output, h.size, fun k hk => h.block k (by omega) (by omega)⟩
theorem Chg.keepsFrom {S : Nat → Prop} (h : Chg S w w') (B : Nat) (hS : ∀ k (cs : Obj), w.heap[k]? = some cs → S k → cs.isCells = true) : KeepsFrom B w w' :=
  ⟨h.size, fun k o _ hk ho => by
    refine (h.block k (Array.getElem?_eq_some_iff.1 hk).1 (fun hs => ?_)).trans hk
    rw [hS k o hk hs] at ho
    cases ho⟩
end

end Go.Proofs.Ytbbjecjhkjjbkaa
