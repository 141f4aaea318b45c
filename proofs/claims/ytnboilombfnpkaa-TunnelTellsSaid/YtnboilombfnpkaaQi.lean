/-
  What both Agains hand back, in letters. Conditions: the frame is read in memory, no more of it than there is room.
-/
import Derived.Test.YtnboilombfnpkaaQh
import Derived.Test.YtnboilombfnpkaaQg
namespace Go.Proofs.Ytnboilombfnpkaa
open Go.RowKit
set_option linter.unusedVariables false

/-- What comes of a packet forwarded, in letters. -/
def AgC (k o f t p g i tz gen : Int) (l : List UInt8) (k' o' f' t' p' g' i' : Int) (m : List UInt8) (x : Int) : Prop :=
  (k' = 0 ∧ o' = 0 ∧ f' = 0 ∧ t' = 0 ∧ p' = 0 ∧ g' = 0 ∧ i' = 0 ∧ m = [] ∧ (x = 1 ∨ x = 8)) ∨
  (k' = 2 ∧ o = o' ∧ t = f' ∧ tz = t' ∧ p = p' ∧ gen = g' ∧ i = i' ∧ l = m ∧ x = 0 ∧ pkR k o f t p g i l.length = true ∧ k ≠ 2 ∧ pkR 2 o t tz p gen i l.length = true)
theorem agains (k o f t p g i tz gen : Int) (A : Option Addr) (n c : Nat) (l : List UInt8) (S : Nat → Prop) (w : World) (hn : n ≤ 9223372036854775807) (hl : n = l.length) (h : Rds w S A n (bcs l)) (hz : A = none → c = 0) :
    ∃ k' o' f' t' p' g' i' m x, AgC k o f t p g i tz gen l k' o' f' t' p' g' i' m x ∧
      (pkR k o f t p g i n = true → k = 2 → x = 8) ∧
      (∀ W, Chg (fun _ => False) w W → Calls Try.prog 8 #[.agg (pkC k o f t p g i A n c), .int .i64 tz, .int .i64 gen] W (Hd k' o' f' t' p' g' i' m x W)) ∧ (∀ W, Chg (fun _ => False) w W → Calls Try.prog 9 #[.agg (pkC k o f t p g i A n c), .int .i64 tz, .int .i64 gen] W (Hd k' o' f' t' p' g' i' m x W))
       := by
  cases hr : pkR k o f t p g i n with
  | false => exact ⟨0, 0, 0, 0, 0, 0, 0, [], 1, .inl ⟨rfl, rfl, rfl, rfl, rfl, rfl, rfl, rfl, .inl rfl⟩, (fun h => by cases h), fun W _ => (tag_arg k o f t p g i tz gen A n c W hn hr).mono (fun _ _ he => hd_no he), fun W _ => (rag_arg k o f t p g i tz gen A n c W hn hr).mono (fun _ _ he => hd_no he)⟩
  | true =>
    by_cases hk : k = 2
    · exact ⟨0, 0, 0, 0, 0, 0, 0, [], 8, .inl ⟨rfl, rfl, rfl, rfl, rfl, rfl, rfl, rfl, .inr rfl⟩, (fun _ _ => rfl), fun W _ => (tag_state k o f t p g i tz gen A n c W hn hr hk).mono (fun _ _ he => hd_no he), fun W _ => (rag_state k o f t p g i tz gen A n c W hn hr hk).mono (fun _ _ he => hd_no he)⟩
    · cases hr2 : pkR 2 o t tz p gen i n with
      | false => exact ⟨0, 0, 0, 0, 0, 0, 0, [], 1, .inl ⟨rfl, rfl, rfl, rfl, rfl, rfl, rfl, rfl, .inl rfl⟩, (fun _ h => absurd h hk), fun W _ => (tag_gen k o f t p g i tz gen A n c W hn hr hk hr2).mono (fun _ _ he => hd_no he), fun W _ => (rag_gen k o f t p g i tz gen A n c W hn hr hk hr2).mono (fun _ _ he => hd_no he)⟩
      | true =>
        refine ⟨2, o, t, tz, p, gen, i, l, 0, .inr ⟨rfl, rfl, rfl, rfl, rfl, rfl, rfl, rfl, rfl, ?_, hk, ?_⟩, (fun _ h => absurd h hk), fun W hw => tag_ok k o f t p g i tz gen A n c W hn l S hl (h.chg hw (fun _ _ => id)) hz hr hk hr2, fun W hw => rag_ok k o f t p g i tz gen A n c W hn l S hl (h.chg hw (fun _ _ => id)) hz hr hk hr2⟩
        · rw [← hl]; exact hr
        · rw [← hl]; exact hr2

end Go.Proofs.Ytnboilombfnpkaa
