/-
  Walks: (*buf.Reader).Get on any number, Bytes, Rest, Done; buf.Read. Conditions: the receiver is a reader in memory or nil.
-/
import Derived.Test.YteipeookmpnemaaRb
namespace Go.Proofs.Yteipeookmpnemaa
open Go.RowKit

/-- What a call that hands back bytes leaves: the slice reads as them, the reader is in its state. -/
def Gave (T : TypeId) (strict : Bool) (w : World) (p : Nat) (S : Nat → Prop) (r : List UInt8 × Option (List UInt8)) (e : Ending) (w' : World) : Prop :=
  ∃ A k c, e = .returned (.slice A k c) ∧ k = r.1.length ∧ k ≤ c ∧ c ≤ maxLen ∧ Rds w' S A k (bcs r.1) ∧ Rd T strict w' p S r.2 ∧ Chg (fun k => k = p) w w'

end Go.Proofs.Yteipeookmpnemaa
