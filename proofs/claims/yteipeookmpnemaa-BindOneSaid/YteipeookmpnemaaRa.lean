/-
  Walks: (*buf.Reader).fail, take. Conditions: the receiver is a reader in memory.
-/
import Derived.Test.YteipeookmpnemaaWc
namespace Go.Proofs.Yteipeookmpnemaa
open Go.RowKit

theorem rd_none {T : TypeId} {s : Bool} {w : World} {p : Nat} {S : Nat → Prop} (hS : ¬ S p) (h : Blk w p T #[.slice none 0 0, .bool true]) : Rd T s w p S none :=
  ⟨hS, none, 0, 0, true, [], h, Nat.le_refl _, Nat.zero_le _, rfl, Rds.nil _ _ _, rfl, fun _ => ⟨rfl, rfl, rfl⟩⟩

theorem take_st {st : Option (List UInt8)} {bs : List UInt8} {f : Bool} {A A' : Option Addr} {m c n : Nat}
    (hst : RSt true f A m c bs st) (hm : m = bs.length) (hle : n ≤ m) (hA : A = none → A' = none) :
    (takeS n st).1 = bs.take n ∧ RSt true f A' (m - n) (c - n) (bs.drop n) (takeS n st).2 := by
  rcases st with _ | b
  · obtain ⟨hf, h2⟩ : f = true ∧ (true = true → A = none ∧ m = 0 ∧ c = 0) := hst
    obtain ⟨hn, h0, hc⟩ := h2 rfl
    have hb : bs = [] := List.eq_nil_of_length_eq_zero (by omega)
    subst hb
    exact ⟨by simp [takeS], hf, fun _ => ⟨hA hn, by omega, by omega⟩⟩
  · obtain ⟨hf, rfl⟩ : f = false ∧ b = bs := hst
    have e : takeS n (some b) = (b.take n, some (b.drop n)) := if_pos (by omega)
    rw [e]
    exact ⟨rfl, hf, rfl⟩

end Go.Proofs.Yteipeookmpnemaa
