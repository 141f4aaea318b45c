/-
  Walks: the document's reader: (*rutterref01.Reader).Get, Bytes, Rest, Done. Conditions: the receiver is such a reader in memory.
-/
import Derived.Test.YteipeookmpnemaaRc
import Derived.Test.YteipeookmpnemaaSpb
namespace Go.Proofs.Yteipeookmpnemaa
open Go.RowKit

theorem rr_fail {T : TypeId} {w : World} {p : Nat} {S : Nat → Prop} {A : Option Addr} {n c : Nat} {f : Bool} {bs : List UInt8} (hS : ¬ S p) (hb : Blk w p T #[.slice A n c, .bool f]) (h2 : n ≤ c) (h3 : c ≤ maxLen) (h4 : n = bs.length) (h5 : Rds w S A n (bcs bs)) :
    Rd T false (w.setCell ⟨p, 1, none⟩ (.bool true)) p S none ∧ Chg (fun k => k = p) w (w.setCell ⟨p, 1, none⟩ (.bool true)) := by
  have hc := (Chg.refl (fun k => k = p) w).put p 1 (fun _ => rfl) (.bool true)
  exact ⟨⟨hS, A, n, c, true, bs, hb.set 1 _, h2, h3, h4, h5.chg hc (fun k hk e => by subst e; exact hS hk), rfl, fun h => by cases h⟩, hc⟩
theorem num8 (l : List UInt8) (h : l.length = 8) : (num l < 9223372036854775808) = ((l[0]'(by omega)).toNat ≤ 127) := by
  match l, h with
  | c :: r, h =>
    have hr : r.length = 7 := by simpa using h
    have h1 := num_lt r
    rw [hr] at h1
    have e7 : (256 : Nat) ^ 7 = 72057594037927936 := by decide
    rw [num_cons, hr, e7]
    rw [e7] at h1
    simp only [List.getElem_cons_zero]
    apply propext
    omega

theorem rr_close {w : World} {p : Nat} {S : Nat → Prop} {b : List UInt8} {A A' : Option Addr} {m c n : Nat} {T : TypeId} (hS : ¬ S p) (hb : Blk w p T #[.slice A m c, .bool false])
    (hmc : m ≤ c) (hcm : c ≤ maxLen) (hm : m = b.length) (hle : n ≤ m) (hd : Rds w S A' (m - n) ((bcs b).drop n)) (c2 : Nat) (hc2 : c2 = c - n) :
    Rd T false (w.setCell ⟨p, 0, none⟩ (.slice A' (m - n) c2)) p S (some (b.drop n)) ∧ Chg (fun k => k = p) w (w.setCell ⟨p, 0, none⟩ (.slice A' (m - n) c2)) := by
  subst hc2
  have hcc : Chg (fun k => k = p) w (w.setCell ⟨p, 0, none⟩ (.slice A' (m - n) (c - n))) := (Chg.refl (fun k => k = p) w).put p 0 (fun _ => rfl) _
  refine ⟨⟨hS, A', m - n, c - n, false, b.drop n, hb.set 0 _, by omega, by omega, by rw [List.length_drop]; omega, ?_, rfl, rfl⟩, hcc⟩
  unfold bcs at hd ⊢
  rw [← List.map_drop] at hd
  exact hd.chg hcc (fun k hk e => by subst e; exact hS hk)

theorem rr_close2 {w : World} {p : Nat} {S : Nat → Prop} {b : List UInt8} {A A' : Option Addr} {m c n : Nat} {T : TypeId} (hS : ¬ S p) (hb : Blk w p T #[.slice A m c, .bool false])
    (hmc : m ≤ c) (hcm : c ≤ maxLen) (hm : m = b.length) (hle : n ≤ m) (hd : Rds w S A' (m - n) ((bcs b).drop n)) (A2 : Option Addr) (m2 c2 : Nat) (hA2 : A2 = A') (hm2 : m2 = m - n) (hc2 : c2 = c - n) :
    Rd T false (w.setCell ⟨p, 0, none⟩ (.slice A2 m2 c2)) p S (some (b.drop n)) ∧ Chg (fun k => k = p) w (w.setCell ⟨p, 0, none⟩ (.slice A2 m2 c2)) := by
  subst hA2
  subst hm2
  exact rr_close hS hb hmc hcm hm hle hd c2 hc2

theorem num_mono (b : List UInt8) (j n : Nat) (h : j ≤ n) : num (b.take j) ≤ num (b.take n) := by
  induction n with
  | zero => rw [Nat.le_zero.1 h]; exact Nat.le_refl _
  | succ n ih =>
    rcases Nat.lt_or_ge j (n + 1) with h1 | h1
    · have h2 := ih (by omega)
      rcases Nat.lt_or_ge n b.length with h3 | h3
      · rw [num_take b n h3]
        omega
      · rw [List.take_of_length_le (by omega : b.length ≤ n + 1)]
        rwa [List.take_of_length_le (by omega : b.length ≤ n)] at h2
    · have : j = n + 1 := by omega
      rw [this]
      exact Nat.le_refl _

end Go.Proofs.Yteipeookmpnemaa
