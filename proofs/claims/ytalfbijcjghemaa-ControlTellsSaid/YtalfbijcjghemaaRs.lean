/-
  Walks: the document's reader: (*rutterref01.Reader).Bytes, Rest, Done. Conditions: the receiver is such a reader in memory.
-/
import Derived.Test.YtalfbijcjghemaaRr
import Derived.Test.YtalfbijcjghemaaGen
namespace Go.Proofs.Ytalfbijcjghemaa
open Go.RowKit

/-- What a call leaves that hands back bytes in new memory. -/
def GaveN (T : TypeId) (w : World) (p : Nat) (S : Nat → Prop) (r : List UInt8 × Option (List UInt8)) (e : Ending) (w' : World) : Prop :=
  ∃ A k c, e = .returned (.slice A k c) ∧ k = r.1.length ∧ Rds w' (fun k => w.heap.size ≤ k) A k (bcs r.1) ∧ Rd T false w' p S r.2 ∧ Chg (fun k => k = p) w w'

set_option maxHeartbeats 400000 in
theorem rrdone_any (p : Nat) (S : Nat → Prop) (st : Option (List UInt8)) (w : World) (h : Rd 72 false w p S st) :
    Calls Try.prog 39 #[.pointer (some ⟨p, 0, none⟩)] w fun e w' => e = .returned (.int .i64 (doneS st)) ∧ w = w' := by
  obtain ⟨hS, A, m, c, f, bs, hblk, hmc, hc, hm, hr, hst⟩ := h
  have hb : Blk w p _ _ := hblk
  have c0 := hb.cell 0
  have c1 := hb.cell 1
  simp only [List.getElem?_toArray, List.getElem?_cons_zero, List.getElem?_cons_succ] at c0 c1
  rcases st with _ | b
  · obtain rfl : f = true := hst.1
    clear hst hm hr
    go_enter Try.func39, Try.ntmps39
    go_wp2
    go_ret
    exact ⟨rfl, rfl⟩
  · obtain ⟨rfl, rfl⟩ : f = false ∧ b = bs := hst
    by_cases h0 : 0 < m
    · have hd : Hid (doneS (some b) = 2) := by
        cases b
        · simp only [List.length_nil] at hm; omega
        · rfl
      clear hm hr
      go_enter Try.func39, Try.ntmps39
      go_wp2
      go_ret
      exact ⟨by rw [hd.out]; rfl, rfl⟩
    · have hm0 : m = 0 := by omega
      subst hm0
      have hb0 : b = [] := List.eq_nil_of_length_eq_zero hm.symm
      subst hb0
      clear hm hr
      go_enter Try.func39, Try.ntmps39
      go_wp2
      go_ret
      exact ⟨rfl, rfl⟩

theorem rrb_close {w w1 w2 : World} {p q m c dc : Nat} {S : Nat → Prop} {bs : List UInt8} {A A' D : Option Addr} (hS : ¬ S p) (hb2 : Blk w2 p 72 #[.slice A m c, .bool false]) (hmc : m ≤ c) (hcm : c ≤ maxLen) (hm : m = bs.length) (hq : q ≤ m)
    (hs1 : w.heap.size ≤ w1.heap.size) (hplt : p < w1.heap.size) (hc1 : Chg (fun k => k = p) w w1) (hC1 : Chg (fun _ => False) w1 w2) (hd2 : Rds w2 S A' (m - q) ((bcs bs).drop q)) (hd1 : Rds w2 (fun k => w1.heap.size ≤ k ∧ k < w2.heap.size) D q (bcs (bs.take q)))
    (A2 : Option Addr) (m2 c2 : Nat) (e1 : A2 = A') (e2 : m2 = m - q) (e3 : c2 = c - q) : GaveN 72 w p S (bs.take q, some (bs.drop q)) (.returned (.slice D q dc)) (w2.setCell ⟨p, 0, none⟩ (.slice A2 m2 c2)) := by
  obtain ⟨hr2, hc2⟩ := rr_close2 hS hb2 hmc hcm hm hq hd2 A2 m2 c2 e1 e2 e3
  exact ⟨D, q, dc, rfl, by simp only [List.length_take]; omega, (hd1.chg hc2 (fun k hk e => by subst e; omega)).mono (fun k hk => by omega), hr2, (hc1.trans (hC1.mono (S' := fun k => k = p) (fun _ _ e => e.elim)) (fun _ _ e => e)).trans hc2 (fun _ _ e => e)⟩

end Go.Proofs.Ytalfbijcjghemaa
