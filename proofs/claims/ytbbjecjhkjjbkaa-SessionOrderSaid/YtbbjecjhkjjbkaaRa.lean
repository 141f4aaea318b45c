/-
  Walks: (*buf.Reader).fail, take. Conditions: the receiver is a reader in memory.
-/
import Derived.Test.YtbbjecjhkjjbkaaWc
namespace Go.Proofs.Ytbbjecjhkjjbkaa
open Go.RowKit

set_option maxHeartbeats 400000 in
theorem rfail (T : TypeId) (p : Nat) (v x : Value) (w : World) (hb : Blk w p T #[v, x]) :
    Calls Try.prog 52 #[.pointer (some ⟨p, 0, none⟩)] w fun e w' => e = .returned (.tuple #[]) ∧
      Blk w' p T #[.slice none 0 0, .bool true] ∧ Chg (fun k => k = p) w w' := by
  have c0 := hb.cell 0
  have c1 := hb.cell 1
  have f0 := hb.frozen 0
  have f1 := hb.frozen 1
  simp only [List.getElem?_toArray, List.getElem?_cons_zero, List.getElem?_cons_succ] at c0 c1
  go_enter Try.func52, Try.ntmps52
  go_wp2
  go_end0
  exact ⟨rfl, (hb.set 0 _).set 1 _, ((Chg.refl (fun k => k = p) w).put _ _ (fun _ => rfl) _).put _ _ (fun _ => rfl) _⟩

theorem rd_none {T : TypeId} {s : Bool} {w : World} {p : Nat} {S : Nat → Prop} (hS : ¬ S p) (h : Blk w p T #[.slice none 0 0, .bool true]) : Rd T s w p S none :=
  ⟨hS, none, 0, 0, true, [], h, Nat.le_refl _, Nat.zero_le _, rfl, Rds.nil _ _ _, rfl, fun _ => ⟨rfl, rfl, rfl⟩⟩

theorem take_st {st : Option (List UInt8)} {bs : List UInt8} {f : Bool} {A A' : Option Addr} {m c n : Nat}
    (hst : RSt true f A m c bs st) (hm : m = bs.length) (hle : n ≤ m) (hA : A = none → A' = none) :
    (takeS n st).1 = bs.take n ∧ RSt true f A' (m - n) (c - n) (bs.drop n) (takeS n st).2 := by
  rcases st with _ | b
  · obtain ⟨hf, h2⟩ : f = true ∧ (true = true → A = none ∧ m = 0 ∧ c = 0) := hst
    obtain ⟨hn, h0, hc⟩ := h2 rfl
    have hb : bs = [] := List.eq_nil_of_length_eq_zero (by omega)
    subst hb
    exact ⟨by simp [takeS], hf, fun _ => ⟨hA hn, by omega, by omega⟩⟩
  · obtain ⟨hf, rfl⟩ : f = false ∧ b = bs := hst
    have e : takeS n (some b) = (b.take n, some (b.drop n)) := if_pos (by omega)
    rw [e]
    exact ⟨rfl, hf, rfl⟩

theorem take_close {w : World} {p : Nat} {S : Nat → Prop} {st : Option (List UInt8)} {bs : List UInt8} {f : Bool} {A A' : Option Addr} {m c n : Nat} (hS : ¬ S p) (hb : Blk w p 110 #[.slice A m c, .bool f])
    (hr : Rds w S A m (bcs bs)) (hmc : m ≤ c) (hcm : c ≤ maxLen) (hst : RSt true f A m c bs st) (hm : m = bs.length) (hle : n ≤ m) (hA : A = none → A' = none) (hd : Rds w S A' (m - n) ((bcs bs).drop n)) (c2 : Nat) (hc2 : c2 = c - n) :
    ∃ A1 k c1, Ending.returned (.slice A n n) = .returned (.slice A1 k c1) ∧ k = (takeS n st).1.length ∧ k ≤ c1 ∧ c1 ≤ maxLen ∧
      Rds (w.setCell ⟨p, 0, none⟩ (.slice A' (m - n) c2)) S A1 k (bcs (takeS n st).1) ∧ Rd 110 true (w.setCell ⟨p, 0, none⟩ (.slice A' (m - n) c2)) p S (takeS n st).2 ∧
      Chg (fun k => k = p) w (w.setCell ⟨p, 0, none⟩ (.slice A' (m - n) c2)) := by
  subst hc2
  obtain ⟨e1, e2⟩ := take_st hst hm hle hA
  rw [e1]
  have hcc : Chg (fun k => k = p) w (w.setCell ⟨p, 0, none⟩ (.slice A' (m - n) (c - n))) := (Chg.refl (fun k => k = p) w).put p 0 (fun _ => rfl) _
  refine ⟨A, n, n, rfl, by rw [List.length_take]; omega, Nat.le_refl _, by omega, ?_, ⟨hS, A', m - n, c - n, f, bs.drop n, hb.set 0 _, by omega, by omega, by rw [List.length_drop]; omega, ?_, e2⟩, hcc⟩
  · have := hr.take n hle
    unfold bcs at this ⊢
    rw [← List.map_take] at this
    exact this.chg hcc (fun k hk e => by subst e; exact hS hk)
  · unfold bcs at hd ⊢
    rw [← List.map_drop] at hd
    exact hd.chg hcc (fun k hk e => by subst e; exact hS hk)

set_option maxHeartbeats 400000 in
theorem take_any (p : Nat) (S : Nat → Prop) (st : Option (List UInt8)) (n : Nat) (w : World) (h : Rd 110 true w p S st) (hn : n ≤ 9223372036854775807) :
    Calls Try.prog 53 #[.pointer (some ⟨p, 0, none⟩), .int .i64 n] w fun e w' => ∃ A k c, e = .returned (.slice A k c) ∧ k = (takeS n st).1.length ∧ k ≤ c ∧ c ≤ maxLen ∧
      Rds w' S A k (bcs (takeS n st).1) ∧ Rd 110 true w' p S (takeS n st).2 ∧ Chg (fun k => k = p) w w' := by
  obtain ⟨hS, A, m, c, f, bs, hblk, hmc, hc, hm, hr, hst⟩ := h
  have hb : Blk w p _ _ := hblk
  have hcm := hc
  unfold maxLen at hc
  have c0 := hb.cell 0
  have c1 := hb.cell 1
  have f0 := hb.frozen 0
  have f1 := hb.frozen 1
  simp only [List.getElem?_toArray, List.getElem?_cons_zero, List.getElem?_cons_succ] at c0 c1
  by_cases hlt : m < n
  · have e : takeS n st = ([], none) := by
      rcases st with _ | b
      · rfl
      · obtain ⟨_, rfl⟩ : f = false ∧ b = bs := hst
        exact if_neg (by omega)
    rw [e]
    have HM := Lib.hid hm
    clear hm hst e
    go_enter Try.func53, Try.ntmps53
    go_wp2_with fail
    refine (rfail _ p _ _ _ hb).mono ?_
    rintro e w' ⟨rfl, hb', hc'⟩
    go_wp2_with fail
    go_ret
    exact ⟨none, 0, 0, rfl, rfl, Nat.le_refl _, Nat.zero_le _, Rds.nil _ _ _, rd_none hS hb', hc'⟩
  · have hle : n ≤ m := by omega
    have HM := Lib.hid hm
    have HST := Lib.hid hst
    clear hm hst
    go_enter Try.func53, Try.ntmps53
    go_wp2_with fail
    all_goals
      go_ret
      have hm' := HM.out
      have hd := hr.drop n c hle hmc
    · rw [if_pos (by omega)] at hd
      exact take_close hS hb hr hmc hcm HST.out hm' hle id hd _ (by omega)
    · rw [if_neg (by omega)] at hd
      exact take_close hS hb hr hmc hcm HST.out hm' hle (fun e => by rw [e]; rfl) hd _ rfl

end Go.Proofs.Ytbbjecjhkjjbkaa
