/-
  Walks: the document's reader: (*rutterref01.Reader).Bytes, Rest, Done. Conditions: the receiver is such a reader in memory.
-/
import Derived.Test.YtbbjecjhkjjbkaaRr
import Derived.Test.YtbbjecjhkjjbkaaGen
namespace Go.Proofs.Ytbbjecjhkjjbkaa
open Go.RowKit

/-- What a call leaves that hands back bytes in new memory. -/
def GaveN (T : TypeId) (w : World) (p : Nat) (S : Nat → Prop) (r : List UInt8 × Option (List UInt8)) (e : Ending) (w' : World) : Prop :=
  ∃ A k c, e = .returned (.slice A k c) ∧ k = r.1.length ∧ Rds w' (fun k => w.heap.size ≤ k) A k (bcs r.1) ∧ Rd T false w' p S r.2 ∧ Chg (fun k => k = p) w w'

set_option maxHeartbeats 400000 in
theorem rrdone_any (p : Nat) (S : Nat → Prop) (st : Option (List UInt8)) (w : World) (h : Rd 89 false w p S st) :
    Calls Try.prog 39 #[.pointer (some ⟨p, 0, none⟩)] w fun e w' => e = .returned (.int .i64 (doneS st)) ∧ w = w' := by
  obtain ⟨hS, A, m, c, f, bs, hblk, hmc, hc, hm, hr, hst⟩ := h
  have hb : Blk w p _ _ := hblk
  have c0 := hb.cell 0
  have c1 := hb.cell 1
  simp only [List.getElem?_toArray, List.getElem?_cons_zero, List.getElem?_cons_succ] at c0 c1
  rcases st with _ | b
  · obtain rfl : f = true := hst.1
    clear hst hm hr
    go_enter Try.func39, Try.ntmps39
    go_wp2
    go_ret
    exact ⟨rfl, rfl⟩
  · obtain ⟨rfl, rfl⟩ : f = false ∧ b = bs := hst
    by_cases h0 : 0 < m
    · have hd : Hid (doneS (some b) = 2) := by
        cases b
        · simp only [List.length_nil] at hm; omega
        · rfl
      clear hm hr
      go_enter Try.func39, Try.ntmps39
      go_wp2
      go_ret
      exact ⟨by rw [hd.out]; rfl, rfl⟩
    · have hm0 : m = 0 := by omega
      subst hm0
      have hb0 : b = [] := List.eq_nil_of_length_eq_zero hm.symm
      subst hb0
      clear hm hr
      go_enter Try.func39, Try.ntmps39
      go_wp2
      go_ret
      exact ⟨rfl, rfl⟩

theorem rrb_close {w w1 w2 : World} {p q m c dc : Nat} {S : Nat → Prop} {bs : List UInt8} {A A' D : Option Addr} (hS : ¬ S p) (hb2 : Blk w2 p 89 #[.slice A m c, .bool false]) (hmc : m ≤ c) (hcm : c ≤ maxLen) (hm : m = bs.length) (hq : q ≤ m)
    (hs1 : w.heap.size ≤ w1.heap.size) (hplt : p < w1.heap.size) (hc1 : Chg (fun k => k = p) w w1) (hC1 : Chg (fun _ => False) w1 w2) (hd2 : Rds w2 S A' (m - q) ((bcs bs).drop q)) (hd1 : Rds w2 (fun k => w1.heap.size ≤ k ∧ k < w2.heap.size) D q (bcs (bs.take q)))
    (A2 : Option Addr) (m2 c2 : Nat) (e1 : A2 = A') (e2 : m2 = m - q) (e3 : c2 = c - q) : GaveN 89 w p S (bs.take q, some (bs.drop q)) (.returned (.slice D q dc)) (w2.setCell ⟨p, 0, none⟩ (.slice A2 m2 c2)) := by
  obtain ⟨hr2, hc2⟩ := rr_close2 hS hb2 hmc hcm hm hq hd2 A2 m2 c2 e1 e2 e3
  exact ⟨D, q, dc, rfl, by simp only [List.length_take]; omega, (hd1.chg hc2 (fun k hk e => by subst e; omega)).mono (fun k hk => by omega), hr2, (hc1.trans (hC1.mono (S' := fun k => k = p) (fun _ _ e => e.elim)) (fun _ _ e => e)).trans hc2 (fun _ _ e => e)⟩

set_option maxRecDepth 100000 in
set_option maxHeartbeats 800000 in
theorem rrbytes_any (p : Nat) (S : Nat → Prop) (st : Option (List UInt8)) (most : Int) (w : World) (h : Rd 89 false w p S st) :
    Calls Try.prog 38 #[.pointer (some ⟨p, 0, none⟩), .int .i64 most] w (GaveN 89 w p S (bytesR most st)) := by
  obtain ⟨i0, hi0, hz0, hz1, hz2⟩ := info_parts infoByte
  have hg := rget_any p S st 2 w h
  have HB : Hid (bytesR most st = if most < (getS 2 st).1 then ([], none) else takeS (getS 2 st).1.toNat (getS 2 st).2) := rfl
  have hgl := get_len 2 st
  have hsm : (getS 2 st).1 < 65536 := by
    unfold getS
    split
    · simp
    · rename_i b
      split
      · have h1 := num_lt (b.take (2 : Int).toNat)
        have hp : (256 : Nat) ^ (b.take (2 : Int).toNat).length ≤ 256 ^ 2 := Nat.pow_le_pow_right (by decide) (by rw [List.length_take]; exact Nat.min_le_left _ _)
        have : (256 : Nat) ^ 2 = 65536 := by decide
        simp only
        omega
      · simp
  generalize getS 2 st = g at *
  obtain ⟨x, st2⟩ := g
  obtain ⟨q, rfl⟩ := Int.eq_ofNat_of_zero_le hgl.1
  have hq : q < 65536 := by have h9 : (q : Int) < 65536 := hsm; omega
  simp only [Int.toNat_natCast] at HB
  have HG := Lib.hid hg
  clear hg hgl h hsm
  go_enter Try.func38, Try.ntmps38
  go_wp2_with fail
  refine HG.out.mono ?_
  rintro e w1 ⟨rfl, hrd, hc1⟩
  have hs1 := hc1.size
  obtain ⟨hS, A, m, c, f, bs, hblk, hmc, hcm, hm, hr, hst⟩ := hrd
  have hb : Blk w1 p _ _ := hblk
  have hres := rr_fail hS hb hmc hcm hm hr
  have c0 := hb.cell 0
  have c1 := hb.cell 1
  have f0 := hb.frozen 0
  have f1 := hb.frozen 1
  simp only [List.getElem?_toArray, List.getElem?_cons_zero, List.getElem?_cons_succ] at c0 c1
  have HR := Lib.hid hres
  have hmi : (m : Int) ≤ 9223372036854775807 := by unfold maxLen at hcm; omega
  have hci : c ≤ 9223372036854775807 := by unfold maxLen at hcm; omega
  have HCM := Lib.hid hcm
  clear hcm
  by_cases hok : f = false ∧ (q : Int) ≤ most ∧ q ≤ m
  · obtain ⟨rfl, hqm, hqn⟩ := hok
    have hb2 : st2 = some bs := by
      rcases st2 with _ | b2
      · have hff : false = true := hst.1
        cases hff
      · obtain ⟨_, rfl⟩ : false = false ∧ b2 = bs := hst
        rfl
    have hE : Hid (bytesR most st = (bs.take q, some (bs.drop q))) := by
      rw [HB.out, if_neg (by show ¬ most < (q : Int); omega), hb2]
      exact if_pos (by omega)
    have HM := Lib.hid hm
    have hmade := World.ownsRow_made (e := 5) (size := 1) w1 #[] 0 (Nat.le_refl _) (by decide) rfl
    have hra : Rds (w1.alloc (.cells #[] 5)) S A q (bcs (bs.take q)) := by
      have := (hr.take q hqn).alloc (.cells #[] 5)
      unfold bcs at this ⊢
      rwa [← List.map_take] at this
    have hd := hr.drop q c hqn hmc
    have hplt := hb.lt
    clear hm hres hst hblk HG HB hb2
    go_wp2_with (at_builtin; refine wpList_own_append _ rfl (.tmp 30) (.tmp 36) 22 rfl w1.heap.size 5 i0 (.int .u8 0) 1 Try.underlying22 hi0 hz0 hz1 hz2 rfl (.slice (some ⟨w1.heap.size, 0, none⟩) 0 0) 0 [] rfl hmade _ A q c (bcs (bs.take q)) rfl hra (bcs_one _) (by unfold maxLen; omega) (by omega) (by simp) ?_; intro v1 w2 hown1 hg1 hat1; simp only [Nat.zero_add, List.nil_append] at hown1; obtain ⟨D, dc, rfl, _, _⟩ := own_form hown1; have hC1 : Chg (fun _ => False) w1 w2 := grown_fresh ((Chg.refl _ w1).alloc _) hg1 hmade (Nat.le_refl _); have hb2 : Blk w2 p 89 _ := hb.chg hC1 id; have z0 := hb2.cell 0; have y0 := hb2.frozen 0; simp only [List.getElem?_toArray, List.getElem?_cons_zero] at z0)
    all_goals
      go_ret
      have hd2 := hd.chg hC1 (fun _ _ => id)
      have hd1 := own_rds2 hown1
      rw [hE.out]
    · rw [if_pos (by omega)] at hd2
      exact rrb_close hS hb2 hmc HCM.out HM.out hqn hs1 hplt hc1 hC1 hd2 hd1 _ _ _ rfl (by omega) (by omega)
    · rw [if_neg (by omega)] at hd2
      exact rrb_close hS hb2 hmc HCM.out HM.out hqn hs1 hplt hc1 hC1 hd2 hd1 _ _ _ rfl (by omega) (by omega)
  · have hE : Hid (bytesR most st = ([], none)) := by
      rw [HB.out]
      by_cases hqm : most < (q : Int)
      · exact if_pos hqm
      · rw [if_neg (by show ¬ most < (q : Int); omega)]
        rcases st2 with _ | b2
        · rfl
        · obtain ⟨rfl, rfl⟩ : f = false ∧ b2 = bs := hst
          exact if_neg (fun h => hok ⟨rfl, by omega, by omega⟩)
    have hcase : f = true ∨ (f = false ∧ (most < (q : Int) ∨ ((q : Int) ≤ most ∧ m < q))) := by
      cases f
      · right
        refine ⟨rfl, ?_⟩
        rcases Int.lt_or_le most q with h1 | h1
        · exact .inl h1
        · refine .inr ⟨h1, ?_⟩
          rcases Nat.lt_or_ge m q with h2 | h2
          · exact h2
          · exact absurd ⟨rfl, h1, h2⟩ hok
      · exact .inl rfl
    clear hok hst hm hr hres hblk HG HB
    rcases hcase with rfl | ⟨rfl, h1 | ⟨h1, h2⟩⟩
    all_goals
      go_wp2_with fail
      go_ret
      rw [hE.out]
      exact ⟨none, 0, 0, rfl, rfl, Rds.nil _ _ _, HR.out.1, hc1.trans HR.out.2 (fun _ _ e => e)⟩

end Go.Proofs.Ytbbjecjhkjjbkaa
