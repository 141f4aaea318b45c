/-
  Walks: the document's writer: (*rutterref01.Writer).Put, Puts, Bytes, Done. Conditions: the receiver is such a writer in memory, its bytes are bounded.
-/
import Derived.Test.YtalfbijcjghemaaVa
namespace Go.Proofs.Ytalfbijcjghemaa
open Go.RowKit

/-- One number, of any width. -/
def rput1 (n : Int) (st : Option (List UInt8)) (x : Int) : Option (List UInt8) := if fitsR n x then st.map (· ++ be n.toNat x.toNat) else none

theorem wr_flag {T e : TypeId} {w : World} {p : Nat} {o : Option Nat} {st : Option (List UInt8)} {N : Nat} (h : Wr T e w p o st N) :
    Wr T e (w.setCell ⟨p, 1, none⟩ (.bool true)) p o none N ∧ Mvd p o o w (w.setCell ⟨p, 1, none⟩ (.bool true)) := by
  obtain ⟨bs, f, A, c, hob, hN, _⟩ := h
  have hb : Blk w p T _ := hob.blk
  have hc := (Chg.refl (fun k => k = p) w).put p 1 (fun _ => rfl) (.bool true)
  refine ⟨⟨bs, true, A, c, ⟨hb.set 1 _, own_chg hob.own hc (fun k hk e => ?_), hob.at_, hob.ne⟩, hN, rfl⟩, hc.mono (fun _ _ e => .inl e), .inl rfl⟩
  subst e
  rw [hob.at_] at hk
  exact hob.ne hk

set_option maxHeartbeats 600000 in
theorem rput_no (p : Nat) (o : Option Nat) (st : Option (List UInt8)) (N : Nat) (n x : Int) (w : World) (h : Wr 68 5 w p o st N) (hx : x ≤ 9223372036854775807) (hf : fitsR n x = false) :
    Calls Try.prog 35 #[.pointer (some ⟨p, 0, none⟩), .int .i64 n, .int .i64 x] w fun e w' => e = .returned (.tuple #[]) ∧
      Wr 68 5 w' p o none N ∧ Mvd p o o w w' := by
  have hres := wr_flag h
  have HR := Lib.hid hres
  have hfit := rfits_any n x w hx
  rw [hf] at hfit
  have HF := Lib.hid hfit
  obtain ⟨bs, f, A, c, hob, hN, _⟩ := h
  have hb : Blk w p _ _ := hob.blk
  have c1 := hb.cell 1
  have f1 := hb.frozen 1
  simp only [List.getElem?_toArray, List.getElem?_cons_zero, List.getElem?_cons_succ] at c1
  clear hres hfit hf hob
  go_enter Try.func35, Try.ntmps35
  go_wp2_with fail
  refine HF.out.mono ?_
  rintro e w1 ⟨rfl, rfl⟩
  go_wp2_with fail
  refine bodyPost_ret (results_none rfl _ _ _) rfl ?_
  exact ⟨rfl, HR.out.1, HR.out.2⟩

set_option maxHeartbeats 800000 in
theorem rput_yes (p : Nat) (o : Option Nat) (st : Option (List UInt8)) (N : Nat) (n : Nat) (x : Int) (w : World) (h : Wr 68 5 w p o st N) (hx0 : 0 ≤ x) (hx : x ≤ 9223372036854775807) (h1 : 1 ≤ n) (h8 : n ≤ 8) (hf : fitsR (n : Int) x = true) (hN2 : N + 8 ≤ 1000000000000) :
    Calls Try.prog 35 #[.pointer (some ⟨p, 0, none⟩), .int .i64 n, .int .i64 x] w fun e w' => e = .returned (.tuple #[]) ∧
      ∃ o', Wr 68 5 w' p o' (st.map (· ++ be n x.toNat)) (N + 8) ∧ Mvd p o o' w w' := by
  obtain ⟨i0, hi0, hz0, hz1, hz2⟩ := info_parts infoByte
  have hfit := rfits_any n x w hx
  rw [hf] at hfit
  have HF := Lib.hid hfit
  have hone := one_any n x w.drew h1 h8 hx0
  have HO := Lib.hid hone
  obtain ⟨bs, f, A, c, hob, hN, hst⟩ := h
  have hb : Blk w p _ _ := hob.blk
  have hplt := hb.lt
  have hne2 : (Value.slice A bs.length c).ownBlock ≠ some p := by rw [own_block, hob.at_]; exact hob.ne
  have c0 := hb.cell 0
  have c1 := hb.cell 1
  have f0 := hb.frozen 0
  simp only [List.getElem?_toArray, List.getElem?_cons_zero, List.getElem?_cons_succ] at c0 c1
  have hNl : bs.length ≤ 1000000000000 := by omega
  have HST := Lib.hid hst
  clear hfit hf hst hone
  go_enter Try.func35, Try.ntmps35
  go_wp2_with fail
  refine HF.out.mono ?_
  rintro e w1 ⟨rfl, rfl⟩
  clear HF
  go_wp2_with fail
  go_region_law (first
    | (refine step_own_append _ rfl (.tmp 19) (.tmp 22) 33 rfl 0 5 i0 (.int .u8 0) 1 Try.underlying33 hi0 hz0 hz1 hz2 rfl (.slice A bs.length c) bs.length (bcs bs) rfl (own_chg hob.own hC2 (fun _ _ => id)) _ A2 k2 c2 (bcs (be n x.toNat)) rfl (own_rds2 hown2) (bcs_one _) (by unfold maxLen; omega) (by omega) (Nat.zero_le _) ?_; intro v' w3 hown3 hg3 hat3; obtain ⟨A3, c3, rfl, _, _⟩ := own_form hown3; have hb3 := blk_grown (hb.chg hC2 id) hg3 hne2; have z0 := hb3.cell 0; have z1 := hb3.frozen 0; simp only [List.getElem?_toArray, List.getElem?_cons_zero] at z0)
    | (go_simp; go_at_call 53; refine HO.out.mono ?_; rintro e w2 ⟨A2, k2, c2, rfl, hk2, hown2, hC20⟩; have hC2 := (Chg.refl (fun _ => False) w).drew.trans hC20 (fun _ _ e => e); clear hC20; have HK2 := Lib.hid hk2; have hk8 : k2 ≤ 8 := (by omega); clear hk2; have y0 := (hb.chg hC2 id).cell 0; simp only [List.getElem?_toArray, List.getElem?_cons_zero] at y0))
  all_goals
    go_end0
    obtain ⟨hob3, hm3⟩ := ob_grown hob hC2 (be n x.toNat) rfl (by rw [be_len]; exact HK2.out) hown3 hg3 hat3
    refine ⟨rfl, _, ⟨bs ++ be n x.toNat, f, A3, c3, hob3, by rw [List.length_append, be_len]; omega, ?_⟩, hm3⟩
    have hst := HST.out
    rcases st with _ | b1
    · exact hst
    · obtain ⟨hf1, rfl⟩ : f = false ∧ b1 = bs := hst
      exact ⟨hf1, rfl⟩

theorem rput_any (p : Nat) (o : Option Nat) (st : Option (List UInt8)) (N : Nat) (n x : Int) (w : World) (h : Wr 68 5 w p o st N) (hx : x ≤ 9223372036854775807) (hN2 : N + 8 ≤ 1000000000000) :
    Calls Try.prog 35 #[.pointer (some ⟨p, 0, none⟩), .int .i64 n, .int .i64 x] w fun e w' => e = .returned (.tuple #[]) ∧
      ∃ o', Wr 68 5 w' p o' (rput1 n st x) (N + 8) ∧ Mvd p o o' w w' := by
  by_cases hf : fitsR n x = true
  · have hn : 1 ≤ n ∧ n ≤ 8 ∧ 0 ≤ x := by
      unfold fitsR fits at hf
      simp only [Bool.and_eq_true, decide_eq_true_eq] at hf
      exact ⟨hf.1.1, hf.1.2, hf.2.1⟩
    obtain ⟨q, rfl⟩ := Int.eq_ofNat_of_zero_le (show 0 ≤ n by omega)
    have e : rput1 (q : Int) st x = st.map (· ++ be q x.toNat) := by unfold rput1; rw [if_pos hf, Int.toNat_natCast]
    rw [e]
    exact rput_yes p o st N q x w h hn.2.2 hx (by omega) (by omega) hf hN2
  · have hf' : fitsR n x = false := by simpa using hf
    have e : rput1 n st x = none := by unfold rput1; rw [hf']; rfl
    rw [e]
    exact (rput_no p o st N n x w h hx hf').mono fun _ _ ⟨he, hr, hm⟩ => ⟨he, o, hr.more (by omega), hm⟩

def rputs (n : Int) (l : List Int) (st : Option (List UInt8)) : Option (List UInt8) := l.foldl (rput1 n) st
theorem rputs_take (n : Int) (l : List Int) (st : Option (List UInt8)) (k : Nat) (h : k < l.length) : rputs n (l.take (k + 1)) st = rput1 n (rputs n (l.take k) st) l[k] := by
  unfold rputs
  rw [List.take_succ_eq_append_getElem h, List.foldl_append]
  rfl
theorem rput1_none (n : Int) (x : Int) : rput1 n none x = none := by unfold rput1; split <;> rfl
theorem rputs_none (n : Int) (l : List Int) : rputs n l none = none := by
  unfold rputs
  induction l with
  | nil => rfl
  | cons x l ih => rw [List.foldl_cons, rput1_none]; exact ih
theorem rputs_put (n : Int) (l : List Int) (st : Option (List UInt8)) : (if 1 ≤ n ∧ n ≤ 8 then rputs n l st else rputs n l none) = putS n l st := by
  unfold putS
  by_cases hn : 1 ≤ n ∧ n ≤ 8
  · rw [if_pos hn, if_pos hn]
    unfold rputs puts
    congr 1
    funext s x
    unfold rput1 put1
    have hd : decide (1 ≤ n ∧ n ≤ 8) = true := by simpa using hn
    unfold fitsR
    rw [hd, Bool.true_and]
    cases s
    · split <;> rfl
    · rfl
  · rw [if_neg hn, if_neg hn, rputs_none]

end Go.Proofs.Ytalfbijcjghemaa
