/-
  Walks: (*buf.Reader).Get on any number, Bytes, Rest, Done; buf.Read. Conditions: the receiver is a reader in memory or nil.
-/
import Derived.Test.YtbbjecjhkjjbkaaRb
namespace Go.Proofs.Ytbbjecjhkjjbkaa
open Go.RowKit

theorem get_any (p : Nat) (S : Nat → Prop) (st : Option (List UInt8)) (n : Int) (w : World) (h : Rd 110 true w p S st) :
    Calls Try.prog 34 #[.pointer (some ⟨p, 0, none⟩), .int .i64 n] w fun e w' => e = .returned (.int .i64 (getS n st).1) ∧
      Rd 110 true w' p S (getS n st).2 ∧ Chg (fun k => k = p) w w' := by
  by_cases hn : 1 ≤ n ∧ n ≤ 8
  · obtain ⟨q, rfl⟩ := Int.eq_ofNat_of_zero_le (show 0 ≤ n by omega)
    exact get_ok p S st q w h (by omega) (by omega)
  · rw [get_width n st (by omega)]
    exact get_bad p S st n w h (by omega)

set_option maxHeartbeats 400000 in
theorem rbytes_nil (n : Int) (w : World) : Calls Try.prog 35 #[.pointer none, .int .i64 n] w fun e w' => e = .returned (.slice none 0 0) ∧ w = w' := by
  go_enter Try.func35, Try.ntmps35
  go_wp2
  go_ret
  exact ⟨rfl, rfl⟩

/-- What a call that hands back bytes leaves: the slice reads as them, the reader is in its state. -/
def Gave (T : TypeId) (strict : Bool) (w : World) (p : Nat) (S : Nat → Prop) (r : List UInt8 × Option (List UInt8)) (e : Ending) (w' : World) : Prop :=
  ∃ A k c, e = .returned (.slice A k c) ∧ k = r.1.length ∧ k ≤ c ∧ c ≤ maxLen ∧ Rds w' S A k (bcs r.1) ∧ Rd T strict w' p S r.2 ∧ Chg (fun k => k = p) w w'

set_option maxHeartbeats 400000 in
theorem rbytes_any (p : Nat) (S : Nat → Prop) (st : Option (List UInt8)) (most : Int) (w : World) (h : Rd 110 true w p S st) :
    Calls Try.prog 35 #[.pointer (some ⟨p, 0, none⟩), .int .i64 most] w (Gave 110 true w p S (bytesR most st)) := by
  have hg := get_any p S st 2 w h
  have HB : Hid (bytesR most st = if most < (getS 2 st).1 then ([], none) else takeS (getS 2 st).1.toNat (getS 2 st).2) := rfl
  have hgl := get_len 2 st
  generalize getS 2 st = g at *
  obtain ⟨x, st2⟩ := g
  obtain ⟨q, rfl⟩ := Int.eq_ofNat_of_zero_le hgl.1
  have hq : (q : Int) ≤ 9223372036854775807 := hgl.2
  simp only [Int.toNat_natCast] at HB
  have HG := Lib.hid hg
  clear hg hgl h
  go_enter Try.func35, Try.ntmps35
  go_wp2_with fail
  refine HG.out.mono ?_
  rintro e w1 ⟨rfl, hrd, hc⟩
  by_cases hm : most < (q : Int)
  · have hE : Hid (bytesR most st = ([], none)) := by rw [HB.out, if_pos hm]; exact rfl
    obtain ⟨hS, A', m', c', f', bs', hblk, _⟩ := hrd
    have hb' : Blk w1 p _ _ := hblk
    clear hblk HB HG
    go_wp2_with fail
    refine (rfail _ p _ _ _ hb').mono ?_
    rintro e w2 ⟨rfl, hb2, hc'⟩
    have hr2 : Rd 110 true w2 p S none := rd_none hS hb2
    go_wp2_with fail
    refine (take_any p S none q w2 hr2 (by omega)).mono ?_
    rintro e w3 ⟨A, k, c, rfl, hk, hkc, hcm, hr, hrd3, hc3⟩
    have HK := Lib.hid hk
    clear hk
    go_wp2_with fail
    go_ret
    rw [hE.out]
    have hk : k = 0 := HK.out
    exact ⟨A, k, c, rfl, hk, hkc, hcm, hr, hrd3, (hc.trans hc' (fun _ _ e => e)).trans hc3 (fun _ _ e => e)⟩
  · have hE : Hid (bytesR most st = takeS q st2) := by rw [HB.out, if_neg hm]; exact rfl
    clear HB HG
    have htk := take_any p S st2 q w1 hrd (by omega)
    generalize takeS q st2 = r at *
    have HTK := Lib.hid htk
    clear htk hrd
    go_wp2_with fail
    refine HTK.out.mono ?_
    rintro e w3 ⟨A, k, c, rfl, hk, hkc, hcm, hr, hrd3, hc3⟩
    have HK := Lib.hid hk
    clear hk HTK
    go_wp2_with fail
    go_ret
    rw [hE.out]
    exact ⟨A, k, c, rfl, HK.out, hkc, hcm, hr, hrd3, hc.trans hc3 (fun _ _ e => e)⟩

set_option maxHeartbeats 400000 in
theorem rdone_nil (w : World) : Calls Try.prog 36 #[.pointer none] w fun e w' => e = .returned (.int .i64 1) ∧ w = w' := by
  go_enter Try.func36, Try.ntmps36
  go_wp2
  go_ret
  exact ⟨rfl, rfl⟩

set_option maxHeartbeats 400000 in
theorem rdone_any (p : Nat) (S : Nat → Prop) (st : Option (List UInt8)) (w : World) (h : Rd 110 true w p S st) :
    Calls Try.prog 36 #[.pointer (some ⟨p, 0, none⟩)] w fun e w' => e = .returned (.int .i64 (doneS st)) ∧ w = w' := by
  obtain ⟨hS, A, m, c, f, bs, hblk, hmc, hc, hm, hr, hst⟩ := h
  have hb : Blk w p _ _ := hblk
  have c0 := hb.cell 0
  have c1 := hb.cell 1
  simp only [List.getElem?_toArray, List.getElem?_cons_zero, List.getElem?_cons_succ] at c0 c1
  rcases st with _ | b
  · obtain rfl : f = true := hst.1
    clear hst hm hr
    go_enter Try.func36, Try.ntmps36
    go_wp2
    go_ret
    exact ⟨rfl, rfl⟩
  · obtain ⟨rfl, rfl⟩ : f = false ∧ b = bs := hst
    by_cases h0 : 0 < m
    · have hd : Hid (doneS (some b) = 2) := by
        cases b
        · simp only [List.length_nil] at hm; omega
        · rfl
      clear hm hr
      go_enter Try.func36, Try.ntmps36
      go_wp2
      go_ret
      exact ⟨by rw [hd.out]; rfl, rfl⟩
    · have hm0 : m = 0 := by omega
      subst hm0
      have hb0 : b = [] := List.eq_nil_of_length_eq_zero hm.symm
      subst hb0
      clear hm hr
      go_enter Try.func36, Try.ntmps36
      go_wp2
      go_ret
      exact ⟨rfl, rfl⟩

set_option maxHeartbeats 400000 in
theorem read_any (A : Option Addr) (n c : Nat) (bs : List UInt8) (S : Nat → Prop) (w : World) (hn : n = bs.length) (h : Rds w S A n (bcs bs)) (hz : A = none → c = 0) (hbig : n ≤ 140737488355328) :
    Calls Try.prog 33 #[.slice A n c] w fun e w' => ∃ p, e = .returned (.pointer (some ⟨p, 0, none⟩)) ∧ w.heap.size ≤ p ∧
      Rd 110 true w' p (fun k => w.heap.size ≤ k ∧ k < p) (some bs) ∧ Chg (fun _ => False) w w' := by
  have hcl := clone_any A n c bs S w hn h hz hbig
  have HCL := Lib.hid hcl
  have HN := Lib.hid hn
  clear hcl hn hz
  go_enter Try.func33, Try.ntmps33
  go_wp2_with fail
  refine HCL.out.mono ?_
  rintro e w1 ⟨A', c', rfl, hown, hc⟩
  clear HCL
  go_wp2_with fail
  go_ret
  have hlt := hown.lt
  rw [own_block] at hlt
  obtain ⟨_, _, hv, h1, h2⟩ := own_form hown
  injection hv with _ _ hv
  subst hv
  have hr : Rds w1 (fun k => w.heap.size ≤ k ∧ k < w1.heap.size) A' n (bcs bs) := (own_rds hown).mono hlt
  exact ⟨w1.heap.size, rfl, hc.size, ⟨fun h => Nat.lt_irrefl _ h.2, A', n, c', false, bs, heap_alloc_new w1 _, h1, h2, HN.out, hr.alloc _, rfl, rfl⟩, hc.alloc _⟩

end Go.Proofs.Ytbbjecjhkjjbkaa
