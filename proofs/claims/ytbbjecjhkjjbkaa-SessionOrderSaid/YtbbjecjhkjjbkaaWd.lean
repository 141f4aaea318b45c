/-
  Walks: (*buf.Writer).Bytes on any writer. Conditions: the receiver is a writer in memory or nil, its bytes and what is written are bounded.
-/
import Derived.Test.YtbbjecjhkjjbkaaWc
namespace Go.Proofs.Ytbbjecjhkjjbkaa
open Go.RowKit

set_option maxHeartbeats 400000 in
theorem wbytes_nil (A : Option Addr) (n c : Nat) (w : World) :
    Calls Try.prog 28 #[.pointer none, .slice A n c] w fun e w' => e = .returned (.pointer none) ∧ w = w' := by
  go_enter Try.func28, Try.ntmps28
  go_wp2
  go_ret
  exact ⟨rfl, rfl⟩

theorem rds_one (w : World) (t : TypeId) (x : Int) : Rds (w.alloc (.cells #[.int .i64 x] t)) (fun k => k = w.heap.size) (some ⟨w.heap.size, 0, none⟩) 1 (ics [x]) := (Blk.new w t #[.int .i64 x]).rds

set_option maxHeartbeats 400000 in
theorem wbytes_any (p : Nat) (o : Option Nat) (st : Option (List UInt8)) (N : Nat) (A : Option Addr) (n c : Nat) (b : List UInt8) (S : Nat → Prop) (w : World)
    (h : Wr 75 5 w p o st N) (hn : n = b.length) (hr : Rds w S A n (bcs b)) (hS : ∀ k, S k → k ≠ p ∧ o ≠ some k) (hbig : N + 8 + n ≤ 1000000000000) :
    Calls Try.prog 28 #[.pointer (some ⟨p, 0, none⟩), .slice A n c] w fun e w' => e = .returned (.pointer (some ⟨p, 0, none⟩)) ∧
      ∃ o', Wr 75 5 w' p o' (bytesS b st) (N + 8 + n) ∧ Mvd p o o' w w' := by
  obtain ⟨i0, hi0, hz0, hz1, hz2⟩ := info_parts infoByte
  have hlt := h.lt
  have hC0 : Chg (fun _ => False) w (w.alloc (.cells #[.int .i64 n] 3)) := (Chg.refl _ w).alloc _
  have h1 : Wr 75 5 (w.alloc (.cells #[.int .i64 n] 3)) p o st N := h.chg hC0 id (fun _ _ => id)
  have hr1 := hr.old.alloc (.cells #[.int .i64 n] 3)
  have HN := Lib.hid hn
  clear hn
  have hput := put_any p o st N 2 [(n : Int)] (some ⟨w.heap.size, 0, none⟩) 1 1 (w.alloc (.cells #[.int .i64 n] 3)) (fun k => k = w.heap.size) h1 rfl (rds_one w 3 n)
    (fun k hk => by subst hk; exact ⟨by omega, fun e => by have := hlt.2 _ e; omega⟩) (fun x hx => by simp only [List.mem_singleton] at hx; omega) (by omega)
  have HPUT := Lib.hid hput
  clear hput
  go_enter Try.func28, Try.ntmps28
  go_wp2_with fail
  refine (HPUT.out).mono ?_
  rintro e w1 ⟨rfl, o1, hw1, hm1⟩
  clear HPUT h1
  have hm0 : Mvd p o o1 w w1 := hm1.pre hC0
  have hr2 : Rds w1 (fun k => S k ∧ k < w.heap.size) A n (bcs b) := hr1.chg hm1.1 (fun k hk => by
    have := hS k hk.1
    rintro (h | h)
    · exact this.1 h
    · exact this.2 h)
  clear hr1 hm1 hC0
  have HB : Hid (bytesS b st = (putS 2 [(n : Int)] st).map (· ++ b)) := by
    rw [HN.out]
    rfl
  generalize putS 2 [(n : Int)] st = st1 at *
  obtain ⟨bs1, f1, A1, c1, hob, hN1, hst⟩ := hw1
  have hb1 : Blk w1 p _ _ := hob.blk
  have d0 := hb1.cell 0
  have d1 := hb1.cell 1
  have e0 := hb1.frozen 0
  simp only [List.getElem?_toArray, List.getElem?_cons_zero, List.getElem?_cons_succ] at d0 d1
  rcases st1 with _ | b1
  · obtain rfl : f1 = true := hst
    go_wp2_with fail
    go_ret
    refine ⟨rfl, o1, ?_, hm0⟩
    rw [HB.out]
    exact ⟨bs1, true, A1, c1, hob, by omega, rfl⟩
  · obtain ⟨rfl, rfl⟩ : f1 = false ∧ b1 = bs1 := hst
    have hne2 : (Value.slice A1 b1.length c1).ownBlock ≠ some p := by rw [own_block, hob.at_]; exact hob.ne
    go_wp2_with (at_builtin; refine wpList_own_append _ rfl (.tmp 21) (.tmp 22) 22 rfl 0 5 i0 (.int .u8 0) 1 Try.underlying22 hi0 hz0 hz1 hz2 rfl (.slice A1 b1.length c1) b1.length (bcs b1) rfl hob.own _ A n c (bcs b) rfl hr2 (bcs_one b) (by unfold maxLen; omega) (by omega) (Nat.zero_le _) ?_; intro v' w' hown' hgrow hat; obtain ⟨A3, c3, rfl, _, _⟩ := own_form hown'; have hb3 := blk_grown hb1 hgrow hne2; have z0 := hb3.cell 0; have z1 := hb3.frozen 0; simp only [List.getElem?_toArray, List.getElem?_cons_zero] at z0)
    go_ret
    obtain ⟨hob3, hm3⟩ := ob_grown hob (Chg.refl _ w1) b rfl HN.out hown' hgrow hat
    refine ⟨rfl, _, ?_, hm0.trans hm3⟩
    rw [HB.out]
    exact ⟨b1 ++ b, false, A3, c3, hob3, by rw [List.length_append, ← HN.out]; omega, rfl, rfl⟩

end Go.Proofs.Ytbbjecjhkjjbkaa
