/-
  Walks: the document's writer: (*rutterref01.Writer).Bytes, Done. Conditions: the receiver is such a writer in memory, its bytes are bounded.
-/
import Derived.Test.YtplhhcooglaphaaVb
namespace Go.Proofs.Ytplhhcooglaphaa
open Go.RowKit

theorem one_rput (n x : Int) (st : Option (List UInt8)) (hn : 1 ≤ n ∧ n ≤ 8) : rput1 n st x = putS n [x] st := by
  have h := rputs_put n [x] st
  rw [if_pos hn] at h
  rw [← h]
  simp only [rputs, List.foldl_cons, List.foldl_nil]
theorem bytes_rput (b : List UInt8) (st : Option (List UInt8)) : (rput1 2 st (b.length : Int)).map (· ++ b) = bytesS b st := by
  rw [one_rput 2 _ st ⟨by decide, by decide⟩, bytesS]

set_option maxHeartbeats 800000 in
theorem rwbytes_any (p : Nat) (o : Option Nat) (st : Option (List UInt8)) (N : Nat) (A : Option Addr) (n c : Nat) (b : List UInt8) (S : Nat → Prop) (w : World)
    (h : Wr 31 5 w p o st N) (hn : n = b.length) (hr : Rds w S A n (bcs b)) (hS : ∀ k, S k → k ≠ p ∧ o ≠ some k) (hbig : N + 8 + n ≤ 1000000000000) :
    Calls Try.prog 9 #[.pointer (some ⟨p, 0, none⟩), .slice A n c] w fun e w' => e = .returned (.tuple #[]) ∧
      ∃ o', Wr 31 5 w' p o' (bytesS b st) (N + 8 + n) ∧ Mvd p o o' w w' := by
  obtain ⟨i0, hi0, hz0, hz1, hz2⟩ := info_parts infoByte
  have hp := rput_any p o st N 2 (n : Int) w h (by omega) (by omega)
  have HE := Lib.hid (bytes_rput b st)
  have HN := Lib.hid hn
  have HP : Hid (Calls Try.prog 23 #[.pointer (some ⟨p, 0, none⟩), .int .i64 2, .int .i64 (n : Int)] w fun e w' => e = .returned (.tuple #[]) ∧
      ∃ o', Wr 31 5 w' p o' (rput1 2 st (b.length : Int)) (N + 8) ∧ Mvd p o o' w w') := by
    rw [hn] at hp ⊢
    exact hp
  clear hp hn
  generalize rput1 2 st (b.length : Int) = st1 at *
  go_enter Try.func9, Try.ntmps9
  go_wp2_with fail
  refine HP.out.mono ?_
  rintro e w1 ⟨rfl, o1, hw1, hm1⟩
  have hr1 : Rds w1 S A n (bcs b) := hr.chg hm1.1 (fun k hk => by
    have := hS k hk
    rintro (h | h)
    · exact this.1 h
    · exact this.2 h)
  obtain ⟨bs1, f1, A1, c1, hob, hN1, hst⟩ := hw1
  have hb1 : Blk w1 p _ _ := hob.blk
  have d0 := hb1.cell 0
  have e0 := hb1.frozen 0
  simp only [List.getElem?_toArray, List.getElem?_cons_zero] at d0
  have hne2 : (Value.slice A1 bs1.length c1).ownBlock ≠ some p := by rw [own_block, hob.at_]; exact hob.ne
  have HST := Lib.hid hst
  clear hst HP hr
  go_wp2_with (at_builtin; refine wpList_own_append _ rfl (.tmp 12) (.tmp 13) 26 rfl 0 5 i0 (.int .u8 0) 1 Try.underlying26 hi0 hz0 hz1 hz2 rfl (.slice A1 bs1.length c1) bs1.length (bcs bs1) rfl hob.own _ A n c (bcs b) rfl hr1 (bcs_one b) (by unfold maxLen; omega) (by omega) (Nat.zero_le _) ?_; intro v' w' hown' hgrow hat; obtain ⟨A3, c3, rfl, _, _⟩ := own_form hown'; have hb3 := blk_grown hb1 hgrow hne2; have z0 := hb3.cell 0; have z1 := hb3.frozen 0; simp only [List.getElem?_toArray, List.getElem?_cons_zero] at z0)
  go_end0
  obtain ⟨hob3, hm3⟩ := ob_grown hob (Chg.refl _ w1) b rfl HN.out hown' hgrow hat
  refine ⟨rfl, _, ?_, hm1.trans hm3⟩
  rw [← HE.out]
  refine ⟨bs1 ++ b, f1, A3, c3, hob3, by rw [List.length_append, ← HN.out]; omega, ?_⟩
  have hst := HST.out
  rcases st1 with _ | b1
  · exact hst
  · obtain ⟨hf1, rfl⟩ : f1 = false ∧ b1 = bs1 := hst
    exact ⟨hf1, rfl⟩

/-- What the document's writer tells at the end. -/
def RDone (w : World) (o : Option Nat) (st : Option (List UInt8)) (e : Ending) (w' : World) : Prop :=
  match st with
  | none => e = .returned (.tuple #[.slice none 0 0, .int .i64 1]) ∧ w = w'
  | some b => (∃ A n c, e = .returned (.tuple #[.slice A n c, .int .i64 0]) ∧ Rds w (fun k => o = some k) A n (bcs b)) ∧ w = w'

set_option maxHeartbeats 400000 in
theorem rwdone_any (p : Nat) (o : Option Nat) (st : Option (List UInt8)) (N : Nat) (w : World) (h : Wr 31 5 w p o st N) :
    Calls Try.prog 13 #[.pointer (some ⟨p, 0, none⟩)] w (RDone w o st) := by
  obtain ⟨bs, f, A, c, hob, hN, hst⟩ := h
  have hb : Blk w p _ _ := hob.blk
  have c0 := hb.cell 0
  have c1 := hb.cell 1
  simp only [List.getElem?_toArray, List.getElem?_cons_zero, List.getElem?_cons_succ] at c0 c1
  rcases st with _ | b
  · obtain rfl : f = true := hst
    go_enter Try.func13, Try.ntmps13
    go_wp2
    go_ret2
    exact ⟨rfl, rfl⟩
  · obtain ⟨rfl, rfl⟩ : f = false ∧ b = bs := hst
    have hr := own_rds hob.own
    rw [hob.at_] at hr
    go_enter Try.func13, Try.ntmps13
    go_wp2
    go_ret2
    exact ⟨⟨A, _, c, rfl, hr⟩, rfl⟩

end Go.Proofs.Ytplhhcooglaphaa
