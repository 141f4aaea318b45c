/-
  Walks: journal.Encode, rutterref08.Encode. Condition: the body is read in memory.
-/
import Derived.Test.YthljmebhbjeeiaaNb
import Derived.Test.YthljmebhbjeeiaaCh
import Derived.Test.YthljmebhbjeeiaaWd
import Derived.Test.YthljmebhbjeeiaaVa
namespace Go.Proofs.Ythljmebhbjeeiaa
open Go.RowKit
set_option linter.unusedVariables false
set_option linter.unusedSimpArgs false

/-- What a call that makes bytes hands back: the bytes, no error; they lie in new memory. -/
def Mk8 (m : List UInt8) (w : World) (e : Ending) (w' : World) : Prop :=
  ∃ A c, e = .returned (.tuple #[.slice A m.length c, .int .i64 0]) ∧ w'.ownsRow w.heap.size 5 1 (.slice A m.length c) m.length (bcs m) ∧ Chg (fun _ => False) w w'
theorem wat_bytes8 (p N : Nat) (st : Option (List UInt8)) (A : Option Addr) (n c : Nat) (l : List UInt8) (S : Nat → Prop) (w0 w1 W : World) (hN : N + 8 + n ≤ 1000000) (h : Wat w1 p st N W) (hn : n = l.length) (hr : Rds w0 S A n (bcs l)) (h01 : Chg (fun _ => False) w0 w1) :
    Calls Try.prog 37 #[.pointer (some ⟨p, 0, none⟩), .slice A n c] W fun e w' => e = .returned (.pointer (some ⟨p, 0, none⟩)) ∧ Wat w1 p (bytesS l st) (N + 8 + n) w' := by
  obtain ⟨o, hw, hC, hp, ho⟩ := h
  have hr2 := hr.old.chg (h01.trans hC (fun _ _ e => e)) (fun _ _ => id)
  have hs := h01.size
  refine (wbytes_any p o st N A n c l _ W hw hn hr2 (fun k hk => ⟨by have := hk.2; omega, fun e => by have := ho k e; have := hk.2; omega⟩) (by omega)).mono fun e w' ⟨he, o', hw', hm⟩ => ?_
  obtain ⟨h1, h2⟩ := fresh_mvd hC hm hp ho
  exact ⟨he, o', hw', h1, hp, h2⟩
theorem wat_done8 (p N : Nat) (b : List UInt8) (w1 W : World) (hN : N ≤ 1000000) (h : Wat w1 p (some b) N W) :
    Calls Try.prog 39 #[.pointer (some ⟨p, 0, none⟩)] W fun e w' => ∃ A c, e = .returned (.tuple #[.slice A b.length c, .int .i64 0]) ∧ w'.ownsRow w1.heap.size 5 1 (.slice A b.length c) b.length (bcs b) ∧ Chg (fun _ => False) w1 w' := by
  obtain ⟨o, hw, hC, _, _⟩ := h
  refine (wdone_some p o b N W hw (by omega)).mono ?_
  rintro e w' ⟨A', k, c', rfl, rfl, hown, hc⟩
  exact ⟨A', c', rfl, own_base hown hC.size, hC.trans hc (fun _ _ e => e)⟩
theorem rec_state (b : List UInt8) (h : Bok b) : putS 4 [(sumN b : Int)] (bytesS b (some [])) = some (recB b) := by
  have h1 := h.2
  have hs := sumN_le b
  have hf : fits 4 (sumN b : Int) = true := (fits_iff _ _).2 ⟨by omega, by omega⟩
  rw [bytes_enc, if_pos (by omega)]
  simp [putS, puts, put1, hf, recB]

set_option maxHeartbeats 400000 in
theorem jenc_bad (A : Option Addr) (n c : Nat) (w : World) (h : n = 0 ∨ 200 < n) (hm : n ≤ 9223372036854775807) :
    Calls Try.prog 23 #[.slice A n c] w fun e w' => e = .returned (.tuple #[.slice none 0 0, .int .i64 1]) ∧ w = w' := by
  rcases h with h | h
  · subst h
    go_enter Try.func23, Try.ntmps23
    go_wp2_with fail
    go_ret2
    exact ⟨rfl, rfl⟩
  · have h0 : ((n : Int) == 0) = false := by simp; omega
    go_enter Try.func23, Try.ntmps23
    go_wp2_with fail
    go_ret2
    exact ⟨rfl, rfl⟩

set_option maxHeartbeats 1000000 in
theorem jenc_ok (A : Option Addr) (n c : Nat) (b : List UInt8) (S : Nat → Prop) (w : World) (hn : n = b.length) (h : Rds w S A n (bcs b)) (hb : Bok b) :
    Calls Try.prog 23 #[.slice A n c] w (Mk8 (recB b) w) := by
  have h1 : 1 ≤ n ∧ n ≤ 200 := ⟨by have := hb.1; omega, by have := hb.2; omega⟩
  have HST := Lib.hid (rec_state b hb)
  have HN := Lib.hid hn
  have HR := Lib.hid h
  have h0 : ((n : Int) == 0) = false := by simp; omega
  have h2 : ¬ (200 : Int) < (n : Int) := by omega
  have HB := Lib.hid (wat_bytes8 w.heap.size 0 (some []) A n c b S w w (w.alloc (.cells #[.slice none 0 0, .bool false] 71)) (by omega) (Wat.start ((Chg.refl _ _).alloc _) (Nat.le_refl _) (blk_new rfl)) hn h (Chg.refl _ w))
  clear hn h hb
  go_enter Try.func23, Try.ntmps23
  go_wp2_with fail
  refine HB.out.mono ?_
  rintro e w2 ⟨rfl, hw2⟩
  have HW2 := Lib.hid hw2
  have HS := Lib.hid (sum_any A n c b _ w2 HN.out (HR.out.old.chg hw2.was (fun _ _ => id)) (by omega))
  clear hw2 HB
  go_wp2_with fail
  refine HS.out.mono ?_
  rintro e w3 ⟨rfl, rfl⟩
  have hs := sumN_le b
  have HP := Lib.hid (wat_one w.heap.size w2.heap.size (0 + 8 + n) 4 (sumN b : Int) _ w (w2.alloc (.cells #[.int .i64 (sumN b : Int)] 3)) ⟨by omega, by omega⟩ (by omega) (HW2.out.alloc _) (blk_new rfl))
  rw [HST.out] at HP
  clear HS HW2
  go_wp2_with fail
  refine HP.out.mono ?_
  rintro e w4 ⟨rfl, hw4, _⟩
  have HD := Lib.hid (wat_done8 w.heap.size _ _ w w4 (by omega) hw4)
  clear hw4 HP
  go_wp2_with fail
  refine HD.out.mono ?_
  rintro e w5 ⟨D, dc, rfl, hown, hc⟩
  go_wp2_with fail
  go_ret2
  exact ⟨D, dc, rfl, hown, hc⟩

set_option maxHeartbeats 400000 in
theorem renc_bad (A : Option Addr) (n c : Nat) (w : World) (h : n = 0 ∨ 200 < n) (hm : n ≤ 9223372036854775807) :
    Calls Try.prog 24 #[.slice A n c] w fun e w' => e = .returned (.tuple #[.slice none 0 0, .int .i64 1]) ∧ w = w' := by
  rcases h with h | h
  · subst h
    go_enter Try.func24, Try.ntmps24
    go_wp2_with fail
    go_ret2
    exact ⟨rfl, rfl⟩
  · have h0 : ¬ (n : Int) < 1 := by omega
    go_enter Try.func24, Try.ntmps24
    go_wp2_with fail
    go_ret2
    exact ⟨rfl, rfl⟩

set_option maxHeartbeats 2000000 in
theorem renc_ok (A : Option Addr) (n c : Nat) (b : List UInt8) (S : Nat → Prop) (w : World) (hn : n = b.length) (h : Rds w S A n (bcs b)) (hb : Bok b) :
    Calls Try.prog 24 #[.slice A n c] w (Mk8 (recB b) w) := by
  obtain ⟨i0, hi0, hz0, hz1, hz2⟩ := info_parts infoByte7
  have h1 : 1 ≤ n ∧ n ≤ 200 := ⟨by have := hb.1; omega, by have := hb.2; omega⟩
  have HN := Lib.hid hn
  have HR := Lib.hid h
  have h0 : ¬ (n : Int) < 1 := by omega
  have h2 : ¬ (200 : Int) < (n : Int) := by omega
  have HO := Lib.hid (one_any 2 (n : Int) w (by decide) (by decide) (by omega))
  rw [Int.toNat_natCast] at HO
  have HREC : Hid (bcs (be 2 n) ++ bcs b ++ bcs (be 4 (sumN b)) = bcs (recB b)) := Lib.hid (by rw [← bcs_app, ← bcs_app, hn, List.append_assoc]; rfl)
  have HLEN : Hid (2 + n + 4 = (recB b).length) := Lib.hid (by rw [recB_len]; omega)
  clear hn h hb
  go_enter Try.func24, Try.ntmps24
  go_wp2_with fail
  refine HO.out.mono ?_
  rintro e w1 ⟨A1, k1, c1, rfl, rfl, hown1, hc1⟩
  have hs1 := hc1.size
  have hr1 := HR.out.old.chg hc1 (fun _ _ => id)
  clear HO
  go_wp2_with (at_builtin; refine wpList_own_append _ rfl (.tmp 16) (.tmp 17) 35 rfl w.heap.size 5 i0 (.int .u8 0) 1 Try.underlying35 hi0 hz0 hz1 hz2 rfl (.slice A1 2 c1) 2 (bcs (be 2 n)) rfl hown1 _ A n c (bcs b) rfl hr1 (bcs_one b) (by unfold maxLen; omega) (by omega) hs1 ?_; intro v2 w2 hown2 hg2 hat2; obtain ⟨A2, c2, rfl, _, _⟩ := own_form hown2; have HC2 := Lib.hid (grown_fresh hc1 hg2 hown1 (Nat.le_refl _)); have HS := Lib.hid (rsum_any A n c b _ w2 HN.out (HR.out.old.chg HC2.out (fun _ _ => id)) (by omega)))
  refine HS.out.mono ?_
  rintro e w3 ⟨rfl, rfl⟩
  have hs := sumN_le b
  have HO := Lib.hid (one_any 4 (sumN b : Int) w2 (by decide) (by decide) (by omega))
  rw [Int.toNat_natCast] at HO
  clear HS hr1 hg2 hat2
  have HOWN2 := Lib.hid hown2
  clear hown2
  go_wp2_with fail
  refine HO.out.mono ?_
  rintro e w4 ⟨A4, k4, c4, rfl, rfl, hown4, hc4⟩
  have hown2 := own_chg HOWN2.out hc4 (fun _ _ => id)
  have hr4 := own_rds2 hown4
  have hs4 : w.heap.size ≤ w4.heap.size := Nat.le_trans HC2.out.size hc4.size
  clear HO
  go_wp2_with (at_builtin; refine wpList_own_append _ rfl (.tmp 19) (.tmp 22) 35 rfl w.heap.size 5 i0 (.int .u8 0) 1 Try.underlying35 hi0 hz0 hz1 hz2 rfl (.slice A2 (2 + n) c2) (2 + n) (bcs (be 2 n) ++ bcs b) rfl hown2 _ A4 4 c4 (bcs (be 4 (sumN b))) rfl hr4 (bcs_one _) (by unfold maxLen; omega) (by omega) hs4 ?_; intro v5 w5 hown5 hg5 hat5; obtain ⟨A5, c5, rfl, _, _⟩ := own_form hown5)
  go_ret2
  rw [HREC.out, HLEN.out] at hown5
  refine ⟨A5, c5, ?_, hown5, grown_fresh (HC2.out.trans hc4 (fun _ _ e => e)) hg5 hown2 (Nat.le_refl _)⟩
  rw [← HLEN.out]
  rfl

end Go.Proofs.Ythljmebhbjeeiaa
