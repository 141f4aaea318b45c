/-
  Walks: (*buf.Writer).Put, Bytes, Done on any writer, slices.Clone of bytes. Conditions: the receiver is a writer in memory or nil, its bytes and what is written are bounded.
-/
import Derived.Test.YtbbjecjhkjjbkaaWb
namespace Go.Proofs.Ytbbjecjhkjjbkaa
open Go.RowKit

set_option maxHeartbeats 400000 in
theorem put_nil (n : Int) (L : Option Addr) (m k : Nat) (w : World) :
    Calls Try.prog 27 #[.pointer none, .int .i64 n, .slice L m k] w fun e w' => e = .returned (.pointer none) ∧ w = w' := by
  go_enter Try.func27, Try.ntmps27
  go_wp2
  go_ret
  exact ⟨rfl, rfl⟩

set_option maxHeartbeats 400000 in
theorem put_width (p : Nat) (o : Option Nat) (bs : List UInt8) (A : Option Addr) (c : Nat) (n : Int) (L : Option Addr) (m k : Nat) (w : World)
    (h : Ob 75 5 w p o bs false A c) (hn : n < 1 ∨ 8 < n) (N : Nat) :
    Calls Try.prog 27 #[.pointer (some ⟨p, 0, none⟩), .int .i64 n, .slice L m k] w fun e w' => e = .returned (.pointer (some ⟨p, 0, none⟩)) ∧
      ∃ o', Wr 75 5 w' p o' none N ∧ Mvd p o o' w w' := by
  have hb : Blk w p _ _ := h.blk
  have c1 := hb.cell 1
  simp only [List.getElem?_toArray, List.getElem?_cons_zero, List.getElem?_cons_succ] at c1
  go_enter Try.func27, Try.ntmps27
  go_wp2_with fail
  refine (wide_no _ _ hn).mono ?_
  rintro e w' ⟨rfl, rfl⟩
  go_wp2_with fail
  refine (wfail _ p _ _ _ hb).mono ?_
  rintro e w' ⟨rfl, hb', hc'⟩
  go_wp2_with fail
  go_ret
  exact ⟨rfl, none, wr_none hb' _, wfail_mvd hc' _⟩

/-- Put, on whatever writer. -/
theorem put_any (p : Nat) (o : Option Nat) (st : Option (List UInt8)) (N : Nat) (n : Int) (l : List Int) (L : Option Addr) (m k : Nat) (w : World) (S : Nat → Prop)
    (h : Wr 75 5 w p o st N) (hm : m = l.length) (hl : Rds w S L m (ics l)) (hS : ∀ k, S k → k ≠ p ∧ o ≠ some k) (hw : ∀ x ∈ l, -9223372036854775808 ≤ x ∧ x ≤ 9223372036854775807)
    (hbig : N + 8 * m ≤ 1000000000000) :
    Calls Try.prog 27 #[.pointer (some ⟨p, 0, none⟩), .int .i64 n, .slice L m k] w fun e w' => e = .returned (.pointer (some ⟨p, 0, none⟩)) ∧
      ∃ o', Wr 75 5 w' p o' (putS n l st) (N + 8 * m) ∧ Mvd p o o' w w' := by
  subst hm
  obtain ⟨bs, f, A, c, hob, hN, hst⟩ := h
  rcases st with _ | b
  · have hf : f = true := hst
    subst hf
    refine (put_bad p o bs A c n L _ k w hob).mono ?_
    rintro e w' ⟨rfl, rfl⟩
    have e : putS n l none = none := by
      unfold putS
      split
      · exact puts_none _ _
      · rfl
    rw [e]
    exact ⟨rfl, o, ⟨bs, true, A, c, hob, by omega, rfl⟩, Mvd.refl _ _ _⟩
  · obtain ⟨hf, rfl⟩ : f = false ∧ b = bs := hst
    subst hf
    by_cases hn : 1 ≤ n ∧ n ≤ 8
    · obtain ⟨q, rfl⟩ := Int.eq_ofNat_of_zero_le (show 0 ≤ n by omega)
      have e : putS (q : Int) l (some b) = puts q l (some b) := by unfold putS; rw [if_pos hn, Int.toNat_natCast]
      rw [e]
      exact put_ok p o b A c N q l L k w S hob hl hS hw (by omega) (by omega) hN hbig
    · have e : putS n l (some b) = none := by unfold putS; rw [if_neg hn]
      rw [e]
      exact put_width p o b A c n L _ k w hob (by omega) _

set_option maxHeartbeats 400000 in
theorem clone_nil (w : World) : Calls Try.prog 51 #[.slice none 0 0] w fun e w' => e = .returned (.slice none 0 0) ∧ w = w' := by
  have he := fun W : World => Lib.run_eql_slice_nil (P := Try.prog) W 22 5 none 0 0 0 0 Try.underlying22
  go_enter Try.func51, Try.ntmps51
  go_wp2
  go_ret
  exact ⟨rfl, rfl⟩

set_option maxHeartbeats 400000 in
theorem clone_some (a : Addr) (n c : Nat) (bs : List UInt8) (S : Nat → Prop) (w : World) (hn : n = bs.length) (h : Rds w S (some a) n (bcs bs)) (hbig : n ≤ 140737488355328) :
    Calls Try.prog 51 #[.slice (some a) n c] w fun e w' => ∃ A' c', e = .returned (.slice A' n c') ∧
      w'.ownsRow w.heap.size 5 1 (.slice A' n c') n (bcs bs) ∧ Chg (fun _ => False) w w' := by
  obtain ⟨i0, hi0, hz0, hz1, hz2⟩ := info_parts infoByte
  have HN := Lib.hid hn
  clear hn
  have he := fun W : World => Lib.run_eql_slice_nil (P := Try.prog) W 22 5 (some a) n c 0 0 Try.underlying22
  go_enter Try.func51, Try.ntmps51
  have hmade := World.ownsRow_made (e := 5) (size := 1) w #[] 0 (Nat.le_refl _) (by decide) rfl
  go_wp2_with (at_builtin; refine wpList_own_append _ rfl (.tmp 5) (.tmp 6) 22 rfl w.heap.size 5 i0 (.int .u8 0) 1 Try.underlying22 hi0 hz0 hz1 hz2 rfl (.slice (some ⟨w.heap.size, 0, none⟩) 0 0) 0 [] rfl hmade S (some a) n c (bcs bs) rfl (h.alloc _) (bcs_one bs) (by unfold maxLen; omega) (by omega) (by simp) ?_; intro v' w' hown' hg hat; obtain ⟨A3, c3, rfl, _, _⟩ := own_form hown')
  go_ret
  refine ⟨A3, c3, by simp, by simpa using hown', ?_⟩
  exact ((Chg.refl _ w).alloc _).grown hg (fun k hk hlt => by simp only [Value.ownBlock, Option.some.injEq] at hk; subst hk; exact absurd hlt (Nat.lt_irrefl _))

/-- Bytes of a slice, nil let in: what Clone hands back lies in new memory. -/
theorem clone_any (A : Option Addr) (n c : Nat) (bs : List UInt8) (S : Nat → Prop) (w : World) (hn : n = bs.length) (h : Rds w S A n (bcs bs)) (hz : A = none → c = 0) (hbig : n ≤ 140737488355328) :
    Calls Try.prog 51 #[.slice A n c] w fun e w' => ∃ A' c', e = .returned (.slice A' n c') ∧
      w'.ownsRow w.heap.size 5 1 (.slice A' n c') n (bcs bs) ∧ Chg (fun _ => False) w w' := by
  rcases A with _ | a
  · have h0 : n = 0 := by
      rcases Nat.eq_zero_or_pos n with h0 | h0
      · exact h0
      · obtain ⟨ad, e, _⟩ := h.2 h0
        cases e
    have hc := hz rfl
    subst hc
    subst h0
    have hb : bs = [] := List.eq_nil_of_length_eq_zero hn.symm
    subst hb
    refine (clone_nil w).mono ?_
    rintro e w' ⟨rfl, rfl⟩
    exact ⟨none, 0, rfl, World.ownsRow_nil w _ _ _, Chg.refl _ _⟩
  · exact clone_some a n c bs S w hn h hbig

set_option maxHeartbeats 400000 in
theorem wdone_nil (w : World) : Calls Try.prog 29 #[.pointer none] w fun e w' => e = .returned (.tuple #[.slice none 0 0, .int .i64 1]) ∧ w = w' := by
  go_enter Try.func29, Try.ntmps29
  go_wp2
  go_ret2
  exact ⟨rfl, rfl⟩

set_option maxHeartbeats 400000 in
theorem wdone_none (p : Nat) (o : Option Nat) (N : Nat) (w : World) (h : Wr 75 5 w p o none N) :
    Calls Try.prog 29 #[.pointer (some ⟨p, 0, none⟩)] w fun e w' => e = .returned (.tuple #[.slice none 0 0, .int .i64 1]) ∧ w = w' := by
  obtain ⟨bs, f, A, c, hob, hN, rfl⟩ := h
  have hb : Blk w p _ _ := hob.blk
  have c1 := hb.cell 1
  simp only [List.getElem?_toArray, List.getElem?_cons_zero, List.getElem?_cons_succ] at c1
  go_enter Try.func29, Try.ntmps29
  go_wp2
  go_ret2
  exact ⟨rfl, rfl⟩

set_option maxHeartbeats 400000 in
theorem wdone_some (p : Nat) (o : Option Nat) (b : List UInt8) (N : Nat) (w : World) (h : Wr 75 5 w p o (some b) N) (hN : N ≤ 140737488355328) :
    Calls Try.prog 29 #[.pointer (some ⟨p, 0, none⟩)] w fun e w' => ∃ A n c, e = .returned (.tuple #[.slice A n c, .int .i64 0]) ∧ n = b.length ∧
      w'.ownsRow w.heap.size 5 1 (.slice A n c) n (bcs b) ∧ Chg (fun _ => False) w w' := by
  obtain ⟨bs, f, A, c, hob, hN, rfl, rfl⟩ := h
  have hb : Blk w p _ _ := hob.blk
  have c0 := hb.cell 0
  have c1 := hb.cell 1
  simp only [List.getElem?_toArray, List.getElem?_cons_zero, List.getElem?_cons_succ] at c0 c1
  have hz : A = none → c = 0 := by
    rintro rfl
    rcases hob.own.2 with ⟨e, _⟩ | ⟨g, cap, cur, e, _⟩
    · injection e
    · injection e with e
      cases e
  go_enter Try.func29, Try.ntmps29
  go_wp2_with fail
  refine (clone_any _ _ _ b _ w rfl (own_rds hob.own) hz (by omega)).mono ?_
  rintro e w' ⟨A', c', rfl, hown, hc⟩
  go_wp2_with fail
  go_ret2
  exact ⟨A', _, c', rfl, rfl, hown, hc⟩

theorem rds_new1 (w : World) (t : TypeId) (cs : Array Value) (fr : Nat × Nat) (g : Nat) (hg : g = w.heap.size) (xs : List Value) (n : Nat) (hx : xs = cs.toList) (hn : n = cs.size) :
    Rds (w.alloc (.cells cs t fr)) (fun k => k = g) (some ⟨g, 0, none⟩) n xs := by
  subst hg
  subst hx
  subst hn
  exact rds_alloc w t cs fr

end Go.Proofs.Ytbbjecjhkjjbkaa
