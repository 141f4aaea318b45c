/-
  Walks: bytes.Clone, tunnel.Again, rutterref05.Again. Conditions: the frame is read in memory, no more of it than there is room.
-/
import Derived.Test.YtbbjecjhkjjbkaaQc
import Derived.Test.YtbbjecjhkjjbkaaWc
import Derived.Lib.SmallJoins
namespace Go.Proofs.Ytbbjecjhkjjbkaa
open Go.RowKit
set_option linter.unusedVariables false

set_option maxRecDepth 100000 in
set_option maxHeartbeats 400000 in
theorem tclone_nil (w : World) : Calls Try.prog 45 #[.slice none 0 0] w fun e w' => e = .returned (.slice none 0 0) ∧ w = w' := by
  have he := fun W : World => Lib.run_eql_slice_nil (P := Try.prog) W 22 5 none 0 0 0 0 Try.underlying22
  go_enter Try.func45, Try.ntmps45
  go_wp2
  go_ret
  exact ⟨rfl, rfl⟩

set_option maxRecDepth 100000 in
set_option maxHeartbeats 400000 in
theorem tclone_some (a : Addr) (n c : Nat) (bs : List UInt8) (S : Nat → Prop) (w : World) (hn : n = bs.length) (h : Rds w S (some a) n (bcs bs)) (hbig : n ≤ 140737488355328) :
    Calls Try.prog 45 #[.slice (some a) n c] w fun e w' => ∃ A' c', e = .returned (.slice A' n c') ∧
      w'.ownsRow w.heap.size 5 1 (.slice A' n c') n (bcs bs) ∧ Chg (fun _ => False) w w' := by
  obtain ⟨i0, hi0, hz0, hz1, hz2⟩ := info_parts infoByte
  have HN := Lib.hid hn
  clear hn
  have he := fun W : World => Lib.run_eql_slice_nil (P := Try.prog) W 22 5 (some a) n c 0 0 Try.underlying22
  go_enter Try.func45, Try.ntmps45
  have hmade := World.ownsRow_made (e := 5) (size := 1) w #[] 0 (Nat.le_refl _) (by decide) rfl
  go_wp2_with (at_builtin; refine wpList_own_append _ rfl (.tmp 5) (.tmp 6) 22 rfl w.heap.size 5 i0 (.int .u8 0) 1 Try.underlying22 hi0 hz0 hz1 hz2 rfl (.slice (some ⟨w.heap.size, 0, none⟩) 0 0) 0 [] rfl hmade S (some a) n c (bcs bs) rfl (h.alloc _) (bcs_one bs) (by unfold maxLen; omega) (by omega) (by simp) ?_; intro v' w' hown' hg hat; obtain ⟨A3, c3, rfl, _, _⟩ := own_form hown')
  go_ret
  refine ⟨A3, c3, by simp, by simpa using hown', ?_⟩
  exact ((Chg.refl _ w).alloc _).grown hg (fun k hk hlt => by simp only [Value.ownBlock, Option.some.injEq] at hk; subst hk; exact absurd hlt (Nat.lt_irrefl _))

theorem tclone_any (A : Option Addr) (n c : Nat) (bs : List UInt8) (S : Nat → Prop) (w : World) (hn : n = bs.length) (h : Rds w S A n (bcs bs)) (hz : A = none → c = 0) (hbig : n ≤ 140737488355328) :
    Calls Try.prog 45 #[.slice A n c] w fun e w' => ∃ A' c', e = .returned (.slice A' n c') ∧
      w'.ownsRow w.heap.size 5 1 (.slice A' n c') n (bcs bs) ∧ Chg (fun _ => False) w w' := by
  rcases A with _ | a
  · have h0 : n = 0 := by
      rcases Nat.eq_zero_or_pos n with h0 | h0
      · exact h0
      · obtain ⟨ad, e, _⟩ := h.2 h0
        cases e
    have hc := hz rfl
    subst hc
    subst h0
    have hb : bs = [] := List.eq_nil_of_length_eq_zero hn.symm
    subst hb
    refine (tclone_nil w).mono ?_
    rintro e w' ⟨rfl, rfl⟩
    exact ⟨none, 0, rfl, World.ownsRow_nil w _ _ _, Chg.refl _ _⟩
  · exact tclone_some a n c bs S w hn h hbig

theorem pkR_parts {k o f t p g i : Int} {n : Nat} (h : pkR k o f t p g i n = true) : (k = 1 ∨ k = 2) ∧ (0 ≤ o ∧ o ≤ 15) ∧ (0 ≤ f ∧ f ≤ 15) ∧ (0 ≤ t ∧ t ≤ 15) ∧ (0 ≤ p ∧ p ≤ 31) ∧ (1 ≤ g ∧ g ≤ 4294967296) ∧ (0 ≤ i ∧ i ≤ 1099511627776) ∧ (14 ≤ n ∧ n ≤ 1514) ∧ goB k o f t = true := by
  unfold pkR withinB at h
  simp only [List.all_cons, List.all_nil, Bool.and_true, Bool.and_eq_true, decide_eq_true_eq] at h
  obtain ⟨hg, ⟨h1, h2, h3⟩, h4, h5, h6, h7⟩ := h
  refine ⟨?_, h1, h2, h3, h4, h5, h6, by omega, hg⟩
  unfold goB at hg
  simp only [Bool.and_eq_true, Bool.or_eq_true, beq_iff_eq] at hg
  omega
/-- Behind the stores of a packet into block r, cell by cell. -/
theorem pk_put {w : World} {r : Nat} {T : TypeId} {k o f t p g i : Int} {A : Option Addr} {n c : Nat} (hb : Blk w r T (pkC k o f t p g i A n c)) (k' o' f' t' p' g' i' : Int) (A' : Option Addr) (n' c' : Nat) :
    (w.setCell ⟨r, 0, none⟩ (.int .i64 k')).cell? ⟨r, 0, none⟩ = some (.int .i64 k') ∧
    ((w.setCell ⟨r, 0, none⟩ (.int .i64 k')).setCell ⟨r, 1, none⟩ (.int .i64 o')).cell? ⟨r, 1, none⟩ = some (.int .i64 o') ∧
    (((w.setCell ⟨r, 0, none⟩ (.int .i64 k')).setCell ⟨r, 1, none⟩ (.int .i64 o')).setCell ⟨r, 2, none⟩ (.int .i64 f')).cell? ⟨r, 2, none⟩ = some (.int .i64 f') ∧
    ((((w.setCell ⟨r, 0, none⟩ (.int .i64 k')).setCell ⟨r, 1, none⟩ (.int .i64 o')).setCell ⟨r, 2, none⟩ (.int .i64 f')).setCell ⟨r, 3, none⟩ (.int .i64 t')).cell? ⟨r, 3, none⟩ = some (.int .i64 t') ∧
    (((((w.setCell ⟨r, 0, none⟩ (.int .i64 k')).setCell ⟨r, 1, none⟩ (.int .i64 o')).setCell ⟨r, 2, none⟩ (.int .i64 f')).setCell ⟨r, 3, none⟩ (.int .i64 t')).setCell ⟨r, 4, none⟩ (.int .i64 p')).cell? ⟨r, 4, none⟩ = some (.int .i64 p') ∧
    ((((((w.setCell ⟨r, 0, none⟩ (.int .i64 k')).setCell ⟨r, 1, none⟩ (.int .i64 o')).setCell ⟨r, 2, none⟩ (.int .i64 f')).setCell ⟨r, 3, none⟩ (.int .i64 t')).setCell ⟨r, 4, none⟩ (.int .i64 p')).setCell ⟨r, 5, none⟩ (.int .i64 g')).cell? ⟨r, 5, none⟩ = some (.int .i64 g') ∧
    (((((((w.setCell ⟨r, 0, none⟩ (.int .i64 k')).setCell ⟨r, 1, none⟩ (.int .i64 o')).setCell ⟨r, 2, none⟩ (.int .i64 f')).setCell ⟨r, 3, none⟩ (.int .i64 t')).setCell ⟨r, 4, none⟩ (.int .i64 p')).setCell ⟨r, 5, none⟩ (.int .i64 g')).setCell ⟨r, 6, none⟩ (.int .i64 i')).cell? ⟨r, 6, none⟩ = some (.int .i64 i') ∧
    ((((((((w.setCell ⟨r, 0, none⟩ (.int .i64 k')).setCell ⟨r, 1, none⟩ (.int .i64 o')).setCell ⟨r, 2, none⟩ (.int .i64 f')).setCell ⟨r, 3, none⟩ (.int .i64 t')).setCell ⟨r, 4, none⟩ (.int .i64 p')).setCell ⟨r, 5, none⟩ (.int .i64 g')).setCell ⟨r, 6, none⟩ (.int .i64 i')).setCell ⟨r, 7, none⟩ (.slice A' n' c')).cell? ⟨r, 7, none⟩ = some (.slice A' n' c') ∧
    Blk ((((((((w.setCell ⟨r, 0, none⟩ (.int .i64 k')).setCell ⟨r, 1, none⟩ (.int .i64 o')).setCell ⟨r, 2, none⟩ (.int .i64 f')).setCell ⟨r, 3, none⟩ (.int .i64 t')).setCell ⟨r, 4, none⟩ (.int .i64 p')).setCell ⟨r, 5, none⟩ (.int .i64 g')).setCell ⟨r, 6, none⟩ (.int .i64 i')).setCell ⟨r, 7, none⟩ (.slice A' n' c')) r T (pkC k' o' f' t' p' g' i' A' n' c') ∧ Chg (fun k => k = r) w ((((((((w.setCell ⟨r, 0, none⟩ (.int .i64 k')).setCell ⟨r, 1, none⟩ (.int .i64 o')).setCell ⟨r, 2, none⟩ (.int .i64 f')).setCell ⟨r, 3, none⟩ (.int .i64 t')).setCell ⟨r, 4, none⟩ (.int .i64 p')).setCell ⟨r, 5, none⟩ (.int .i64 g')).setCell ⟨r, 6, none⟩ (.int .i64 i')).setCell ⟨r, 7, none⟩ (.slice A' n' c')) := by
  have h0 := (hb.set 0 (.int .i64 k'))
  have r0 := h0.cell 0
  have h1 := ((hb.set 0 (.int .i64 k')).set 1 (.int .i64 o'))
  have r1 := h1.cell 1
  have h2 := (((hb.set 0 (.int .i64 k')).set 1 (.int .i64 o')).set 2 (.int .i64 f'))
  have r2 := h2.cell 2
  have h3 := ((((hb.set 0 (.int .i64 k')).set 1 (.int .i64 o')).set 2 (.int .i64 f')).set 3 (.int .i64 t'))
  have r3 := h3.cell 3
  have h4 := (((((hb.set 0 (.int .i64 k')).set 1 (.int .i64 o')).set 2 (.int .i64 f')).set 3 (.int .i64 t')).set 4 (.int .i64 p'))
  have r4 := h4.cell 4
  have h5 := ((((((hb.set 0 (.int .i64 k')).set 1 (.int .i64 o')).set 2 (.int .i64 f')).set 3 (.int .i64 t')).set 4 (.int .i64 p')).set 5 (.int .i64 g'))
  have r5 := h5.cell 5
  have h6 := (((((((hb.set 0 (.int .i64 k')).set 1 (.int .i64 o')).set 2 (.int .i64 f')).set 3 (.int .i64 t')).set 4 (.int .i64 p')).set 5 (.int .i64 g')).set 6 (.int .i64 i'))
  have r6 := h6.cell 6
  have h7 := ((((((((hb.set 0 (.int .i64 k')).set 1 (.int .i64 o')).set 2 (.int .i64 f')).set 3 (.int .i64 t')).set 4 (.int .i64 p')).set 5 (.int .i64 g')).set 6 (.int .i64 i')).set 7 (.slice A' n' c'))
  have r7 := h7.cell 7
  simp only [pkC, List.setIfInBounds_toArray, List.set_cons_succ, List.set_cons_zero, List.getElem?_toArray, List.getElem?_cons_zero, List.getElem?_cons_succ] at r0 r1 r2 r3 r4 r5 r6 r7 h7
  exact ⟨r0, r1, r2, r3, r4, r5, r6, r7, h7, ((((((((Chg.refl (fun k => k = r) w).put r 0 (fun _ => rfl) _).put r 1 (fun _ => rfl) _).put r 2 (fun _ => rfl) _).put r 3 (fun _ => rfl) _).put r 4 (fun _ => rfl) _).put r 5 (fun _ => rfl) _).put r 6 (fun _ => rfl) _).put r 7 (fun _ => rfl) _⟩
theorem pk_free {w : World} {r : Nat} {T : TypeId} {cs : Array Value} (hb : Blk w r T cs) : w.frozen? ⟨r, 0, none⟩ = false ∧ w.frozen? ⟨r, 1, none⟩ = false ∧ w.frozen? ⟨r, 2, none⟩ = false ∧ w.frozen? ⟨r, 3, none⟩ = false ∧ w.frozen? ⟨r, 4, none⟩ = false ∧ w.frozen? ⟨r, 5, none⟩ = false ∧ w.frozen? ⟨r, 6, none⟩ = false ∧ w.frozen? ⟨r, 7, none⟩ = false :=
  ⟨hb.frozen 0, hb.frozen 1, hb.frozen 2, hb.frozen 3, hb.frozen 4, hb.frozen 5, hb.frozen 6, hb.frozen 7⟩
/-- No packet. -/
def zeroP : Value := .agg (pkC 0 0 0 0 0 0 0 none 0 0)
/-- What a call that makes a packet hands back, in letters: the packet, its frame's bytes, the error's number. -/
def Hd (k o f t p g i : Int) (m : List UInt8) (x : Int) (w : World) (e : Ending) (w' : World) : Prop :=
  ∃ A c, e = .returned (.tuple #[.agg (pkC k o f t p g i A m.length c), .int .i64 x]) ∧ (A = none → c = 0) ∧ Rds w' (fun _ => True) A m.length (bcs m) ∧ Chg (fun _ => False) w w'
theorem hd_no {w w' : World} {e : Ending} {x : Int} (h : e = .returned (.tuple #[zeroP, .int .i64 x]) ∧ Chg (fun _ => False) w w') : Hd 0 0 0 0 0 0 0 [] x w e w' :=
  ⟨none, 0, h.1, fun _ => rfl, Rds.nil _ _ _, h.2⟩
end Go.Proofs.Ytbbjecjhkjjbkaa
