/-
  Walks: bytes.Clone, tunnel.Again, rutterref05.Again. Conditions: the frame is read in memory, no more of it than there is room.
-/
import Derived.Test.YtacbgelbffmngaaQc
import Derived.Test.YtacbgelbffmngaaM1
import Derived.Lib.SmallJoins
namespace Go.Proofs.Ytacbgelbffmngaa
open Go.RowKit
set_option linter.unusedVariables false

set_option maxRecDepth 100000 in
set_option maxHeartbeats 400000 in
theorem tclone_nil (w : World) : Calls Try.prog 51 #[.slice none 0 0] w fun e w' => e = .returned (.slice none 0 0) ∧ w = w' := by
  have he := fun W : World => Lib.run_eql_slice_nil (P := Try.prog) W 24 5 none 0 0 0 0 Try.underlying24
  go_enter Try.func51, Try.ntmps51
  go_wp2
  go_ret
  exact ⟨rfl, rfl⟩

set_option maxRecDepth 100000 in
set_option maxHeartbeats 400000 in
theorem tclone_some (a : Addr) (n c : Nat) (bs : List UInt8) (S : Nat → Prop) (w : World) (hn : n = bs.length) (h : Rds w S (some a) n (bcs bs)) (hbig : n ≤ 140737488355328) :
    Calls Try.prog 51 #[.slice (some a) n c] w fun e w' => ∃ A' c', e = .returned (.slice A' n c') ∧
      w'.ownsRow w.heap.size 5 1 (.slice A' n c') n (bcs bs) ∧ Chg (fun _ => False) w w' := by
  obtain ⟨i0, hi0, hz0, hz1, hz2⟩ := info_parts infoByte
  have HN := Lib.hid hn
  clear hn
  have he := fun W : World => Lib.run_eql_slice_nil (P := Try.prog) W 24 5 (some a) n c 0 0 Try.underlying24
  go_enter Try.func51, Try.ntmps51
  have hmade := World.ownsRow_made (e := 5) (size := 1) w #[] 0 (Nat.le_refl _) (by decide) rfl
  go_wp2_with (at_builtin; refine wpList_own_append _ rfl (.tmp 5) (.tmp 6) 24 rfl w.heap.size 5 i0 (.int .u8 0) 1 Try.underlying24 hi0 hz0 hz1 hz2 rfl (.slice (some ⟨w.heap.size, 0, none⟩) 0 0) 0 [] rfl hmade S (some a) n c (bcs bs) rfl (h.alloc _) (bcs_one bs) (by unfold maxLen; omega) (by omega) (by simp) ?_; intro v' w' hown' hg hat; obtain ⟨A3, c3, rfl, _, _⟩ := own_form hown')
  go_ret
  refine ⟨A3, c3, by simp, by simpa using hown', ?_⟩
  exact ((Chg.refl _ w).alloc _).grown hg (fun k hk hlt => by simp only [Value.ownBlock, Option.some.injEq] at hk; subst hk; exact absurd hlt (Nat.lt_irrefl _))

theorem tclone_any (A : Option Addr) (n c : Nat) (bs : List UInt8) (S : Nat → Prop) (w : World) (hn : n = bs.length) (h : Rds w S A n (bcs bs)) (hz : A = none → c = 0) (hbig : n ≤ 140737488355328) :
    Calls Try.prog 51 #[.slice A n c] w fun e w' => ∃ A' c', e = .returned (.slice A' n c') ∧
      w'.ownsRow w.heap.size 5 1 (.slice A' n c') n (bcs bs) ∧ Chg (fun _ => False) w w' := by
  rcases A with _ | a
  · have h0 : n = 0 := by
      rcases Nat.eq_zero_or_pos n with h0 | h0
      · exact h0
      · obtain ⟨ad, e, _⟩ := h.2 h0
        cases e
    have hc := hz rfl
    subst hc
    subst h0
    have hb : bs = [] := List.eq_nil_of_length_eq_zero hn.symm
    subst hb
    refine (tclone_nil w).mono ?_
    rintro e w' ⟨rfl, rfl⟩
    exact ⟨none, 0, rfl, World.ownsRow_nil w _ _ _, Chg.refl _ _⟩
  · exact tclone_some a n c bs S w hn h hbig

theorem pkR_parts {k o f t p g i : Int} {n : Nat} (h : pkR k o f t p g i n = true) : (k = 1 ∨ k = 2) ∧ (0 ≤ o ∧ o ≤ 15) ∧ (0 ≤ f ∧ f ≤ 15) ∧ (0 ≤ t ∧ t ≤ 15) ∧ (0 ≤ p ∧ p ≤ 31) ∧ (1 ≤ g ∧ g ≤ 4294967296) ∧ (0 ≤ i ∧ i ≤ 1099511627776) ∧ (14 ≤ n ∧ n ≤ 1514) ∧ goB k o f t = true := by
  unfold pkR withinB at h
  simp only [List.all_cons, List.all_nil, Bool.and_true, Bool.and_eq_true, decide_eq_true_eq] at h
  obtain ⟨hg, ⟨h1, h2, h3⟩, h4, h5, h6, h7⟩ := h
  refine ⟨?_, h1, h2, h3, h4, h5, h6, by omega, hg⟩
  unfold goB at hg
  simp only [Bool.and_eq_true, Bool.or_eq_true, beq_iff_eq] at hg
  omega
/-- Behind the stores of a packet into block r, cell by cell. -/
theorem pk_put {w : World} {r : Nat} {T : TypeId} {k o f t p g i : Int} {A : Option Addr} {n c : Nat} (hb : Blk w r T (pkC k o f t p g i A n c)) (k' o' f' t' p' g' i' : Int) (A' : Option Addr) (n' c' : Nat) :
    (w.setCell ⟨r, 0, none⟩ (.int .i64 k')).cell? ⟨r, 0, none⟩ = some (.int .i64 k') ∧
    ((w.setCell ⟨r, 0, none⟩ (.int .i64 k')).setCell ⟨r, 1, none⟩ (.int .i64 o')).cell? ⟨r, 1, none⟩ = some (.int .i64 o') ∧
    (((w.setCell ⟨r, 0, none⟩ (.int .i64 k')).setCell ⟨r, 1, none⟩ (.int .i64 o')).setCell ⟨r, 2, none⟩ (.int .i64 f')).cell? ⟨r, 2, none⟩ = some (.int .i64 f') ∧
    ((((w.setCell ⟨r, 0, none⟩ (.int .i64 k')).setCell ⟨r, 1, none⟩ (.int .i64 o')).setCell ⟨r, 2, none⟩ (.int .i64 f')).setCell ⟨r, 3, none⟩ (.int .i64 t')).cell? ⟨r, 3, none⟩ = some (.int .i64 t') ∧
    (((((w.setCell ⟨r, 0, none⟩ (.int .i64 k')).setCell ⟨r, 1, none⟩ (.int .i64 o')).setCell ⟨r, 2, none⟩ (.int .i64 f')).setCell ⟨r, 3, none⟩ (.int .i64 t')).setCell ⟨r, 4, none⟩ (.int .i64 p')).cell? ⟨r, 4, none⟩ = some (.int .i64 p') ∧
    ((((((w.setCell ⟨r, 0, none⟩ (.int .i64 k')).setCell ⟨r, 1, none⟩ (.int .i64 o')).setCell ⟨r, 2, none⟩ (.int .i64 f')).setCell ⟨r, 3, none⟩ (.int .i64 t')).setCell ⟨r, 4, none⟩ (.int .i64 p')).setCell ⟨r, 5, none⟩ (.int .i64 g')).cell? ⟨r, 5, none⟩ = some (.int .i64 g') ∧
    (((((((w.setCell ⟨r, 0, none⟩ (.int .i64 k')).setCell ⟨r, 1, none⟩ (.int .i64 o')).setCell ⟨r, 2, none⟩ (.int .i64 f')).setCell ⟨r, 3, none⟩ (.int .i64 t')).setCell ⟨r, 4, none⟩ (.int .i64 p')).setCell ⟨r, 5, none⟩ (.int .i64 g')).setCell ⟨r, 6, none⟩ (.int .i64 i')).cell? ⟨r, 6, none⟩ = some (.int .i64 i') ∧
    ((((((((w.setCell ⟨r, 0, none⟩ (.int .i64 k')).setCell ⟨r, 1, none⟩ (.int .i64 o')).setCell ⟨r, 2, none⟩ (.int .i64 f')).setCell ⟨r, 3, none⟩ (.int .i64 t')).setCell ⟨r, 4, none⟩ (.int .i64 p')).setCell ⟨r, 5, none⟩ (.int .i64 g')).setCell ⟨r, 6, none⟩ (.int .i64 i')).setCell ⟨r, 7, none⟩ (.slice A' n' c')).cell? ⟨r, 7, none⟩ = some (.slice A' n' c') ∧
    Blk ((((((((w.setCell ⟨r, 0, none⟩ (.int .i64 k')).setCell ⟨r, 1, none⟩ (.int .i64 o')).setCell ⟨r, 2, none⟩ (.int .i64 f')).setCell ⟨r, 3, none⟩ (.int .i64 t')).setCell ⟨r, 4, none⟩ (.int .i64 p')).setCell ⟨r, 5, none⟩ (.int .i64 g')).setCell ⟨r, 6, none⟩ (.int .i64 i')).setCell ⟨r, 7, none⟩ (.slice A' n' c')) r T (pkC k' o' f' t' p' g' i' A' n' c') ∧ Chg (fun k => k = r) w ((((((((w.setCell ⟨r, 0, none⟩ (.int .i64 k')).setCell ⟨r, 1, none⟩ (.int .i64 o')).setCell ⟨r, 2, none⟩ (.int .i64 f')).setCell ⟨r, 3, none⟩ (.int .i64 t')).setCell ⟨r, 4, none⟩ (.int .i64 p')).setCell ⟨r, 5, none⟩ (.int .i64 g')).setCell ⟨r, 6, none⟩ (.int .i64 i')).setCell ⟨r, 7, none⟩ (.slice A' n' c')) := by
  have h0 := (hb.set 0 (.int .i64 k'))
  have r0 := h0.cell 0
  have h1 := ((hb.set 0 (.int .i64 k')).set 1 (.int .i64 o'))
  have r1 := h1.cell 1
  have h2 := (((hb.set 0 (.int .i64 k')).set 1 (.int .i64 o')).set 2 (.int .i64 f'))
  have r2 := h2.cell 2
  have h3 := ((((hb.set 0 (.int .i64 k')).set 1 (.int .i64 o')).set 2 (.int .i64 f')).set 3 (.int .i64 t'))
  have r3 := h3.cell 3
  have h4 := (((((hb.set 0 (.int .i64 k')).set 1 (.int .i64 o')).set 2 (.int .i64 f')).set 3 (.int .i64 t')).set 4 (.int .i64 p'))
  have r4 := h4.cell 4
  have h5 := ((((((hb.set 0 (.int .i64 k')).set 1 (.int .i64 o')).set 2 (.int .i64 f')).set 3 (.int .i64 t')).set 4 (.int .i64 p')).set 5 (.int .i64 g'))
  have r5 := h5.cell 5
  have h6 := (((((((hb.set 0 (.int .i64 k')).set 1 (.int .i64 o')).set 2 (.int .i64 f')).set 3 (.int .i64 t')).set 4 (.int .i64 p')).set 5 (.int .i64 g')).set 6 (.int .i64 i'))
  have r6 := h6.cell 6
  have h7 := ((((((((hb.set 0 (.int .i64 k')).set 1 (.int .i64 o')).set 2 (.int .i64 f')).set 3 (.int .i64 t')).set 4 (.int .i64 p')).set 5 (.int .i64 g')).set 6 (.int .i64 i')).set 7 (.slice A' n' c'))
  have r7 := h7.cell 7
  simp only [pkC, List.setIfInBounds_toArray, List.set_cons_succ, List.set_cons_zero, List.getElem?_toArray, List.getElem?_cons_zero, List.getElem?_cons_succ] at r0 r1 r2 r3 r4 r5 r6 r7 h7
  exact ⟨r0, r1, r2, r3, r4, r5, r6, r7, h7, ((((((((Chg.refl (fun k => k = r) w).put r 0 (fun _ => rfl) _).put r 1 (fun _ => rfl) _).put r 2 (fun _ => rfl) _).put r 3 (fun _ => rfl) _).put r 4 (fun _ => rfl) _).put r 5 (fun _ => rfl) _).put r 6 (fun _ => rfl) _).put r 7 (fun _ => rfl) _⟩
theorem pk_free {w : World} {r : Nat} {T : TypeId} {cs : Array Value} (hb : Blk w r T cs) : w.frozen? ⟨r, 0, none⟩ = false ∧ w.frozen? ⟨r, 1, none⟩ = false ∧ w.frozen? ⟨r, 2, none⟩ = false ∧ w.frozen? ⟨r, 3, none⟩ = false ∧ w.frozen? ⟨r, 4, none⟩ = false ∧ w.frozen? ⟨r, 5, none⟩ = false ∧ w.frozen? ⟨r, 6, none⟩ = false ∧ w.frozen? ⟨r, 7, none⟩ = false :=
  ⟨hb.frozen 0, hb.frozen 1, hb.frozen 2, hb.frozen 3, hb.frozen 4, hb.frozen 5, hb.frozen 6, hb.frozen 7⟩
/-- No packet. -/
def zeroP : Value := .agg (pkC 0 0 0 0 0 0 0 none 0 0)
/-- What a call that makes a packet hands back, in letters: the packet, its frame's bytes, the error's number. -/
def Hd (k o f t p g i : Int) (m : List UInt8) (x : Int) (w : World) (e : Ending) (w' : World) : Prop :=
  ∃ A c, e = .returned (.tuple #[.agg (pkC k o f t p g i A m.length c), .int .i64 x]) ∧ (A = none → c = 0) ∧ Rds w' (fun _ => True) A m.length (bcs m) ∧ Chg (fun _ => False) w w'
theorem hd_no {w w' : World} {e : Ending} {x : Int} (h : e = .returned (.tuple #[zeroP, .int .i64 x]) ∧ Chg (fun _ => False) w w') : Hd 0 0 0 0 0 0 0 [] x w e w' :=
  ⟨none, 0, h.1, fun _ => rfl, Rds.nil _ _ _, h.2⟩
set_option maxRecDepth 100000 in
set_option maxHeartbeats 2000000 in
theorem tag_arg (k o f t p g i tz gen : Int) (A : Option Addr) (n c : Nat) (w : World) (hn : n ≤ 9223372036854775807) (hr : pkR k o f t p g i n = false) :
    Calls Try.prog 53 #[.agg (pkC k o f t p g i A n c), .int .i64 tz, .int .i64 gen] w fun e w' => e = .returned (.tuple #[zeroP, .int .i64 1]) ∧ Chg (fun _ => False) w w' := by
  have hC0 := ((Chg.refl (fun _ => False) w).alloc (.cells #[.int .i64 k, .int .i64 o, .int .i64 f, .int .i64 t, .int .i64 p, .int .i64 g, .int .i64 i, .slice A n c] 37)).alloc (.cells #[.int .i64 0, .int .i64 0, .int .i64 0, .int .i64 0, .int .i64 0, .int .i64 0, .int .i64 0, .slice none 0 0] 37)
  have hQ0 : Blk ((w.alloc (.cells #[.int .i64 k, .int .i64 o, .int .i64 f, .int .i64 t, .int .i64 p, .int .i64 g, .int .i64 i, .slice A n c] 37)).alloc (.cells #[.int .i64 0, .int .i64 0, .int .i64 0, .int .i64 0, .int .i64 0, .int .i64 0, .int .i64 0, .slice none 0 0] 37)) w.heap.size 37 (pkC k o f t p g i A n c) := (blk_new rfl).alloc _
  have hR0 : Blk ((w.alloc (.cells #[.int .i64 k, .int .i64 o, .int .i64 f, .int .i64 t, .int .i64 p, .int .i64 g, .int .i64 i, .slice A n c] 37)).alloc (.cells #[.int .i64 0, .int .i64 0, .int .i64 0, .int .i64 0, .int .i64 0, .int .i64 0, .int .i64 0, .slice none 0 0] 37)) (w.heap.size + 1) 37 (pkC 0 0 0 0 0 0 0 none 0 0) := blk_new (by simp)
  have hrt := fun W => tright_any k o f t p g i A n c W hn
  have HC0 := Lib.hid hC0
  have HQ0 := Lib.hid hQ0
  have HR0 := Lib.hid hR0
  rw [hr] at hrt
  have HRT := Lib.hid hrt
  clear hC0 hQ0 hR0 hrt hr
  unfold pkC at HRT ⊢
  go_enter Try.func53, Try.ntmps53
  go_wp2_with fail
  refine (HRT.out _).mono ?_
  rintro e w1 ⟨rfl, hc1⟩
  have hC := HC0.out.trans hc1 (fun _ _ e => e)
  have hQ := HQ0.out.chg hc1 id
  have hR := HR0.out.chg hc1 id
  clear hc1 HC0 HQ0 HR0
  obtain ⟨x0, x1, x2, x3, x4, x5, x6, x7⟩ := pk_cells hR
  obtain ⟨u0, u1, u2, u3, u4, u5, u6, u7⟩ := pk_free hR
  obtain ⟨r0, r1, r2, r3, r4, r5, r6, r7, _, hcs⟩ := pk_put hR 0 0 0 0 0 0 0 none 0 0
  have HF := Lib.hid (fresh_set hC hcs (Nat.le_succ _))
  have RR := Lib.hid (And.intro r0 (And.intro r1 (And.intro r2 (And.intro r3 (And.intro r4 (And.intro r5 (And.intro r6 r7)))))))
  clear r0 r1 r2 r3 r4 r5 r6 r7 hcs hR hC
  go_wp2_with fail
  obtain ⟨r0, r1, r2, r3, r4, r5, r6, r7⟩ := RR.out
  exact bodyPost_ret (v := .tuple #[zeroP, .int .i64 1]) (by simp [results, Try.results53, go_sem, zeroP, pkC, r0, r1, r2, r3, r4, r5, r6, r7]) rfl ⟨rfl, HF.out⟩

set_option maxRecDepth 100000 in
set_option maxHeartbeats 2000000 in
theorem tag_state (k o f t p g i tz gen : Int) (A : Option Addr) (n c : Nat) (w : World) (hn : n ≤ 9223372036854775807) (hr : pkR k o f t p g i n = true) (hk : k = 2) :
    Calls Try.prog 53 #[.agg (pkC k o f t p g i A n c), .int .i64 tz, .int .i64 gen] w fun e w' => e = .returned (.tuple #[zeroP, .int .i64 8]) ∧ Chg (fun _ => False) w w' := by
  subst hk
  have hC0 := ((Chg.refl (fun _ => False) w).alloc (.cells #[.int .i64 2, .int .i64 o, .int .i64 f, .int .i64 t, .int .i64 p, .int .i64 g, .int .i64 i, .slice A n c] 37)).alloc (.cells #[.int .i64 0, .int .i64 0, .int .i64 0, .int .i64 0, .int .i64 0, .int .i64 0, .int .i64 0, .slice none 0 0] 37)
  have hQ0 : Blk ((w.alloc (.cells #[.int .i64 2, .int .i64 o, .int .i64 f, .int .i64 t, .int .i64 p, .int .i64 g, .int .i64 i, .slice A n c] 37)).alloc (.cells #[.int .i64 0, .int .i64 0, .int .i64 0, .int .i64 0, .int .i64 0, .int .i64 0, .int .i64 0, .slice none 0 0] 37)) w.heap.size 37 (pkC 2 o f t p g i A n c) := (blk_new rfl).alloc _
  have hR0 : Blk ((w.alloc (.cells #[.int .i64 2, .int .i64 o, .int .i64 f, .int .i64 t, .int .i64 p, .int .i64 g, .int .i64 i, .slice A n c] 37)).alloc (.cells #[.int .i64 0, .int .i64 0, .int .i64 0, .int .i64 0, .int .i64 0, .int .i64 0, .int .i64 0, .slice none 0 0] 37)) (w.heap.size + 1) 37 (pkC 0 0 0 0 0 0 0 none 0 0) := blk_new (by simp)
  have hrt := fun W => tright_any 2 o f t p g i A n c W hn
  have HC0 := Lib.hid hC0
  have HQ0 := Lib.hid hQ0
  have HR0 := Lib.hid hR0
  rw [hr] at hrt
  have HRT := Lib.hid hrt
  clear hC0 hQ0 hR0 hrt hr
  unfold pkC at HRT ⊢
  go_enter Try.func53, Try.ntmps53
  go_wp2_with fail
  refine (HRT.out _).mono ?_
  rintro e w1 ⟨rfl, hc1⟩
  have hC := HC0.out.trans hc1 (fun _ _ e => e)
  have hQ := HQ0.out.chg hc1 id
  have hR := HR0.out.chg hc1 id
  clear hc1 HC0 HQ0 HR0
  obtain ⟨y0, y1, y2, y3, y4, y5, y6, y7⟩ := pk_cells hQ
  obtain ⟨x0, x1, x2, x3, x4, x5, x6, x7⟩ := pk_cells hR
  obtain ⟨u0, u1, u2, u3, u4, u5, u6, u7⟩ := pk_free hR
  obtain ⟨r0, r1, r2, r3, r4, r5, r6, r7, _, hcs⟩ := pk_put hR 0 0 0 0 0 0 0 none 0 0
  have HF := Lib.hid (fresh_set hC hcs (Nat.le_succ _))
  have RR := Lib.hid (And.intro r0 (And.intro r1 (And.intro r2 (And.intro r3 (And.intro r4 (And.intro r5 (And.intro r6 r7)))))))
  clear r0 r1 r2 r3 r4 r5 r6 r7 hcs hR hC
  go_wp2_with fail
  obtain ⟨r0, r1, r2, r3, r4, r5, r6, r7⟩ := RR.out
  exact bodyPost_ret (v := .tuple #[zeroP, .int .i64 8]) (by simp [results, Try.results53, go_sem, zeroP, pkC, r0, r1, r2, r3, r4, r5, r6, r7]) rfl ⟨rfl, HF.out⟩

set_option maxRecDepth 100000 in
set_option maxHeartbeats 2000000 in
theorem tag_gen (k o f t p g i tz gen : Int) (A : Option Addr) (n c : Nat) (w : World) (hn : n ≤ 9223372036854775807) (hr : pkR k o f t p g i n = true) (hk : k ≠ 2) (hr2 : pkR 2 o t tz p gen i n = false) :
    Calls Try.prog 53 #[.agg (pkC k o f t p g i A n c), .int .i64 tz, .int .i64 gen] w fun e w' => e = .returned (.tuple #[zeroP, .int .i64 1]) ∧ Chg (fun _ => False) w w' := by
  have hC0 := ((Chg.refl (fun _ => False) w).alloc (.cells #[.int .i64 k, .int .i64 o, .int .i64 f, .int .i64 t, .int .i64 p, .int .i64 g, .int .i64 i, .slice A n c] 37)).alloc (.cells #[.int .i64 0, .int .i64 0, .int .i64 0, .int .i64 0, .int .i64 0, .int .i64 0, .int .i64 0, .slice none 0 0] 37)
  have hQ0 : Blk ((w.alloc (.cells #[.int .i64 k, .int .i64 o, .int .i64 f, .int .i64 t, .int .i64 p, .int .i64 g, .int .i64 i, .slice A n c] 37)).alloc (.cells #[.int .i64 0, .int .i64 0, .int .i64 0, .int .i64 0, .int .i64 0, .int .i64 0, .int .i64 0, .slice none 0 0] 37)) w.heap.size 37 (pkC k o f t p g i A n c) := (blk_new rfl).alloc _
  have hR0 : Blk ((w.alloc (.cells #[.int .i64 k, .int .i64 o, .int .i64 f, .int .i64 t, .int .i64 p, .int .i64 g, .int .i64 i, .slice A n c] 37)).alloc (.cells #[.int .i64 0, .int .i64 0, .int .i64 0, .int .i64 0, .int .i64 0, .int .i64 0, .int .i64 0, .slice none 0 0] 37)) (w.heap.size + 1) 37 (pkC 0 0 0 0 0 0 0 none 0 0) := blk_new (by simp)
  have hrt := fun W => tright_any k o f t p g i A n c W hn
  have HC0 := Lib.hid hC0
  have HQ0 := Lib.hid hQ0
  have HR0 := Lib.hid hR0
  have hrt2 := fun W => tright_any 2 o t tz p gen i A n c W hn
  rw [hr] at hrt
  rw [hr2] at hrt2
  have HRT := Lib.hid hrt
  have HRT2 := Lib.hid hrt2
  have k2 : (k == 2) = false := by simpa using hk
  clear hC0 hQ0 hR0 hrt hrt2 hr hr2 hk
  unfold pkC at HRT HRT2 ⊢
  go_enter Try.func53, Try.ntmps53
  go_wp2_with fail
  refine (HRT.out _).mono ?_
  rintro e w1 ⟨rfl, hc1⟩
  have hC := HC0.out.trans hc1 (fun _ _ e => e)
  have hQ := HQ0.out.chg hc1 id
  have hR := HR0.out.chg hc1 id
  clear hc1 HC0 HQ0 HR0
  obtain ⟨y0, y1, y2, y3, y4, y5, y6, y7⟩ := pk_cells hQ
  obtain ⟨f0, f1, f2, f3, f4, f5, f6, f7⟩ := pk_free hQ
  have hset := (((hQ.set 0 (.int .i64 2)).set 2 (.int .i64 t)).set 3 (.int .i64 tz)).set 5 (.int .i64 gen)
  simp only [pkC, List.setIfInBounds_toArray, List.set_cons_succ, List.set_cons_zero] at hset
  have hset : Blk _ _ 37 (pkC 2 o t tz p gen i A n c) := hset
  have hcs := ((((Chg.refl (fun k => k = w.heap.size) w1).put w.heap.size 0 (fun _ => rfl) (.int .i64 2)).put w.heap.size 2 (fun _ => rfl) (.int .i64 t)).put w.heap.size 3 (fun _ => rfl) (.int .i64 tz)).put w.heap.size 5 (fun _ => rfl) (.int .i64 gen)
  have HC := Lib.hid (fresh_set hC hcs (Nat.le_refl _))
  have HR := Lib.hid (hR.chg hcs (by omega))
  have HQ := Lib.hid hset
  clear hset hcs hC hR hQ
  go_wp2_with fail
  refine (HRT2.out _).mono ?_
  rintro e w2 ⟨rfl, hc2⟩
  have hC := HC.out.trans hc2 (fun _ _ e => e)
  have hQ := HQ.out.chg hc2 id
  have hR := HR.out.chg hc2 id
  clear hc2 HC HQ HR y0 y1 y2 y3 y4 y5 y6 y7 f0 f1 f2 f3 f4 f5 f6 f7
  obtain ⟨x0, x1, x2, x3, x4, x5, x6, x7⟩ := pk_cells hR
  obtain ⟨u0, u1, u2, u3, u4, u5, u6, u7⟩ := pk_free hR
  obtain ⟨r0, r1, r2, r3, r4, r5, r6, r7, _, hcs⟩ := pk_put hR 0 0 0 0 0 0 0 none 0 0
  have HF := Lib.hid (fresh_set hC hcs (Nat.le_succ _))
  have RR := Lib.hid (And.intro r0 (And.intro r1 (And.intro r2 (And.intro r3 (And.intro r4 (And.intro r5 (And.intro r6 r7)))))))
  clear r0 r1 r2 r3 r4 r5 r6 r7 hcs hR hC
  go_wp2_with fail
  obtain ⟨r0, r1, r2, r3, r4, r5, r6, r7⟩ := RR.out
  exact bodyPost_ret (v := .tuple #[zeroP, .int .i64 1]) (by simp [results, Try.results53, go_sem, zeroP, pkC, r0, r1, r2, r3, r4, r5, r6, r7]) rfl ⟨rfl, HF.out⟩

set_option maxRecDepth 100000 in
set_option maxHeartbeats 2000000 in
theorem tag_ok (k o f t p g i tz gen : Int) (A : Option Addr) (n c : Nat) (w : World) (hn : n ≤ 9223372036854775807) (l : List UInt8) (S : Nat → Prop) (hl : n = l.length) (h : Rds w S A n (bcs l)) (hz : A = none → c = 0) (hr : pkR k o f t p g i n = true) (hk : k ≠ 2) (hr2 : pkR 2 o t tz p gen i n = true) :
    Calls Try.prog 53 #[.agg (pkC k o f t p g i A n c), .int .i64 tz, .int .i64 gen] w (Hd 2 o t tz p gen i l 0 w) := by
  have hC0 := ((Chg.refl (fun _ => False) w).alloc (.cells #[.int .i64 k, .int .i64 o, .int .i64 f, .int .i64 t, .int .i64 p, .int .i64 g, .int .i64 i, .slice A n c] 37)).alloc (.cells #[.int .i64 0, .int .i64 0, .int .i64 0, .int .i64 0, .int .i64 0, .int .i64 0, .int .i64 0, .slice none 0 0] 37)
  have hQ0 : Blk ((w.alloc (.cells #[.int .i64 k, .int .i64 o, .int .i64 f, .int .i64 t, .int .i64 p, .int .i64 g, .int .i64 i, .slice A n c] 37)).alloc (.cells #[.int .i64 0, .int .i64 0, .int .i64 0, .int .i64 0, .int .i64 0, .int .i64 0, .int .i64 0, .slice none 0 0] 37)) w.heap.size 37 (pkC k o f t p g i A n c) := (blk_new rfl).alloc _
  have hR0 : Blk ((w.alloc (.cells #[.int .i64 k, .int .i64 o, .int .i64 f, .int .i64 t, .int .i64 p, .int .i64 g, .int .i64 i, .slice A n c] 37)).alloc (.cells #[.int .i64 0, .int .i64 0, .int .i64 0, .int .i64 0, .int .i64 0, .int .i64 0, .int .i64 0, .slice none 0 0] 37)) (w.heap.size + 1) 37 (pkC 0 0 0 0 0 0 0 none 0 0) := blk_new (by simp)
  have hrt := fun W => tright_any k o f t p g i A n c W hn
  have HC0 := Lib.hid hC0
  have HQ0 := Lib.hid hQ0
  have HR0 := Lib.hid hR0
  have HN2 := Lib.hid (pkR_parts hr).2.2.2.2.2.2.2.1
  have HL := Lib.hid hl
  have HH := Lib.hid h
  have HZ0 := Lib.hid hz
  clear hl h hz
  have hrt2 := fun W => tright_any 2 o t tz p gen i A n c W hn
  rw [hr] at hrt
  rw [hr2] at hrt2
  have HRT := Lib.hid hrt
  have HRT2 := Lib.hid hrt2
  have k2 : (k == 2) = false := by simpa using hk
  clear hC0 hQ0 hR0 hrt hrt2 hr hr2 hk
  unfold pkC at HRT HRT2 ⊢
  go_enter Try.func53, Try.ntmps53
  go_wp2_with fail
  refine (HRT.out _).mono ?_
  rintro e w1 ⟨rfl, hc1⟩
  have hC := HC0.out.trans hc1 (fun _ _ e => e)
  have hQ := HQ0.out.chg hc1 id
  have hR := HR0.out.chg hc1 id
  clear hc1 HC0 HQ0 HR0
  obtain ⟨y0, y1, y2, y3, y4, y5, y6, y7⟩ := pk_cells hQ
  obtain ⟨f0, f1, f2, f3, f4, f5, f6, f7⟩ := pk_free hQ
  have hset := (((hQ.set 0 (.int .i64 2)).set 2 (.int .i64 t)).set 3 (.int .i64 tz)).set 5 (.int .i64 gen)
  simp only [pkC, List.setIfInBounds_toArray, List.set_cons_succ, List.set_cons_zero] at hset
  have hset : Blk _ _ 37 (pkC 2 o t tz p gen i A n c) := hset
  have hcs := ((((Chg.refl (fun k => k = w.heap.size) w1).put w.heap.size 0 (fun _ => rfl) (.int .i64 2)).put w.heap.size 2 (fun _ => rfl) (.int .i64 t)).put w.heap.size 3 (fun _ => rfl) (.int .i64 tz)).put w.heap.size 5 (fun _ => rfl) (.int .i64 gen)
  have HC := Lib.hid (fresh_set hC hcs (Nat.le_refl _))
  have HR := Lib.hid (hR.chg hcs (by omega))
  have HQ := Lib.hid hset
  clear hset hcs hC hR hQ
  go_wp2_with fail
  refine (HRT2.out _).mono ?_
  rintro e w2 ⟨rfl, hc2⟩
  have hC := HC.out.trans hc2 (fun _ _ e => e)
  have hQ := HQ.out.chg hc2 id
  have hR := HR.out.chg hc2 id
  clear hc2 HC HQ HR y0 y1 y2 y3 y4 y5 y6 y7 f0 f1 f2 f3 f4 f5 f6 f7
  obtain ⟨y0, y1, y2, y3, y4, y5, y6, y7⟩ := pk_cells hQ
  obtain ⟨f0, f1, f2, f3, f4, f5, f6, f7⟩ := pk_free hQ
  have HC := Lib.hid hC
  have HQ := Lib.hid hQ
  have HR := Lib.hid hR
  have HCL := Lib.hid (tclone_any A n c l S w2 HL.out (HH.out.chg hC (fun _ _ => id)) HZ0.out (by have := HN2.out; omega))
  clear hC hQ hR
  go_wp2_with fail
  refine HCL.out.mono ?_
  rintro e w3 ⟨D, dc, rfl, hown, hc3⟩
  have hC := HC.out.trans hc3 (fun _ _ e => e)
  have hQ := HQ.out.chg hc3 id
  have hR := HR.out.chg hc3 id
  clear y0 y1 y2 y3 y4 y5 y6 y7 f0 f1 f2 f3 f4 f5 f6 f7
  obtain ⟨y0, y1, y2, y3, y4, y5, y6, y7⟩ := pk_cells hQ
  obtain ⟨f0, f1, f2, f3, f4, f5, f6, f7⟩ := pk_free hQ
  have hset := hQ.set 7 (.slice D n dc)
  simp only [pkC, List.setIfInBounds_toArray, List.set_cons_succ, List.set_cons_zero] at hset
  have hcs := (Chg.refl (fun k => k = w.heap.size) w3).put w.heap.size 7 (fun _ => rfl) (.slice D n dc)
  have hC := fresh_set hC hcs (Nat.le_refl _)
  have hR := hR.chg hcs (by omega)
  have hrd := ((own_rds2 hown).mono (S' := fun k => w2.heap.size ≤ k) (fun k hk => hk.1)).chg hcs (fun k hk e => by have := HC.out.size; have := HR.out.lt; omega)
  obtain ⟨x0, x1, x2, x3, x4, x5, x6, x7⟩ := pk_cells hR
  obtain ⟨u0, u1, u2, u3, u4, u5, u6, u7⟩ := pk_free hR
  obtain ⟨r0, r1, r2, r3, r4, r5, r6, r7, _, hcs2⟩ := pk_put hR 2 o t tz p gen i D n dc
  have hF := fresh_set hC hcs2 (Nat.le_succ _)
  have hrd2 := hrd.chg hcs2 (fun k hk e => by have := HR.out.lt; omega)
  have HF : Hid (Hd 2 o t tz p gen i l 0 w (.returned (.tuple #[.agg (pkC 2 o t tz p gen i D n dc), .int .i64 0])) _) := ⟨D, dc, by rw [HL.out], own_nil hown, by rw [← HL.out]; exact hrd2.mono (fun _ _ => trivial), hF⟩
  have RR := Lib.hid (And.intro r0 (And.intro r1 (And.intro r2 (And.intro r3 (And.intro r4 (And.intro r5 (And.intro r6 r7)))))))
  clear r0 r1 r2 r3 r4 r5 r6 r7 hcs2 hF hrd hrd2 hR hC hset hcs hQ hown hc3 HC HQ HR HCL
  go_wp2_with fail
  obtain ⟨r0, r1, r2, r3, r4, r5, r6, r7⟩ := RR.out
  exact bodyPost_ret (v := .tuple #[.agg (pkC 2 o t tz p gen i D n dc), .int .i64 0]) (by simp [results, Try.results53, go_sem, pkC, r0, r1, r2, r3, r4, r5, r6, r7]) rfl HF.out

set_option maxRecDepth 100000 in
set_option maxHeartbeats 2000000 in
theorem rag_arg (k o f t p g i tz gen : Int) (A : Option Addr) (n c : Nat) (w : World) (hn : n ≤ 9223372036854775807) (hr : pkR k o f t p g i n = false) :
    Calls Try.prog 32 #[.agg (pkC k o f t p g i A n c), .int .i64 tz, .int .i64 gen] w fun e w' => e = .returned (.tuple #[zeroP, .int .i64 1]) ∧ Chg (fun _ => False) w w' := by
  have hC0 := ((Chg.refl (fun _ => False) w).alloc (.cells #[.int .i64 k, .int .i64 o, .int .i64 f, .int .i64 t, .int .i64 p, .int .i64 g, .int .i64 i, .slice A n c] 37)).alloc (.cells #[.int .i64 0, .int .i64 0, .int .i64 0, .int .i64 0, .int .i64 0, .int .i64 0, .int .i64 0, .slice none 0 0] 37)
  have hQ0 : Blk ((w.alloc (.cells #[.int .i64 k, .int .i64 o, .int .i64 f, .int .i64 t, .int .i64 p, .int .i64 g, .int .i64 i, .slice A n c] 37)).alloc (.cells #[.int .i64 0, .int .i64 0, .int .i64 0, .int .i64 0, .int .i64 0, .int .i64 0, .int .i64 0, .slice none 0 0] 37)) w.heap.size 37 (pkC k o f t p g i A n c) := (blk_new rfl).alloc _
  have hR0 : Blk ((w.alloc (.cells #[.int .i64 k, .int .i64 o, .int .i64 f, .int .i64 t, .int .i64 p, .int .i64 g, .int .i64 i, .slice A n c] 37)).alloc (.cells #[.int .i64 0, .int .i64 0, .int .i64 0, .int .i64 0, .int .i64 0, .int .i64 0, .int .i64 0, .slice none 0 0] 37)) (w.heap.size + 1) 37 (pkC 0 0 0 0 0 0 0 none 0 0) := blk_new (by simp)
  have hrt := fun W => rright5_any k o f t p g i A n c W hn
  have HC0 := Lib.hid hC0
  have HQ0 := Lib.hid hQ0
  have HR0 := Lib.hid hR0
  rw [hr] at hrt
  have HRT := Lib.hid hrt
  clear hC0 hQ0 hR0 hrt hr
  unfold pkC at HRT ⊢
  go_enter Try.func32, Try.ntmps32
  go_wp2_with fail
  refine (HRT.out _).mono ?_
  rintro e w1 ⟨rfl, hc1⟩
  have hC := HC0.out.trans hc1 (fun _ _ e => e)
  have hQ := HQ0.out.chg hc1 id
  have hR := HR0.out.chg hc1 id
  clear hc1 HC0 HQ0 HR0
  obtain ⟨x0, x1, x2, x3, x4, x5, x6, x7⟩ := pk_cells hR
  obtain ⟨u0, u1, u2, u3, u4, u5, u6, u7⟩ := pk_free hR
  obtain ⟨r0, r1, r2, r3, r4, r5, r6, r7, _, hcs⟩ := pk_put hR 0 0 0 0 0 0 0 none 0 0
  have HF := Lib.hid (fresh_set hC hcs (Nat.le_succ _))
  have RR := Lib.hid (And.intro r0 (And.intro r1 (And.intro r2 (And.intro r3 (And.intro r4 (And.intro r5 (And.intro r6 r7)))))))
  clear r0 r1 r2 r3 r4 r5 r6 r7 hcs hR hC
  go_wp2_with fail
  obtain ⟨r0, r1, r2, r3, r4, r5, r6, r7⟩ := RR.out
  exact bodyPost_ret (v := .tuple #[zeroP, .int .i64 1]) (by simp [results, Try.results32, go_sem, zeroP, pkC, r0, r1, r2, r3, r4, r5, r6, r7]) rfl ⟨rfl, HF.out⟩

set_option maxRecDepth 100000 in
set_option maxHeartbeats 2000000 in
theorem rag_state (k o f t p g i tz gen : Int) (A : Option Addr) (n c : Nat) (w : World) (hn : n ≤ 9223372036854775807) (hr : pkR k o f t p g i n = true) (hk : k = 2) :
    Calls Try.prog 32 #[.agg (pkC k o f t p g i A n c), .int .i64 tz, .int .i64 gen] w fun e w' => e = .returned (.tuple #[zeroP, .int .i64 8]) ∧ Chg (fun _ => False) w w' := by
  subst hk
  have hC0 := ((Chg.refl (fun _ => False) w).alloc (.cells #[.int .i64 2, .int .i64 o, .int .i64 f, .int .i64 t, .int .i64 p, .int .i64 g, .int .i64 i, .slice A n c] 37)).alloc (.cells #[.int .i64 0, .int .i64 0, .int .i64 0, .int .i64 0, .int .i64 0, .int .i64 0, .int .i64 0, .slice none 0 0] 37)
  have hQ0 : Blk ((w.alloc (.cells #[.int .i64 2, .int .i64 o, .int .i64 f, .int .i64 t, .int .i64 p, .int .i64 g, .int .i64 i, .slice A n c] 37)).alloc (.cells #[.int .i64 0, .int .i64 0, .int .i64 0, .int .i64 0, .int .i64 0, .int .i64 0, .int .i64 0, .slice none 0 0] 37)) w.heap.size 37 (pkC 2 o f t p g i A n c) := (blk_new rfl).alloc _
  have hR0 : Blk ((w.alloc (.cells #[.int .i64 2, .int .i64 o, .int .i64 f, .int .i64 t, .int .i64 p, .int .i64 g, .int .i64 i, .slice A n c] 37)).alloc (.cells #[.int .i64 0, .int .i64 0, .int .i64 0, .int .i64 0, .int .i64 0, .int .i64 0, .int .i64 0, .slice none 0 0] 37)) (w.heap.size + 1) 37 (pkC 0 0 0 0 0 0 0 none 0 0) := blk_new (by simp)
  have hrt := fun W => rright5_any 2 o f t p g i A n c W hn
  have HC0 := Lib.hid hC0
  have HQ0 := Lib.hid hQ0
  have HR0 := Lib.hid hR0
  rw [hr] at hrt
  have HRT := Lib.hid hrt
  clear hC0 hQ0 hR0 hrt hr
  unfold pkC at HRT ⊢
  go_enter Try.func32, Try.ntmps32
  go_wp2_with fail
  refine (HRT.out _).mono ?_
  rintro e w1 ⟨rfl, hc1⟩
  have hC := HC0.out.trans hc1 (fun _ _ e => e)
  have hQ := HQ0.out.chg hc1 id
  have hR := HR0.out.chg hc1 id
  clear hc1 HC0 HQ0 HR0
  obtain ⟨y0, y1, y2, y3, y4, y5, y6, y7⟩ := pk_cells hQ
  obtain ⟨x0, x1, x2, x3, x4, x5, x6, x7⟩ := pk_cells hR
  obtain ⟨u0, u1, u2, u3, u4, u5, u6, u7⟩ := pk_free hR
  obtain ⟨r0, r1, r2, r3, r4, r5, r6, r7, _, hcs⟩ := pk_put hR 0 0 0 0 0 0 0 none 0 0
  have HF := Lib.hid (fresh_set hC hcs (Nat.le_succ _))
  have RR := Lib.hid (And.intro r0 (And.intro r1 (And.intro r2 (And.intro r3 (And.intro r4 (And.intro r5 (And.intro r6 r7)))))))
  clear r0 r1 r2 r3 r4 r5 r6 r7 hcs hR hC
  go_wp2_with fail
  obtain ⟨r0, r1, r2, r3, r4, r5, r6, r7⟩ := RR.out
  exact bodyPost_ret (v := .tuple #[zeroP, .int .i64 8]) (by simp [results, Try.results32, go_sem, zeroP, pkC, r0, r1, r2, r3, r4, r5, r6, r7]) rfl ⟨rfl, HF.out⟩

set_option maxRecDepth 100000 in
set_option maxHeartbeats 2000000 in
theorem rag_gen (k o f t p g i tz gen : Int) (A : Option Addr) (n c : Nat) (w : World) (hn : n ≤ 9223372036854775807) (hr : pkR k o f t p g i n = true) (hk : k ≠ 2) (hr2 : pkR 2 o t tz p gen i n = false) :
    Calls Try.prog 32 #[.agg (pkC k o f t p g i A n c), .int .i64 tz, .int .i64 gen] w fun e w' => e = .returned (.tuple #[zeroP, .int .i64 1]) ∧ Chg (fun _ => False) w w' := by
  have hC0 := ((Chg.refl (fun _ => False) w).alloc (.cells #[.int .i64 k, .int .i64 o, .int .i64 f, .int .i64 t, .int .i64 p, .int .i64 g, .int .i64 i, .slice A n c] 37)).alloc (.cells #[.int .i64 0, .int .i64 0, .int .i64 0, .int .i64 0, .int .i64 0, .int .i64 0, .int .i64 0, .slice none 0 0] 37)
  have hQ0 : Blk ((w.alloc (.cells #[.int .i64 k, .int .i64 o, .int .i64 f, .int .i64 t, .int .i64 p, .int .i64 g, .int .i64 i, .slice A n c] 37)).alloc (.cells #[.int .i64 0, .int .i64 0, .int .i64 0, .int .i64 0, .int .i64 0, .int .i64 0, .int .i64 0, .slice none 0 0] 37)) w.heap.size 37 (pkC k o f t p g i A n c) := (blk_new rfl).alloc _
  have hR0 : Blk ((w.alloc (.cells #[.int .i64 k, .int .i64 o, .int .i64 f, .int .i64 t, .int .i64 p, .int .i64 g, .int .i64 i, .slice A n c] 37)).alloc (.cells #[.int .i64 0, .int .i64 0, .int .i64 0, .int .i64 0, .int .i64 0, .int .i64 0, .int .i64 0, .slice none 0 0] 37)) (w.heap.size + 1) 37 (pkC 0 0 0 0 0 0 0 none 0 0) := blk_new (by simp)
  have hrt := fun W => rright5_any k o f t p g i A n c W hn
  have HC0 := Lib.hid hC0
  have HQ0 := Lib.hid hQ0
  have HR0 := Lib.hid hR0
  have hrt2 := fun W => rright5_any 2 o t tz p gen i A n c W hn
  rw [hr] at hrt
  rw [hr2] at hrt2
  have HRT := Lib.hid hrt
  have HRT2 := Lib.hid hrt2
  have k2 : (k == 2) = false := by simpa using hk
  clear hC0 hQ0 hR0 hrt hrt2 hr hr2 hk
  unfold pkC at HRT HRT2 ⊢
  go_enter Try.func32, Try.ntmps32
  go_wp2_with fail
  refine (HRT.out _).mono ?_
  rintro e w1 ⟨rfl, hc1⟩
  have hC := HC0.out.trans hc1 (fun _ _ e => e)
  have hQ := HQ0.out.chg hc1 id
  have hR := HR0.out.chg hc1 id
  clear hc1 HC0 HQ0 HR0
  obtain ⟨y0, y1, y2, y3, y4, y5, y6, y7⟩ := pk_cells hQ
  obtain ⟨_, _, _, z3, _⟩ := pk_kept hQ ((Chg.refl (fun _ => False) w1).alloc (.cells #[.int .i64 2, .int .i64 o, .int .i64 f, .int .i64 t, .int .i64 p, .int .i64 g, .int .i64 i, .slice A n c] 37))
  have HC := Lib.hid (hC.alloc (.cells #[.int .i64 2, .int .i64 o, .int .i64 t, .int .i64 tz, .int .i64 p, .int .i64 gen, .int .i64 i, .slice A n c] 37))
  have HR := Lib.hid (hR.alloc (.cells #[.int .i64 2, .int .i64 o, .int .i64 t, .int .i64 tz, .int .i64 p, .int .i64 gen, .int .i64 i, .slice A n c] 37))
  have HQ := Lib.hid (show Blk (w1.alloc (.cells #[.int .i64 2, .int .i64 o, .int .i64 t, .int .i64 tz, .int .i64 p, .int .i64 gen, .int .i64 i, .slice A n c] 37)) w1.heap.size 37 (pkC 2 o t tz p gen i A n c) from blk_new rfl)
  have HZ := Lib.hid (show w.heap.size + 1 < w1.heap.size from hR.lt)
  clear hC hR hQ
  go_wp2_with fail
  refine (HRT2.out _).mono ?_
  rintro e w2 ⟨rfl, hc2⟩
  have hC := HC.out.trans hc2 (fun _ _ e => e)
  have hQ := HQ.out.chg hc2 id
  have hR := HR.out.chg hc2 id
  clear hc2 HC HQ HR y0 y1 y2 y3 y4 y5 y6 y7 z3
  obtain ⟨x0, x1, x2, x3, x4, x5, x6, x7⟩ := pk_cells hR
  obtain ⟨u0, u1, u2, u3, u4, u5, u6, u7⟩ := pk_free hR
  obtain ⟨r0, r1, r2, r3, r4, r5, r6, r7, _, hcs⟩ := pk_put hR 0 0 0 0 0 0 0 none 0 0
  have HF := Lib.hid (fresh_set hC hcs (Nat.le_succ _))
  have RR := Lib.hid (And.intro r0 (And.intro r1 (And.intro r2 (And.intro r3 (And.intro r4 (And.intro r5 (And.intro r6 r7)))))))
  clear r0 r1 r2 r3 r4 r5 r6 r7 hcs hR hC
  go_wp2_with fail
  obtain ⟨r0, r1, r2, r3, r4, r5, r6, r7⟩ := RR.out
  exact bodyPost_ret (v := .tuple #[zeroP, .int .i64 1]) (by simp [results, Try.results32, go_sem, zeroP, pkC, r0, r1, r2, r3, r4, r5, r6, r7]) rfl ⟨rfl, HF.out⟩

set_option maxRecDepth 100000 in
set_option maxHeartbeats 2000000 in
theorem rag_ok (k o f t p g i tz gen : Int) (A : Option Addr) (n c : Nat) (w : World) (hn : n ≤ 9223372036854775807) (l : List UInt8) (S : Nat → Prop) (hl : n = l.length) (h : Rds w S A n (bcs l)) (hz : A = none → c = 0) (hr : pkR k o f t p g i n = true) (hk : k ≠ 2) (hr2 : pkR 2 o t tz p gen i n = true) :
    Calls Try.prog 32 #[.agg (pkC k o f t p g i A n c), .int .i64 tz, .int .i64 gen] w (Hd 2 o t tz p gen i l 0 w) := by
  have hC0 := ((Chg.refl (fun _ => False) w).alloc (.cells #[.int .i64 k, .int .i64 o, .int .i64 f, .int .i64 t, .int .i64 p, .int .i64 g, .int .i64 i, .slice A n c] 37)).alloc (.cells #[.int .i64 0, .int .i64 0, .int .i64 0, .int .i64 0, .int .i64 0, .int .i64 0, .int .i64 0, .slice none 0 0] 37)
  have hQ0 : Blk ((w.alloc (.cells #[.int .i64 k, .int .i64 o, .int .i64 f, .int .i64 t, .int .i64 p, .int .i64 g, .int .i64 i, .slice A n c] 37)).alloc (.cells #[.int .i64 0, .int .i64 0, .int .i64 0, .int .i64 0, .int .i64 0, .int .i64 0, .int .i64 0, .slice none 0 0] 37)) w.heap.size 37 (pkC k o f t p g i A n c) := (blk_new rfl).alloc _
  have hR0 : Blk ((w.alloc (.cells #[.int .i64 k, .int .i64 o, .int .i64 f, .int .i64 t, .int .i64 p, .int .i64 g, .int .i64 i, .slice A n c] 37)).alloc (.cells #[.int .i64 0, .int .i64 0, .int .i64 0, .int .i64 0, .int .i64 0, .int .i64 0, .int .i64 0, .slice none 0 0] 37)) (w.heap.size + 1) 37 (pkC 0 0 0 0 0 0 0 none 0 0) := blk_new (by simp)
  have hrt := fun W => rright5_any k o f t p g i A n c W hn
  have HC0 := Lib.hid hC0
  have HQ0 := Lib.hid hQ0
  have HR0 := Lib.hid hR0
  have HN2 := Lib.hid (pkR_parts hr).2.2.2.2.2.2.2.1
  have HL := Lib.hid hl
  have HH := Lib.hid h
  have HZ0 := Lib.hid hz
  clear hl h hz
  have hrt2 := fun W => rright5_any 2 o t tz p gen i A n c W hn
  rw [hr] at hrt
  rw [hr2] at hrt2
  have HRT := Lib.hid hrt
  have HRT2 := Lib.hid hrt2
  have k2 : (k == 2) = false := by simpa using hk
  clear hC0 hQ0 hR0 hrt hrt2 hr hr2 hk
  unfold pkC at HRT HRT2 ⊢
  go_enter Try.func32, Try.ntmps32
  go_wp2_with fail
  refine (HRT.out _).mono ?_
  rintro e w1 ⟨rfl, hc1⟩
  have hC := HC0.out.trans hc1 (fun _ _ e => e)
  have hQ := HQ0.out.chg hc1 id
  have hR := HR0.out.chg hc1 id
  clear hc1 HC0 HQ0 HR0
  obtain ⟨y0, y1, y2, y3, y4, y5, y6, y7⟩ := pk_cells hQ
  obtain ⟨_, _, _, z3, _⟩ := pk_kept hQ ((Chg.refl (fun _ => False) w1).alloc (.cells #[.int .i64 2, .int .i64 o, .int .i64 f, .int .i64 t, .int .i64 p, .int .i64 g, .int .i64 i, .slice A n c] 37))
  have HC := Lib.hid (hC.alloc (.cells #[.int .i64 2, .int .i64 o, .int .i64 t, .int .i64 tz, .int .i64 p, .int .i64 gen, .int .i64 i, .slice A n c] 37))
  have HR := Lib.hid (hR.alloc (.cells #[.int .i64 2, .int .i64 o, .int .i64 t, .int .i64 tz, .int .i64 p, .int .i64 gen, .int .i64 i, .slice A n c] 37))
  have HQ := Lib.hid (show Blk (w1.alloc (.cells #[.int .i64 2, .int .i64 o, .int .i64 t, .int .i64 tz, .int .i64 p, .int .i64 gen, .int .i64 i, .slice A n c] 37)) w1.heap.size 37 (pkC 2 o t tz p gen i A n c) from blk_new rfl)
  have HZ := Lib.hid (show w.heap.size + 1 < w1.heap.size from hR.lt)
  clear hC hR hQ
  go_wp2_with fail
  refine (HRT2.out _).mono ?_
  rintro e w2 ⟨rfl, hc2⟩
  have hC := HC.out.trans hc2 (fun _ _ e => e)
  have hQ := HQ.out.chg hc2 id
  have hR := HR.out.chg hc2 id
  clear hc2 HC HQ HR y0 y1 y2 y3 y4 y5 y6 y7 z3
  obtain ⟨y0, y1, y2, y3, y4, y5, y6, y7⟩ := pk_cells hQ
  have hrd := HH.out.chg hC (fun _ _ => id)
  obtain ⟨x0, x1, x2, x3, x4, x5, x6, x7⟩ := pk_cells hR
  obtain ⟨u0, u1, u2, u3, u4, u5, u6, u7⟩ := pk_free hR
  obtain ⟨r0, r1, r2, r3, r4, r5, r6, r7, _, hcs2⟩ := pk_put hR 2 o t tz p gen i A n c
  have hF := fresh_set hC hcs2 (Nat.le_succ _)
  have hrd2 := hrd.old
  have HF : Hid (Hd 2 o t tz p gen i l 0 w (.returned (.tuple #[.agg (pkC 2 o t tz p gen i A n c), .int .i64 0])) _) := ⟨A, c, by rw [HL.out], HZ0.out, by rw [← HL.out]; exact (HH.out.old.chg hF (fun _ _ => id)).mono (fun _ _ => trivial), hF⟩
  have RR := Lib.hid (And.intro r0 (And.intro r1 (And.intro r2 (And.intro r3 (And.intro r4 (And.intro r5 (And.intro r6 r7)))))))
  clear r0 r1 r2 r3 r4 r5 r6 r7 hcs2 hF hrd hrd2 hR hC hQ
  go_wp2_with fail
  obtain ⟨r0, r1, r2, r3, r4, r5, r6, r7⟩ := RR.out
  exact bodyPost_ret (v := .tuple #[.agg (pkC 2 o t tz p gen i A n c), .int .i64 0]) (by simp [results, Try.results32, go_sem, pkC, r0, r1, r2, r3, r4, r5, r6, r7]) rfl HF.out

end Go.Proofs.Ytacbgelbffmngaa
