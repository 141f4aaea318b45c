/-
  Walk: ether.Encode. Conditions: the frame's load is read in memory.
-/
import Derived.Test.YtacbgelbffmngaaFe
import Derived.Deep.RegionHeld3
import Derived.Deep.DeepCutAuto
namespace Go.Proofs.Ytacbgelbffmngaa
open Go.RowKit
set_option linter.unusedVariables false

set_option maxRecDepth 100000 in
set_option maxHeartbeats 1000000 in
theorem encode_bad (d s t : Int) (A : Option Addr) (n c : Nat) (w : World) (hd : 0 ≤ d) (hs : 0 ≤ s) (hn : n ≤ 9223372036854775807) (hr : rightB d s t n = false) :
    Calls Try.prog 22 #[.agg #[.int .u64 d, .int .u64 s, .int .i64 t, .slice A n c]] w fun e w' => e = .returned (.tuple #[.slice none 0 0, .int .i64 1]) ∧ Chg (fun _ => False) w w' := by
  have HR := Lib.hid hr
  clear hr
  go_enter Try.func22, Try.ntmps22
  go_wp2_with fail
  refine (right_any d s t A n c _ hd hs hn).mono ?_
  rw [HR.out]
  rintro e w' ⟨rfl, hc⟩
  go_wp2_with fail
  go_ret2
  exact ⟨rfl, ((Chg.refl _ w).alloc _).trans hc (fun _ _ e => e)⟩

/-- Behind the first two numbers: the writer p, and what has turned since w1, and since W. -/
def P1 (d s : Int) (p : Nat) (w1 W w' : World) : Prop := ∃ o, Wr 99 5 w' p o (some (be 6 d.toNat ++ be 6 s.toNat)) 16 ∧ Mvd p none o W w' ∧ Chg (fun _ => False) w1 w' ∧ w1.heap.size ≤ p ∧ (∀ k, o = some k → w1.heap.size ≤ k) ∧ Blk W p 99 #[.slice none 0 0, .bool false]
def P2 (d s t : Int) (p : Nat) (w1 w' : World) : Prop := ∃ o, Wr 99 5 w' p o (some (be 6 d.toNat ++ be 6 s.toNat ++ be 2 t.toNat)) 24 ∧ Chg (fun _ => False) w1 w'
theorem P1.keep {d s : Int} {p : Nat} {w1 W w' : World} (h : P1 d s p w1 W w') {g : Nat} {cs : Array Value} (hb : Blk W g 3 cs) : Blk w' g 3 cs := by
  obtain ⟨o, _, hm, _, _, _, hp⟩ := h
  refine hb.chg hm.1 ?_
  rintro (rfl | e)
  · have h := hp.symm.trans hb
    simp at h
  · cases e
theorem P1.chg {d s : Int} {p : Nat} {w1 W w' : World} (h : P1 d s p w1 W w') : Chg (fun _ => False) w1 w' := by
  obtain ⟨o, _, _, hc, _⟩ := h
  exact hc
theorem P2.chg {d s t : Int} {p : Nat} {w1 w' : World} (h : P2 d s t p w1 w') : Chg (fun _ => False) w1 w' := by
  obtain ⟨o, _, hc⟩ := h
  exact hc
theorem box_cells {w1 w' : World} {g : Nat} {d s t : Int} {v : Value} (hb : Blk w1 g 26 #[.int .u64 d, .int .u64 s, .int .i64 t, v]) (h : Chg (fun _ => False) w1 w') :
    w'.cell? ⟨g, 0, none⟩ = some (.int .u64 d) ∧ w'.cell? ⟨g, 1, none⟩ = some (.int .u64 s) ∧ w'.cell? ⟨g, 2, none⟩ = some (.int .i64 t) := by
  have hb1 := hb.chg h id
  have x0 := hb1.cell 0
  have x1 := hb1.cell 1
  have x2 := hb1.cell 2
  simp only [List.getElem?_toArray, List.getElem?_cons_zero, List.getElem?_cons_succ] at x0 x1 x2
  exact ⟨x0, x1, x2⟩
theorem fits6 {x : Int} (h1 : 0 ≤ x) (h2 : x ≤ 281474976710655) : fits 6 x = true := by
  unfold fits
  simp only [Bool.and_eq_true, decide_eq_true_eq]
  exact ⟨h1, by omega⟩
theorem fits2 {x : Int} (h1 : 0 ≤ x) (h2 : x ≤ 65535) : fits 2 x = true := by
  unfold fits
  simp only [Bool.and_eq_true, decide_eq_true_eq]
  exact ⟨h1, by omega⟩
theorem enc_put1 (p q : Nat) (d s : Int) (w1 W : World) (hd : 0 ≤ d) (hd2 : d ≤ 281474976710655) (hs : 0 ≤ s) (hs2 : s ≤ 281474976710655) (hC : Chg (fun _ => False) w1 W) (hpw : w1.heap.size ≤ p) (hp : Blk W p 99 #[.slice none 0 0, .bool false]) (hq : Blk W q 3 #[.int .i64 d, .int .i64 s]) :
    Calls Try.prog 37 #[.pointer (some ⟨p, 0, none⟩), .int .i64 6, .slice (some ⟨q, 0, none⟩) 2 2] W fun e w' => e = .returned (.pointer (some ⟨p, 0, none⟩)) ∧ P1 d s p w1 W w' := by
  have hpq : q ≠ p := by
    rintro rfl
    have h := hp.symm.trans hq
    simp at h
  have hw : Wr 99 5 W p none (some []) 0 := ⟨[], false, none, 0, ⟨hp, World.ownsRow_nil _ 0 _ 1, rfl, by simp⟩, Nat.le_refl _, rfl, rfl⟩
  have h := put_any p none (some []) 0 6 [d, s] (some ⟨q, 0, none⟩) 2 2 W (fun k => k = q) hw rfl hq.rds (fun k hk => ⟨by rw [hk]; exact hpq, by simp⟩) (by simp; omega) (by decide)
  have e : putS 6 [d, s] (some []) = some (be 6 d.toNat ++ be 6 s.toNat) := by
    simp [putS, puts, put1, fits6 hd hd2, fits6 hs hs2]
  rw [e] at h
  refine h.mono fun e w' ⟨he, o, hw, hm⟩ => ?_
  obtain ⟨h1, h2⟩ := fresh_mvd hC hm hpw (fun k hk => by cases hk)
  exact ⟨he, o, hw, hm, h1, hpw, h2, hp⟩
theorem enc_put2 (p q : Nat) (d s t : Int) (w1 Wa Wb W : World) (ht : 0 ≤ t) (ht2 : t ≤ 65535) (h1 : P1 d s p w1 Wa Wb) (hc : Chg (fun _ => False) Wb W) (hq : Blk W q 3 #[.int .i64 t]) :
    Calls Try.prog 37 #[.pointer (some ⟨p, 0, none⟩), .int .i64 2, .slice (some ⟨q, 0, none⟩) 1 1] W fun e w' => e = .returned (.pointer (some ⟨p, 0, none⟩)) ∧ P2 d s t p w1 w' := by
  obtain ⟨o, hw, hm, hC, hpw, ho, _⟩ := h1
  have hw2 := hw.chg hc id (fun _ _ => id)
  have hpq : q ≠ p := by
    rintro rfl
    obtain ⟨bs, f, A, c, hob, _⟩ := hw2
    have h : Blk W q _ _ := hob.blk
    have h := h.symm.trans hq
    simp at h
  have hoq : o ≠ some q := by
    rintro rfl
    obtain ⟨bs, f, A, c, hob, _⟩ := hw2
    have ha := hob.at_
    rcases hob.own.2 with ⟨e, _⟩ | ⟨g, cap, cur, e, _, hh, _⟩
    · injection e with e
      subst e
      cases ha
    · injection e with e
      subst e
      injection ha with ha
      have ha : g = q := ha
      subst ha
      have h := hh.symm.trans hq
      simp at h
  have h := put_any p o _ 16 2 [t] (some ⟨q, 0, none⟩) 1 1 W (fun k => k = q) hw2 rfl hq.rds (fun k hk => ⟨by rw [hk]; exact hpq, by rw [hk]; exact hoq⟩) (by simp; omega) (by decide)
  have e : putS 2 [t] (some (be 6 d.toNat ++ be 6 s.toNat)) = some (be 6 d.toNat ++ be 6 s.toNat ++ be 2 t.toNat) := by
    simp [putS, puts, put1, fits2 ht ht2]
  rw [e] at h
  refine h.mono fun e w' ⟨he, o', hw', hm'⟩ => ?_
  obtain ⟨h1, h2⟩ := fresh_mvd (hC.trans hc (fun _ _ e => e)) hm' hpw ho
  exact ⟨he, o', hw', h1⟩
theorem enc_done (p : Nat) (d s t : Int) (w1 W : World) (h : P2 d s t p w1 W) :
    Calls Try.prog 38 #[.pointer (some ⟨p, 0, none⟩)] W fun e w' => ∃ A' k c', e = .returned (.tuple #[.slice A' k c', .int .i64 0]) ∧
      k = 14 ∧ w'.ownsRow w1.heap.size 5 1 (.slice A' k c') k (bcs (be 6 d.toNat ++ be 6 s.toNat ++ be 2 t.toNat)) ∧ Chg (fun _ => False) w1 w' := by
  obtain ⟨o, hw, hC⟩ := h
  refine (wdone_some p o _ _ W hw (by decide)).mono ?_
  rintro e w' ⟨A', k, c', rfl, hk, hown, hc⟩
  exact ⟨A', k, c', rfl, by simpa [be_len] using hk, own_base hown hC.size, hC.trans hc (fun _ _ e => e)⟩

set_option maxRecDepth 100000 in
set_option maxHeartbeats 2000000 in
theorem encode_ok (d s t : Int) (A : Option Addr) (n c : Nat) (l : List UInt8) (S : Nat → Prop) (w : World) (hn : n = l.length) (h : Rds w S A n (bcs l)) (hd : 0 ≤ d) (hs : 0 ≤ s) (hr : rightB d s t n = true) :
    Calls Try.prog 22 #[.agg #[.int .u64 d, .int .u64 s, .int .i64 t, .slice A n c]] w fun e w' => ∃ A' k c', e = .returned (.tuple #[.slice A' k c', .int .i64 0]) ∧
      k = (frameB d s t l).length ∧ (A' = none → c' = 0) ∧ Rds w' (fun k => w.heap.size ≤ k ∧ k < w'.heap.size) A' k (bcs (frameB d s t l)) ∧ Chg (fun _ => False) w w' := by
  obtain ⟨i0, hi0, hz0, hz1, hz2⟩ := info_parts infoByte
  have HN := Lib.hid hn
  have hrr := hr
  unfold rightB at hrr
  simp only [Bool.and_eq_true, decide_eq_true_eq] at hrr
  obtain ⟨⟨⟨⟨hd2, hs2⟩, ht⟩, ht2⟩, hn2⟩ := hrr
  have HR := Lib.hid hr
  have hb0 : Blk (w.alloc (.cells #[.int .u64 d, .int .u64 s, .int .i64 t, .slice A n c] 26)) w.heap.size _ _ := Blk.new _ _ _
  have HB0 := Lib.hid hb0
  clear hn hr hb0
  go_enter Try.func22, Try.ntmps22
  go_wp2_with fail
  refine (right_any d s t A n c _ hd hs (by omega)).mono ?_
  rw [HR.out]
  rintro e w1 ⟨rfl, hc1⟩
  have hb1 := HB0.out.chg hc1 id
  obtain ⟨x0, x1, x2⟩ := box_cells hb1 (Chg.refl _ w1)
  have hzz := hc1.size
  have wd : IntKind.i64.wrap d = d := IntWalk.i64_in _ (by omega)
  have ws : IntKind.i64.wrap s = s := IntWalk.i64_in _ (by omega)
  go_upto_region 3 with fail
  go_cut [4, 5] (fun s4 s5 wx => s5 = .int .i64 0 ∧ ∃ A' k c', s4 = .slice A' k c' ∧ k = 14 ∧ wx.ownsRow w1.heap.size 5 1 (.slice A' k c') k (bcs (be 6 d.toNat ++ be 6 s.toNat ++ be 2 t.toNat)) ∧ Chg (fun _ => False) w1 wx)
  case first =>
    go_region_held3 (fun w' => w'.cell? ⟨w.heap.size, 0, none⟩ = some (.int .u64 d) ∧ w'.cell? ⟨w.heap.size, 1, none⟩ = some (.int .u64 s) ∧ w'.cell? ⟨w.heap.size, 2, none⟩ = some (.int .i64 t))
      (first | exact ⟨x0, x1, x2⟩ | exact box_cells hb1 (((Chg.refl _ _).alloc _).drew) | exact box_cells hb1 (((Chg.refl _ _).alloc _).alloc _).drew | exact box_cells hb1 ((((Chg.refl _ _).alloc _).alloc _).alloc _).drew | exact box_cells hb1 h1.chg | exact box_cells hb1 (h1.chg.alloc _) | exact box_cells hb1 h2.chg | exact box_cells hb1 h3)
      (first
        | (go_at_call 37; (with_reducible refine (enc_put2 _ _ d s t w1 _ w4 _ ht ht2 h1 (by first | exact Chg.refl _ _ | exact (Chg.refl _ _).alloc _) (by first | exact blk_new rfl | exact h1.keep (by first | exact (blk_new (by first | rfl | (simp; done) | (simp; omega))).drew | exact ((blk_new (by first | rfl | (simp; done) | (simp; omega))).alloc _).drew | exact (((blk_new (by first | rfl | (simp; done) | (simp; omega))).alloc _).alloc _).drew))).mono ?_); rintro e w5 ⟨rfl, h2⟩)
        | (go_at_call 38; (with_reducible refine (enc_done _ d s t w1 _ h2).mono ?_); rintro e w6 ⟨A', k, c', rfl, rfl, hown, h3⟩)
        | (go_at_call 37; (with_reducible refine (enc_put1 _ _ d s w1 _ hd hd2 hs hs2 (by first | exact ((Chg.refl _ _).alloc _).drew | exact (((Chg.refl _ _).alloc _).alloc _).drew | exact ((((Chg.refl _ _).alloc _).alloc _).alloc _).drew) (by first | omega | (simp; done) | (simp; omega)) (by first | exact (blk_new (by first | rfl | (simp; done) | (simp; omega))).drew | exact ((blk_new (by first | rfl | (simp; done) | (simp; omega))).alloc _).drew | exact (((blk_new (by first | rfl | (simp; done) | (simp; omega))).alloc _).alloc _).drew) (by first | exact (blk_new (by first | rfl | (simp; done) | (simp; omega))).drew | exact ((blk_new (by first | rfl | (simp; done) | (simp; omega))).alloc _).drew | exact (((blk_new (by first | rfl | (simp; done) | (simp; omega))).alloc _).alloc _).drew)).mono ?_); rintro e w4 ⟨rfl, h1⟩))
    all_goals
      go_wp2_with fail
      go_meet
      exact ⟨rfl, A', 14, c', rfl, rfl, hown, h3⟩
  case rest =>
    obtain ⟨rfl, A', k, c', rfl, rfl, hown, hC⟩ := hcut
    have hc0 := (((Chg.refl (fun _ => False) w).alloc (.cells #[.int .u64 d, .int .u64 s, .int .i64 t, .slice A n c] 26)).trans hc1 (fun _ _ e => e)).trans hC (fun _ _ e => e)
    have hb2 := hb1.chg hC id
    have y3 := hb2.cell 3
    simp only [List.getElem?_toArray, List.getElem?_cons_zero, List.getElem?_cons_succ] at y3
    have hl := h.chg hc0 (fun _ _ => id)
    have hsz := hC.size
    have HC0 := Lib.hid hc0
    have HC := Lib.hid hC
    clear hb2 hc0 hC x0 x1 x2 hb1 h
    go_wp2_with (at_builtin; go_loud (refine wpList_own_append _ rfl (.tmp 27) (.tmp 29) 24 rfl _ 5 i0 (.int .u8 0) 1 Try.underlying24 hi0 hz0 hz1 hz2 rfl (.slice A' 14 c') 14 _ rfl hown _ A n c _ rfl hl (bcs_one _) (by unfold maxLen; omega) (by omega) hsz ?_; intro v6 w6 hown6 hg6 hat6; obtain ⟨D6, dc6, rfl, _, _⟩ := own_form hown6; have hC6 := grown_fresh HC.out hg6 hown (Nat.le_refl _); have HO6 := Lib.hid hown6; have HC6 := Lib.hid hC6; clear hown6 hC6 hg6 hat6 hown hsz hl y3))
    go_ret2
    have hz0 : (w.alloc (.cells #[.int .u64 d, .int .u64 s, .int .i64 t, .slice A n c] 26)).heap.size = w.heap.size + 1 := by simp
    have e : bcs (frameB d s t l) = bcs (be 6 d.toNat ++ be 6 s.toNat ++ be 2 t.toNat) ++ bcs l := by
      unfold frameB
      simp only [bcs_app, List.append_assoc]
    refine ⟨D6, _, dc6, rfl, ?_, own_nil HO6.out, ?_, ?_⟩
    · have := HN.out
      unfold frameB
      simp only [List.length_append, be_len]
      omega
    · rw [e]
      exact (own_rds2 HO6.out).mono (fun k hk => ⟨by omega, hk.2⟩)
    · exact (((Chg.refl (fun _ => False) w).alloc (.cells #[.int .u64 d, .int .u64 s, .int .i64 t, .slice A n c] 26)).trans hc1 (fun _ _ e => e)).trans HC6.out (fun _ _ e => e)

end Go.Proofs.Ytacbgelbffmngaa
