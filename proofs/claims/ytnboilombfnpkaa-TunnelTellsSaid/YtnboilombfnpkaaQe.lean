/-
  A packet's bytes. Walk: tunnel.Encode. Conditions: the frame is read in memory.
-/
import Derived.Test.YtnboilombfnpkaaQd
import Derived.Test.YtnboilombfnpkaaCh
import Derived.Test.YtnboilombfnpkaaWd
import Derived.Test.YtnboilombfnpkaaSpb
import Derived.Deep.RegionHeld3
namespace Go.Proofs.Ytnboilombfnpkaa
open Go.RowKit
set_option linter.unusedVariables false

/-- A packet's bytes. -/
def pkB (k o f t p g i : Int) (l : List UInt8) : List UInt8 := be 1 1 ++ (be 1 k.toNat ++ (be 1 o.toNat ++ (be 1 f.toNat ++ (be 1 t.toNat ++ (be 1 p.toNat ++ (be 5 g.toNat ++ (be 6 i.toNat ++ (be 2 l.length ++ l))))))))
theorem pkB_len (k o f t p g i : Int) (l : List UInt8) : (pkB k o f t p g i l).length = 19 + l.length := by
  unfold pkB
  simp only [List.length_append, be_len]
  omega
theorem fits_w (n : Nat) {x : Int} (h : 0 ≤ x) (h2 : x < 256 ^ n) : fits n x = true := by
  unfold fits
  simp only [Bool.and_eq_true, decide_eq_true_eq]
  exact ⟨h, h2⟩
theorem pk_state {k o f t p g i : Int} {l : List UInt8} (h : pkR k o f t p g i l.length = true) :
    bytesS l (putS 6 [i] (putS 5 [g] (putS 1 [1, k, o, f, t, p] (some [])))) = some (pkB k o f t p g i l) := by
  obtain ⟨hk, ho, hf, ht, hp, hg, hi, hn, _⟩ := pkR_parts h
  have e1 : fits 1 1 = true := fits_w 1 (by decide) (by decide)
  have e2 : fits 1 k = true := fits_w 1 (by omega) (by omega)
  have e3 : fits 1 o = true := fits_w 1 (by omega) (by omega)
  have e4 : fits 1 f = true := fits_w 1 (by omega) (by omega)
  have e5 : fits 1 t = true := fits_w 1 (by omega) (by omega)
  have e6 : fits 1 p = true := fits_w 1 (by omega) (by omega)
  have e7 : fits 5 g = true := fits_w 5 (by omega) (by omega)
  have e8 : fits 6 i = true := fits_w 6 (by omega) (by omega)
  have e9 : fits 2 (l.length : Int) = true := fits_w 2 (by omega) (by omega)
  simp [bytesS, putS, puts, put1, e1, e2, e3, e4, e5, e6, e7, e8, e9, pkB]
/-- What a call that makes bytes hands back, in letters: the bytes, the error's number. -/
def Mk5 (m : List UInt8) (x : Int) (w : World) (e : Ending) (w' : World) : Prop :=
  ∃ A c, e = .returned (.tuple #[.slice A m.length c, .int .i64 x]) ∧ w'.ownsRow w.heap.size 5 1 (.slice A m.length c) m.length (bcs m) ∧ Chg (fun _ => False) w w'
theorem mk5_no {w w' : World} {e : Ending} (h : e = .returned (.tuple #[.slice none 0 0, .int .i64 1]) ∧ Chg (fun _ => False) w w') : Mk5 [] 1 w e w' :=
  ⟨none, 0, h.1, World.ownsRow_nil _ _ _ _, h.2⟩
theorem wat_bytes5 (p N : Nat) (st : Option (List UInt8)) (A : Option Addr) (n c : Nat) (l : List UInt8) (S : Nat → Prop) (w0 w1 W : World) (hN : N + 8 + n ≤ 1000000) (h : Wat w1 p st N W) (hn : n = l.length) (hr : Rds w0 S A n (bcs l)) (h01 : Chg (fun _ => False) w0 w1) :
    Calls Try.prog 24 #[.pointer (some ⟨p, 0, none⟩), .slice A n c] W fun e w' => e = .returned (.pointer (some ⟨p, 0, none⟩)) ∧ Wat w1 p (bytesS l st) (N + 8 + n) w' := by
  obtain ⟨o, hw, hC, hp, ho⟩ := h
  have hr2 := hr.old.chg (h01.trans hC (fun _ _ e => e)) (fun _ _ => id)
  have hs := h01.size
  refine (wbytes_any p o st N A n c l _ W hw hn hr2 (fun k hk => ⟨by have := hk.2; omega, fun e => by have := ho k e; have := hk.2; omega⟩) (by omega)).mono fun e w' ⟨he, o', hw', hm⟩ => ?_
  obtain ⟨h1, h2⟩ := fresh_mvd hC hm hp ho
  exact ⟨he, o', hw', h1, hp, h2⟩
theorem wat_done5 (p N : Nat) (b : List UInt8) (w1 W : World) (hN : N ≤ 1000000) (h : Wat w1 p (some b) N W) :
    Calls Try.prog 25 #[.pointer (some ⟨p, 0, none⟩)] W fun e w' => ∃ A c, e = .returned (.tuple #[.slice A b.length c, .int .i64 0]) ∧ w'.ownsRow w1.heap.size 5 1 (.slice A b.length c) b.length (bcs b) ∧ Chg (fun _ => False) w1 w' := by
  obtain ⟨o, hw, hC, _, _⟩ := h
  refine (wdone_some p o b N W hw (by omega)).mono ?_
  rintro e w' ⟨A', k, c', rfl, rfl, hown, hc⟩
  exact ⟨A', c', rfl, own_base hown hC.size, hC.trans hc (fun _ _ e => e)⟩

set_option maxHeartbeats 1000000 in
theorem tenc_bad (k o f t p g i : Int) (A : Option Addr) (n c : Nat) (w : World) (hn : n ≤ 9223372036854775807) (hr : pkR k o f t p g i n = false) :
    Calls Try.prog 14 #[.agg (pkC k o f t p g i A n c)] w fun e w' => e = .returned (.tuple #[.slice none 0 0, .int .i64 1]) ∧ Chg (fun _ => False) w w' := by
  have HC0 := Lib.hid ((Chg.refl (fun _ => False) w).alloc (.cells #[.int .i64 k, .int .i64 o, .int .i64 f, .int .i64 t, .int .i64 p, .int .i64 g, .int .i64 i, .slice A n c] 25))
  have hrt := fun W => tright_any k o f t p g i A n c W hn
  rw [hr] at hrt
  have HRT := Lib.hid hrt
  clear hr hrt
  unfold pkC at HRT ⊢
  go_enter Try.func14, Try.ntmps14
  go_wp2_with fail
  refine (HRT.out _).mono ?_
  rintro e w1 ⟨rfl, hc1⟩
  go_wp2_with fail
  go_ret2
  exact ⟨rfl, HC0.out.trans hc1 (fun _ _ e => e)⟩

set_option maxRecDepth 100000 in
set_option maxHeartbeats 4000000 in
theorem tenc_ok (k o f t p g i : Int) (A : Option Addr) (n c : Nat) (l : List UInt8) (S : Nat → Prop) (w : World) (hl : n = l.length) (h : Rds w S A n (bcs l)) (hr : pkR k o f t p g i n = true) :
    Calls Try.prog 14 #[.agg (pkC k o f t p g i A n c)] w (Mk5 (pkB k o f t p g i l) 0 w) := by
  have hn : n ≤ 9223372036854775807 := by have := (pkR_parts hr).2.2.2.2.2.2.2.1; omega
  have hC0 := (Chg.refl (fun _ => False) w).alloc (.cells #[.int .i64 k, .int .i64 o, .int .i64 f, .int .i64 t, .int .i64 p, .int .i64 g, .int .i64 i, .slice A n c] 25)
  have hQ0 : Blk (w.alloc (.cells #[.int .i64 k, .int .i64 o, .int .i64 f, .int .i64 t, .int .i64 p, .int .i64 g, .int .i64 i, .slice A n c] 25)) w.heap.size 25 (pkC k o f t p g i A n c) := blk_new rfl
  have hrt := fun W => tright_any k o f t p g i A n c W hn
  obtain ⟨hk, ho, hf, ht, hp, hg, hi, hn2, _⟩ := pkR_parts hr
  have HST := Lib.hid (pk_state (l := l) (by rw [← hl]; exact hr))
  rw [hr] at hrt
  have HRT := Lib.hid hrt
  have HC0 := Lib.hid hC0
  have HQ0 := Lib.hid hQ0
  have HL := Lib.hid hl
  have HH := Lib.hid h
  have HGG := Lib.hid (show -9223372036854775808 ≤ g ∧ g ≤ 9223372036854775807 by omega)
  have HII := Lib.hid (show -9223372036854775808 ≤ i ∧ i ≤ 9223372036854775807 by omega)
  have HALL := Lib.hid (show ∀ x ∈ [1, k, o, f, t, p], -9223372036854775808 ≤ x ∧ x ≤ 9223372036854775807 by
    intro x hx
    simp only [List.mem_cons, List.not_mem_nil, or_false] at hx
    rcases hx with rfl | rfl | rfl | rfl | rfl | rfl <;> omega)
  have HN2 := Lib.hid hn2
  clear hr hrt hC0 hQ0 hl h hk ho hf ht hp hg hi hn2
  unfold pkC at HRT ⊢
  go_enter Try.func14, Try.ntmps14
  go_wp2_with fail
  refine (HRT.out _).mono ?_
  rintro e w1 ⟨rfl, hc1⟩
  have HQ1 := Lib.hid (HQ0.out.chg hc1 id)
  have HC1 := Lib.hid (HC0.out.trans hc1 (fun _ _ e => e))
  have HKEEP := Lib.hid (fun (W : World) (hw : Chg (fun _ => False) w1 W) => (show W.cell? ⟨w.heap.size, 5, none⟩ = some (.int .i64 g) ∧ W.cell? ⟨w.heap.size, 6, none⟩ = some (.int .i64 i) ∧ W.cell? ⟨w.heap.size, 7, none⟩ = some (.slice A n c) from (pk_kept HQ1.out hw).2.2.2.2.2))
  obtain ⟨y0, y1, y2, y3, y4, _⟩ := pk_kept HQ1.out ((Chg.refl (fun _ => False) w1).alloc (.cells #[.slice none 0 0, .bool false] 46))
  have HPUT := Lib.hid (wat_put w1.heap.size (w1.heap.size + 1) 0 1 [1, k, o, f, t, p] (some []) w1 ((w1.alloc (.cells #[.slice none 0 0, .bool false] 46)).alloc (.cells #[.int .i64 1, .int .i64 k, .int .i64 o, .int .i64 f, .int .i64 t, .int .i64 p] 3)) ((Wat.start ((Chg.refl _ _).alloc _) (Nat.le_refl _) (blk_new rfl)).alloc _) (blk_new (by simp)) HALL.out (by simp))
  clear HRT hc1 HC0 HQ0 HALL
  go_wp2_with fail
  refine HPUT.out.mono ?_
  rintro e w2 ⟨rfl, hw2, _⟩
  have hw2 : Wat w1 w1.heap.size (putS 1 [1, k, o, f, t, p] (some [])) 48 w2 := hw2
  have HW2 := Lib.hid hw2
  have HX := Lib.hid hw2.was
  clear hw2 HPUT y0 y1 y2 y3 y4
  generalize hpp : w1.heap.size = pp at *
  have HPP := Lib.hid hpp
  clear hpp
  go_wp2_with fail
  go_region_held3 (fun w' => w'.cell? ⟨w.heap.size, 5, none⟩ = some (.int .i64 g) ∧ w'.cell? ⟨w.heap.size, 6, none⟩ = some (.int .i64 i) ∧ w'.cell? ⟨w.heap.size, 7, none⟩ = some (.slice A n c))
    (first | with_reducible exact HKEEP.out _ HX.out | with_reducible exact HKEEP.out _ HX.out.drew | with_reducible exact HKEEP.out _ (HX.out.alloc _) | with_reducible exact HKEEP.out _ (HX.out.alloc _).drew | with_reducible exact HKEEP.out _ ((HX.out.alloc _).alloc _).drew | fail)
    (first
      | (go_at_call 23; (with_reducible refine (wat_one pp _ 48 5 g _ w1 _ HGG.out (by decide) (by first | with_reducible exact (HW2.out.alloc _).drew | with_reducible exact ((HW2.out.alloc _).alloc _).drew) (by first | with_reducible exact (blk_new rfl).drew | with_reducible exact ((blk_new rfl).alloc _).drew | exact (blk_new (by simp)).drew)).mono ?_); rintro e w4 ⟨rfl, hw4, hk4⟩; have HW4 := Lib.hid hw4; have HK4 := Lib.hid hk4; have HX := Lib.hid hw4.was; clear hw4 hk4)
      | (go_at_call 23; (with_reducible refine (wat_one pp _ 56 6 i _ w1 _ HII.out (by decide) (by first | with_reducible exact HW4.out | with_reducible exact HW4.out.alloc _) (by first | with_reducible exact blk_new rfl | with_reducible exact HK4.out.blk ((blk_new rfl).alloc _).drew | exact HK4.out.blk (blk_new (by simp)).drew)).mono ?_); rintro e w5 ⟨rfl, hw5, _⟩; have HW5 := Lib.hid hw5; have HX := Lib.hid hw5.was; clear hw5)
      | (go_at_call 24; (with_reducible refine (wat_bytes5 pp 64 _ A n c l S w w1 _ (by have := HN2.out; omega) HW5.out HL.out HH.out HC1.out).mono ?_); rintro e w6 ⟨rfl, hw6⟩; have HW6 := Lib.hid (HST.out ▸ hw6); have HX := Lib.hid hw6.was; clear hw6)
      | (go_at_call 25; (with_reducible refine (wat_done5 pp _ _ w1 _ (by have := HN2.out; omega) HW6.out).mono ?_); rintro e w7 ⟨D, dc, rfl, hown7, hc7⟩; have HO7 := Lib.hid hown7; have HX := Lib.hid hc7; clear hown7 hc7)
      | fail)
  all_goals
    go_wp2_with fail
    go_ret2
    exact ⟨D, dc, rfl, own_base HO7.out HC1.out.size, HC1.out.trans HX.out (fun _ _ e => e)⟩

end Go.Proofs.Ytnboilombfnpkaa
