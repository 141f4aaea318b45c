/-
  A packet's bytes. Walk: tunnel.Encode. Conditions: the frame is read in memory.
-/
import Derived.Test.YtbbjecjhkjjbkaaQd
import Derived.Test.YtbbjecjhkjjbkaaCh
import Derived.Test.YtbbjecjhkjjbkaaWd
import Derived.Test.YtbbjecjhkjjbkaaSpb
import Derived.Deep.RegionHeld3
namespace Go.Proofs.Ytbbjecjhkjjbkaa
open Go.RowKit
set_option linter.unusedVariables false

/-- A packet's bytes. -/
def pkB (k o f t p g i : Int) (l : List UInt8) : List UInt8 := be 1 1 ++ (be 1 k.toNat ++ (be 1 o.toNat ++ (be 1 f.toNat ++ (be 1 t.toNat ++ (be 1 p.toNat ++ (be 5 g.toNat ++ (be 6 i.toNat ++ (be 2 l.length ++ l))))))))
theorem pkB_len (k o f t p g i : Int) (l : List UInt8) : (pkB k o f t p g i l).length = 19 + l.length := by
  unfold pkB
  simp only [List.length_append, be_len]
  omega
theorem fits_w (n : Nat) {x : Int} (h : 0 ≤ x) (h2 : x < 256 ^ n) : fits n x = true := by
  unfold fits
  simp only [Bool.and_eq_true, decide_eq_true_eq]
  exact ⟨h, h2⟩
theorem pk_state {k o f t p g i : Int} {l : List UInt8} (h : pkR k o f t p g i l.length = true) :
    bytesS l (putS 6 [i] (putS 5 [g] (putS 1 [1, k, o, f, t, p] (some [])))) = some (pkB k o f t p g i l) := by
  obtain ⟨hk, ho, hf, ht, hp, hg, hi, hn, _⟩ := pkR_parts h
  have e1 : fits 1 1 = true := fits_w 1 (by decide) (by decide)
  have e2 : fits 1 k = true := fits_w 1 (by omega) (by omega)
  have e3 : fits 1 o = true := fits_w 1 (by omega) (by omega)
  have e4 : fits 1 f = true := fits_w 1 (by omega) (by omega)
  have e5 : fits 1 t = true := fits_w 1 (by omega) (by omega)
  have e6 : fits 1 p = true := fits_w 1 (by omega) (by omega)
  have e7 : fits 5 g = true := fits_w 5 (by omega) (by omega)
  have e8 : fits 6 i = true := fits_w 6 (by omega) (by omega)
  have e9 : fits 2 (l.length : Int) = true := fits_w 2 (by omega) (by omega)
  simp [bytesS, putS, puts, put1, e1, e2, e3, e4, e5, e6, e7, e8, e9, pkB]
/-- What a call that makes bytes hands back, in letters: the bytes, the error's number. -/
def Mk5 (m : List UInt8) (x : Int) (w : World) (e : Ending) (w' : World) : Prop :=
  ∃ A c, e = .returned (.tuple #[.slice A m.length c, .int .i64 x]) ∧ w'.ownsRow w.heap.size 5 1 (.slice A m.length c) m.length (bcs m) ∧ Chg (fun _ => False) w w'
theorem mk5_no {w w' : World} {e : Ending} (h : e = .returned (.tuple #[.slice none 0 0, .int .i64 1]) ∧ Chg (fun _ => False) w w') : Mk5 [] 1 w e w' :=
  ⟨none, 0, h.1, World.ownsRow_nil _ _ _ _, h.2⟩
theorem wat_bytes5 (p N : Nat) (st : Option (List UInt8)) (A : Option Addr) (n c : Nat) (l : List UInt8) (S : Nat → Prop) (w0 w1 W : World) (hN : N + 8 + n ≤ 1000000) (h : Wat w1 p st N W) (hn : n = l.length) (hr : Rds w0 S A n (bcs l)) (h01 : Chg (fun _ => False) w0 w1) :
    Calls Try.prog 28 #[.pointer (some ⟨p, 0, none⟩), .slice A n c] W fun e w' => e = .returned (.pointer (some ⟨p, 0, none⟩)) ∧ Wat w1 p (bytesS l st) (N + 8 + n) w' := by
  obtain ⟨o, hw, hC, hp, ho⟩ := h
  have hr2 := hr.old.chg (h01.trans hC (fun _ _ e => e)) (fun _ _ => id)
  have hs := h01.size
  refine (wbytes_any p o st N A n c l _ W hw hn hr2 (fun k hk => ⟨by have := hk.2; omega, fun e => by have := ho k e; have := hk.2; omega⟩) (by omega)).mono fun e w' ⟨he, o', hw', hm⟩ => ?_
  obtain ⟨h1, h2⟩ := fresh_mvd hC hm hp ho
  exact ⟨he, o', hw', h1, hp, h2⟩
theorem wat_done5 (p N : Nat) (b : List UInt8) (w1 W : World) (hN : N ≤ 1000000) (h : Wat w1 p (some b) N W) :
    Calls Try.prog 29 #[.pointer (some ⟨p, 0, none⟩)] W fun e w' => ∃ A c, e = .returned (.tuple #[.slice A b.length c, .int .i64 0]) ∧ w'.ownsRow w1.heap.size 5 1 (.slice A b.length c) b.length (bcs b) ∧ Chg (fun _ => False) w1 w' := by
  obtain ⟨o, hw, hC, _, _⟩ := h
  refine (wdone_some p o b N W hw (by omega)).mono ?_
  rintro e w' ⟨A', k, c', rfl, rfl, hown, hc⟩
  exact ⟨A', c', rfl, own_base hown hC.size, hC.trans hc (fun _ _ e => e)⟩

end Go.Proofs.Ytbbjecjhkjjbkaa
