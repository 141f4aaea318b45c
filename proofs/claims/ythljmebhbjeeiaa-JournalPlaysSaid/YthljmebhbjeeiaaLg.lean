/-
  Walks: rutterlaw07.alive, Fits. Conditions: the acts are read in memory.
-/
import Derived.Test.YthljmebhbjeeiaaLf
namespace Go.Proofs.Ythljmebhbjeeiaa
open Go.RowKit
set_option linter.unusedVariables false
set_option linter.unusedSimpArgs false

/-- One file of a walk that began in W: nothing of W has turned. -/
def DA (W : World) (p : Nat) (bs : List UInt8) (s r : Nat) (w : World) : Prop :=
  Chg (fun _ => False) W w ∧ W.heap.size ≤ p ∧ ∃ o, Fi 59 w p o bs s r ∧ ∀ k, o = some k → W.heap.size ≤ k
section
variable {W w w' : World} {p : Nat} {bs bs1 : List UInt8} {s s1 r : Nat} {o o' : Option Nat}
theorem DA.new (h : DA W p bs s r w) (hc : Chg (fun _ => False) w w') : DA W p bs s r w' := by
  obtain ⟨h1, h2, o, h3, h4⟩ := h
  exact ⟨h1.trans hc (fun _ _ e => e), h2, o, h3.chg hc id (fun _ _ => id), h4⟩
theorem da_set (h1 : Chg (fun _ => False) W w) (h2 : W.heap.size ≤ p) (h4 : ∀ k, o = some k → W.heap.size ≤ k) (hf : Fi 59 w' p o' bs1 s1 r) (hm : Mvd p o o' w w') : DA W p bs1 s1 r w' := by
  obtain ⟨h5, h6⟩ := fresh_mvd h1 hm h2 h4
  exact ⟨h5, h2, o', hf, h6⟩
theorem da_add (h : DA W p bs s r w) (b : List UInt8) (q c' : Nat) (B : Option Addr) (S : Nat → Prop) (hq : q = b.length) (hr : Rds w S B q (bcs b)) (hbr : bs.length ≤ r) (hr24 : r ≤ 16777216) (hqm : q ≤ 9223372036854775807) :
    Calls Try.prog 31 #[.pointer (some ⟨p, 0, none⟩), .slice B q c'] w fun e w' => e = .returned (.int .i64 (addE r bs b)) ∧ DA W p (addB r bs b) s r w' := by
  obtain ⟨h1, h2, o, h3, h4⟩ := h
  refine (dadd_any p o bs b s r q c' B S w h3 hq hr hbr hr24 hqm).mono ?_
  rintro e w' ⟨rfl, o', hf, hm⟩
  exact ⟨rfl, da_set h1 h2 h4 hf hm⟩
theorem da_sync (h : DA W p bs s r w) : Calls Try.prog 29 #[.pointer (some ⟨p, 0, none⟩)] w fun e w' => e = .returned (.int .i64 (bs.length : Int)) ∧ DA W p bs bs.length r w' := by
  obtain ⟨h1, h2, o, h3, h4⟩ := h
  refine (dsync_any p o bs s r w h3).mono ?_
  rintro e w' ⟨rfl, hf, hm⟩
  exact ⟨rfl, da_set h1 h2 h4 hf hm⟩
theorem da_cut (h : DA W p bs s r w) (n : Int) (hbr : bs.length ≤ r) (hr24 : r ≤ 16777216) :
    Calls Try.prog 27 #[.pointer (some ⟨p, 0, none⟩), .int .i64 n] w fun e w' => e = .returned (.int .i64 (cutE bs n)) ∧ DA W p (cutB bs n) (cutS bs s n) r w' := by
  obtain ⟨h1, h2, o, h3, h4⟩ := h
  refine (dcut_any p o bs s r n w h3 hbr hr24).mono ?_
  rintro e w' ⟨rfl, hf, hm⟩
  exact ⟨rfl, da_set h1 h2 h4 hf hm⟩
theorem da_crash (h : DA W p bs s r w) (keep : Int) (hs : s ≤ bs.length) (hbr : bs.length ≤ r) (hr24 : r ≤ 16777216) :
    Calls Try.prog 13 #[.pointer (some ⟨p, 0, none⟩), .int .i64 keep] w fun e w' => e = .returned (.int .i64 ((bs.length : Int) - (crN bs s keep : Int))) ∧ DA W p (bs.take (crN bs s keep)) (crN bs s keep) r w' := by
  obtain ⟨h1, h2, o, h3, h4⟩ := h
  refine (dcrash_any p o bs s r keep w h3 hs hbr hr24).mono ?_
  rintro e w' ⟨rfl, hf, hm⟩
  exact ⟨rfl, da_set h1 h2 h4 hf hm⟩
theorem da_safe (h : DA W p bs s r w) : Calls Try.prog 20 #[.pointer (some ⟨p, 0, none⟩)] w fun e w' => e = .returned (.int .i64 (s : Int)) ∧ w = w' := by
  obtain ⟨h1, h2, o, h3, h4⟩ := h
  exact dsafe_any p o bs s r w h3
theorem da_bytes (h : DA W p bs s r w) (hbr : bs.length ≤ r) (hr24 : r ≤ 16777216) :
    Calls Try.prog 19 #[.pointer (some ⟨p, 0, none⟩)] w fun e w' => ∃ A' c', e = .returned (.slice A' bs.length c') ∧ Rds w' (fun k => w.heap.size ≤ k ∧ k < w'.heap.size) A' bs.length (bcs bs) ∧ bs.length ≤ c' ∧ c' ≤ maxLen ∧ Chg (fun _ => False) w w' := by
  obtain ⟨h1, h2, o, h3, h4⟩ := h
  refine (dbytes_any p o bs s r w h3 hbr hr24).mono ?_
  rintro e w' ⟨A, c, rfl, hown, hc⟩
  exact ⟨A, c, rfl, own_rds2 hown, (own_cap hown).1, (own_cap hown).2, hc⟩
theorem da_new (r : Nat) (h : r ≤ 16777216) : Calls Try.prog 8 #[.int .i64 (r : Int)] W fun e w' => e = .returned (.tuple #[.pointer (some ⟨W.heap.size, 0, none⟩), .int .i64 0]) ∧ DA W W.heap.size [] 0 r w' := by
  refine (new7_ok r W h).mono ?_
  rintro e w' ⟨rfl, hf, _, hc⟩
  exact ⟨rfl, hc, Nat.le_refl _, none, hf, fun k hk => by cases hk⟩
end

theorem ret_b7 {a b : Bool} (h : a = b) : Ending.returned (.bool a) = .returned (.bool b) := by rw [h]

/-- An act as it is read. -/
structure At7 where
  k : Int
  BA : Option Addr
  bq : Nat
  bc : Nat
  b : List UInt8
  n : Int
/-- A slice of m acts, of three cells each, each one's bytes too. -/
def AR7 (w : World) (S : Nat → Prop) (L : Option Addr) (m : Nat) (l : List At7) : Prop :=
  m = l.length ∧ (0 < m → ∃ ad, L = some ad ∧ S ad.block ∧ ad.block < w.heap.size ∧ ∀ (i : Nat) (x : At7), l[i]? = some x →
    w.cell? (ad.add (i * 3)) = some (.int .u8 x.k) ∧ w.cell? (ad.add (i * 3 + 1)) = some (.slice x.BA x.bq x.bc) ∧ w.cell? (ad.add (i * 3 + 2)) = some (.int .i64 x.n) ∧
    (0 ≤ x.k ∧ x.k ≤ 255) ∧ x.bq = x.b.length ∧ x.bq ≤ 9223372036854775807 ∧ Rds w S x.BA x.bq (bcs x.b))
section
variable {w w' : World} {S S' : Nat → Prop} {L : Option Addr} {m : Nat} {l : List At7}
theorem AR7.chg (h : AR7 w S L m l) (hc : Chg S' w w') (hd : ∀ k, S k → ¬ S' k) : AR7 w' S L m l := by
  refine ⟨h.1, fun hm => ?_⟩
  obtain ⟨ad, e, hs, hb, hcell⟩ := h.2 hm
  refine ⟨ad, e, hs, Nat.lt_of_lt_of_le hb hc.size, fun i x hi => ?_⟩
  obtain ⟨h1, h2, h3, h4, h5, h6, h7⟩ := hcell i x hi
  have e1 : ∀ j, w'.cell? (ad.add j) = w.cell? (ad.add j) := fun j => World.cell?_of_block (w := w) (w' := w') (by rw [block_add]; exact hc.block _ hb (hd _ hs))
  rw [e1, e1, e1]
  exact ⟨h1, h2, h3, h4, h5, h6, h7.chg hc hd⟩
/-- The cells of an act, as the walk spells them. -/
theorem AR7.at {ad : Addr} {i : Nat} {x : At7} (h : AR7 w S (some ad) m l) (hi : l[i]? = some x) :
    w.cell? (ad.add (i * 3)) = some (.int .u8 x.k) ∧ w.cell? ⟨(ad.add (i * 3)).block, (ad.add (i * 3)).off + 1, none⟩ = some (.slice x.BA x.bq x.bc) ∧ w.cell? ⟨(ad.add (i * 3)).block, (ad.add (i * 3)).off + 2, none⟩ = some (.int .i64 x.n) ∧
    (0 ≤ x.k ∧ x.k ≤ 255) ∧ x.bq = x.b.length ∧ x.bq ≤ 9223372036854775807 ∧ Rds w S x.BA x.bq (bcs x.b) := by
  have hl : i < l.length := (List.getElem?_eq_some_iff.1 hi).1
  obtain ⟨ad', e, _, _, hc⟩ := h.2 (by have := h.1; omega)
  injection e with e
  subst e
  have h2 := hc i x hi
  rw [← off_add, ← off_add] at h2
  exact h2
end

/-- What Fits tells. -/
def FitsP7 (l : List At7) (w : World) (e : Ending) (w' : World) : Prop := ∃ r : Bool, e = .returned (.bool r) ∧ (r = true → ∀ (i : Nat) (x : At7), l[i]? = some x → x.bq ≤ 3000) ∧ w = w'

end Go.Proofs.Ythljmebhbjeeiaa
