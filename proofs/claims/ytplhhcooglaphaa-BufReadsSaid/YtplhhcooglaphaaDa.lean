/-
  Walk: rutterlaw01.BufReads, its parts: two readers and the asks under one word. Conditions: the arguments are read in memory.
-/
import Derived.Test.YtplhhcooglaphaaAl
import Derived.Test.YtplhhcooglaphaaRs
namespace Go.Proofs.Ytplhhcooglaphaa
open Go.RowKit

/-- A slice of asks: of each a kind and a number. -/
def AskR (w : World) (S : Nat → Prop) (L : Option Addr) (m : Nat) (l : List (Nat × Int)) : Prop :=
  m = l.length ∧ (0 < m → ∃ ad, L = some ad ∧ S ad.block ∧ ad.block < w.heap.size ∧
    ∀ (i k : Nat) (n : Int), l[i]? = some (k, n) → w.cell? (ad.add (i * 2)) = some (.int .u8 (k : Int)) ∧ w.cell? (ad.add (i * 2 + 1)) = some (.int .i64 n))
section
variable {w w' : World} {S S' : Nat → Prop} {L : Option Addr} {m : Nat} {l : List (Nat × Int)}
theorem AskR.chg (h : AskR w S L m l) (hc : Chg S' w w') (hd : ∀ k, S k → ¬ S' k) : AskR w' S L m l := by
  refine ⟨h.1, fun hm => ?_⟩
  obtain ⟨ad, e, hs, hb, hcell⟩ := h.2 hm
  refine ⟨ad, e, hs, Nat.lt_of_lt_of_le hb hc.size, fun i k n hi => ?_⟩
  have := hcell i k n hi
  rw [← World.cell?_of_block (w := w) (w' := w') (a := ad.add (i * 2)) (by rw [block_add]; exact hc.block _ hb (hd _ hs)),
    ← World.cell?_of_block (w := w) (w' := w') (a := ad.add (i * 2 + 1)) (by rw [block_add]; exact hc.block _ hb (hd _ hs))] at this
  exact this
end

def small (st : Option (List UInt8)) : Prop := ∀ b, st = some b → b.length ≤ 70000
theorem take_small {st : Option (List UInt8)} (h : small st) (n : Nat) : small (takeS n st).2 := by
  intro b hb
  unfold takeS at hb
  split at hb
  · cases hb
  · rename_i c
    have := h c rfl
    split at hb
    · injection hb with hb
      subst hb
      rw [List.length_drop]
      omega
    · cases hb
theorem get_small {st : Option (List UInt8)} (h : small st) (n : Int) : small (getS n st).2 := by
  intro b hb
  unfold getS at hb
  split at hb
  · cases hb
  · rename_i c
    have := h c rfl
    split at hb
    · injection hb with hb
      subst hb
      rw [List.length_drop]
      omega
    · cases hb
theorem bytes_small {st : Option (List UInt8)} (h : small st) (n : Int) : small (bytesR n st).2 := by
  unfold bytesR
  split
  · intro b hb
    cases hb
  · exact take_small (get_small h 2) _
theorem rest_small {st : Option (List UInt8)} (h : small st) : small (restS st).2 := by
  intro b hb
  unfold restS at hb
  split at hb
  · cases hb
  · injection hb with hb
    subst hb
    exact Nat.zero_le _

/-- The world of a walk that began in W: nothing of W has turned, the asks read as they did; the two readers are in the states s1, s2. -/
structure DD (W : World) (L : Option Addr) (m : Nat) (l : List (Nat × Int)) (p1 p2 : Nat) (s1 s2 : Option (List UInt8)) (w : World) : Prop where
  chg : Chg (fun _ => False) W w
  asks : AskR w (fun k => k < W.heap.size) L m l
  lo : W.heap.size ≤ p1
  r1 : Rd 61 true w p1 (fun k => W.heap.size ≤ k ∧ k < p1) s1
  r2 : Rd 47 false w p2 (fun k => p1 < k ∧ k < p2) s2
  o12 : p1 < p2
  sm : small s2
section
variable {W w w' : World} {L : Option Addr} {m : Nat} {l : List (Nat × Int)} {p1 p2 : Nat} {s1 s2 s' : Option (List UInt8)}
theorem DD.drew (h : DD W L m l p1 p2 s1 s2 w) : DD W L m l p1 p2 s1 s2 w.drew := ⟨h.chg.drew, h.asks, h.lo, h.r1, h.r2, h.o12, h.sm⟩
theorem DD.set1 (h : DD W L m l p1 p2 s1 s2 w) (hr : Rd 61 true w' p1 (fun k => W.heap.size ≤ k ∧ k < p1) s') (hc : Chg (fun k => k = p1) w w') : DD W L m l p1 p2 s' s2 w' := by
  have hlo := h.lo
  have h12 := h.o12
  exact ⟨fresh_set h.chg hc hlo, h.asks.chg hc (fun k hk => by omega), hlo, hr, h.r2.chg hc (by omega) (fun k hk => by omega), h12, h.sm⟩
theorem DD.set2 (h : DD W L m l p1 p2 s1 s2 w) (hr : Rd 47 false w' p2 (fun k => p1 < k ∧ k < p2) s') (hc : Chg (fun k => k = p2) w w') (hs : small s') : DD W L m l p1 p2 s1 s' w' := by
  have hlo := h.lo
  have h12 := h.o12
  exact ⟨fresh_set h.chg hc (by omega), h.asks.chg hc (fun k hk => by omega), hlo, h.r1.chg hc (by omega) (fun k hk => by omega), hr, h12, hs⟩
theorem DD.new (h : DD W L m l p1 p2 s1 s2 w) (hc : Chg (fun _ => False) w w') : DD W L m l p1 p2 s1 s2 w' :=
  ⟨h.chg.trans hc (fun _ _ e => e), h.asks.chg hc (fun _ _ => id), h.lo, h.r1.chg hc id (fun _ _ => id), h.r2.chg hc id (fun _ _ => id), h.o12, h.sm⟩
theorem DD.ask {ad : Addr} {i k : Nat} {n : Int} (h : DD W (some ad) m l p1 p2 s1 s2 w) (hi : l[i]? = some (k, n)) :
    w.cell? (ad.add (i * 2)) = some (.int .u8 (k : Int)) ∧ w.cell? ⟨(ad.add (i * 2)).block, (ad.add (i * 2)).off + 1, none⟩ = some (.int .i64 n) := by
  have hl : i < l.length := (List.getElem?_eq_some_iff.1 hi).1
  obtain ⟨ad', e, _, _, hc⟩ := h.asks.2 (by have := h.asks.1; omega)
  injection e with e
  subst e
  have h2 := hc i k n hi
  rw [← off_add] at h2
  exact h2

theorem dd_get1 (h : DD W L m l p1 p2 s1 s2 w) (n : Int) :
    Calls Try.prog 19 #[.pointer (some ⟨p1, 0, none⟩), .int .i64 n] w fun e w' => e = .returned (.int .i64 (getS n s1).1) ∧ DD W L m l p1 p2 (getS n s1).2 s2 w' :=
  (get_any p1 _ s1 n w h.r1).mono fun _ _ ⟨he, hr, hc⟩ => ⟨he, h.set1 hr hc⟩
theorem dd_get2 (h : DD W L m l p1 p2 s1 s2 w) (n : Int) :
    Calls Try.prog 20 #[.pointer (some ⟨p2, 0, none⟩), .int .i64 n] w fun e w' => e = .returned (.int .i64 (getS n s2).1) ∧ DD W L m l p1 p2 s1 (getS n s2).2 w' :=
  (rget_any p2 _ s2 n w h.r2).mono fun _ _ ⟨he, hr, hc⟩ => ⟨he, h.set2 hr hc (get_small h.sm n)⟩
/-- A slice of bytes that reads as s, in a world, and as long as only the second reader turns. -/
def Kept (w0 : World) (p2 : Nat) (A : Option Addr) (n : Nat) (s : List UInt8) : Prop := Rds w0 (fun k => k < w0.heap.size ∧ k ≠ p2) A n (bcs s)
theorem Kept.str {w0 : World} {A : Option Addr} {n c : Nat} {s : List UInt8} (h : Kept w0 p2 A n s) (hc : Chg (fun k => k = p2) w0 w) : (convert 26 9 (.slice A n c)).run Try.prog w = .ok (.string ⟨s.toArray⟩) w :=
  conv_str 26 9 5 Try.underlying26 Try.underlying5 Try.underlying9 (h.chg hc (fun _ hk => hk.2))
theorem dd_bytes1 (h : DD W L m l p1 p2 s1 s2 w) (n : Int) :
    Calls Try.prog 15 #[.pointer (some ⟨p1, 0, none⟩), .int .i64 n] w fun e w' => ∃ A k c, e = .returned (.slice A k c) ∧ Kept w' p2 A k (bytesR n s1).1 ∧ DD W L m l p1 p2 (bytesR n s1).2 s2 w' :=
  (rbytes_any p1 _ s1 n w h.r1).mono fun _ _ ⟨A, k, c, he, _, _, _, hs, hr, hc⟩ => ⟨A, k, c, he, hs.old.mono (fun _ hk => ⟨hk.2, by have := h.o12; omega⟩), h.set1 hr hc⟩
theorem dd_rest1 (h : DD W L m l p1 p2 s1 s2 w) :
    Calls Try.prog 17 #[.pointer (some ⟨p1, 0, none⟩)] w fun e w' => ∃ A k c, e = .returned (.slice A k c) ∧ Kept w' p2 A k (restS s1).1 ∧ DD W L m l p1 p2 (restS s1).2 s2 w' :=
  (rest_any p1 _ s1 w h.r1).mono fun _ _ ⟨A, k, c, he, _, _, _, hs, hr, hc⟩ => ⟨A, k, c, he, hs.old.mono (fun _ hk => ⟨hk.2, by have := h.o12; omega⟩), h.set1 hr hc⟩
/-- Behind the document's reader's call: what it gives, as a string; the other's slice, as before. -/
theorem dd_bytes2 (h : DD W L m l p1 p2 s1 s2 w) (n : Int) {A0 : Option Addr} {k0 c0 : Nat} {s : List UInt8} {w0 : World} (hk : Kept w0 p2 A0 k0 s) (hw : Chg (fun k => k = p2) w0 w) :
    Calls Try.prog 16 #[.pointer (some ⟨p2, 0, none⟩), .int .i64 n] w fun e w' => ∃ A k c, e = .returned (.slice A k c) ∧
      (convert 26 9 (.slice A k c)).run Try.prog w' = .ok (.string ⟨(bytesR n s2).1.toArray⟩) w' ∧ (convert 26 9 (.slice A0 k0 c0)).run Try.prog w' = .ok (.string ⟨s.toArray⟩) w' ∧ DD W L m l p1 p2 s1 (bytesR n s2).2 w' :=
  (rrbytes_any p2 _ s2 n w h.r2).mono fun _ _ ⟨A, k, c, he, _, hs, hr, hc⟩ => ⟨A, k, c, he,
    conv_str 26 9 5 Try.underlying26 Try.underlying5 Try.underlying9 hs, hk.str (hw.trans hc (fun _ _ e => e)), h.set2 hr hc (bytes_small h.sm n)⟩
theorem dd_rest2 (h : DD W L m l p1 p2 s1 s2 w) {A0 : Option Addr} {k0 c0 : Nat} {s : List UInt8} {w0 : World} (hk : Kept w0 p2 A0 k0 s) (hw : Chg (fun k => k = p2) w0 w) :
    Calls Try.prog 18 #[.pointer (some ⟨p2, 0, none⟩)] w fun e w' => ∃ A k c, e = .returned (.slice A k c) ∧
      (convert 26 9 (.slice A k c)).run Try.prog w' = .ok (.string ⟨(restS s2).1.toArray⟩) w' ∧ (convert 26 9 (.slice A0 k0 c0)).run Try.prog w' = .ok (.string ⟨s.toArray⟩) w' ∧ DD W L m l p1 p2 s1 (restS s2).2 w' :=
  (rrest_any p2 _ s2 w h.r2 (fun b hb => by have := h.sm b hb; omega)).mono fun _ _ ⟨A, k, c, he, _, hs, hr, hc⟩ => ⟨A, k, c, he,
    conv_str 26 9 5 Try.underlying26 Try.underlying5 Try.underlying9 hs, hk.str (hw.trans hc (fun _ _ e => e)), h.set2 hr hc (rest_small h.sm)⟩
theorem dd_done1 (h : DD W L m l p1 p2 s1 s2 w) :
    Calls Try.prog 21 #[.pointer (some ⟨p1, 0, none⟩)] w fun e w' => e = .returned (.int .i64 (doneS s1)) ∧ w = w' := rdone_any p1 _ s1 w h.r1
theorem dd_done2 (h : DD W L m l p1 p2 s1 s2 w) :
    Calls Try.prog 22 #[.pointer (some ⟨p2, 0, none⟩)] w fun e w' => e = .returned (.int .i64 (doneS s2)) ∧ w = w' := rrdone_any p2 _ s2 w h.r2
theorem dd_alive (h : DD W L m l p1 p2 s1 s2 w) : Calls Try.prog 7 #[] w fun e w' => e = .returned (.bool true) ∧ Chg (fun _ => False) W w' :=
  (alive_any w).mono fun _ _ ⟨he, hc⟩ => ⟨he, h.chg.trans hc (fun _ _ e => e)⟩
end

end Go.Proofs.Ytplhhcooglaphaa
