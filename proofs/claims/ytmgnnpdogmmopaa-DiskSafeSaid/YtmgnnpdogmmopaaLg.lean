/-
  Walks: rutterlaw07.alive, Fits. Conditions: the acts are read in memory.
-/
import Derived.Test.YtmgnnpdogmmopaaLf
namespace Go.Proofs.Ytmgnnpdogmmopaa
open Go.RowKit
set_option linter.unusedVariables false
set_option linter.unusedSimpArgs false

/-- One file of a walk that began in W: nothing of W has turned. -/
def DA (W : World) (p : Nat) (bs : List UInt8) (s r : Nat) (w : World) : Prop :=
  Chg (fun _ => False) W w ∧ W.heap.size ≤ p ∧ ∃ o, Fi 44 w p o bs s r ∧ ∀ k, o = some k → W.heap.size ≤ k
section
variable {W w w' : World} {p : Nat} {bs bs1 : List UInt8} {s s1 r : Nat} {o o' : Option Nat}
theorem DA.new (h : DA W p bs s r w) (hc : Chg (fun _ => False) w w') : DA W p bs s r w' := by
  obtain ⟨h1, h2, o, h3, h4⟩ := h
  exact ⟨h1.trans hc (fun _ _ e => e), h2, o, h3.chg hc id (fun _ _ => id), h4⟩
theorem da_set (h1 : Chg (fun _ => False) W w) (h2 : W.heap.size ≤ p) (h4 : ∀ k, o = some k → W.heap.size ≤ k) (hf : Fi 44 w' p o' bs1 s1 r) (hm : Mvd p o o' w w') : DA W p bs1 s1 r w' := by
  obtain ⟨h5, h6⟩ := fresh_mvd h1 hm h2 h4
  exact ⟨h5, h2, o', hf, h6⟩
theorem da_add (h : DA W p bs s r w) (b : List UInt8) (q c' : Nat) (B : Option Addr) (S : Nat → Prop) (hq : q = b.length) (hr : Rds w S B q (bcs b)) (hbr : bs.length ≤ r) (hr24 : r ≤ 16777216) (hqm : q ≤ 9223372036854775807) :
    Calls Try.prog 9 #[.pointer (some ⟨p, 0, none⟩), .slice B q c'] w fun e w' => e = .returned (.int .i64 (addE r bs b)) ∧ DA W p (addB r bs b) s r w' := by
  obtain ⟨h1, h2, o, h3, h4⟩ := h
  refine (dadd_any p o bs b s r q c' B S w h3 hq hr hbr hr24 hqm).mono ?_
  rintro e w' ⟨rfl, o', hf, hm⟩
  exact ⟨rfl, da_set h1 h2 h4 hf hm⟩
theorem da_sync (h : DA W p bs s r w) : Calls Try.prog 11 #[.pointer (some ⟨p, 0, none⟩)] w fun e w' => e = .returned (.int .i64 (bs.length : Int)) ∧ DA W p bs bs.length r w' := by
  obtain ⟨h1, h2, o, h3, h4⟩ := h
  refine (dsync_any p o bs s r w h3).mono ?_
  rintro e w' ⟨rfl, hf, hm⟩
  exact ⟨rfl, da_set h1 h2 h4 hf hm⟩
theorem da_cut (h : DA W p bs s r w) (n : Int) (hbr : bs.length ≤ r) (hr24 : r ≤ 16777216) :
    Calls Try.prog 10 #[.pointer (some ⟨p, 0, none⟩), .int .i64 n] w fun e w' => e = .returned (.int .i64 (cutE bs n)) ∧ DA W p (cutB bs n) (cutS bs s n) r w' := by
  obtain ⟨h1, h2, o, h3, h4⟩ := h
  refine (dcut_any p o bs s r n w h3 hbr hr24).mono ?_
  rintro e w' ⟨rfl, hf, hm⟩
  exact ⟨rfl, da_set h1 h2 h4 hf hm⟩
theorem da_crash (h : DA W p bs s r w) (keep : Int) (hs : s ≤ bs.length) (hbr : bs.length ≤ r) (hr24 : r ≤ 16777216) :
    Calls Try.prog 12 #[.pointer (some ⟨p, 0, none⟩), .int .i64 keep] w fun e w' => e = .returned (.int .i64 ((bs.length : Int) - (crN bs s keep : Int))) ∧ DA W p (bs.take (crN bs s keep)) (crN bs s keep) r w' := by
  obtain ⟨h1, h2, o, h3, h4⟩ := h
  refine (dcrash_any p o bs s r keep w h3 hs hbr hr24).mono ?_
  rintro e w' ⟨rfl, hf, hm⟩
  exact ⟨rfl, da_set h1 h2 h4 hf hm⟩
theorem da_safe (h : DA W p bs s r w) : Calls Try.prog 13 #[.pointer (some ⟨p, 0, none⟩)] w fun e w' => e = .returned (.int .i64 (s : Int)) ∧ w = w' := by
  obtain ⟨h1, h2, o, h3, h4⟩ := h
  exact dsafe_any p o bs s r w h3
theorem da_bytes (h : DA W p bs s r w) (hbr : bs.length ≤ r) (hr24 : r ≤ 16777216) :
    Calls Try.prog 14 #[.pointer (some ⟨p, 0, none⟩)] w fun e w' => ∃ A' c', e = .returned (.slice A' bs.length c') ∧ Rds w' (fun k => w.heap.size ≤ k ∧ k < w'.heap.size) A' bs.length (bcs bs) ∧ bs.length ≤ c' ∧ c' ≤ maxLen ∧ Chg (fun _ => False) w w' := by
  obtain ⟨h1, h2, o, h3, h4⟩ := h
  refine (dbytes_any p o bs s r w h3 hbr hr24).mono ?_
  rintro e w' ⟨A, c, rfl, hown, hc⟩
  exact ⟨A, c, rfl, own_rds2 hown, (own_cap hown).1, (own_cap hown).2, hc⟩
theorem da_new (r : Nat) (h : r ≤ 16777216) : Calls Try.prog 7 #[.int .i64 (r : Int)] W fun e w' => e = .returned (.tuple #[.pointer (some ⟨W.heap.size, 0, none⟩), .int .i64 0]) ∧ DA W W.heap.size [] 0 r w' := by
  refine (new7_ok r W h).mono ?_
  rintro e w' ⟨rfl, hf, _, hc⟩
  exact ⟨rfl, hc, Nat.le_refl _, none, hf, fun k hk => by cases hk⟩
end

set_option maxRecDepth 100000 in
set_option maxHeartbeats 2000000 in
theorem alive7_any (w : World) : Calls Try.prog 6 #[] w fun e w' => e = .returned (.bool true) ∧ Chg (fun _ => False) w w' := by
  have HN := Lib.hid (da_new (W := w) 8 (by decide))
  go_enter Try.func6, Try.ntmps6
  go_wp2_with fail
  refine HN.out.mono ?_
  rintro e w1 ⟨rfl, h1⟩
  clear HN
  have HC := Lib.hid (da_add (h1.new ((Chg.refl _ w1).alloc (.cells #[.int .u8 1, .int .u8 2, .int .u8 3] 5))) [1, 2, 3] 3 3 _ _ rfl (rds_alloc w1 5 #[.int .u8 1, .int .u8 2, .int .u8 3] (0, 0)) (by decide) (by decide) (by decide))
  rw [show addE 8 [] [1, 2, 3] = 0 from rfl, show addB 8 [] [1, 2, 3] = [1, 2, 3] from rfl] at HC
  clear h1
  go_wp2_with fail
  refine HC.out.mono ?_
  rintro e w2 ⟨rfl, h2⟩
  replace HC := Lib.hid (da_sync h2)
  rw [show (([1, 2, 3] : List UInt8).length : Int) = 3 from rfl, show ([1, 2, 3] : List UInt8).length = 3 from rfl] at HC
  clear h2
  go_wp2_with fail
  refine HC.out.mono ?_
  rintro e w3 ⟨rfl, h3⟩
  replace HC := Lib.hid (da_add (h3.new ((Chg.refl _ w3).alloc (.cells #[.int .u8 4, .int .u8 5, .int .u8 6, .int .u8 7] 5))) [4, 5, 6, 7] 4 4 _ _ rfl (rds_alloc w3 5 #[.int .u8 4, .int .u8 5, .int .u8 6, .int .u8 7] (0, 0)) (by decide) (by decide) (by decide))
  rw [show addE 8 [1, 2, 3] [4, 5, 6, 7] = 0 from rfl, show addB 8 [1, 2, 3] [4, 5, 6, 7] = [1, 2, 3, 4, 5, 6, 7] from rfl] at HC
  clear h3
  go_wp2_with fail
  refine HC.out.mono ?_
  rintro e w4 ⟨rfl, h4⟩
  replace HC := Lib.hid (da_add (h4.new ((Chg.refl _ w4).alloc (.cells #[.int .u8 8, .int .u8 9] 5))) [8, 9] 2 2 _ _ rfl (rds_alloc w4 5 #[.int .u8 8, .int .u8 9] (0, 0)) (by decide) (by decide) (by decide))
  rw [show addE 8 [1, 2, 3, 4, 5, 6, 7] [8, 9] = 3 from rfl, show addB 8 [1, 2, 3, 4, 5, 6, 7] [8, 9] = [1, 2, 3, 4, 5, 6, 7] from rfl] at HC
  clear h4
  go_wp2_with fail
  refine HC.out.mono ?_
  rintro e w5 ⟨rfl, h5⟩
  replace HC := Lib.hid (da_crash h5 1 (by decide) (by decide) (by decide))
  rw [show crN [1, 2, 3, 4, 5, 6, 7] 3 1 = 4 from rfl, show (([1, 2, 3, 4, 5, 6, 7] : List UInt8).length : Int) - ((4 : Nat) : Int) = 3 from rfl, show ([1, 2, 3, 4, 5, 6, 7] : List UInt8).take 4 = [1, 2, 3, 4] from rfl] at HC
  clear h5
  go_wp2_with fail
  refine HC.out.mono ?_
  rintro e w6 ⟨rfl, h6⟩
  replace HC := Lib.hid (da_bytes h6 (by decide) (by decide))
  rw [show ([1, 2, 3, 4] : List UInt8).length = 4 from rfl] at HC
  go_wp2_with fail
  refine HC.out.mono ?_
  rintro e w7 ⟨A, c, rfl, hr, _, _, hc⟩
  have h7 := h6.new hc
  have s7 := conv7 (c := c) hr
  replace HC := Lib.hid (da_cut h7 2 (by decide) (by decide))
  rw [show cutE [1, 2, 3, 4] 2 = 0 from rfl, show cutB [1, 2, 3, 4] 2 = [1, 2] from rfl, show cutS [1, 2, 3, 4] 4 2 = 2 from rfl] at HC
  clear h6 hr hc h7
  go_wp2_with fail
  refine HC.out.mono ?_
  rintro e w8 ⟨rfl, h8⟩
  replace HC := Lib.hid (da_safe h8)
  have HX := Lib.hid h8.1
  clear h8 s7
  go_wp2_with fail
  refine HC.out.mono ?_
  rintro e w9 ⟨rfl, rfl⟩
  go_wp2_with fail
  go_ret
  exact ⟨rfl, HX.out⟩

theorem ret_b7 {a b : Bool} (h : a = b) : Ending.returned (.bool a) = .returned (.bool b) := by rw [h]

/-- An act as it is read. -/
structure At7 where
  k : Int
  BA : Option Addr
  bq : Nat
  bc : Nat
  b : List UInt8
  n : Int
/-- A slice of m acts, of three cells each, each one's bytes too. -/
def AR7 (w : World) (S : Nat → Prop) (L : Option Addr) (m : Nat) (l : List At7) : Prop :=
  m = l.length ∧ (0 < m → ∃ ad, L = some ad ∧ S ad.block ∧ ad.block < w.heap.size ∧ ∀ (i : Nat) (x : At7), l[i]? = some x →
    w.cell? (ad.add (i * 3)) = some (.int .u8 x.k) ∧ w.cell? (ad.add (i * 3 + 1)) = some (.slice x.BA x.bq x.bc) ∧ w.cell? (ad.add (i * 3 + 2)) = some (.int .i64 x.n) ∧
    (0 ≤ x.k ∧ x.k ≤ 255) ∧ x.bq = x.b.length ∧ x.bq ≤ 9223372036854775807 ∧ Rds w S x.BA x.bq (bcs x.b))
section
variable {w w' : World} {S S' : Nat → Prop} {L : Option Addr} {m : Nat} {l : List At7}
theorem AR7.chg (h : AR7 w S L m l) (hc : Chg S' w w') (hd : ∀ k, S k → ¬ S' k) : AR7 w' S L m l := by
  refine ⟨h.1, fun hm => ?_⟩
  obtain ⟨ad, e, hs, hb, hcell⟩ := h.2 hm
  refine ⟨ad, e, hs, Nat.lt_of_lt_of_le hb hc.size, fun i x hi => ?_⟩
  obtain ⟨h1, h2, h3, h4, h5, h6, h7⟩ := hcell i x hi
  have e1 : ∀ j, w'.cell? (ad.add j) = w.cell? (ad.add j) := fun j => World.cell?_of_block (w := w) (w' := w') (by rw [block_add]; exact hc.block _ hb (hd _ hs))
  rw [e1, e1, e1]
  exact ⟨h1, h2, h3, h4, h5, h6, h7.chg hc hd⟩
/-- The cells of an act, as the walk spells them. -/
theorem AR7.at {ad : Addr} {i : Nat} {x : At7} (h : AR7 w S (some ad) m l) (hi : l[i]? = some x) :
    w.cell? (ad.add (i * 3)) = some (.int .u8 x.k) ∧ w.cell? ⟨(ad.add (i * 3)).block, (ad.add (i * 3)).off + 1, none⟩ = some (.slice x.BA x.bq x.bc) ∧ w.cell? ⟨(ad.add (i * 3)).block, (ad.add (i * 3)).off + 2, none⟩ = some (.int .i64 x.n) ∧
    (0 ≤ x.k ∧ x.k ≤ 255) ∧ x.bq = x.b.length ∧ x.bq ≤ 9223372036854775807 ∧ Rds w S x.BA x.bq (bcs x.b) := by
  have hl : i < l.length := (List.getElem?_eq_some_iff.1 hi).1
  obtain ⟨ad', e, _, _, hc⟩ := h.2 (by have := h.1; omega)
  injection e with e
  subst e
  have h2 := hc i x hi
  rw [← off_add, ← off_add] at h2
  exact h2
end

/-- What Fits tells. -/
def FitsP7 (l : List At7) (w : World) (e : Ending) (w' : World) : Prop := ∃ r : Bool, e = .returned (.bool r) ∧ (r = true → ∀ (i : Nat) (x : At7), l[i]? = some x → x.bq ≤ 3000) ∧ w = w'

set_option maxHeartbeats 800000 in
theorem fits7_any (L : Option Addr) (m lc : Nat) (l : List At7) (w : World) (S : Nat → Prop) (h : AR7 w S L m l) (hmc : m ≤ 9223372036854775807) :
    Calls Try.prog 5 #[.slice L m lc] w (FitsP7 l w) := by
  go_enter Try.func5, Try.ntmps5
  go_wp2_with fail
  go_loopg [3, 4] m (fun g v i wr => ∃ (j : Nat) (t : Int), g = m - j ∧ j ≤ m ∧ j ≤ 61 ∧ i = .int .i64 (j : Int) ∧ v = .int .i64 t ∧ 0 ≤ t ∧ t ≤ 3000 * (j : Int) ∧ Hid (∀ (i : Nat) (x : At7), i < j → l[i]? = some x → x.bq ≤ 3000) ∧ w = wr)
  case atStart => exact ⟨0, 0, rfl, Nat.zero_le _, Nat.zero_le _, rfl, rfl, by omega, by omega, fun i x hi => absurd hi (by omega), rfl⟩
  case round =>
    obtain ⟨j, t, rfl, hj, hj2, rfl, rfl, ht0, ht1, HF, rfl⟩ := hrel
    by_cases hlt : j < m
    · by_cases hlt2 : j ≤ 60
      · obtain ⟨ad, rfl, _, _, _⟩ := h.2 (by omega)
        have hjl : j < l.length := by have := h.1; omega
        have hx : l[j]? = some l[j] := List.getElem?_eq_getElem hjl
        generalize l[j] = x at *
        obtain ⟨z0, z1, z2, hk, hq, hqm, hr⟩ := h.at hx
        have HX := Lib.hid hx
        clear hx hk hq hr z0 z2
        by_cases h1 : 3000 < x.bq
        · go_wp2_with fail
          go_ret
          exact ⟨false, rfl, (fun h => by cases h), rfl⟩
        · go_wp2_with fail
          go_roundg (m - (j + 1))
          case measure => omega
          case rel =>
            refine ⟨j + 1, t + (x.bq : Int), rfl, by omega, by omega, by go_num, by go_num, by omega, by omega, fun i y hi hy => ?_, rfl⟩
            rcases Nat.lt_or_ge i j with hij | hij
            · exact HF.out i y hij hy
            · have : i = j := by omega
              subst this
              have := HX.out
              rw [hy] at this
              injection this with this
              subst this
              omega
      · go_wp2_with fail
        go_ret
        exact ⟨false, rfl, (fun h => by cases h), rfl⟩
    · by_cases hm : m ≤ 60
      · by_cases ht : t ≤ 3000
        · have hjm : Hid (j = m) := by show j = m; omega
          go_wp2_with fail
          go_ret
          refine ⟨true, rfl, fun _ i x hi => HF.out i x ?_ hi, rfl⟩
          have := (List.getElem?_eq_some_iff.1 hi).1
          have h2 := h.1
          have h3 := hjm.out
          omega
        · go_wp2_with fail
          go_ret
          exact ⟨false, rfl, (fun h => by cases h), rfl⟩
      · go_wp2_with fail
        go_ret
        exact ⟨false, rfl, (fun h => by cases h), rfl⟩

end Go.Proofs.Ytmgnnpdogmmopaa
