/-
  Walk: rutterlaw01.BufWrites, its parts: the acts as they are read, rutterlaw01.Fits, two writers under one word. Conditions: the arguments are read in memory.
-/
import Derived.Test.YtplhhcooglaphaaAl
import Derived.Test.YtplhhcooglaphaaVc
namespace Go.Proofs.Ytplhhcooglaphaa
open Go.RowKit

/-- An act as it is read. -/
structure ActT where
  k : Nat
  n : Int
  LA : Option Addr
  lm : Nat
  lc : Nat
  l : List Int
  BA : Option Addr
  bq : Nat
  bc : Nat
  b : List UInt8
structure ActOk (w : World) (S : Nat → Prop) (x : ActT) : Prop where
  k : x.k ≤ 255
  lm : x.lm = x.l.length
  bq : x.bq = x.b.length
  nums : Rds w S x.LA x.lm (ics x.l)
  bytes : Rds w S x.BA x.bq (bcs x.b)
  range : ∀ y ∈ x.l, -9223372036854775808 ≤ y ∧ y ≤ 9223372036854775807
  lmc : x.lm ≤ 9223372036854775807
  bqc : x.bq ≤ 9223372036854775807
/-- A slice of acts. -/
def ActR (w : World) (S : Nat → Prop) (L : Option Addr) (m : Nat) (l : List ActT) : Prop :=
  m = l.length ∧ (0 < m → ∃ ad, L = some ad ∧ S ad.block ∧ ad.block < w.heap.size ∧ ∀ (i : Nat) (x : ActT), l[i]? = some x →
    w.cell? (ad.add (i * 4)) = some (.int .u8 (x.k : Int)) ∧ w.cell? (ad.add (i * 4 + 1)) = some (.int .i64 x.n) ∧ w.cell? (ad.add (i * 4 + 2)) = some (.slice x.LA x.lm x.lc) ∧ w.cell? (ad.add (i * 4 + 3)) = some (.slice x.BA x.bq x.bc) ∧ ActOk w S x)
section
variable {w w' : World} {S S' : Nat → Prop} {L : Option Addr} {m : Nat} {l : List ActT}
theorem ActOk.chg {x : ActT} (h : ActOk w S x) (hc : Chg S' w w') (hd : ∀ k, S k → ¬ S' k) : ActOk w' S x := ⟨h.k, h.lm, h.bq, h.nums.chg hc hd, h.bytes.chg hc hd, h.range, h.lmc, h.bqc⟩
theorem ActR.chg (h : ActR w S L m l) (hc : Chg S' w w') (hd : ∀ k, S k → ¬ S' k) : ActR w' S L m l := by
  refine ⟨h.1, fun hm => ?_⟩
  obtain ⟨ad, e, hs, hb, hcell⟩ := h.2 hm
  refine ⟨ad, e, hs, Nat.lt_of_lt_of_le hb hc.size, fun i x hi => ?_⟩
  obtain ⟨h1, h2, h3, h4, h5⟩ := hcell i x hi
  have e1 : ∀ j, w'.cell? (ad.add j) = w.cell? (ad.add j) := fun j => World.cell?_of_block (w := w) (w' := w') (by rw [block_add]; exact hc.block _ hb (hd _ hs))
  rw [e1, e1, e1, e1]
  exact ⟨h1, h2, h3, h4, h5.chg hc hd⟩
/-- The cells of an act, as the walk spells them. -/
theorem ActR.at {ad : Addr} {i : Nat} {x : ActT} (h : ActR w S (some ad) m l) (hi : l[i]? = some x) :
    w.cell? (ad.add (i * 4)) = some (.int .u8 (x.k : Int)) ∧ w.cell? ⟨(ad.add (i * 4)).block, (ad.add (i * 4)).off + 1, none⟩ = some (.int .i64 x.n) ∧
    w.cell? ⟨(ad.add (i * 4)).block, (ad.add (i * 4)).off + 2, none⟩ = some (.slice x.LA x.lm x.lc) ∧ w.cell? ⟨(ad.add (i * 4)).block, (ad.add (i * 4)).off + 3, none⟩ = some (.slice x.BA x.bq x.bc) ∧ ActOk w S x := by
  have hl : i < l.length := (List.getElem?_eq_some_iff.1 hi).1
  obtain ⟨ad', e, _, _, hc⟩ := h.2 (by have := h.1; omega)
  injection e with e
  subst e
  have h2 := hc i x hi
  rw [← off_add, ← off_add, ← off_add] at h2
  exact h2
end

/-- What Fits tells. -/
def FitsPost (m : Nat) (l : List ActT) (w : World) (e : Ending) (w' : World) : Prop :=
  ∃ r : Bool, e = .returned (.bool r) ∧ (r = true → m ≤ 100 ∧ ∀ (i : Nat) (x : ActT), l[i]? = some x → x.lm ≤ 100 ∧ x.bq ≤ 70000) ∧ w = w'

set_option maxHeartbeats 800000 in
theorem fits_any (L : Option Addr) (m lc : Nat) (l : List ActT) (w : World) (S : Nat → Prop) (h : ActR w S L m l) (hmc : m ≤ 9223372036854775807) :
    Calls Try.prog 6 #[.slice L m lc] w (FitsPost m l w) := by
  go_enter Try.func6, Try.ntmps6
  go_wp2_with fail
  go_loopg [3, 4] m (fun g v i wr => ∃ (j : Nat) (t : Int), g = m - j ∧ j ≤ m ∧ j ≤ 101 ∧ i = .int .i64 (j : Int) ∧ v = .int .i64 t ∧ 0 ≤ t ∧ t ≤ 140000 ∧ Hid (∀ (i : Nat) (x : ActT), i < j → l[i]? = some x → x.lm ≤ 100 ∧ x.bq ≤ 70000) ∧ w = wr)
  case atStart => exact ⟨0, 0, rfl, Nat.zero_le _, Nat.zero_le _, rfl, rfl, by omega, by omega, fun i x hi => absurd hi (by omega), rfl⟩
  case round =>
    obtain ⟨j, t, rfl, hj, hj2, rfl, rfl, ht0, ht1, HF, rfl⟩ := hrel
    by_cases hlt : j < m
    · by_cases hlt2 : j ≤ 100
      · obtain ⟨ad, rfl, _, _, _⟩ := h.2 (by omega)
        have hjl : j < l.length := by have := h.1; omega
        have hx : l[j]? = some l[j] := List.getElem?_eq_getElem hjl
        generalize l[j] = x at *
        obtain ⟨z0, z1, z2, z3, hok⟩ := h.at hx
        have hlmc := hok.lmc
        have hbqc := hok.bqc
        have HX := Lib.hid hx
        clear hx hok z1
        have hcase : 100 < x.lm ∨ (x.lm ≤ 100 ∧ 70000 < x.bq) ∨ (x.lm ≤ 100 ∧ x.bq ≤ 70000 ∧ 140000 < t + (x.bq : Int)) ∨ (x.lm ≤ 100 ∧ x.bq ≤ 70000 ∧ t + (x.bq : Int) ≤ 140000) := by omega
        rcases hcase with h1 | ⟨h1, h2⟩ | ⟨h1, h2, h3⟩ | ⟨h1, h2, h3⟩
        · go_wp2_with fail
          go_ret
          exact ⟨false, rfl, (fun h => by cases h), rfl⟩
        · go_wp2_with fail
          go_ret
          exact ⟨false, rfl, (fun h => by cases h), rfl⟩
        · go_wp2_with fail
          go_ret
          exact ⟨false, rfl, (fun h => by cases h), rfl⟩
        · go_wp2_with fail
          go_roundg (m - (j + 1))
          case measure => omega
          case rel =>
            refine ⟨j + 1, t + (x.bq : Int), rfl, by omega, by omega, by go_num, by go_num, by omega, h3, fun i y hi hy => ?_, rfl⟩
            rcases Nat.lt_or_ge i j with hij | hij
            · exact HF.out i y hij hy
            · have : i = j := by omega
              subst this
              have := HX.out
              rw [hy] at this
              injection this with this
              subst this
              exact ⟨h1, h2⟩
      · go_wp2_with fail
        go_ret
        exact ⟨false, ret_bool (decide_eq_false (by omega)), (fun h => by cases h), rfl⟩
    · by_cases hm : m ≤ 100
      · have hjm : Hid (j = m) := by show j = m; omega
        go_wp2_with fail
        go_ret
        refine ⟨true, ret_bool (decide_eq_true (by omega)), fun _ => ⟨hm, fun i x hi => HF.out i x ?_ hi⟩, rfl⟩
        have := (List.getElem?_eq_some_iff.1 hi).1
        have h2 := h.1
        have h3 := hjm.out
        omega
      · go_wp2_with fail
        go_ret
        exact ⟨false, ret_bool (decide_eq_false (by omega)), (fun h => by cases h), rfl⟩

end Go.Proofs.Ytplhhcooglaphaa
