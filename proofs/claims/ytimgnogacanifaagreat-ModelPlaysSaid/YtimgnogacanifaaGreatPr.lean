/-
  Slices of acts. Walks: rutterref10.Ints, Same, rutterlaw10.Fits. Conditions: what they look at lies in memory.
-/
import Derived.Test.YtimgnogacanifaaGreatPg
import Derived.Laws.StructEq
namespace Go.Proofs.YtimgnogacanifaaGreat
open Go.RowKit
set_option linter.unusedVariables false
set_option linter.unusedSimpArgs false

theorem neRow10 (W : World) (po ma ow ta ol ge ph ve si po2 ma2 ow2 ta2 ol2 ge2 ph2 ve2 si2 : Int) : (binOp .neq 40 (.agg #[.int .i64 po, .int .u64 ma, .int .i64 ow, .int .i64 ta, .int .i64 ol, .int .i64 ge, .int .i64 ph, .int .i64 ve, .int .i64 si]) (.agg #[.int .i64 po2, .int .u64 ma2, .int .i64 ow2, .int .i64 ta2, .int .i64 ol2, .int .i64 ge2, .int .i64 ph2, .int .i64 ve2, .int .i64 si2])).run Tryz.prog W = .ok (.bool (!rvE po ma ow ta ol ge ph ve si po2 ma2 ow2 ta2 ol2 ge2 ph2 ve2 si2)) W := by
  rw [run_neq_struct, show (10000 : Nat) = 9999 + 1 from rfl, run_equalIn_agg W 9999 40 _ _ stRow hpRow]
  unfold rvE
  go_simp
  by_cases h0 : po = po2
  case neg => simp [h0]
  subst h0
  by_cases h1 : ma = ma2
  case neg => simp [h1]
  subst h1
  by_cases h2 : ow = ow2
  case neg => simp [h2]
  subst h2
  by_cases h3 : ta = ta2
  case neg => simp [h3]
  subst h3
  by_cases h4 : ol = ol2
  case neg => simp [h4]
  subst h4
  by_cases h5 : ge = ge2
  case neg => simp [h5]
  subst h5
  by_cases h6 : ph = ph2
  case neg => simp [h6]
  subst h6
  by_cases h7 : ve = ve2
  case neg => simp [h7]
  subst h7
  by_cases h8 : si = si2
  case neg => simp [h8]
  subst h8
  simp
theorem rvE_iff {po ma ow ta ol ge ph ve si po2 ma2 ow2 ta2 ol2 ge2 ph2 ve2 si2 : Int} : rvE po ma ow ta ol ge ph ve si po2 ma2 ow2 ta2 ol2 ge2 ph2 ve2 si2 = true ↔ (⟨po, ma, ow, ta, ol, ge, ph, ve, si⟩ : RV) = ⟨po2, ma2, ow2, ta2, ol2, ge2, ph2, ve2, si2⟩ := by
  unfold rvE
  simp [RV.mk.injEq]
/-- What compares two lists and says true of the same. -/
def SameP {α : Type} (l l2 : List α) (w : World) (e : Ending) (w' : World) : Prop := ∃ b, e = .returned (.bool b) ∧ (l = l2 → b = true) ∧ Chg (fun _ => False) w w'
theorem list_ne {α : Type} {l l2 : List α} {j : Nat} {x y : α} (h1 : l[j]? = some x) (h2 : l2[j]? = some y) (h : x ≠ y) : l ≠ l2 := fun e => by
  rw [e, h2] at h1
  injection h1 with h1
  exact h h1.symm
set_option maxRecDepth 20000 in
set_option maxRecDepth 100000 in
set_option maxHeartbeats 4000000 in
theorem ints10_any (A A2 : Option Addr) (n n2 c c2 : Nat) (l l2 : List Int) (S S2 : Nat → Prop) (w : World) (h : Rds w S A n (ics l)) (h2 : Rds w S2 A2 n2 (ics l2)) (hn : n ≤ 9000000000000000000) : Calls Tryz.prog 17 #[.slice A n c, .slice A2 n2 c2] w (SameP l l2 w) := by
  have HH := Lib.hid h
  have HH2 := Lib.hid h2
  have HL := Lib.hid (show n = l.length from (by have := h.1; rw [ics_len] at this; exact this.symm))
  have HL2 := Lib.hid (show n2 = l2.length from (by have := h2.1; rw [ics_len] at this; exact this.symm))
  clear h h2
  by_cases hnn : n = n2
  case neg =>
    have tn : ((n : Int) == (n2 : Int)) = false := by rw [beq_eq_false_iff_ne]; omega
    have sn : ((n : Int) != (n2 : Int)) = true := by rw [bne_iff_ne]; omega
    have HNE := Lib.hid (show l ≠ l2 from fun e => hnn (by rw [HL.out, HL2.out, e]))
    clear hnn
    go_enter Tryz.func17, Tryz.ntmps17
    go_wp2_with fail
    go_ret
    exact ⟨false, rfl, fun e => absurd e HNE.out, Chg.refl _ _⟩
  case pos =>
    subst hnn
    go_enter Tryz.func17, Tryz.ntmps17
    go_wp2_with fail
    go_loopg [5] n (fun g i wr => ∃ (j : Nat), g = n - j ∧ j ≤ n ∧ i = .int .i64 (j : Int) ∧ Hid (Chg (fun _ => False) w wr))
    case atStart => exact ⟨0, rfl, Nat.zero_le _, rfl, Lib.hid (Chg.refl _ _)⟩
    case round =>
      obtain ⟨j, rfl, hj, rfl, HX0⟩ := hrel
      by_cases hlt : j < n
      · have hh := HH.out.chg HX0.out.drew (fun _ _ => id)
        have hh2 := HH2.out.chg HX0.out.drew (fun _ _ => id)
        obtain ⟨ad, rfl, -⟩ := hh.2 (by omega)
        obtain ⟨ad2, rfl, -⟩ := hh2.2 (by omega)
        have hjl : j < l.length := by have := HL.out; omega
        have hjl2 : j < l2.length := by have := HL2.out; omega
        have hx : l[j]? = some l[j] := List.getElem?_eq_getElem hjl
        have hy : l2[j]? = some l2[j] := List.getElem?_eq_getElem hjl2
        generalize l[j] = x at *
        generalize l2[j] = y at *
        have z0 := rds_at10 hh hx
        have t0 := rds_at10 hh2 hy
        by_cases he : x = y
        case neg =>
          have te : (x == y) = false := by simpa using he
          have se : (x != y) = true := by simpa using he
          have HNE := Lib.hid (list_ne hx hy he)
          clear hx hy hh hh2 hjl hjl2 he
          go_wp2_with fail
          go_region
          go_wp2_with fail
          go_ret
          exact ⟨false, rfl, fun e => absurd e HNE.out, HX0.out.drew⟩
        case pos =>
          subst he
          clear hx hy hh hh2 hjl hjl2
          go_wp2_with fail
          go_region
          clear z0 t0
          replace HX0 := Lib.hid HX0.out.drew
          generalize World.drew wr = w2 at *
          go_wp2_with fail
          go_roundg (n - (j + 1))
          case measure => omega
          case rel => exact ⟨j + 1, rfl, by omega, by go_num, HX0⟩
      · have : j = n := by omega
        subst this
        go_wp2_with fail
        go_ret
        exact ⟨true, rfl, fun _ => rfl, HX0.out⟩

set_option maxRecDepth 20000 in
set_option maxRecDepth 100000 in
set_option maxHeartbeats 4000000 in
theorem same10_any (A A2 : Option Addr) (n n2 c c2 : Nat) (l l2 : List RV) (S S2 : Nat → Prop) (w : World) (h : SR 9 RV.cs w S A n l) (h2 : SR 9 RV.cs w S2 A2 n2 l2) (hn : n ≤ 9000000000000000000) : Calls Tryz.prog 24 #[.slice A n c, .slice A2 n2 c2] w (SameP l l2 w) := by
  have HH := Lib.hid h
  have HH2 := Lib.hid h2
  have HL := Lib.hid (show n = l.length from h.1)
  have HL2 := Lib.hid (show n2 = l2.length from h2.1)
  clear h h2
  by_cases hnn : n = n2
  case neg =>
    have tn : ((n : Int) == (n2 : Int)) = false := by rw [beq_eq_false_iff_ne]; omega
    have sn : ((n : Int) != (n2 : Int)) = true := by rw [bne_iff_ne]; omega
    have HNE := Lib.hid (show l ≠ l2 from fun e => hnn (by rw [HL.out, HL2.out, e]))
    clear hnn
    go_enter Tryz.func24, Tryz.ntmps24
    go_wp2_with fail
    go_ret
    exact ⟨false, rfl, fun e => absurd e HNE.out, Chg.refl _ _⟩
  case pos =>
    subst hnn
    go_enter Tryz.func24, Tryz.ntmps24
    go_wp2_with fail
    go_loopg [5] n (fun g i wr => ∃ (j : Nat), g = n - j ∧ j ≤ n ∧ i = .int .i64 (j : Int) ∧ Hid (Chg (fun _ => False) w wr))
    case atStart => exact ⟨0, rfl, Nat.zero_le _, rfl, Lib.hid (Chg.refl _ _)⟩
    case round =>
      obtain ⟨j, rfl, hj, rfl, HX0⟩ := hrel
      by_cases hlt : j < n
      · have hh := HH.out.chg HX0.out.drew (fun _ _ => id)
        have hh2 := HH2.out.chg HX0.out.drew (fun _ _ => id)
        obtain ⟨ad, rfl, -⟩ := hh.2 (by omega)
        obtain ⟨ad2, rfl, -⟩ := hh2.2 (by omega)
        have hjl : j < l.length := by have := HL.out; omega
        have hjl2 : j < l2.length := by have := HL2.out; omega
        have hx : l[j]? = some l[j] := List.getElem?_eq_getElem hjl
        have hy : l2[j]? = some l2[j] := List.getElem?_eq_getElem hjl2
        generalize l[j] = x at *
        generalize l2[j] = y at *
        obtain ⟨po, ma, ow, ta, ol, ge, ph, ve, si, rfl⟩ := rv_letters x
        obtain ⟨po2, ma2, ow2, ta2, ol2, ge2, ph2, ve2, si2, rfl⟩ := rv_letters y
        obtain ⟨z0, z1, z2, z3, z4, z5, z6, z7, z8⟩ := sr_at9 hh hx
        obtain ⟨t0, t1, t2, t3, t4, t5, t6, t7, t8⟩ := sr_at9 hh2 hy
        have hne := fun W => neRow10 W po ma ow ta ol ge ph ve si po2 ma2 ow2 ta2 ol2 ge2 ph2 ve2 si2
        cases hb : rvE po ma ow ta ol ge ph ve si po2 ma2 ow2 ta2 ol2 ge2 ph2 ve2 si2 with
        | false =>
          rw [hb] at hne
          have HNE := Lib.hid (list_ne hx hy (fun e => by have := rvE_iff.2 e; rw [hb] at this; cases this))
          clear hx hy hh hh2 hjl hjl2 hb
          go_wp2_with fail
          go_region
          go_wp2_with fail
          go_ret
          exact ⟨false, rfl, fun e => absurd e HNE.out, HX0.out.drew⟩
        | true =>
          rw [hb] at hne
          clear hx hy hh hh2 hjl hjl2 hb
          go_wp2_with fail
          go_region
          clear z0 z1 z2 z3 z4 z5 z6 z7 z8 t0 t1 t2 t3 t4 t5 t6 t7 t8
          replace HX0 := Lib.hid HX0.out.drew
          generalize World.drew wr = w2 at *
          go_wp2_with fail
          go_roundg (n - (j + 1))
          case measure => omega
          case rel => exact ⟨j + 1, rfl, by omega, by go_num, HX0⟩
      · have : j = n := by omega
        subst this
        go_wp2_with fail
        go_ret
        exact ⟨true, rfl, fun _ => rfl, HX0.out⟩

/-- An act. -/
structure At10 where
  k : Int
  who : Int
  A : Option Addr
  n : Nat
  c : Nat
  l : List CV
/-- A slice of m acts, of three cells each, each one's changes too. -/
def AR10 (w : World) (S : Nat → Prop) (L : Option Addr) (m : Nat) (l : List At10) : Prop :=
  m = l.length ∧ (0 < m → ∃ ad, L = some ad ∧ S ad.block ∧ ad.block < w.heap.size ∧ ∀ (i : Nat) (x : At10), l[i]? = some x →
    w.cell? (ad.add (i * 3)) = some (.int .u8 x.k) ∧ w.cell? (ad.add (i * 3 + 1)) = some (.int .i64 x.who) ∧ w.cell? (ad.add (i * 3 + 2)) = some (.slice x.A x.n x.c) ∧
    (0 ≤ x.k ∧ x.k ≤ 255) ∧ x.n ≤ 9223372036854775807 ∧ SR 10 CV.cs w S x.A x.n x.l)
section
variable {w w' : World} {S S' : Nat → Prop} {L : Option Addr} {m : Nat} {l : List At10}
theorem AR10.chg (h : AR10 w S L m l) (hc : Chg S' w w') (hd : ∀ k, S k → ¬ S' k) : AR10 w' S L m l := by
  refine ⟨h.1, fun hm => ?_⟩
  obtain ⟨ad, e, hs, hb, hcell⟩ := h.2 hm
  refine ⟨ad, e, hs, Nat.lt_of_lt_of_le hb hc.size, fun i x hi => ?_⟩
  obtain ⟨h1, h2, h3, h4, h5, h6⟩ := hcell i x hi
  have e1 : ∀ j, w'.cell? (ad.add j) = w.cell? (ad.add j) := fun j => World.cell?_of_block (w := w) (w' := w') (by rw [block_add]; exact hc.block _ hb (hd _ hs))
  rw [e1, e1, e1]
  exact ⟨h1, h2, h3, h4, h5, h6.chg hc hd⟩
/-- The cells of an act, as the walk spells them. -/
theorem AR10.at {ad : Addr} {i : Nat} {x : At10} (h : AR10 w S (some ad) m l) (hi : l[i]? = some x) :
    w.cell? (ad.add (i * 3)) = some (.int .u8 x.k) ∧ w.cell? ⟨(ad.add (i * 3)).block, (ad.add (i * 3)).off + 1, none⟩ = some (.int .i64 x.who) ∧ w.cell? ⟨(ad.add (i * 3)).block, (ad.add (i * 3)).off + 2, none⟩ = some (.slice x.A x.n x.c) ∧
    (0 ≤ x.k ∧ x.k ≤ 255) ∧ x.n ≤ 9223372036854775807 ∧ SR 10 CV.cs w S x.A x.n x.l := by
  have hl : i < l.length := (List.getElem?_eq_some_iff.1 hi).1
  obtain ⟨ad', e, _, _, hc⟩ := h.2 (by have := h.1; omega)
  injection e with e
  subst e
  have h2 := hc i x hi
  rw [← off_add, ← off_add] at h2
  exact h2
end
def FitsP10 (m : Nat) (l : List At10) (w : World) (e : Ending) (w' : World) : Prop := ∃ b, e = .returned (.bool b) ∧ (b = true → m ≤ 60 ∧ ∀ (i : Nat) (x : At10), l[i]? = some x → x.n ≤ 60) ∧ w = w'
end Go.Proofs.YtimgnogacanifaaGreat
