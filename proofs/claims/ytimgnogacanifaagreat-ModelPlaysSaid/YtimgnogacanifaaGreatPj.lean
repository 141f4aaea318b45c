/-
  Walk: store.Apply, on nil too. Conditions: the store, and the changes, lie in memory.
-/
import Derived.Test.YtimgnogacanifaaGreatPi
import Derived.Deep.RegionHeld3
import Derived.RegionTactic
namespace Go.Proofs.YtimgnogacanifaaGreat
open Go.RowKit
set_option linter.unusedVariables false
set_option linter.unusedSimpArgs false

theorem sclone_any {w : World} {b : Nat} {f : Int → Option Value} (h : IM w b f) : Calls Tryz.prog 62 #[.map (some b)] w fun e w' => e = .returned (.map (some w.heap.size)) ∧ IM w' w.heap.size f ∧ Chg (fun _ => False) w w' := by
  obtain ⟨es, clock, hb, r⟩ := id h
  have hc : Calls Tryz.prog 62 #[.map (some b)] w fun e w' => e = .returned (.map (some w.heap.size)) ∧ w' = w.alloc (.map es clock) := AnyW.maps_Clone cloneA10 b es clock w hb
  refine hc.mono ?_
  rintro e w' ⟨rfl, rfl⟩
  exact ⟨rfl, h.clone hb, (Chg.refl _ w).alloc _⟩
def appK (C : Int → Bool) (l : List CV) (R : Int → Option RV) : Int → Option RV := if (appP C l R).1 = 0 then (appP C l R).2 else R
/-- What Apply hands back and leaves. -/
def ApP (B p bc : Nat) (C : Int → Bool) (R : Int → Option RV) (l : List CV) (w : World) (e : Ending) (w' : World) : Prop :=
  ∃ br', e = .returned (.int .i64 (appP C l R).1) ∧ CS B w' p bc br' C (appK C l R) ∧ Chg (fun k => k = p) w w'
theorem app_step {C : Int → Bool} {R : Int → Option RV} {l : List CV} {j : Nat} {x : CV} (hx : l[j]? = some x) (h0 : (appP C (l.take j) R).1 = 0) :
    (wrongP C (appP C (l.take j) R).2 x = 0 → (appP C (l.take (j + 1)) R).1 = 0 ∧ (appP C (l.take (j + 1)) R).2 = doR C (appP C (l.take j) R).2 x) ∧
    (wrongP C (appP C (l.take j) R).2 x ≠ 0 → (appP C l R).1 = wrongP C (appP C (l.take j) R).2 x ∧ appK C l R = R) := by
  have hs := app_snoc C (l.take j) R x h0
  rw [← take_succ' hx] at hs
  constructor
  · intro h
    rw [if_pos h] at hs
    rw [hs]
    exact ⟨rfl, by unfold doR; rw [if_pos h]⟩
  · intro h
    rw [if_neg h] at hs
    have h1 : (appP C (l.take (j + 1)) R).1 ≠ 0 := by rw [hs]; exact h
    have h2 := app_err C (l.take (j + 1)) R (l.drop (j + 1)) h1
    rw [List.take_append_drop, hs] at h2
    refine ⟨h2, ?_⟩
    unfold appK
    rw [if_neg (by rw [h2]; exact h)]
set_option maxRecDepth 20000 in
set_option maxRecDepth 100000 in
set_option maxHeartbeats 8000000 in
theorem sapply_any {B : Nat} {w : World} {p bc br : Nat} {C : Int → Bool} {R : Int → Option RV} (h : CS B w p bc br C R) (L : Option Addr) (m lc : Nat) (l : List CV) (S : Nat → Prop) (hl : SR 10 CV.cs w S L m l) (hm : m ≤ 9223372036854775807) : Calls Tryz.prog 28 #[.pointer (some ⟨p, 0, none⟩), .slice L m lc] w (ApP B p bc C R l w) := by
  have HS := Lib.hid h
  have HL := Lib.hid hl
  have HLN := Lib.hid hl.1
  have HPB := Lib.hid (show B ≤ w.heap.size ∧ p < w.heap.size ∧ bc < w.heap.size from ⟨Nat.le_of_lt (Nat.lt_of_le_of_lt h.bp h.blk.lt), h.blk.lt, h.ch.lt⟩)
  have HCA := Lib.hid (sclone_any h.ro.drew)
  clear h hl
  go_enter Tryz.func28, Tryz.ntmps28
  go_wp2_with fail
  have HKEEP : Hid (∀ W : World, Chg (fun _ => False) w W → (W.cell? ⟨p, 0, none⟩ = some (.map (some bc)) ∧ W.cell? ⟨p, 1, none⟩ = some (.map (some br)))) := Lib.hid (fun W hw => (HS.out.keep hw).cells)
  have HXA := Lib.hid (Chg.refl (fun _ => False) w).drew
  obtain ⟨c0, c1⟩ := HKEEP.out _ HXA.out
  go_region_held3 (fun w' => w'.cell? ⟨p, 0, none⟩ = some (.map (some bc)) ∧ w'.cell? ⟨p, 1, none⟩ = some (.map (some br)))
    (first | with_reducible exact HKEEP.out _ HXA.out | with_reducible exact HKEEP.out _ HXB.out | with_reducible exact HKEEP.out _ (HXB.out.alloc _) | fail)
    (first
      | (go_at_call 62; (with_reducible refine (HCA.out).mono ?_); rintro e wz ⟨rfl, him, hc⟩; have HXB := Lib.hid (HXA.out.trans hc (fun _ _ e => e)); have HIM := Lib.hid him; clear hc him)
      | fail)
  have HNX : CS B (wz.alloc (.cells #[.map (some bc), .map (some w.heap.size)] 87)) wz.heap.size bc w.heap.size C R := by
    have hz := HXB.out.size
    have hp := HPB.out
    have hh := (HS.out.keep HXB.out)
    exact ⟨by omega, hh.bbc, hp.1, by omega, blk_new rfl, hh.ch.alloc _, HIM.out.alloc _⟩
  replace HNX := Lib.hid HNX
  have HZ := Lib.hid HXB.out.size
  replace HXB := Lib.hid (HXB.out.alloc (.cells #[.map (some bc), .map (some w.heap.size)] 87))
  clear HKEEP HXA HCA HIM c0 c1
  generalize (wz.alloc (.cells #[.map (some bc), .map (some w.heap.size)] 87)) = w2 at *
  generalize wz.heap.size = pn at *
  go_wp2_with fail
  go_loopg [7, 8, 24] m (fun g s7 s8 i wr => ∃ (j : Nat), g = m - j ∧ j ≤ m ∧ i = .int .i64 (j : Int) ∧ Hid ((appP C (l.take j) R).1 = 0) ∧ Hid (CS B wr pn bc w.heap.size C (appP C (l.take j) R).2) ∧ Hid (Chg (fun _ => False) w wr))
  case atStart => exact ⟨0, rfl, Nat.zero_le _, rfl, Lib.hid rfl, HNX, HXB⟩
  case round =>
    clear HNX HXB
    obtain ⟨j, rfl, hj, rfl, H0, HNX, HX0⟩ := hrel
    by_cases hlt : j < m
    · have hh := HL.out.chg HX0.out (fun _ _ => id)
      obtain ⟨ad, rfl, -⟩ := hh.2 (by omega)
      have hjl : j < l.length := by have := HLN.out; omega
      have hx : l[j]? = some l[j] := List.getElem?_eq_getElem hjl
      generalize l[j] = x at *
      obtain ⟨z0, z1, z2, z3, z4, z5, z6, z7, z8, z9⟩ := sr_at10 hh hx
      have HAS := Lib.hid (app_step (C := C) (R := R) hx H0.out)
      clear hx hh hjl
      obtain ⟨xr, was⟩ := x
      obtain ⟨po, ma, ow, ta, ol, ge, ph, ve, si, rfl⟩ := rv_letters xr
      go_upto_region 7 with fail
      clear z0 z1 z2 z3 z4 z5 z6 z7 z8 z9
      have HQ0 : Blk (wr.alloc (.cells #[.int .i64 po, .int .u64 ma, .int .i64 ow, .int .i64 ta, .int .i64 ol, .int .i64 ge, .int .i64 ph, .int .i64 ve, .int .i64 si, .int .i64 was] 88)) wr.heap.size 88 #[.int .i64 po, .int .u64 ma, .int .i64 ow, .int .i64 ta, .int .i64 ol, .int .i64 ge, .int .i64 ph, .int .i64 ve, .int .i64 si, .int .i64 was] := blk_new rfl
      replace HQ0 := Lib.hid HQ0
      have hca := (Chg.refl (fun _ => False) wr).alloc (.cells #[.int .i64 po, .int .u64 ma, .int .i64 ow, .int .i64 ta, .int .i64 ol, .int .i64 ge, .int .i64 ph, .int .i64 ve, .int .i64 si, .int .i64 was] 88)
      replace HX0 := Lib.hid (HX0.out.trans hca (fun _ _ e => e))
      replace HNX := Lib.hid (HNX.out.keep hca)
      clear hca
      generalize (wr.alloc (.cells #[.int .i64 po, .int .u64 ma, .int .i64 ow, .int .i64 ta, .int .i64 ol, .int .i64 ge, .int .i64 ph, .int .i64 ve, .int .i64 si, .int .i64 was] 88)) = w3 at *
      obtain ⟨y0, y1, y2, y3, y4, y5, y6, y7, y8, y9⟩ := cv_cells HQ0.out
      generalize (appP C (l.take j) R).2 = Rj at *
      have hd := sdo_any HNX.out po ma ow ta ol ge ph ve si was
      obtain ⟨v, hv⟩ : ∃ v, wrongP C Rj ⟨⟨po, ma, ow, ta, ol, ge, ph, ve, si⟩, was⟩ = v := ⟨_, rfl⟩
      rw [hv] at hd
      have HD := Lib.hid hd
      have HV := Lib.hid hv
      clear hd hv
      go_wp2_with fail
      refine HD.out.mono ?_
      rintro e w4 ⟨rfl, hcs, hc⟩
      replace HX0 := Lib.hid (fresh_set HX0.out hc (Nat.le_refl _))
      replace HNX := Lib.hid hcs
      clear hcs hc y0 y1 y2 y3 y4 y5 y6 y7 y8 y9 HD
      by_cases h0 : v = 0
      · subst h0
        have HA2 := Lib.hid (HAS.out.1 HV.out)
        go_wp2_with fail
        go_roundg (m - (j + 1))
        case measure => omega
        case rel => exact ⟨j + 1, rfl, by omega, by go_num, Lib.hid HA2.out.1, Lib.hid (by rw [HA2.out.2]; exact HNX.out), HX0⟩
      · have tv : (v == 0) = false := by simpa using h0
        have sv : (v != 0) = true := by simpa using h0
        have HA2 := Lib.hid (HAS.out.2 (by rw [HV.out]; exact h0))
        clear h0
        go_wp2_with fail
        go_ret
        exact ⟨br, ret_i10 (by rw [HA2.out.1, HV.out]), by rw [HA2.out.2]; exact HS.out.keep HX0.out, HX0.out.mono (fun _ _ e => e.elim)⟩
    · have : j = m := by omega
      subst this
      have HE := Lib.hid (show l.take j = l from List.take_of_length_le (by have := HLN.out; omega))
      obtain ⟨n0, n1⟩ := HNX.out.cells
      have hs := HS.out.keep HX0.out
      have f1 := hs.blk.frozen 1
      have hb := hs.blk.set 1 (.map (some w.heap.size))
      have hcp := (Chg.refl (fun k => k = p) wr).put p 1 (fun _ => rfl) (.map (some w.heap.size))
      simp only [List.setIfInBounds_toArray, List.set_cons_succ, List.set_cons_zero] at hb
      have hp := HPB.out
      have HR := Lib.hid (show CS B (wr.setCell ⟨p, 1, none⟩ (.map (some w.heap.size))) p bc w.heap.size C (appK C l R) from by
        have e1 : appK C l R = (appP C (l.take j) R).2 := by
          have h0 := H0.out
          unfold appK
          rw [HE.out] at h0 ⊢
          rw [if_pos h0]
        rw [e1]
        exact ⟨hs.bp, hs.bbc, hp.1, by omega, hb, hs.ch.chg hcp (fun e => by have := hs.ch.ne hs.blk; exact this e.symm), HNX.out.ro.chg hcp (by omega)⟩)
      have HC := Lib.hid ((HX0.out.mono (S' := fun k => k = p) (fun _ _ e => e.elim)).trans hcp (fun _ _ e => e))
      have HV := Lib.hid (show (appP C l R).1 = 0 from by have h0 := H0.out; rw [HE.out] at h0; exact h0)
      obtain ⟨s0, s1⟩ := hs.cells
      clear hb hs hcp hp
      go_wp2_with fail
      go_ret
      exact ⟨w.heap.size, ret_i10 HV.out.symm, HR.out, HC.out⟩

set_option maxRecDepth 100000 in
set_option maxHeartbeats 400000 in
theorem sapply_nil (L : Option Addr) (m lc : Nat) (w : World) : Calls Tryz.prog 28 #[.pointer none, .slice L m lc] w fun e w' => e = .returned (.int .i64 1) ∧ w = w' := by
  go_enter Tryz.func28, Tryz.ntmps28
  go_wp2_with fail
  go_ret
  exact ⟨rfl, rfl⟩


end Go.Proofs.YtimgnogacanifaaGreat
