/-
  Where nothing is wrong with events, plain. Walk: rutterlaw21.AuditAll. Condition: the events are read in memory.
-/
import Derived.Test.YtmfgbonlhoffaaaDm
namespace Go.Proofs.Ytmfgbonlhoffaaa
open Go.RowKit
set_option linter.unusedVariables false
set_option linter.unusedSimpArgs false
theorem bne_f21 {a b : Int} (h : (a != b) = false) : (a == b) = true := by simpa [bne] using h
theorem ok21_at {l : List Ev} (h : ∀ k, k < l.length → dF21 l k = 0) {k : Nat} {x : Ev} (hx : l[k]? = some x) : (gv21 x && (l.take k).any (ah21 x)) = false ∧ (gv21 x && decide (0 < tm21 x.id (l.take k))) = false := by
  have hk : k < l.length := (List.getElem?_eq_some_iff.1 hx).1
  have h0 := h k hk
  rw [dF21_at hx] at h0
  unfold df21 at h0
  cases e1 : (gv21 x && (l.take k).any (ah21 x))
  · cases e2 : (gv21 x && decide (0 < tm21 x.id (l.take k)))
    · exact ⟨rfl, rfl⟩
    · rw [e1, e2] at h0
      cases h0
  · rw [e1] at h0
    cases h0
theorem ok21_lt {l : List Ev} (h : ∀ k, k < l.length → dF21 l k = 0) {i k : Nat} {x y : Ev} (hx : l[i]? = some x) (hy : l[k]? = some y) (hik : i < k) (gx : gv21 x = true) (gy : gv21 y = true) (hp : x.po = y.po) (hg : x.ge = y.ge) : x.ch = y.ch := by
  have h1 := (ok21_at h hy).1
  rw [gy, Bool.true_and, List.any_eq_false] at h1
  have hm : x ∈ l.take k := by
    rw [List.mem_iff_getElem?]
    exact ⟨i, by rw [List.getElem?_take_of_lt hik]; exact hx⟩
  have h2 := h1 x hm
  by_cases e : x.ch = y.ch
  · exact e
  · exact absurd (by simp [ah21, gx, hp, hg, e]) h2
theorem ok21_own {l : List Ev} (h : ∀ k, k < l.length → dF21 l k = 0) {i k : Nat} {x y : Ev} (hx : l[i]? = some x) (hy : l[k]? = some y) (gx : gv21 x = true) (gy : gv21 y = true) (hp : x.po = y.po) (hg : x.ge = y.ge) : x.ch = y.ch := by
  rcases Nat.lt_trichotomy i k with q | rfl | q
  · exact ok21_lt h hx hy q gx gy hp hg
  · rw [hx] at hy
    injection hy with hy
    rw [hy]
  · exact (ok21_lt h hy hx q gy gx hp.symm hg.symm).symm
theorem ok21_tm {l : List Ev} (h : ∀ k, k < l.length → dF21 l k = 0) (id : Int) : ∀ j, j ≤ l.length → tm21 id (l.take j) ≤ 1
  | 0, _ => by simp [tm21]
  | j + 1, hj => by
    have ih := ok21_tm h id j (by omega)
    have hx : l[j]? = some l[j] := List.getElem?_eq_getElem (by omega)
    have h2 := (ok21_at h hx).2
    rw [take21 hx, tm21_app, tm21_one]
    generalize l[j] = x at *
    have b1 : 0 ≤ (if (x.wh == 3 && x.id == id) = true then (1 : Int) else 0) := by split <;> decide
    generalize (if (x.wh == 3 && x.id == id) = true then (1 : Int) else 0) = B at *
    by_cases hc : (gv21 x && x.id == id) = true
    · rw [if_pos hc]
      simp only [Bool.and_eq_true, beq_iff_eq] at hc
      obtain ⟨hg, rfl⟩ := hc
      rw [hg, Bool.true_and, decide_eq_false_iff_not] at h2
      omega
    · rw [if_neg hc]
      omega
theorem lk21_take {l : List Ev} (h : ∀ k, k < l.length → dF21 l k = 0) (r : Nat) : Lk21 (l.take r) (-1) 0 := by
  refine .inr ⟨rfl, rfl, fun k hk => ?_⟩
  have hk2 : k < r ∧ k < l.length := by rw [List.length_take] at hk; omega
  have := h k hk2.2
  unfold dF21 at this ⊢
  rw [List.getElem?_take_of_lt hk2.1, List.take_take, Nat.min_eq_left (by omega)]
  exact this
theorem tm21_nx {r : List Ev} {j : Nat} {y : Ev} (k : Int) (hy : r[j]? = some y) : tm21 k (r.take (j + 1)) = tm21 k (r.take j) + ((if gv21 y && y.id == k then 1 else 0) - (if y.wh == 3 && y.id == k then 1 else 0)) := by rw [take21 hy, tm21_app, tm21_one]
set_option maxRecDepth 100000 in
set_option maxHeartbeats 16000000 in
theorem all21_any {w : World} {L : Option Addr} {m lc : Nat} {l : List Ev} (h : EvR w L m l) (hmm : m ≤ 9223372036854775807) (hmc : m ≤ lc) (cut : Int) (h0 : 0 ≤ cut) (h1 : cut < 256) : Calls Try.prog 4 #[.slice L m lc, .int .u8 cut] w (SayB true w) := by
  have HH := Lib.hid h
  have HAL := Lib.hid (fun W => alive21_any W)
  by_cases hm : 80 < m
  · go_enter Try.func4, Try.ntmps4
    go_wp2_with fail
    refine (HAL.out _).mono ?_
    rintro e w2 ⟨rfl, hc⟩
    go_wp2_with fail
    go_ret
    exact ⟨rfl, hc⟩
  replace hm : m ≤ 80 := by omega
  have hm2 : ¬ 80 < m := by omega
  have HM := Lib.hid hm
  have HL := Lib.hid h.1
  have H := Lib.hid (Chg.refl (fun _ => False) w)
  go_enter Try.func4, Try.ntmps4
  go_wp2_with fail
  refine (look21_any HH.out HM.out).mono ?_
  rintro e w2 ⟨i, f, rfl, hl, hc⟩
  replace H := Lib.hid hc
  clear hc
  rcases hl with ⟨j, hj, rfl, rfl, hf, -⟩ | ⟨rfl, rfl, hall⟩
  · have hjm : j < m := by have := HL.out; omega
    generalize dF21 l j = d at *
    have td : (d != 0) = true := by simpa using hf
    clear hf hj
    go_wp2_with fail
    refine (HAL.out _).mono ?_
    rintro e w9 ⟨rfl, hc⟩
    replace H := Lib.hid (H.out.trans hc (fun _ _ e => e))
    go_wp2_with fail
    go_ret
    exact ⟨by simp, H.out⟩
  have HOK := Lib.hid hall
  clear hall h
  obtain ⟨r, hr⟩ : ∃ r : Nat, cut.tmod ((m : Int) + 1) = (r : Int) ∧ r ≤ m := ⟨(cut.tmod ((m : Int) + 1)).toNat, by
    have := Int.tmod_nonneg ((m : Int) + 1) h0
    have := Int.tmod_lt_of_pos cut (b := (m : Int) + 1) (by omega)
    omega⟩
  have hrc : r ≤ lc := by have := hr.2; omega
  have hrm := hr.2
  replace hr := hr.1
  go_wp2_with fail
  refine (look21_any ((HH.out.chg H.out).take hrm) (by omega)).mono ?_
  rintro e w3 ⟨i2, f2, rfl, hl, hc⟩
  obtain ⟨rfl, rfl⟩ := hl.one (lk21_take HOK.out r)
  replace H := Lib.hid (H.out.trans hc (fun _ _ e => e))
  clear hc hr hrc hrm hl
  go_wp2_with fail
  go_loopg [9] m (fun g s9 wr => ∃ (j : Nat), g = m - j ∧ j ≤ m ∧ s9 = .int .i64 (j : Int) ∧ Hid (Chg (fun _ => False) w wr))
  case atStart => exact ⟨0, rfl, Nat.zero_le _, rfl, H⟩
  case round =>
    clear H
    obtain ⟨j, rfl, hj, rfl, H⟩ := hrel
    by_cases hlt : j < m
    case neg =>
      have : j = m := by omega
      subst this
      go_wp2_with fail
      refine (HAL.out _).mono ?_
      rintro e w9 ⟨rfl, hc⟩
      replace H := Lib.hid (H.out.trans hc (fun _ _ e => e))
      go_wp2_with fail
      go_ret
      exact ⟨rfl, H.out⟩
    have hh := HH.out.chg H.out
    obtain ⟨ad, rfl, -⟩ := hh.2 (by omega)
    have hjl : j < l.length := by have := HL.out; omega
    have hx : l[j]? = some l[j] := List.getElem?_eq_getElem hjl
    generalize l[j] = x at *
    obtain ⟨z0, z1, z2, z3, z4, z5, z6, z7, z8, z9, z10, z11, z12⟩ := hh.at hx
    have HJ := Lib.hid hx
    clear hx hh hjl
    have HB : Hid (Blk (wr.alloc (.cells #[.int .i64 x.wh, .int .i64 x.ti, .int .i64 x.ch, .int .i64 x.po, .int .i64 x.ve, .int .i64 x.ki, .int .i64 x.id, .int .i64 x.og, .int .i64 x.fr, .int .i64 x.dn, .int .i64 x.tg, .int .i64 x.ge, .int .i64 x.sp] 38)) wr.heap.size 38 x.cs) := Lib.hid (blk_new rfl)
    replace H := Lib.hid (H.out.alloc (.cells #[.int .i64 x.wh, .int .i64 x.ti, .int .i64 x.ch, .int .i64 x.po, .int .i64 x.ve, .int .i64 x.ki, .int .i64 x.id, .int .i64 x.og, .int .i64 x.fr, .int .i64 x.dn, .int .i64 x.tg, .int .i64 x.ge, .int .i64 x.sp] 38))
    have HG : Hid (gv21 x = ((x.wh == 1 || x.wh == 2) && x.dn == 1)) := Lib.hid rfl
    have HTM := Lib.hid (ok21_tm HOK.out x.id l.length (Nat.le_refl _))
    rw [List.take_length] at HTM
    go_upto_region 13 with fail
    generalize wr.alloc (.cells #[.int .i64 x.wh, .int .i64 x.ti, .int .i64 x.ch, .int .i64 x.po, .int .i64 x.ve, .int .i64 x.ki, .int .i64 x.id, .int .i64 x.og, .int .i64 x.fr, .int .i64 x.dn, .int .i64 x.tg, .int .i64 x.ge, .int .i64 x.sp] 38) = wa at *
    generalize wr.heap.size = q at *
    clear z0 z1 z2 z3 z4 z5 z6 z7 z8 z9 z10 z11 z12
    have HA := Lib.hid (fun (W : World) (q : Nat) (x : Ev) (hW : Blk W q 38 x.cs) => ev_cells21 hW)
    obtain ⟨y0, y1, y2, y3, y4, y5, y6, y7, y8, y9, y10, y11, y12⟩ := HA.out _ _ _ HB.out
    cases e1 : (x.wh != 1)
    · cases e3 : (x.dn != 1)
      · have hgx : gv21 x = true := by rw [HG.out]; simp only [bne_f21 e1, bne_f21 e3, Bool.false_or, Bool.true_or, Bool.or_false, Bool.or_true, Bool.true_and, Bool.false_and, Bool.and_true, Bool.and_false, Bool.false_eq_true, ↓reduceIte]
        have HGX := Lib.hid hgx
        clear hgx
        go_wp2_with fail
        go_loopg [11, 12] m (fun g s11 s12 wr => ∃ (k : Nat) (t : Int), g = m - k ∧ k ≤ m ∧ s12 = .int .i64 (k : Int) ∧ s11 = .int .i64 t ∧ Hid (t = 1 - tm21 x.id (l.take k)) ∧ Hid (Blk wr q 38 x.cs) ∧ Hid (Chg (fun _ => False) w wr))
        case atStart => exact ⟨0, 1, rfl, Nat.zero_le _, rfl, rfl, Lib.hid (by simp [tm21]), HB, H⟩
        case round =>
          clear HB H y0 y1 y2 y3 y4 y5 y6 y7 y8 y9 y10 y11 y12
          obtain ⟨k, t, rfl, hk, rfl, rfl, HT, HB, H⟩ := hrel
          by_cases hlt2 : k < m
          case neg =>
            have : k = m := by omega
            subst this
            have tn : ¬ t < 0 := by
              have h1 := HT.out
              rw [List.take_of_length_le (by have := HL.out; omega)] at h1
              have := HTM.out
              omega
            go_wp2_with fail
            go_roundg (k - (j + 1))
            case measure => omega
            case rel => exact ⟨j + 1, rfl, by omega, by go_num, H⟩
          have hh := HH.out.chg H.out
          have hjl : k < l.length := by have := HL.out; omega
          have hx : l[k]? = some l[k] := List.getElem?_eq_getElem hjl
          generalize l[k] = v at *
          obtain ⟨z0, z1, z2, z3, z4, z5, z6, z7, z8, z9, z10, z11, z12⟩ := hh.at hx
          have HTN := Lib.hid (tm21_nx x.id hx)
          have HBT : Hid (-81 ≤ t ∧ t ≤ 81) := Lib.hid (by
            have h1 := tm21_le x.id (l.take k)
            have h2 : (l.take k).length ≤ 80 := by rw [List.length_take]; have := HM.out; omega
            have := HT.out
            omega)
          have bt1 := HBT.out.1
          have bt2 := HBT.out.2
          have HSAME : Hid (gv21 v = true → (v.po == x.po) = true → (v.ge == x.ge) = true → (v.ch != x.ch) = false) := Lib.hid (fun g hp hg => by
            have := ok21_own HOK.out HJ.out hx HGX.out g (by simpa using (beq_iff_eq.1 hp).symm) (by simpa using (beq_iff_eq.1 hg).symm)
            simp [this])
          have HGV : Hid (gv21 v = ((v.wh == 1 || v.wh == 2) && v.dn == 1)) := Lib.hid rfl
          clear hx hh hjl
          have HV : Hid (Blk (wr.alloc (.cells #[.int .i64 v.wh, .int .i64 v.ti, .int .i64 v.ch, .int .i64 v.po, .int .i64 v.ve, .int .i64 v.ki, .int .i64 v.id, .int .i64 v.og, .int .i64 v.fr, .int .i64 v.dn, .int .i64 v.tg, .int .i64 v.ge, .int .i64 v.sp] 38)) wr.heap.size 38 v.cs) := Lib.hid (blk_new rfl)
          replace HB := Lib.hid (HB.out.chg ((Chg.refl (fun _ => False) wr).alloc (.cells #[.int .i64 v.wh, .int .i64 v.ti, .int .i64 v.ch, .int .i64 v.po, .int .i64 v.ve, .int .i64 v.ki, .int .i64 v.id, .int .i64 v.og, .int .i64 v.fr, .int .i64 v.dn, .int .i64 v.tg, .int .i64 v.ge, .int .i64 v.sp] 38)) id)
          replace H := Lib.hid (H.out.alloc (.cells #[.int .i64 v.wh, .int .i64 v.ti, .int .i64 v.ch, .int .i64 v.po, .int .i64 v.ve, .int .i64 v.ki, .int .i64 v.id, .int .i64 v.og, .int .i64 v.fr, .int .i64 v.dn, .int .i64 v.tg, .int .i64 v.ge, .int .i64 v.sp] 38))
          go_upto_region 19 with fail
          generalize wr.alloc (.cells #[.int .i64 v.wh, .int .i64 v.ti, .int .i64 v.ch, .int .i64 v.po, .int .i64 v.ve, .int .i64 v.ki, .int .i64 v.id, .int .i64 v.og, .int .i64 v.fr, .int .i64 v.dn, .int .i64 v.tg, .int .i64 v.ge, .int .i64 v.sp] 38) = wb at *
          generalize wr.heap.size = qv at *
          clear z0 z1 z2 z3 z4 z5 z6 z7 z8 z9 z10 z11 z12
          obtain ⟨y0, y1, y2, y3, y4, y5, y6, y7, y8, y9, y10, y11, y12⟩ := HA.out _ _ _ HB.out
          obtain ⟨z0, z1, z2, z3, z4, z5, z6, z7, z8, z9, z10, z11, z12⟩ := HA.out _ _ _ HV.out
          cases a1 : (v.wh == 1)
          · cases a2 : (v.wh == 2)
            · cases i1 : (v.id == x.id)
              · go_wp2_with fail
                have hnew : t = 1 - tm21 x.id (l.take (k + 1)) := by
                  rw [HTN.out, HGV.out]
                  have ht := HT.out
                  simp only [a1, a2, i1, Bool.false_or, Bool.true_or, Bool.or_false, Bool.or_true, Bool.true_and, Bool.false_and, Bool.and_true, Bool.and_false, Bool.false_eq_true, ↓reduceIte]
                  omega
                go_roundg (m - (k + 1))
                case measure => omega
                case rel => exact ⟨k + 1, t, rfl, by omega, by go_num, rfl, Lib.hid hnew, HB, H⟩
              · cases i3 : (v.wh == 3)
                · go_wp2_with fail
                  have hnew : t = 1 - tm21 x.id (l.take (k + 1)) := by
                    rw [HTN.out, HGV.out]
                    have ht := HT.out
                    simp only [a1, a2, i1, i3, Bool.false_or, Bool.true_or, Bool.or_false, Bool.or_true, Bool.true_and, Bool.false_and, Bool.and_true, Bool.and_false, Bool.false_eq_true, ↓reduceIte]
                    omega
                  go_roundg (m - (k + 1))
                  case measure => omega
                  case rel => exact ⟨k + 1, t, rfl, by omega, by go_num, rfl, Lib.hid hnew, HB, H⟩
                · go_wp2_with fail
                  have hnew : t + 1 = 1 - tm21 x.id (l.take (k + 1)) := by
                    rw [HTN.out, HGV.out]
                    have ht := HT.out
                    simp only [a1, a2, i1, i3, Bool.false_or, Bool.true_or, Bool.or_false, Bool.or_true, Bool.true_and, Bool.false_and, Bool.and_true, Bool.and_false, Bool.false_eq_true, ↓reduceIte]
                    omega
                  go_roundg (m - (k + 1))
                  case measure => omega
                  case rel => exact ⟨k + 1, t + 1, rfl, by omega, by go_num, rfl, Lib.hid hnew, HB, H⟩
            · cases d1 : (v.dn == 1)
              · cases i1 : (v.id == x.id)
                · go_wp2_with fail
                  have hnew : t = 1 - tm21 x.id (l.take (k + 1)) := by
                    rw [HTN.out, HGV.out]
                    have ht := HT.out
                    simp only [a1, a2, d1, i1, Bool.false_or, Bool.true_or, Bool.or_false, Bool.or_true, Bool.true_and, Bool.false_and, Bool.and_true, Bool.and_false, Bool.false_eq_true, ↓reduceIte]
                    omega
                  go_roundg (m - (k + 1))
                  case measure => omega
                  case rel => exact ⟨k + 1, t, rfl, by omega, by go_num, rfl, Lib.hid hnew, HB, H⟩
                · cases i3 : (v.wh == 3)
                  · go_wp2_with fail
                    have hnew : t = 1 - tm21 x.id (l.take (k + 1)) := by
                      rw [HTN.out, HGV.out]
                      have ht := HT.out
                      simp only [a1, a2, d1, i1, i3, Bool.false_or, Bool.true_or, Bool.or_false, Bool.or_true, Bool.true_and, Bool.false_and, Bool.and_true, Bool.and_false, Bool.false_eq_true, ↓reduceIte]
                      omega
                    go_roundg (m - (k + 1))
                    case measure => omega
                    case rel => exact ⟨k + 1, t, rfl, by omega, by go_num, rfl, Lib.hid hnew, HB, H⟩
                  · go_wp2_with fail
                    have hnew : t + 1 = 1 - tm21 x.id (l.take (k + 1)) := by
                      rw [HTN.out, HGV.out]
                      have ht := HT.out
                      simp only [a1, a2, d1, i1, i3, Bool.false_or, Bool.true_or, Bool.or_false, Bool.or_true, Bool.true_and, Bool.false_and, Bool.and_true, Bool.and_false, Bool.false_eq_true, ↓reduceIte]
                      omega
                    go_roundg (m - (k + 1))
                    case measure => omega
                    case rel => exact ⟨k + 1, t + 1, rfl, by omega, by go_num, rfl, Lib.hid hnew, HB, H⟩
              · have n3 : (v.wh == 3) = false := by rw [beq_eq_false_iff_ne]; have := beq_iff_eq.1 a2; omega
                cases p1 : (v.po == x.po)
                · cases i1 : (v.id == x.id)
                  · go_wp2_with fail
                    have hnew : t = 1 - tm21 x.id (l.take (k + 1)) := by
                      rw [HTN.out, HGV.out]
                      have ht := HT.out
                      simp only [a1, a2, d1, i1, n3, Bool.false_or, Bool.true_or, Bool.or_false, Bool.or_true, Bool.true_and, Bool.false_and, Bool.and_true, Bool.and_false, Bool.false_eq_true, ↓reduceIte]
                      omega
                    go_roundg (m - (k + 1))
                    case measure => omega
                    case rel => exact ⟨k + 1, t, rfl, by omega, by go_num, rfl, Lib.hid hnew, HB, H⟩
                  · go_wp2_with fail
                    have hnew : t - 1 = 1 - tm21 x.id (l.take (k + 1)) := by
                      rw [HTN.out, HGV.out]
                      have ht := HT.out
                      simp only [a1, a2, d1, i1, n3, Bool.false_or, Bool.true_or, Bool.or_false, Bool.or_true, Bool.true_and, Bool.false_and, Bool.and_true, Bool.and_false, Bool.false_eq_true, ↓reduceIte]
                      omega
                    go_roundg (m - (k + 1))
                    case measure => omega
                    case rel => exact ⟨k + 1, t - 1, rfl, by omega, by go_num, rfl, Lib.hid hnew, HB, H⟩
                · cases g1 : (v.ge == x.ge)
                  · cases i1 : (v.id == x.id)
                    · go_wp2_with fail
                      have hnew : t = 1 - tm21 x.id (l.take (k + 1)) := by
                        rw [HTN.out, HGV.out]
                        have ht := HT.out
                        simp only [a1, a2, d1, i1, n3, Bool.false_or, Bool.true_or, Bool.or_false, Bool.or_true, Bool.true_and, Bool.false_and, Bool.and_true, Bool.and_false, Bool.false_eq_true, ↓reduceIte]
                        omega
                      go_roundg (m - (k + 1))
                      case measure => omega
                      case rel => exact ⟨k + 1, t, rfl, by omega, by go_num, rfl, Lib.hid hnew, HB, H⟩
                    · go_wp2_with fail
                      have hnew : t - 1 = 1 - tm21 x.id (l.take (k + 1)) := by
                        rw [HTN.out, HGV.out]
                        have ht := HT.out
                        simp only [a1, a2, d1, i1, n3, Bool.false_or, Bool.true_or, Bool.or_false, Bool.or_true, Bool.true_and, Bool.false_and, Bool.and_true, Bool.and_false, Bool.false_eq_true, ↓reduceIte]
                        omega
                      go_roundg (m - (k + 1))
                      case measure => omega
                      case rel => exact ⟨k + 1, t - 1, rfl, by omega, by go_num, rfl, Lib.hid hnew, HB, H⟩
                  · have n4 := HSAME.out (by rw [HGV.out]; simp only [a1, a2, d1, Bool.false_or, Bool.true_or, Bool.or_false, Bool.or_true, Bool.true_and, Bool.false_and, Bool.and_true, Bool.and_false, Bool.false_eq_true, ↓reduceIte]) p1 g1
                    cases i1 : (v.id == x.id)
                    · go_wp2_with fail
                      have hnew : t = 1 - tm21 x.id (l.take (k + 1)) := by
                        rw [HTN.out, HGV.out]
                        have ht := HT.out
                        simp only [a1, a2, d1, i1, n3, Bool.false_or, Bool.true_or, Bool.or_false, Bool.or_true, Bool.true_and, Bool.false_and, Bool.and_true, Bool.and_false, Bool.false_eq_true, ↓reduceIte]
                        omega
                      go_roundg (m - (k + 1))
                      case measure => omega
                      case rel => exact ⟨k + 1, t, rfl, by omega, by go_num, rfl, Lib.hid hnew, HB, H⟩
                    · go_wp2_with fail
                      have hnew : t - 1 = 1 - tm21 x.id (l.take (k + 1)) := by
                        rw [HTN.out, HGV.out]
                        have ht := HT.out
                        simp only [a1, a2, d1, i1, n3, Bool.false_or, Bool.true_or, Bool.or_false, Bool.or_true, Bool.true_and, Bool.false_and, Bool.and_true, Bool.and_false, Bool.false_eq_true, ↓reduceIte]
                        omega
                      go_roundg (m - (k + 1))
                      case measure => omega
                      case rel => exact ⟨k + 1, t - 1, rfl, by omega, by go_num, rfl, Lib.hid hnew, HB, H⟩
          · cases d1 : (v.dn == 1)
            · cases i1 : (v.id == x.id)
              · go_wp2_with fail
                have hnew : t = 1 - tm21 x.id (l.take (k + 1)) := by
                  rw [HTN.out, HGV.out]
                  have ht := HT.out
                  simp only [a1, d1, i1, Bool.false_or, Bool.true_or, Bool.or_false, Bool.or_true, Bool.true_and, Bool.false_and, Bool.and_true, Bool.and_false, Bool.false_eq_true, ↓reduceIte]
                  omega
                go_roundg (m - (k + 1))
                case measure => omega
                case rel => exact ⟨k + 1, t, rfl, by omega, by go_num, rfl, Lib.hid hnew, HB, H⟩
              · cases i3 : (v.wh == 3)
                · go_wp2_with fail
                  have hnew : t = 1 - tm21 x.id (l.take (k + 1)) := by
                    rw [HTN.out, HGV.out]
                    have ht := HT.out
                    simp only [a1, d1, i1, i3, Bool.false_or, Bool.true_or, Bool.or_false, Bool.or_true, Bool.true_and, Bool.false_and, Bool.and_true, Bool.and_false, Bool.false_eq_true, ↓reduceIte]
                    omega
                  go_roundg (m - (k + 1))
                  case measure => omega
                  case rel => exact ⟨k + 1, t, rfl, by omega, by go_num, rfl, Lib.hid hnew, HB, H⟩
                · go_wp2_with fail
                  have hnew : t + 1 = 1 - tm21 x.id (l.take (k + 1)) := by
                    rw [HTN.out, HGV.out]
                    have ht := HT.out
                    simp only [a1, d1, i1, i3, Bool.false_or, Bool.true_or, Bool.or_false, Bool.or_true, Bool.true_and, Bool.false_and, Bool.and_true, Bool.and_false, Bool.false_eq_true, ↓reduceIte]
                    omega
                  go_roundg (m - (k + 1))
                  case measure => omega
                  case rel => exact ⟨k + 1, t + 1, rfl, by omega, by go_num, rfl, Lib.hid hnew, HB, H⟩
            · have n3 : (v.wh == 3) = false := by rw [beq_eq_false_iff_ne]; have := beq_iff_eq.1 a1; omega
              cases p1 : (v.po == x.po)
              · cases i1 : (v.id == x.id)
                · go_wp2_with fail
                  have hnew : t = 1 - tm21 x.id (l.take (k + 1)) := by
                    rw [HTN.out, HGV.out]
                    have ht := HT.out
                    simp only [a1, d1, i1, n3, Bool.false_or, Bool.true_or, Bool.or_false, Bool.or_true, Bool.true_and, Bool.false_and, Bool.and_true, Bool.and_false, Bool.false_eq_true, ↓reduceIte]
                    omega
                  go_roundg (m - (k + 1))
                  case measure => omega
                  case rel => exact ⟨k + 1, t, rfl, by omega, by go_num, rfl, Lib.hid hnew, HB, H⟩
                · go_wp2_with fail
                  have hnew : t - 1 = 1 - tm21 x.id (l.take (k + 1)) := by
                    rw [HTN.out, HGV.out]
                    have ht := HT.out
                    simp only [a1, d1, i1, n3, Bool.false_or, Bool.true_or, Bool.or_false, Bool.or_true, Bool.true_and, Bool.false_and, Bool.and_true, Bool.and_false, Bool.false_eq_true, ↓reduceIte]
                    omega
                  go_roundg (m - (k + 1))
                  case measure => omega
                  case rel => exact ⟨k + 1, t - 1, rfl, by omega, by go_num, rfl, Lib.hid hnew, HB, H⟩
              · cases g1 : (v.ge == x.ge)
                · cases i1 : (v.id == x.id)
                  · go_wp2_with fail
                    have hnew : t = 1 - tm21 x.id (l.take (k + 1)) := by
                      rw [HTN.out, HGV.out]
                      have ht := HT.out
                      simp only [a1, d1, i1, n3, Bool.false_or, Bool.true_or, Bool.or_false, Bool.or_true, Bool.true_and, Bool.false_and, Bool.and_true, Bool.and_false, Bool.false_eq_true, ↓reduceIte]
                      omega
                    go_roundg (m - (k + 1))
                    case measure => omega
                    case rel => exact ⟨k + 1, t, rfl, by omega, by go_num, rfl, Lib.hid hnew, HB, H⟩
                  · go_wp2_with fail
                    have hnew : t - 1 = 1 - tm21 x.id (l.take (k + 1)) := by
                      rw [HTN.out, HGV.out]
                      have ht := HT.out
                      simp only [a1, d1, i1, n3, Bool.false_or, Bool.true_or, Bool.or_false, Bool.or_true, Bool.true_and, Bool.false_and, Bool.and_true, Bool.and_false, Bool.false_eq_true, ↓reduceIte]
                      omega
                    go_roundg (m - (k + 1))
                    case measure => omega
                    case rel => exact ⟨k + 1, t - 1, rfl, by omega, by go_num, rfl, Lib.hid hnew, HB, H⟩
                · have n4 := HSAME.out (by rw [HGV.out]; simp only [a1, d1, Bool.false_or, Bool.true_or, Bool.or_false, Bool.or_true, Bool.true_and, Bool.false_and, Bool.and_true, Bool.and_false, Bool.false_eq_true, ↓reduceIte]) p1 g1
                  cases i1 : (v.id == x.id)
                  · go_wp2_with fail
                    have hnew : t = 1 - tm21 x.id (l.take (k + 1)) := by
                      rw [HTN.out, HGV.out]
                      have ht := HT.out
                      simp only [a1, d1, i1, n3, Bool.false_or, Bool.true_or, Bool.or_false, Bool.or_true, Bool.true_and, Bool.false_and, Bool.and_true, Bool.and_false, Bool.false_eq_true, ↓reduceIte]
                      omega
                    go_roundg (m - (k + 1))
                    case measure => omega
                    case rel => exact ⟨k + 1, t, rfl, by omega, by go_num, rfl, Lib.hid hnew, HB, H⟩
                  · go_wp2_with fail
                    have hnew : t - 1 = 1 - tm21 x.id (l.take (k + 1)) := by
                      rw [HTN.out, HGV.out]
                      have ht := HT.out
                      simp only [a1, d1, i1, n3, Bool.false_or, Bool.true_or, Bool.or_false, Bool.or_true, Bool.true_and, Bool.false_and, Bool.and_true, Bool.and_false, Bool.false_eq_true, ↓reduceIte]
                      omega
                    go_roundg (m - (k + 1))
                    case measure => omega
                    case rel => exact ⟨k + 1, t - 1, rfl, by omega, by go_num, rfl, Lib.hid hnew, HB, H⟩
      · go_wp2_with fail
        go_roundg (m - (j + 1))
        case measure => omega
        case rel => exact ⟨j + 1, rfl, by omega, by go_num, H⟩
    · cases e2 : (x.wh != 2)
      · cases e3 : (x.dn != 1)
        · have hgx : gv21 x = true := by rw [HG.out]; simp only [bne_f21 e2, bne_f21 e3, Bool.false_or, Bool.true_or, Bool.or_false, Bool.or_true, Bool.true_and, Bool.false_and, Bool.and_true, Bool.and_false, Bool.false_eq_true, ↓reduceIte]
          have HGX := Lib.hid hgx
          clear hgx
          go_wp2_with fail
          go_loopg [11, 12] m (fun g s11 s12 wr => ∃ (k : Nat) (t : Int), g = m - k ∧ k ≤ m ∧ s12 = .int .i64 (k : Int) ∧ s11 = .int .i64 t ∧ Hid (t = 1 - tm21 x.id (l.take k)) ∧ Hid (Blk wr q 38 x.cs) ∧ Hid (Chg (fun _ => False) w wr))
          case atStart => exact ⟨0, 1, rfl, Nat.zero_le _, rfl, rfl, Lib.hid (by simp [tm21]), HB, H⟩
          case round =>
            clear HB H y0 y1 y2 y3 y4 y5 y6 y7 y8 y9 y10 y11 y12
            obtain ⟨k, t, rfl, hk, rfl, rfl, HT, HB, H⟩ := hrel
            by_cases hlt2 : k < m
            case neg =>
              have : k = m := by omega
              subst this
              have tn : ¬ t < 0 := by
                have h1 := HT.out
                rw [List.take_of_length_le (by have := HL.out; omega)] at h1
                have := HTM.out
                omega
              go_wp2_with fail
              go_roundg (k - (j + 1))
              case measure => omega
              case rel => exact ⟨j + 1, rfl, by omega, by go_num, H⟩
            have hh := HH.out.chg H.out
            have hjl : k < l.length := by have := HL.out; omega
            have hx : l[k]? = some l[k] := List.getElem?_eq_getElem hjl
            generalize l[k] = v at *
            obtain ⟨z0, z1, z2, z3, z4, z5, z6, z7, z8, z9, z10, z11, z12⟩ := hh.at hx
            have HTN := Lib.hid (tm21_nx x.id hx)
            have HBT : Hid (-81 ≤ t ∧ t ≤ 81) := Lib.hid (by
              have h1 := tm21_le x.id (l.take k)
              have h2 : (l.take k).length ≤ 80 := by rw [List.length_take]; have := HM.out; omega
              have := HT.out
              omega)
            have bt1 := HBT.out.1
            have bt2 := HBT.out.2
            have HSAME : Hid (gv21 v = true → (v.po == x.po) = true → (v.ge == x.ge) = true → (v.ch != x.ch) = false) := Lib.hid (fun g hp hg => by
              have := ok21_own HOK.out HJ.out hx HGX.out g (by simpa using (beq_iff_eq.1 hp).symm) (by simpa using (beq_iff_eq.1 hg).symm)
              simp [this])
            have HGV : Hid (gv21 v = ((v.wh == 1 || v.wh == 2) && v.dn == 1)) := Lib.hid rfl
            clear hx hh hjl
            have HV : Hid (Blk (wr.alloc (.cells #[.int .i64 v.wh, .int .i64 v.ti, .int .i64 v.ch, .int .i64 v.po, .int .i64 v.ve, .int .i64 v.ki, .int .i64 v.id, .int .i64 v.og, .int .i64 v.fr, .int .i64 v.dn, .int .i64 v.tg, .int .i64 v.ge, .int .i64 v.sp] 38)) wr.heap.size 38 v.cs) := Lib.hid (blk_new rfl)
            replace HB := Lib.hid (HB.out.chg ((Chg.refl (fun _ => False) wr).alloc (.cells #[.int .i64 v.wh, .int .i64 v.ti, .int .i64 v.ch, .int .i64 v.po, .int .i64 v.ve, .int .i64 v.ki, .int .i64 v.id, .int .i64 v.og, .int .i64 v.fr, .int .i64 v.dn, .int .i64 v.tg, .int .i64 v.ge, .int .i64 v.sp] 38)) id)
            replace H := Lib.hid (H.out.alloc (.cells #[.int .i64 v.wh, .int .i64 v.ti, .int .i64 v.ch, .int .i64 v.po, .int .i64 v.ve, .int .i64 v.ki, .int .i64 v.id, .int .i64 v.og, .int .i64 v.fr, .int .i64 v.dn, .int .i64 v.tg, .int .i64 v.ge, .int .i64 v.sp] 38))
            go_upto_region 19 with fail
            generalize wr.alloc (.cells #[.int .i64 v.wh, .int .i64 v.ti, .int .i64 v.ch, .int .i64 v.po, .int .i64 v.ve, .int .i64 v.ki, .int .i64 v.id, .int .i64 v.og, .int .i64 v.fr, .int .i64 v.dn, .int .i64 v.tg, .int .i64 v.ge, .int .i64 v.sp] 38) = wb at *
            generalize wr.heap.size = qv at *
            clear z0 z1 z2 z3 z4 z5 z6 z7 z8 z9 z10 z11 z12
            obtain ⟨y0, y1, y2, y3, y4, y5, y6, y7, y8, y9, y10, y11, y12⟩ := HA.out _ _ _ HB.out
            obtain ⟨z0, z1, z2, z3, z4, z5, z6, z7, z8, z9, z10, z11, z12⟩ := HA.out _ _ _ HV.out
            cases a1 : (v.wh == 1)
            · cases a2 : (v.wh == 2)
              · cases i1 : (v.id == x.id)
                · go_wp2_with fail
                  have hnew : t = 1 - tm21 x.id (l.take (k + 1)) := by
                    rw [HTN.out, HGV.out]
                    have ht := HT.out
                    simp only [a1, a2, i1, Bool.false_or, Bool.true_or, Bool.or_false, Bool.or_true, Bool.true_and, Bool.false_and, Bool.and_true, Bool.and_false, Bool.false_eq_true, ↓reduceIte]
                    omega
                  go_roundg (m - (k + 1))
                  case measure => omega
                  case rel => exact ⟨k + 1, t, rfl, by omega, by go_num, rfl, Lib.hid hnew, HB, H⟩
                · cases i3 : (v.wh == 3)
                  · go_wp2_with fail
                    have hnew : t = 1 - tm21 x.id (l.take (k + 1)) := by
                      rw [HTN.out, HGV.out]
                      have ht := HT.out
                      simp only [a1, a2, i1, i3, Bool.false_or, Bool.true_or, Bool.or_false, Bool.or_true, Bool.true_and, Bool.false_and, Bool.and_true, Bool.and_false, Bool.false_eq_true, ↓reduceIte]
                      omega
                    go_roundg (m - (k + 1))
                    case measure => omega
                    case rel => exact ⟨k + 1, t, rfl, by omega, by go_num, rfl, Lib.hid hnew, HB, H⟩
                  · go_wp2_with fail
                    have hnew : t + 1 = 1 - tm21 x.id (l.take (k + 1)) := by
                      rw [HTN.out, HGV.out]
                      have ht := HT.out
                      simp only [a1, a2, i1, i3, Bool.false_or, Bool.true_or, Bool.or_false, Bool.or_true, Bool.true_and, Bool.false_and, Bool.and_true, Bool.and_false, Bool.false_eq_true, ↓reduceIte]
                      omega
                    go_roundg (m - (k + 1))
                    case measure => omega
                    case rel => exact ⟨k + 1, t + 1, rfl, by omega, by go_num, rfl, Lib.hid hnew, HB, H⟩
              · cases d1 : (v.dn == 1)
                · cases i1 : (v.id == x.id)
                  · go_wp2_with fail
                    have hnew : t = 1 - tm21 x.id (l.take (k + 1)) := by
                      rw [HTN.out, HGV.out]
                      have ht := HT.out
                      simp only [a1, a2, d1, i1, Bool.false_or, Bool.true_or, Bool.or_false, Bool.or_true, Bool.true_and, Bool.false_and, Bool.and_true, Bool.and_false, Bool.false_eq_true, ↓reduceIte]
                      omega
                    go_roundg (m - (k + 1))
                    case measure => omega
                    case rel => exact ⟨k + 1, t, rfl, by omega, by go_num, rfl, Lib.hid hnew, HB, H⟩
                  · cases i3 : (v.wh == 3)
                    · go_wp2_with fail
                      have hnew : t = 1 - tm21 x.id (l.take (k + 1)) := by
                        rw [HTN.out, HGV.out]
                        have ht := HT.out
                        simp only [a1, a2, d1, i1, i3, Bool.false_or, Bool.true_or, Bool.or_false, Bool.or_true, Bool.true_and, Bool.false_and, Bool.and_true, Bool.and_false, Bool.false_eq_true, ↓reduceIte]
                        omega
                      go_roundg (m - (k + 1))
                      case measure => omega
                      case rel => exact ⟨k + 1, t, rfl, by omega, by go_num, rfl, Lib.hid hnew, HB, H⟩
                    · go_wp2_with fail
                      have hnew : t + 1 = 1 - tm21 x.id (l.take (k + 1)) := by
                        rw [HTN.out, HGV.out]
                        have ht := HT.out
                        simp only [a1, a2, d1, i1, i3, Bool.false_or, Bool.true_or, Bool.or_false, Bool.or_true, Bool.true_and, Bool.false_and, Bool.and_true, Bool.and_false, Bool.false_eq_true, ↓reduceIte]
                        omega
                      go_roundg (m - (k + 1))
                      case measure => omega
                      case rel => exact ⟨k + 1, t + 1, rfl, by omega, by go_num, rfl, Lib.hid hnew, HB, H⟩
                · have n3 : (v.wh == 3) = false := by rw [beq_eq_false_iff_ne]; have := beq_iff_eq.1 a2; omega
                  cases p1 : (v.po == x.po)
                  · cases i1 : (v.id == x.id)
                    · go_wp2_with fail
                      have hnew : t = 1 - tm21 x.id (l.take (k + 1)) := by
                        rw [HTN.out, HGV.out]
                        have ht := HT.out
                        simp only [a1, a2, d1, i1, n3, Bool.false_or, Bool.true_or, Bool.or_false, Bool.or_true, Bool.true_and, Bool.false_and, Bool.and_true, Bool.and_false, Bool.false_eq_true, ↓reduceIte]
                        omega
                      go_roundg (m - (k + 1))
                      case measure => omega
                      case rel => exact ⟨k + 1, t, rfl, by omega, by go_num, rfl, Lib.hid hnew, HB, H⟩
                    · go_wp2_with fail
                      have hnew : t - 1 = 1 - tm21 x.id (l.take (k + 1)) := by
                        rw [HTN.out, HGV.out]
                        have ht := HT.out
                        simp only [a1, a2, d1, i1, n3, Bool.false_or, Bool.true_or, Bool.or_false, Bool.or_true, Bool.true_and, Bool.false_and, Bool.and_true, Bool.and_false, Bool.false_eq_true, ↓reduceIte]
                        omega
                      go_roundg (m - (k + 1))
                      case measure => omega
                      case rel => exact ⟨k + 1, t - 1, rfl, by omega, by go_num, rfl, Lib.hid hnew, HB, H⟩
                  · cases g1 : (v.ge == x.ge)
                    · cases i1 : (v.id == x.id)
                      · go_wp2_with fail
                        have hnew : t = 1 - tm21 x.id (l.take (k + 1)) := by
                          rw [HTN.out, HGV.out]
                          have ht := HT.out
                          simp only [a1, a2, d1, i1, n3, Bool.false_or, Bool.true_or, Bool.or_false, Bool.or_true, Bool.true_and, Bool.false_and, Bool.and_true, Bool.and_false, Bool.false_eq_true, ↓reduceIte]
                          omega
                        go_roundg (m - (k + 1))
                        case measure => omega
                        case rel => exact ⟨k + 1, t, rfl, by omega, by go_num, rfl, Lib.hid hnew, HB, H⟩
                      · go_wp2_with fail
                        have hnew : t - 1 = 1 - tm21 x.id (l.take (k + 1)) := by
                          rw [HTN.out, HGV.out]
                          have ht := HT.out
                          simp only [a1, a2, d1, i1, n3, Bool.false_or, Bool.true_or, Bool.or_false, Bool.or_true, Bool.true_and, Bool.false_and, Bool.and_true, Bool.and_false, Bool.false_eq_true, ↓reduceIte]
                          omega
                        go_roundg (m - (k + 1))
                        case measure => omega
                        case rel => exact ⟨k + 1, t - 1, rfl, by omega, by go_num, rfl, Lib.hid hnew, HB, H⟩
                    · have n4 := HSAME.out (by rw [HGV.out]; simp only [a1, a2, d1, Bool.false_or, Bool.true_or, Bool.or_false, Bool.or_true, Bool.true_and, Bool.false_and, Bool.and_true, Bool.and_false, Bool.false_eq_true, ↓reduceIte]) p1 g1
                      cases i1 : (v.id == x.id)
                      · go_wp2_with fail
                        have hnew : t = 1 - tm21 x.id (l.take (k + 1)) := by
                          rw [HTN.out, HGV.out]
                          have ht := HT.out
                          simp only [a1, a2, d1, i1, n3, Bool.false_or, Bool.true_or, Bool.or_false, Bool.or_true, Bool.true_and, Bool.false_and, Bool.and_true, Bool.and_false, Bool.false_eq_true, ↓reduceIte]
                          omega
                        go_roundg (m - (k + 1))
                        case measure => omega
                        case rel => exact ⟨k + 1, t, rfl, by omega, by go_num, rfl, Lib.hid hnew, HB, H⟩
                      · go_wp2_with fail
                        have hnew : t - 1 = 1 - tm21 x.id (l.take (k + 1)) := by
                          rw [HTN.out, HGV.out]
                          have ht := HT.out
                          simp only [a1, a2, d1, i1, n3, Bool.false_or, Bool.true_or, Bool.or_false, Bool.or_true, Bool.true_and, Bool.false_and, Bool.and_true, Bool.and_false, Bool.false_eq_true, ↓reduceIte]
                          omega
                        go_roundg (m - (k + 1))
                        case measure => omega
                        case rel => exact ⟨k + 1, t - 1, rfl, by omega, by go_num, rfl, Lib.hid hnew, HB, H⟩
            · cases d1 : (v.dn == 1)
              · cases i1 : (v.id == x.id)
                · go_wp2_with fail
                  have hnew : t = 1 - tm21 x.id (l.take (k + 1)) := by
                    rw [HTN.out, HGV.out]
                    have ht := HT.out
                    simp only [a1, d1, i1, Bool.false_or, Bool.true_or, Bool.or_false, Bool.or_true, Bool.true_and, Bool.false_and, Bool.and_true, Bool.and_false, Bool.false_eq_true, ↓reduceIte]
                    omega
                  go_roundg (m - (k + 1))
                  case measure => omega
                  case rel => exact ⟨k + 1, t, rfl, by omega, by go_num, rfl, Lib.hid hnew, HB, H⟩
                · cases i3 : (v.wh == 3)
                  · go_wp2_with fail
                    have hnew : t = 1 - tm21 x.id (l.take (k + 1)) := by
                      rw [HTN.out, HGV.out]
                      have ht := HT.out
                      simp only [a1, d1, i1, i3, Bool.false_or, Bool.true_or, Bool.or_false, Bool.or_true, Bool.true_and, Bool.false_and, Bool.and_true, Bool.and_false, Bool.false_eq_true, ↓reduceIte]
                      omega
                    go_roundg (m - (k + 1))
                    case measure => omega
                    case rel => exact ⟨k + 1, t, rfl, by omega, by go_num, rfl, Lib.hid hnew, HB, H⟩
                  · go_wp2_with fail
                    have hnew : t + 1 = 1 - tm21 x.id (l.take (k + 1)) := by
                      rw [HTN.out, HGV.out]
                      have ht := HT.out
                      simp only [a1, d1, i1, i3, Bool.false_or, Bool.true_or, Bool.or_false, Bool.or_true, Bool.true_and, Bool.false_and, Bool.and_true, Bool.and_false, Bool.false_eq_true, ↓reduceIte]
                      omega
                    go_roundg (m - (k + 1))
                    case measure => omega
                    case rel => exact ⟨k + 1, t + 1, rfl, by omega, by go_num, rfl, Lib.hid hnew, HB, H⟩
              · have n3 : (v.wh == 3) = false := by rw [beq_eq_false_iff_ne]; have := beq_iff_eq.1 a1; omega
                cases p1 : (v.po == x.po)
                · cases i1 : (v.id == x.id)
                  · go_wp2_with fail
                    have hnew : t = 1 - tm21 x.id (l.take (k + 1)) := by
                      rw [HTN.out, HGV.out]
                      have ht := HT.out
                      simp only [a1, d1, i1, n3, Bool.false_or, Bool.true_or, Bool.or_false, Bool.or_true, Bool.true_and, Bool.false_and, Bool.and_true, Bool.and_false, Bool.false_eq_true, ↓reduceIte]
                      omega
                    go_roundg (m - (k + 1))
                    case measure => omega
                    case rel => exact ⟨k + 1, t, rfl, by omega, by go_num, rfl, Lib.hid hnew, HB, H⟩
                  · go_wp2_with fail
                    have hnew : t - 1 = 1 - tm21 x.id (l.take (k + 1)) := by
                      rw [HTN.out, HGV.out]
                      have ht := HT.out
                      simp only [a1, d1, i1, n3, Bool.false_or, Bool.true_or, Bool.or_false, Bool.or_true, Bool.true_and, Bool.false_and, Bool.and_true, Bool.and_false, Bool.false_eq_true, ↓reduceIte]
                      omega
                    go_roundg (m - (k + 1))
                    case measure => omega
                    case rel => exact ⟨k + 1, t - 1, rfl, by omega, by go_num, rfl, Lib.hid hnew, HB, H⟩
                · cases g1 : (v.ge == x.ge)
                  · cases i1 : (v.id == x.id)
                    · go_wp2_with fail
                      have hnew : t = 1 - tm21 x.id (l.take (k + 1)) := by
                        rw [HTN.out, HGV.out]
                        have ht := HT.out
                        simp only [a1, d1, i1, n3, Bool.false_or, Bool.true_or, Bool.or_false, Bool.or_true, Bool.true_and, Bool.false_and, Bool.and_true, Bool.and_false, Bool.false_eq_true, ↓reduceIte]
                        omega
                      go_roundg (m - (k + 1))
                      case measure => omega
                      case rel => exact ⟨k + 1, t, rfl, by omega, by go_num, rfl, Lib.hid hnew, HB, H⟩
                    · go_wp2_with fail
                      have hnew : t - 1 = 1 - tm21 x.id (l.take (k + 1)) := by
                        rw [HTN.out, HGV.out]
                        have ht := HT.out
                        simp only [a1, d1, i1, n3, Bool.false_or, Bool.true_or, Bool.or_false, Bool.or_true, Bool.true_and, Bool.false_and, Bool.and_true, Bool.and_false, Bool.false_eq_true, ↓reduceIte]
                        omega
                      go_roundg (m - (k + 1))
                      case measure => omega
                      case rel => exact ⟨k + 1, t - 1, rfl, by omega, by go_num, rfl, Lib.hid hnew, HB, H⟩
                  · have n4 := HSAME.out (by rw [HGV.out]; simp only [a1, d1, Bool.false_or, Bool.true_or, Bool.or_false, Bool.or_true, Bool.true_and, Bool.false_and, Bool.and_true, Bool.and_false, Bool.false_eq_true, ↓reduceIte]) p1 g1
                    cases i1 : (v.id == x.id)
                    · go_wp2_with fail
                      have hnew : t = 1 - tm21 x.id (l.take (k + 1)) := by
                        rw [HTN.out, HGV.out]
                        have ht := HT.out
                        simp only [a1, d1, i1, n3, Bool.false_or, Bool.true_or, Bool.or_false, Bool.or_true, Bool.true_and, Bool.false_and, Bool.and_true, Bool.and_false, Bool.false_eq_true, ↓reduceIte]
                        omega
                      go_roundg (m - (k + 1))
                      case measure => omega
                      case rel => exact ⟨k + 1, t, rfl, by omega, by go_num, rfl, Lib.hid hnew, HB, H⟩
                    · go_wp2_with fail
                      have hnew : t - 1 = 1 - tm21 x.id (l.take (k + 1)) := by
                        rw [HTN.out, HGV.out]
                        have ht := HT.out
                        simp only [a1, d1, i1, n3, Bool.false_or, Bool.true_or, Bool.or_false, Bool.or_true, Bool.true_and, Bool.false_and, Bool.and_true, Bool.and_false, Bool.false_eq_true, ↓reduceIte]
                        omega
                      go_roundg (m - (k + 1))
                      case measure => omega
                      case rel => exact ⟨k + 1, t - 1, rfl, by omega, by go_num, rfl, Lib.hid hnew, HB, H⟩
        · go_wp2_with fail
          go_roundg (m - (j + 1))
          case measure => omega
          case rel => exact ⟨j + 1, rfl, by omega, by go_num, H⟩
      · go_wp2_with fail
        go_roundg (m - (j + 1))
        case measure => omega
        case rel => exact ⟨j + 1, rfl, by omega, by go_num, H⟩

end Go.Proofs.Ytmfgbonlhoffaaa
