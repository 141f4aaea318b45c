/-
  Walks: Visits, the code's and the document's; rutterref10.Ints. Condition: what they look at is read in memory, at most 80 events.
-/
import Derived.Test.YtmfgbonlhoffaaaDh
namespace Go.Proofs.Ytmfgbonlhoffaaa
open Go.RowKit
set_option linter.unusedVariables false
set_option linter.unusedSimpArgs false
theorem rds_at21 {w : World} {S : Nat → Prop} {ad : Addr} {n j : Nat} {l : List Int} {x : Int} (h : Rds w S (some ad) n (ics l)) (hi : l[j]? = some x) : w.cell? (ad.add j) = some (.int .i64 x) := by
  have hl : j < l.length := (List.getElem?_eq_some_iff.1 hi).1
  obtain ⟨ad', e, _, _, hc⟩ := h.2 (by have := h.1; rw [ics_len] at this; omega)
  injection e with e
  subst e
  exact hc j _ (by simp [ics, hi])
/-- What compares two lists and says true of the same. -/
def SameP21 {α : Type} (l l2 : List α) (w : World) (e : Ending) (w' : World) : Prop := ∃ b, e = .returned (.bool b) ∧ (l = l2 → b = true) ∧ Chg (fun _ => False) w w'
theorem list_ne21 {α : Type} {l l2 : List α} {j : Nat} {x y : α} (h1 : l[j]? = some x) (h2 : l2[j]? = some y) (h : x ≠ y) : l ≠ l2 := fun e => by
  rw [e, h2] at h1
  injection h1 with h1
  exact h h1.symm
set_option maxRecDepth 20000 in
set_option maxRecDepth 100000 in
set_option maxHeartbeats 4000000 in
theorem ints21_any (A A2 : Option Addr) (n n2 c c2 : Nat) (l l2 : List Int) (S S2 : Nat → Prop) (w : World) (h : Rds w S A n (ics l)) (h2 : Rds w S2 A2 n2 (ics l2)) (hn : n ≤ 9000000000000000000) : Calls Try.prog 9 #[.slice A n c, .slice A2 n2 c2] w (SameP21 l l2 w) := by
  have HH := Lib.hid h
  have HH2 := Lib.hid h2
  have HL := Lib.hid (show n = l.length from (by have := h.1; rw [ics_len] at this; exact this.symm))
  have HL2 := Lib.hid (show n2 = l2.length from (by have := h2.1; rw [ics_len] at this; exact this.symm))
  clear h h2
  by_cases hnn : n = n2
  case neg =>
    have tn : ((n : Int) == (n2 : Int)) = false := by rw [beq_eq_false_iff_ne]; omega
    have sn : ((n : Int) != (n2 : Int)) = true := by rw [bne_iff_ne]; omega
    have HNE := Lib.hid (show l ≠ l2 from fun e => hnn (by rw [HL.out, HL2.out, e]))
    clear hnn
    go_enter Try.func9, Try.ntmps9
    go_wp2_with fail
    go_ret
    exact ⟨false, rfl, fun e => absurd e HNE.out, Chg.refl _ _⟩
  case pos =>
    subst hnn
    go_enter Try.func9, Try.ntmps9
    go_wp2_with fail
    go_loopg [5] n (fun g i wr => ∃ (j : Nat), g = n - j ∧ j ≤ n ∧ i = .int .i64 (j : Int) ∧ Hid (Chg (fun _ => False) w wr))
    case atStart => exact ⟨0, rfl, Nat.zero_le _, rfl, Lib.hid (Chg.refl _ _)⟩
    case round =>
      obtain ⟨j, rfl, hj, rfl, HX0⟩ := hrel
      by_cases hlt : j < n
      · have hh := HH.out.chg HX0.out.drew (fun _ _ => id)
        have hh2 := HH2.out.chg HX0.out.drew (fun _ _ => id)
        obtain ⟨ad, rfl, -⟩ := hh.2 (by omega)
        obtain ⟨ad2, rfl, -⟩ := hh2.2 (by omega)
        have hjl : j < l.length := by have := HL.out; omega
        have hjl2 : j < l2.length := by have := HL2.out; omega
        have hx : l[j]? = some l[j] := List.getElem?_eq_getElem hjl
        have hy : l2[j]? = some l2[j] := List.getElem?_eq_getElem hjl2
        generalize l[j] = x at *
        generalize l2[j] = y at *
        have z0 := rds_at21 hh hx
        have t0 := rds_at21 hh2 hy
        by_cases he : x = y
        case neg =>
          have te : (x == y) = false := by simpa using he
          have se : (x != y) = true := by simpa using he
          have HNE := Lib.hid (list_ne21 hx hy he)
          clear hx hy hh hh2 hjl hjl2 he
          go_wp2_with fail
          go_region
          go_wp2_with fail
          go_ret
          exact ⟨false, rfl, fun e => absurd e HNE.out, HX0.out.drew⟩
        case pos =>
          subst he
          clear hx hy hh hh2 hjl hjl2
          go_wp2_with fail
          go_region
          clear z0 t0
          replace HX0 := Lib.hid HX0.out.drew
          generalize World.drew wr = w2 at *
          go_wp2_with fail
          go_roundg (n - (j + 1))
          case measure => omega
          case rel => exact ⟨j + 1, rfl, by omega, by go_num, HX0⟩
      · have : j = n := by omega
        subst this
        go_wp2_with fail
        go_ret
        exact ⟨true, rfl, fun _ => rfl, HX0.out⟩
/-- The chassis that looked at an ID. -/
def vs21 (k : Int) (l : List Ev) : List Int := (l.filter fun x => lk21 x && x.id == k).map (·.ch)
theorem vs21_app (k : Int) (a b : List Ev) : vs21 k (a ++ b) = vs21 k a ++ vs21 k b := by simp [vs21]
theorem vs21_len (k : Int) (l : List Ev) : (vs21 k l).length ≤ l.length := by
  unfold vs21
  rw [List.length_map]
  exact List.length_filter_le _ _
theorem vs21_yes {k : Int} {l : List Ev} {j : Nat} {x : Ev} (h : l[j]? = some x) (hx : (lk21 x && x.id == k) = true) : vs21 k (l.take (j + 1)) = vs21 k (l.take j) ++ [x.ch] := by
  rw [take21 h, vs21_app]
  unfold vs21
  rw [List.filter_cons_of_pos (l := []) (by simpa using hx)]
  rfl
theorem vs21_no {k : Int} {l : List Ev} {j : Nat} {x : Ev} (h : l[j]? = some x) (hx : (lk21 x && x.id == k) = false) : vs21 k (l.take (j + 1)) = vs21 k (l.take j) := by
  rw [take21 h, vs21_app]
  unfold vs21
  rw [List.filter_cons_of_neg (l := []) (by rw [hx]; decide)]
  simp
/-- What Visits hands back. -/
def VsP21 (k : Int) (l : List Ev) (w : World) (e : Ending) (w' : World) : Prop := ∃ E n d, e = .returned (.slice E n d) ∧ Rds w' (fun _ => True) E n (ics (vs21 k l)) ∧ n ≤ 80 ∧ Chg (fun _ => False) w w'
theorem own_vs21 {w : World} {base : Nat} {e : TypeId} {n c : Nat} {A : Option Addr} {xs : List Value} (h : w.ownsRow base e 1 (.slice A n c) n xs) : Rds w (fun _ => True) A n xs := (own_rds h).mono (fun _ _ => trivial)
set_option maxRecDepth 100000 in
set_option maxHeartbeats 8000000 in
theorem visits21_any {w : World} {L : Option Addr} {m lc : Nat} {l : List Ev} (h : EvR w L m l) (hm : m ≤ 80) (k : Int) : Calls Try.prog 10 #[.int .i64 k, .slice L m lc] w (VsP21 k l w) := by
  have HH := Lib.hid h
  have HL := Lib.hid h.1
  have HM := Lib.hid hm
  clear h
  go_enter Try.func10, Try.ntmps10
  go_wp2_with fail
  go_loopg [5, 10] m (fun g s5 s10 wr => ∃ (j n : Nat) (A : Option Addr) (d : Nat), g = m - j ∧ j ≤ m ∧ n ≤ j ∧ s10 = .int .i64 (j : Int) ∧ s5 = .slice A n d ∧ Hid (wr.ownsRow w.heap.size 3 1 (.slice A n d) n (ics (vs21 k (l.take j)))) ∧ Hid (Chg (fun _ => False) w wr))
  case atStart => exact ⟨0, 0, none, 0, rfl, Nat.zero_le _, Nat.le_refl _, rfl, rfl, Lib.hid (World.ownsRow_nil _ _ _ _), Lib.hid (Chg.refl _ _)⟩
  case round =>
    obtain ⟨j, n, A, d, rfl, hj, hnj, rfl, rfl, HO, HX0⟩ := hrel
    by_cases hlt : j < m
    · have hh := HH.out.chg HX0.out
      obtain ⟨ad, rfl, -⟩ := hh.2 (by omega)
      have hjl : j < l.length := by have := HL.out; omega
      have hx : l[j]? = some l[j] := List.getElem?_eq_getElem hjl
      generalize l[j] = x at *
      obtain ⟨z0, z1, z2, z3, z4, z5, z6, z7, z8, z9, z10, z11, z12⟩ := hh.at hx
      have HJ := Lib.hid hx
      clear hx hh hjl
      have hca := (Chg.refl (fun _ => False) wr).alloc (.cells #[.int .i64 x.wh, .int .i64 x.ti, .int .i64 x.ch, .int .i64 x.po, .int .i64 x.ve, .int .i64 x.ki, .int .i64 x.id, .int .i64 x.og, .int .i64 x.fr, .int .i64 x.dn, .int .i64 x.tg, .int .i64 x.ge, .int .i64 x.sp] 38)
      have HB : Hid (Blk (wr.alloc (.cells #[.int .i64 x.wh, .int .i64 x.ti, .int .i64 x.ch, .int .i64 x.po, .int .i64 x.ve, .int .i64 x.ki, .int .i64 x.id, .int .i64 x.og, .int .i64 x.fr, .int .i64 x.dn, .int .i64 x.tg, .int .i64 x.ge, .int .i64 x.sp] 38)) wr.heap.size 38 x.cs) := Lib.hid (blk_new rfl)
      have HXA := Lib.hid (HX0.out.trans hca (fun _ _ e => e))
      have HOA := Lib.hid (own_chg21 HO.out hca)
      clear hca
      go_upto_region 5 with fail
      generalize wr.alloc (.cells #[.int .i64 x.wh, .int .i64 x.ti, .int .i64 x.ch, .int .i64 x.po, .int .i64 x.ve, .int .i64 x.ki, .int .i64 x.id, .int .i64 x.og, .int .i64 x.fr, .int .i64 x.dn, .int .i64 x.tg, .int .i64 x.ge, .int .i64 x.sp] 38) = wa at *
      generalize wr.heap.size = q at *
      clear z0 z1 z2 z3 z4 z5 z6 z7 z8 z9 z10 z11 z12
      have HA := Lib.hid (fun (W : World) (hW : Blk W q 38 x.cs) => ev_cells21 hW)
      obtain ⟨y0, y1, y2, y3, y4, y5, y6, y7, y8, y9, y10, y11, y12⟩ := HA.out _ HB.out
      have C1 := Lib.hid (fun W => looks21_any x W)
      have HY := Lib.hid (fun h => vs21_yes (k := k) HJ.out h)
      have HN := Lib.hid (fun h => vs21_no (k := k) HJ.out h)
      generalize lk21 x = lk at *
      go_wp2_with fail
      refine (C1.out _).mono ?_
      rintro e w5 ⟨rfl, hc⟩
      have HB5 := Lib.hid (HB.out.chg hc id)
      have HX5 := Lib.hid (HXA.out.trans hc (fun _ _ e => e))
      have HO5 := Lib.hid (own_chg21 HOA.out hc)
      clear hc y0 y1 y2 y3 y4 y5 y6 y7 y8 y9 y10 y11 y12
      obtain ⟨y0, y1, y2, y3, y4, y5, y6, y7, y8, y9, y10, y11, y12⟩ := HA.out _ HB5.out
      have hno : ((lk && x.id == k) = false) → Hid (w5.ownsRow w.heap.size 3 1 (.slice A n d) n (ics (vs21 k (l.take (j + 1))))) := fun e => Lib.hid (by rw [HN.out e]; exact HO5.out)
      cases lk
      · go_wp2_with fail
        go_roundg (m - (j + 1))
        case measure => omega
        case rel => exact ⟨j + 1, n, A, d, rfl, by omega, by omega, by go_num, rfl, hno rfl, HX5⟩
      · cases ei : (x.id == k)
        · go_wp2_with fail
          go_roundg (m - (j + 1))
          case measure => omega
          case rel => exact ⟨j + 1, n, A, d, rfl, by omega, by omega, by go_num, rfl, hno (by rw [ei]; rfl), HX5⟩
        · have HB6 : Hid (Blk (w5.alloc (.cells #[.int .i64 x.ch] 3)) w5.heap.size 3 #[.int .i64 x.ch]) := Lib.hid (blk_new rfl)
          have HO6 := Lib.hid (own_chg21 HO5.out ((Chg.refl (fun _ => False) w5).alloc (.cells #[.int .i64 x.ch] 3)))
          have HX6 := Lib.hid (HX5.out.alloc (.cells #[.int .i64 x.ch] 3))
          go_wp2_with (at_builtin; refine wpList_one21 w _ rfl (.tmp 22) (.tmp 25) 32 rfl w.heap.size 3 _ 1 8 Try.underlying32 infoInt21 rfl (by decide) A n d (ics (vs21 k (l.take j))) rfl HO6.out w5.heap.size _ 3 #[.int .i64 x.ch] rfl HB6.out rfl (by simp [Value.oneCell']) (by have := HM.out; omega) (by decide) (Nat.le_refl _) HX6.out.size HX6.out ?_; intro A' d' w7 ho7 hx7)
          have HO7 : Hid (w7.ownsRow w.heap.size 3 1 (.slice A' (n + 1) d') (n + 1) (ics (vs21 k (l.take (j + 1))))) := Lib.hid (by rw [HY.out (by rw [ei]; rfl)]; simpa [ics] using ho7)
          have HX7 := Lib.hid hx7
          clear ho7 hx7
          go_roundg (m - (j + 1))
          case measure => omega
          case rel => exact ⟨j + 1, n + 1, A', d', rfl, by omega, by omega, by go_num, rfl, HO7, HX7⟩
    · have : j = m := by omega
      subst this
      go_wp2_with fail
      go_ret
      have hl : l.take j = l := List.take_of_length_le (by have := HL.out; omega)
      have HO := HO.out
      rw [hl] at HO
      exact ⟨A, n, d, rfl, own_vs21 HO, by omega, HX0.out⟩
set_option maxRecDepth 100000 in
set_option maxHeartbeats 8000000 in
theorem rvisits21_any {w : World} {L : Option Addr} {m lc : Nat} {l : List Ev} (h : EvR w L m l) (hm : m ≤ 80) (k : Int) : Calls Try.prog 11 #[.int .i64 k, .slice L m lc] w (VsP21 k l w) := by
  have HH := Lib.hid h
  have HL := Lib.hid h.1
  have HM := Lib.hid hm
  clear h
  go_enter Try.func11, Try.ntmps11
  go_wp2_with fail
  go_loopg [5, 6] m (fun g s5 s6 wr => ∃ (j n : Nat) (A : Option Addr) (d : Nat), g = m - j ∧ j ≤ m ∧ n ≤ j ∧ s6 = .int .i64 (j : Int) ∧ s5 = .slice A n d ∧ Hid (wr.ownsRow w.heap.size 3 1 (.slice A n d) n (ics (vs21 k (l.take j)))) ∧ Hid (Chg (fun _ => False) w wr))
  case atStart => exact ⟨0, 0, none, 0, rfl, Nat.zero_le _, Nat.le_refl _, rfl, rfl, Lib.hid (World.ownsRow_nil _ _ _ _), Lib.hid (Chg.refl _ _)⟩
  case round =>
    obtain ⟨j, n, A, d, rfl, hj, hnj, rfl, rfl, HO, HX0⟩ := hrel
    by_cases hlt : j < m
    · have hh := HH.out.chg HX0.out
      obtain ⟨ad, rfl, -⟩ := hh.2 (by omega)
      have hjl : j < l.length := by have := HL.out; omega
      have hx : l[j]? = some l[j] := List.getElem?_eq_getElem hjl
      generalize l[j] = x at *
      obtain ⟨z0, z1, z2, z3, z4, z5, z6, z7, z8, z9, z10, z11, z12⟩ := hh.at hx
      have HY := Lib.hid (fun h => vs21_yes (k := k) hx h)
      have HN := Lib.hid (fun h => vs21_no (k := k) hx h)
      clear hx hh hjl
      have hno : ((lk21 x && x.id == k) = false) → Hid (wr.ownsRow w.heap.size 3 1 (.slice A n d) n (ics (vs21 k (l.take (j + 1))))) := fun e => Lib.hid (by rw [HN.out e]; exact HO.out)
      have HB6 : Hid (Blk (wr.alloc (.cells #[.int .i64 x.ch] 3)) wr.heap.size 3 #[.int .i64 x.ch]) := Lib.hid (blk_new rfl)
      have HO6 := Lib.hid (own_chg21 HO.out ((Chg.refl (fun _ => False) wr).alloc (.cells #[.int .i64 x.ch] 3)))
      have HX6 := Lib.hid (HX0.out.alloc (.cells #[.int .i64 x.ch] 3))
      have HLK : Hid (lk21 x = (x.wh == 1 || x.wh == 2)) := Lib.hid rfl
      cases e1 : (x.wh == 1)
      · cases e2 : (x.wh == 2)
        · go_wp2_with fail
          go_roundg (m - (j + 1))
          case measure => omega
          case rel => exact ⟨j + 1, n, A, d, rfl, by omega, by omega, by go_num, rfl, hno (by rw [HLK.out, e1, e2]; rfl), HX0⟩
        · cases ei : (x.id == k)
          · go_wp2_with fail
            go_roundg (m - (j + 1))
            case measure => omega
            case rel => exact ⟨j + 1, n, A, d, rfl, by omega, by omega, by go_num, rfl, hno (by rw [ei]; simp), HX0⟩
          · go_wp2_with (at_builtin; refine wpList_one21 w _ rfl (.tmp 36) (.tmp 42) 32 rfl w.heap.size 3 _ 1 8 Try.underlying32 infoInt21 rfl (by decide) A n d (ics (vs21 k (l.take j))) rfl HO6.out wr.heap.size _ 3 #[.int .i64 x.ch] rfl HB6.out rfl (by simp [Value.oneCell']) (by have := HM.out; omega) (by decide) (Nat.le_refl _) HX6.out.size HX6.out ?_; intro A' d' w7 ho7 hx7)
            have HO7 : Hid (w7.ownsRow w.heap.size 3 1 (.slice A' (n + 1) d') (n + 1) (ics (vs21 k (l.take (j + 1))))) := Lib.hid (by rw [HY.out (by rw [HLK.out, e1, e2, ei]; rfl)]; simpa [ics] using ho7)
            have HX7 := Lib.hid hx7
            clear ho7 hx7
            go_roundg (m - (j + 1))
            case measure => omega
            case rel => exact ⟨j + 1, n + 1, A', d', rfl, by omega, by omega, by go_num, rfl, HO7, HX7⟩
      · cases ei : (x.id == k)
        · go_wp2_with fail
          go_roundg (m - (j + 1))
          case measure => omega
          case rel => exact ⟨j + 1, n, A, d, rfl, by omega, by omega, by go_num, rfl, hno (by rw [ei]; simp), HX0⟩
        · go_wp2_with (at_builtin; refine wpList_one21 w _ rfl (.tmp 36) (.tmp 42) 32 rfl w.heap.size 3 _ 1 8 Try.underlying32 infoInt21 rfl (by decide) A n d (ics (vs21 k (l.take j))) rfl HO6.out wr.heap.size _ 3 #[.int .i64 x.ch] rfl HB6.out rfl (by simp [Value.oneCell']) (by have := HM.out; omega) (by decide) (Nat.le_refl _) HX6.out.size HX6.out ?_; intro A' d' w7 ho7 hx7)
          have HO7 : Hid (w7.ownsRow w.heap.size 3 1 (.slice A' (n + 1) d') (n + 1) (ics (vs21 k (l.take (j + 1))))) := Lib.hid (by rw [HY.out (by rw [HLK.out, e1, ei]; rfl)]; simpa [ics] using ho7)
          have HX7 := Lib.hid hx7
          clear ho7 hx7
          go_roundg (m - (j + 1))
          case measure => omega
          case rel => exact ⟨j + 1, n + 1, A', d', rfl, by omega, by omega, by go_num, rfl, HO7, HX7⟩
    · have : j = m := by omega
      subst this
      go_wp2_with fail
      go_ret
      have hl : l.take j = l := List.take_of_length_le (by have := HL.out; omega)
      have HO := HO.out
      rw [hl] at HO
      exact ⟨A, n, d, rfl, own_vs21 HO, by omega, HX0.out⟩

end Go.Proofs.Ytmfgbonlhoffaaa
