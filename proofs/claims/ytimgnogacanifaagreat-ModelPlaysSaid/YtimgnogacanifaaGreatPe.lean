/-
  Slices of rows and of changes, their cells. Walks: store.Find, Late, each on nil too. Conditions: the store lies in memory; of Late, the span is an int.
-/
import Derived.Test.YtimgnogacanifaaGreatPd
namespace Go.Proofs.YtimgnogacanifaaGreat
open Go.RowKit
set_option linter.unusedVariables false
set_option linter.unusedSimpArgs false

theorem sr_at9 {w : World} {S : Nat → Prop} {ad : Addr} {m i : Nat} {l : List RV} {x : RV} (h : SR 9 RV.cs w S (some ad) m l) (hi : l[i]? = some x) :
    w.cell? (ad.add (i * 9)) = some (.int .i64 x.po) ∧ w.cell? ⟨(ad.add (i * 9)).block, (ad.add (i * 9)).off + 1, none⟩ = some (.int .u64 x.ma) ∧ w.cell? ⟨(ad.add (i * 9)).block, (ad.add (i * 9)).off + 2, none⟩ = some (.int .i64 x.ow) ∧ w.cell? ⟨(ad.add (i * 9)).block, (ad.add (i * 9)).off + 3, none⟩ = some (.int .i64 x.ta) ∧ w.cell? ⟨(ad.add (i * 9)).block, (ad.add (i * 9)).off + 4, none⟩ = some (.int .i64 x.ol) ∧ w.cell? ⟨(ad.add (i * 9)).block, (ad.add (i * 9)).off + 5, none⟩ = some (.int .i64 x.ge) ∧ w.cell? ⟨(ad.add (i * 9)).block, (ad.add (i * 9)).off + 6, none⟩ = some (.int .i64 x.ph) ∧ w.cell? ⟨(ad.add (i * 9)).block, (ad.add (i * 9)).off + 7, none⟩ = some (.int .i64 x.ve) ∧ w.cell? ⟨(ad.add (i * 9)).block, (ad.add (i * 9)).off + 8, none⟩ = some (.int .i64 x.si) := by
  have g0 := h.raw hi 0 (.int .i64 x.po) rfl
  have g1 := h.raw hi 1 (.int .u64 x.ma) rfl
  have g2 := h.raw hi 2 (.int .i64 x.ow) rfl
  have g3 := h.raw hi 3 (.int .i64 x.ta) rfl
  have g4 := h.raw hi 4 (.int .i64 x.ol) rfl
  have g5 := h.raw hi 5 (.int .i64 x.ge) rfl
  have g6 := h.raw hi 6 (.int .i64 x.ph) rfl
  have g7 := h.raw hi 7 (.int .i64 x.ve) rfl
  have g8 := h.raw hi 8 (.int .i64 x.si) rfl
  exact ⟨g0, g1, g2, g3, g4, g5, g6, g7, g8⟩
theorem sr_at10 {w : World} {S : Nat → Prop} {ad : Addr} {m i : Nat} {l : List CV} {x : CV} (h : SR 10 CV.cs w S (some ad) m l) (hi : l[i]? = some x) :
    w.cell? (ad.add (i * 10)) = some (.int .i64 x.r.po) ∧ w.cell? ⟨(ad.add (i * 10)).block, (ad.add (i * 10)).off + 1, none⟩ = some (.int .u64 x.r.ma) ∧ w.cell? ⟨(ad.add (i * 10)).block, (ad.add (i * 10)).off + 2, none⟩ = some (.int .i64 x.r.ow) ∧ w.cell? ⟨(ad.add (i * 10)).block, (ad.add (i * 10)).off + 3, none⟩ = some (.int .i64 x.r.ta) ∧ w.cell? ⟨(ad.add (i * 10)).block, (ad.add (i * 10)).off + 4, none⟩ = some (.int .i64 x.r.ol) ∧ w.cell? ⟨(ad.add (i * 10)).block, (ad.add (i * 10)).off + 5, none⟩ = some (.int .i64 x.r.ge) ∧ w.cell? ⟨(ad.add (i * 10)).block, (ad.add (i * 10)).off + 6, none⟩ = some (.int .i64 x.r.ph) ∧ w.cell? ⟨(ad.add (i * 10)).block, (ad.add (i * 10)).off + 7, none⟩ = some (.int .i64 x.r.ve) ∧ w.cell? ⟨(ad.add (i * 10)).block, (ad.add (i * 10)).off + 8, none⟩ = some (.int .i64 x.r.si) ∧ w.cell? ⟨(ad.add (i * 10)).block, (ad.add (i * 10)).off + 9, none⟩ = some (.int .i64 x.was) := by
  have g0 := h.raw hi 0 (.int .i64 x.r.po) rfl
  have g1 := h.raw hi 1 (.int .u64 x.r.ma) rfl
  have g2 := h.raw hi 2 (.int .i64 x.r.ow) rfl
  have g3 := h.raw hi 3 (.int .i64 x.r.ta) rfl
  have g4 := h.raw hi 4 (.int .i64 x.r.ol) rfl
  have g5 := h.raw hi 5 (.int .i64 x.r.ge) rfl
  have g6 := h.raw hi 6 (.int .i64 x.r.ph) rfl
  have g7 := h.raw hi 7 (.int .i64 x.r.ve) rfl
  have g8 := h.raw hi 8 (.int .i64 x.r.si) rfl
  have g9 := h.raw hi 9 (.int .i64 x.was) rfl
  exact ⟨g0, g1, g2, g3, g4, g5, g6, g7, g8, g9⟩
theorem find_at {α : Type} {p : α → Bool} : ∀ (l : List α) (j : Nat) (x : α), (∀ i y, i < j → l[i]? = some y → p y = false) → l[j]? = some x → p x = true → l.find? p = some x
  | [], j, x, _, h, _ => by simp at h
  | y :: l, 0, x, _, h, hp => by
    simp only [List.getElem?_cons_zero, Option.some.injEq] at h
    subst h
    simp [hp]
  | y :: l, j + 1, x, h, hx, hp => by
    have h0 := h 0 y (by omega) rfl
    rw [List.find?_cons_of_neg (by rw [h0]; decide)]
    exact find_at l j x (fun i z hi hz => h (i + 1) z (by omega) (by simpa using hz)) (by simpa using hx) hp
theorem find_no {α : Type} {p : α → Bool} {l : List α} (h : ∀ i y, i < l.length → l[i]? = some y → p y = false) : l.find? p = none := by
  rw [List.find?_eq_none]
  intro x hx
  obtain ⟨i, hi⟩ := List.getElem?_of_mem hx
  rw [h i x (List.getElem?_eq_some_iff.1 hi).1 hi]
  decide
theorem take_succ' {α : Type} {l : List α} {j : Nat} {x : α} (h : l[j]? = some x) : l.take (j + 1) = l.take j ++ [x] := by
  rw [List.take_add_one, h]; rfl

set_option maxRecDepth 100000 in
set_option maxHeartbeats 4000000 in
theorem sfind_any {B : Nat} {w : World} {p bc br : Nat} {C : Int → Bool} {R : Int → Option RV} (h : CS B w p bc br C R) (ma : Int) : Calls Tryz.prog 121 #[.pointer (some ⟨p, 0, none⟩), .int .u64 ma] w (HB (rowB10 (findP R ma)) w) := by
  have HS0 := Lib.hid h
  clear h
  have HR0 : Blk (w.alloc (.cells #[.int .i64 0, .int .u64 0, .int .i64 0, .int .i64 0, .int .i64 0, .int .i64 0, .int .i64 0, .int .i64 0, .int .i64 0] 40)) w.heap.size 40 (rvC 0 0 0 0 0 0 0 0 0) := blk_new rfl
  replace HR0 := Lib.hid HR0
  have HX0 := Lib.hid ((Chg.refl (fun _ => False) w).alloc (.cells #[.int .i64 0, .int .u64 0, .int .i64 0, .int .i64 0, .int .i64 0, .int .i64 0, .int .i64 0, .int .i64 0, .int .i64 0] 40))
  replace HS0 := Lib.hid (HS0.out.keep HX0.out)
  go_enter Tryz.func121, Tryz.ntmps121
  go_upto_region 1 with fail
  generalize (w.alloc (.cells #[.int .i64 0, .int .u64 0, .int .i64 0, .int .i64 0, .int .i64 0, .int .i64 0, .int .i64 0, .int .i64 0, .int .i64 0] 40)) = w1 at *
  go_wp2_with fail
  refine (srows_any HS0.out).mono ?_
  rintro e w2 ⟨A, m, c, rfl, hm, hown, hc⟩
  replace HX0 := Lib.hid (HX0.out.trans hc (fun _ _ e => e))
  replace HR0 := Lib.hid (HR0.out.chg hc id)
  have HL := Lib.hid (own_sr rv_size hown hm)
  have hm32 : m ≤ 32 := by have := rows_len R; omega
  have HM := Lib.hid hm
  clear hown hc hm
  go_wp2_with fail
  go_loopg [7, 11] m (fun g s7 i wr => ∃ (j : Nat), g = m - j ∧ j ≤ m ∧ i = .int .i64 (j : Int) ∧ Hid (∀ i y, i < j → (rowsP R)[i]? = some y → hasM ma y = false) ∧ Hid (Blk wr w.heap.size 40 (rvC 0 0 0 0 0 0 0 0 0)) ∧ Hid (Chg (fun _ => False) w2 wr) ∧ Hid (Chg (fun _ => False) w wr))
  case atStart => exact ⟨0, rfl, Nat.zero_le _, rfl, Lib.hid (fun i y hi => absurd hi (by omega)), HR0, Lib.hid (Chg.refl _ _), HX0⟩
  case round =>
    clear HR0 HX0
    obtain ⟨j, rfl, hj, rfl, HA, HR0, HX2, HX0⟩ := hrel
    by_cases hlt : j < m
    · have hh := HL.out.chg HX2.out (fun _ _ => id)
      obtain ⟨ad, rfl, -⟩ := hh.2 (by omega)
      have hjl : j < (rowsP R).length := by have := HM.out; omega
      have hx : (rowsP R)[j]? = some (rowsP R)[j] := List.getElem?_eq_getElem hjl
      generalize (rowsP R)[j] = x at *
      obtain ⟨po, mx, ow, ta, ol, ge, ph, ve, si, rfl⟩ := rv_letters x
      obtain ⟨z0, z1, z2, z3, z4, z5, z6, z7, z8⟩ := sr_at9 hh hx
      have HJ := Lib.hid hx
      clear hx hh hjl
      go_upto_region 4 with fail
      clear z0 z1 z2 z3 z4 z5 z6 z7 z8
      have HN : Blk (wr.alloc (.cells #[.int .i64 po, .int .u64 mx, .int .i64 ow, .int .i64 ta, .int .i64 ol, .int .i64 ge, .int .i64 ph, .int .i64 ve, .int .i64 si] 40)) wr.heap.size 40 (rvC po mx ow ta ol ge ph ve si) := blk_new rfl
      replace HN := Lib.hid HN
      replace HX0 := Lib.hid (HX0.out.alloc (.cells #[.int .i64 po, .int .u64 mx, .int .i64 ow, .int .i64 ta, .int .i64 ol, .int .i64 ge, .int .i64 ph, .int .i64 ve, .int .i64 si] 40))
      replace HX2 := Lib.hid (HX2.out.alloc (.cells #[.int .i64 po, .int .u64 mx, .int .i64 ow, .int .i64 ta, .int .i64 ol, .int .i64 ge, .int .i64 ph, .int .i64 ve, .int .i64 si] 40))
      replace HR0 := Lib.hid (HR0.out.alloc (.cells #[.int .i64 po, .int .u64 mx, .int .i64 ow, .int .i64 ta, .int .i64 ol, .int .i64 ge, .int .i64 ph, .int .i64 ve, .int .i64 si] 40))
      generalize (wr.alloc (.cells #[.int .i64 po, .int .u64 mx, .int .i64 ow, .int .i64 ta, .int .i64 ol, .int .i64 ge, .int .i64 ph, .int .i64 ve, .int .i64 si] 40)) = w3 at *
      obtain ⟨y0, y1, y2, y3, y4, y5, y6, y7, y8⟩ := rv_cells HN.out
      have HNO : hasM ma ⟨po, mx, ow, ta, ol, ge, ph, ve, si⟩ = false → Hid (∀ i y, i < j + 1 → (rowsP R)[i]? = some y → hasM ma y = false) := fun hf => Lib.hid (fun i y hi hy => by
        by_cases e : i < j
        · exact HA.out i y e hy
        · have : i = j := by omega
          subst this
          have := HJ.out
          rw [hy] at this
          injection this with this
          rw [this]
          exact hf)
      by_cases hp : ph = 3
      · subst hp
        have HNO2 := HNO (by simp [hasM])
        clear HNO
        go_wp2_with fail
        go_roundg (m - (j + 1))
        case measure => omega
        case rel => exact ⟨j + 1, rfl, by omega, by go_num, HNO2, HR0, HX2, HX0⟩
      · have tp : (ph == 3) = false := by simpa using hp
        have sp : (ph != 3) = true := by simpa using hp
        by_cases hq : mx = ma
        · have HF2 := Lib.hid (show rowB10 (findP R ma) = (⟨po, mx, ow, ta, ol, ge, ph, ve, si⟩, true) from by
            unfold rowB10 findP
            rw [find_at _ j ⟨po, mx, ow, ta, ol, ge, ph, ve, si⟩ HA.out HJ.out (by rw [hasM_iff]; exact ⟨hp, hq⟩)]
            rfl)
          clear HNO hp
          subst hq
          go_upto_region 5 with fail
          clear y0 y1 y2 y3 y4 y5 y6 y7 y8 tp sp
          obtain ⟨y0, y1, y2, y3, y4, y5, y6, y7, y8⟩ := rv_cells HN.out
          obtain ⟨x0, x1, x2, x3, x4, x5, x6, x7, x8⟩ := rv_cells HR0.out
          obtain ⟨u0, u1, u2, u3, u4, u5, u6, u7, u8⟩ := rv_free9 HR0.out
          obtain ⟨r0, r1, r2, r3, r4, r5, r6, r7, r8, -, hcs⟩ := rv_put9 HR0.out po mx ow ta ol ge ph ve si
          have HF := Lib.hid (fresh_set HX0.out hcs (by omega))
          have RR := Lib.hid (And.intro r0 (And.intro r1 (And.intro r2 (And.intro r3 (And.intro r4 (And.intro r5 (And.intro r6 (And.intro r7 r8))))))))
          clear r0 r1 r2 r3 r4 r5 r6 r7 r8 hcs HR0 HX0
          go_wp2_with fail
          obtain ⟨r0, r1, r2, r3, r4, r5, r6, r7, r8⟩ := RR.out
          exact bodyPost_ret (v := .tuple #[.agg (rvC po mx ow ta ol ge ph ve si), .bool true]) (by simp [results, Tryz.results121, go_sem, rvC, r0, r1, r2, r3, r4, r5, r6, r7, r8]) rfl (by rw [HF2.out]; exact ⟨rfl, HF.out⟩)
        · have tq : (mx == ma) = false := by simpa using hq
          have HNO2 := HNO (by simp [hasM, hq])
          clear HNO hq hp
          go_wp2_with fail
          go_roundg (m - (j + 1))
          case measure => omega
          case rel => exact ⟨j + 1, rfl, by omega, by go_num, HNO2, HR0, HX2, HX0⟩
    · have : j = m := by omega
      subst this
      have HF2 := Lib.hid (show rowB10 (findP R ma) = (z9, false) from by
        unfold rowB10 findP
        rw [find_no (fun i y hi hy => HA.out i y (by have := HM.out; omega) hy)]
        rfl)
      obtain ⟨x0, x1, x2, x3, x4, x5, x6, x7, x8⟩ := rv_cells HR0.out
      obtain ⟨u0, u1, u2, u3, u4, u5, u6, u7, u8⟩ := rv_free9 HR0.out
      obtain ⟨r0, r1, r2, r3, r4, r5, r6, r7, r8, -, hcs⟩ := rv_put9 HR0.out 0 0 0 0 0 0 0 0 0
      have HF := Lib.hid (fresh_set HX0.out hcs (by omega))
      have RR := Lib.hid (And.intro r0 (And.intro r1 (And.intro r2 (And.intro r3 (And.intro r4 (And.intro r5 (And.intro r6 (And.intro r7 r8))))))))
      clear r0 r1 r2 r3 r4 r5 r6 r7 r8 hcs HR0 HX0
      go_wp2_with fail
      obtain ⟨r0, r1, r2, r3, r4, r5, r6, r7, r8⟩ := RR.out
      exact bodyPost_ret (v := .tuple #[.agg (rvC 0 0 0 0 0 0 0 0 0), .bool false]) (by simp [results, Tryz.results121, go_sem, rvC, r0, r1, r2, r3, r4, r5, r6, r7, r8]) rfl (by rw [HF2.out]; exact ⟨rfl, HF.out⟩)

set_option maxRecDepth 100000 in
set_option maxHeartbeats 4000000 in
theorem sfind_nil (ma : Int) (w : World) : Calls Tryz.prog 121 #[.pointer none, .int .u64 ma] w (HB (z9, false) w) := by
  have HR0 : Blk (w.alloc (.cells #[.int .i64 0, .int .u64 0, .int .i64 0, .int .i64 0, .int .i64 0, .int .i64 0, .int .i64 0, .int .i64 0, .int .i64 0] 40)) w.heap.size 40 (rvC 0 0 0 0 0 0 0 0 0) := blk_new rfl
  replace HR0 := Lib.hid HR0
  have HX0 := Lib.hid ((Chg.refl (fun _ => False) w).alloc (.cells #[.int .i64 0, .int .u64 0, .int .i64 0, .int .i64 0, .int .i64 0, .int .i64 0, .int .i64 0, .int .i64 0, .int .i64 0] 40))
  go_enter Tryz.func121, Tryz.ntmps121
  go_upto_region 1 with fail
  generalize (w.alloc (.cells #[.int .i64 0, .int .u64 0, .int .i64 0, .int .i64 0, .int .i64 0, .int .i64 0, .int .i64 0, .int .i64 0, .int .i64 0] 40)) = w1 at *
  go_wp2_with fail
  refine (srows_nil w1).mono ?_
  rintro e w2 ⟨A, m, c, rfl, hm, hown, hc⟩
  replace HX0 := Lib.hid (HX0.out.trans hc (fun _ _ e => e))
  replace HR0 := Lib.hid (HR0.out.chg hc id)
  have hm0 : m = 0 := hm
  subst hm0
  clear hown hc hm
  go_wp2_with fail
  go_loopg [7, 11] 0 (fun g s7 i wr => g = 0 ∧ i = .int .i64 0 ∧ wr = w2)
  case atStart => exact ⟨rfl, rfl, rfl⟩
  case round =>
    obtain ⟨rfl, rfl, rfl⟩ := hrel
    obtain ⟨x0, x1, x2, x3, x4, x5, x6, x7, x8⟩ := rv_cells HR0.out
    obtain ⟨u0, u1, u2, u3, u4, u5, u6, u7, u8⟩ := rv_free9 HR0.out
    obtain ⟨r0, r1, r2, r3, r4, r5, r6, r7, r8, -, hcs⟩ := rv_put9 HR0.out 0 0 0 0 0 0 0 0 0
    have HF := Lib.hid (fresh_set HX0.out hcs (by omega))
    have RR := Lib.hid (And.intro r0 (And.intro r1 (And.intro r2 (And.intro r3 (And.intro r4 (And.intro r5 (And.intro r6 (And.intro r7 r8))))))))
    clear r0 r1 r2 r3 r4 r5 r6 r7 r8 hcs HR0 HX0
    go_wp2_with fail
    obtain ⟨r0, r1, r2, r3, r4, r5, r6, r7, r8⟩ := RR.out
    exact bodyPost_ret (v := .tuple #[.agg (rvC 0 0 0 0 0 0 0 0 0), .bool false]) (by simp [results, Tryz.results121, go_sem, rvC, r0, r1, r2, r3, r4, r5, r6, r7, r8]) rfl ⟨rfl, HF.out⟩


end Go.Proofs.YtimgnogacanifaaGreat
