/-
  Walk: rutterlaw18.step. Conditions: both nets have the same; the act's items are read in memory.
-/
import Derived.Test.YthajmplheecepaaSp
import Derived.Laws.StructEq
namespace Go.Proofs.Ythajmplheecepaa
open Go.RowKit
set_option linter.unusedVariables false
set_option linter.unusedSimpArgs false
attribute [local go_sem] Oper.semAt_some

theorem stRi18 : Try.prog.underlying 49 = some (.struct (Try.prog.fieldsOf 49)) := by kernel_rfl
theorem hpRi18 : Try.prog.stoodInHeld 49 = false := by kernel_rfl
theorem eqRi18 (W : World) (a c : Int) (s : ByteArray) : (binOp .eql 49 (.agg #[.int .i64 a, .int .i64 c, .string s]) (.agg #[.int .i64 a, .int .i64 c, .string s])).run Try.prog W = .ok (.bool true) W := by
  rw [run_eql_struct, show (10000 : Nat) = 9999 + 1 from rfl, run_equalIn_agg W 9999 49 _ _ stRi18 hpRi18]
  go_simp
theorem neRi18 (W : World) (a c : Int) (s : ByteArray) : (binOp .neq 49 (.agg #[.int .i64 a, .int .i64 c, .string s]) (.agg #[.int .i64 a, .int .i64 c, .string s])).run Try.prog W = .ok (.bool false) W := by
  rw [run_neq_struct, show (10000 : Nat) = 9999 + 1 from rfl, run_equalIn_agg W 9999 49 _ _ stRi18 hpRi18]
  go_simp
theorem actb18 {w : World} {g : Nat} {k n : Int} {v : Value} (h : Blk w g 36 #[.int .u8 k, v, .int .i64 n]) :
    w.cell? ⟨g, 0, none⟩ = some (.int .u8 k) ∧ w.cell? ⟨g, 1, none⟩ = some v ∧ w.cell? ⟨g, 2, none⟩ = some (.int .i64 n) := by
  have x0 := h.cell 0
  have x1 := h.cell 1
  have x2 := h.cell 2
  simp only [List.getElem?_toArray, List.getElem?_cons_zero, List.getElem?_cons_succ] at x0 x1 x2
  exact ⟨x0, x1, x2⟩
theorem off_zero18 (ad : Addr) : ad.add 0 = ad := by unfold Addr.add; rfl
/-- What a step leaves: both have the same again. -/
def StP18 (W : World) (p q : Nat) (r k : Int) (e : Ending) (w' : World) : Prop := e = .returned (.bool true) ∧ ∃ x', TN18 W p q x' x' w' ∧ GN18 r k x'
set_option maxRecDepth 100000 in
set_option maxHeartbeats 16000000 in
theorem step18_any (k n : Int) (L : Option Addr) (m c : Nat) (l : List AI18) (p q : Nat) (r g : Int) (x : NV18) (W w : World) (h : TN18 W p q x x w) (hg : GN18 r g x) (hr : r ≤ 4096) (hg9 : g ≤ 100000000) (hk : 0 ≤ k ∧ k ≤ 255) (hm : m ≤ 100) (hl : IR18 W (fun k => k < W.heap.size) L m l) : Calls Try.prog 8 #[.pointer (some ⟨p, 0, none⟩), .pointer (some ⟨q, 0, none⟩), .agg #[.int .u8 k, .slice L m c, .int .i64 n]] w (StP18 W p q r (g + 100) ) := by
  obtain ⟨hc0, o1, o2, hn, hd⟩ := h
  have ha := (Chg.refl (fun _ => False) w).alloc (.cells #[.int .u8 k, .slice L m c, .int .i64 n] 36)
  have HC := Lib.hid (hc0.trans ha (fun _ _ e => e))
  have HN := Lib.hid (hn.new ha)
  have HD := Lib.hid (hd.new ha)
  have HBA : Hid (Blk (w.alloc (.cells #[.int .u8 k, .slice L m c, .int .i64 n] 36)) w.heap.size 36 #[.int .u8 k, .slice L m c, .int .i64 n]) := Lib.hid (blk_new rfl)
  have HG0 := Lib.hid hg
  unfold StP18
  clear ha hn hd hc0 hg
  have hcase : k % 9 = 4 ∨ k % 9 = 5 ∨ k % 9 = 6 ∨ k % 9 = 7 ∨ k % 9 = 8 ∨ (k % 9 ≠ 4 ∧ k % 9 ≠ 5 ∧ k % 9 ≠ 6 ∧ k % 9 ≠ 7 ∧ k % 9 ≠ 8) := by omega
  rcases hcase with h4 | h4 | h4 | h4 | h4 | ⟨h4, h5, h6, h7, h8⟩
  · have HG := Lib.hid ((HG0.out.take n).more (k' := g + 100) (by omega))
    have H1 := Lib.hid (ntake18 HN.out n)
    unfold TakP18 at H1
    go_enter Try.func8, Try.ntmps8
    go_upto_region 1 with fail
    generalize w.alloc (.cells #[.int .u8 k, .slice L m c, .int .i64 n] 36) = w1 at *
    generalize w.heap.size = Q5 at *
    obtain ⟨x0, x1, x2⟩ := actb18 HBA.out
    go_wp2_with fail
    refine H1.out.mono ?_
    rintro e w2 ⟨kk, rfl, hit, o3, hn2, hm⟩
    have HT2 := Lib.hid (TN18.set1 HC.out HN.out HD.out hn2 hm)
    have HBA2 := Lib.hid (HBA.out.chg hm.1 (HN.out.ne HBA.out (by decide) (by decide)))
    have ha := (Chg.refl (fun _ => False) w2).alloc (.cells #[.int .i64 kk.ki, .int .i64 kk.ch, .slice kk.A kk.n kk.c] 40)
    have HBX : Hid (Blk (w2.alloc (.cells #[.int .i64 kk.ki, .int .i64 kk.ch, .slice kk.A kk.n kk.c] 40)) w2.heap.size 40 #[.int .i64 kk.ki, .int .i64 kk.ch, .slice kk.A kk.n kk.c]) := Lib.hid (blk_new rfl)
    have HIT := Lib.hid (hit.chg ha (fun _ _ _ _ => id))
    replace HBA2 := Lib.hid (HBA2.out.chg ha id)
    have HC3 := Lib.hid (HT2.out.1.trans ha (fun _ _ e => e))
    have HN3 := Lib.hid (HT2.out.2.1.new ha)
    have HD3 := Lib.hid (HT2.out.2.2.new ha)
    have HQ7 := Lib.hid (Nat.lt_irrefl w2.heap.size)
    clear ha hit HT2 HBA H1 HN HD HC hn2 hm
    go_upto_region 5 with fail
    generalize w2.alloc (.cells #[.int .i64 kk.ki, .int .i64 kk.ch, .slice kk.A kk.n kk.c] 40) = w3 at *
    generalize w2.heap.size = Q7 at *
    have H2 := Lib.hid (rtake18 HD3.out (by have := HG0.out.len; omega) n)
    unfold RTakP18 at H2
    obtain ⟨y0, y1, y2⟩ := actb18 HBA2.out
    go_wp2_with fail
    refine H2.out.mono ?_
    rintro e w4 ⟨rfl, o4, hn4, hm4⟩
    have HT4 := Lib.hid (TN18.set2 HC3.out HN3.out HD3.out hn4 hm4)
    replace HBX := Lib.hid (HBX.out.chg hm4.1 (HD3.out.ne HBX.out (by decide) (by decide)))
    replace HIT := Lib.hid (HIT.out.chg hm4.1 (fun k cs fr hk => HD3.out.ne hk (by decide) (by decide)))
    generalize at18 x n = u at *
    generalize lackE x n = z at *
    have ha := (Chg.refl (fun _ => False) w4).alloc (.cells #[.int .i64 u.ki, .int .i64 u.ch, .string ⟨u.bs.toArray⟩] 49)
    have HBY : Hid (Blk (w4.alloc (.cells #[.int .i64 u.ki, .int .i64 u.ch, .string ⟨u.bs.toArray⟩] 49)) w4.heap.size 49 #[.int .i64 u.ki, .int .i64 u.ch, .string ⟨u.bs.toArray⟩]) := Lib.hid (blk_new rfl)
    replace HBX := Lib.hid (HBX.out.chg ha id)
    replace HIT := Lib.hid (HIT.out.chg ha (fun _ _ _ _ => id))
    have HT5 := Lib.hid (HT4.out.new ha)
    clear ha HT4 HBA2 H2 HN3 HD3 HC3 y0 y1 y2 hn4 hm4
    go_upto_region 6 with fail
    generalize w4.alloc (.cells #[.int .i64 u.ki, .int .i64 u.ch, .string ⟨u.bs.toArray⟩] 49) = w5 at *
    generalize w4.heap.size = Q9 at *
    have HKEEP : Hid (∀ w' : World, Chg (fun _ => False) w5 w' → (w'.cell? ⟨Q7, 0, none⟩ = some (.int .i64 kk.ki) ∧ w'.cell? ⟨Q7, 1, none⟩ = some (.int .i64 kk.ch) ∧ w'.cell? ⟨Q7, 2, none⟩ = some (.slice kk.A kk.n kk.c) ∧ w'.cell? ⟨Q9, 0, none⟩ = some (.int .i64 u.ki) ∧ w'.cell? ⟨Q9, 1, none⟩ = some (.int .i64 u.ch) ∧ w'.cell? ⟨Q9, 2, none⟩ = some (.string ⟨u.bs.toArray⟩))) := Lib.hid (fun w' hw => by
      obtain ⟨a0, a1, a2⟩ := it_cells (HBX.out.chg hw id)
      obtain ⟨b0, b1, b2⟩ := it_cells (HBY.out.chg hw id)
      exact ⟨a0, a1, a2, b0, b1, b2⟩)
    have HX := Lib.hid (Chg.refl (fun _ => False) w5).drew
    have HOF := Lib.hid (of18 kk.ki kk.ch kk.A kk.n kk.c u.bs _ w5.drew (HIT.out.chg HX.out (fun _ _ _ _ => id)).rds)
    rw [HIT.out.1, HIT.out.2.1] at HOF HKEEP
    have heq := fun W => eqRi18 W u.ki u.ch ⟨u.bs.toArray⟩
    have s0 := HKEEP.out _ HX.out
    refine wp_region_noPanic ?_
    refine wp_region_held_drew (S := (fun w' => w'.cell? ⟨Q7, 0, none⟩ = some (.int .i64 u.ki) ∧ w'.cell? ⟨Q7, 1, none⟩ = some (.int .i64 u.ch) ∧ w'.cell? ⟨Q7, 2, none⟩ = some (.slice kk.A kk.n kk.c) ∧ w'.cell? ⟨Q9, 0, none⟩ = some (.int .i64 u.ki) ∧ w'.cell? ⟨Q9, 1, none⟩ = some (.int .i64 u.ch) ∧ w'.cell? ⟨Q9, 2, none⟩ = some (.string ⟨u.bs.toArray⟩))) (by kernel_rfl) s0 (fun hHeld => ?_)
    refine wpAnyH_take (i := 0) (v := ?_) rfl (by kernel_rfl) (by kernel_rfl) (by kernel_rfl) (fun _ _ _ h => h) (Or.inl ⟨by rfl, ?_⟩) (by assumption) ?_
    rotate_left
    · intro w' hSw
      try dsimp only at hSw
      go_simp
      first | done | (with_reducible rfl)
    try simp only [List.getElem_toArray, List.getElem_cons_succ, List.getElem_cons_zero, Act.put, List.setIfInBounds_toArray, List.set_cons_zero, List.set_cons_succ]
    refine wpAnyH_take (i := 2) (v := ?_) rfl (by kernel_rfl) (by kernel_rfl) (by kernel_rfl) (fun _ _ _ h => h) (Or.inl ⟨by rfl, ?_⟩) (by assumption) ?_
    rotate_left
    · intro w' hSw
      try dsimp only at hSw
      go_simp
      first | done | (with_reducible rfl)
    try simp only [List.getElem_toArray, List.getElem_cons_succ, List.getElem_cons_zero, Act.put, List.setIfInBounds_toArray, List.set_cons_zero, List.set_cons_succ]
    refine wpAnyH_ready (rs := [1]) (by kernel_rfl) (by simp) ?_
    refine AllReadyH.cons rfl (fun K hK => ?_) AllReadyH.nil
    go_simp
    refine HOF.out.mono ?_
    rintro e w6 ⟨rfl, hc6⟩
    have HX6 := Lib.hid (HX.out.trans hc6 (fun _ _ e => e))
    clear hc6
    go_wp2_with fail
    refine hK.out _ _ (HKEEP.out _ HX6.out) (fun hHeld => ?_)
    clear hK K
    try simp only [List.getElem_toArray, List.getElem_cons_succ, List.getElem_cons_zero, Act.put, List.setIfInBounds_toArray, List.set_cons_zero, List.set_cons_succ]
    refine wpAnyH_take (i := 3) (v := ?_) rfl (by kernel_rfl) (by kernel_rfl) (by kernel_rfl) (fun _ _ _ h => h) (Or.inl ⟨by rfl, ?_⟩) (by assumption) ?_
    rotate_left
    · intro w' hSw
      try dsimp only at hSw
      go_simp
      first | done | (with_reducible rfl)
    try simp only [List.getElem_toArray, List.getElem_cons_succ, List.getElem_cons_zero, Act.put, List.setIfInBounds_toArray, List.set_cons_zero, List.set_cons_succ]
    refine wpAnyH_take (i := 4) (v := ?_) rfl (by kernel_rfl) (by kernel_rfl) (by kernel_rfl) (fun _ _ _ h => h) (Or.inl ⟨by rfl, ?_⟩) (by assumption) ?_
    rotate_left
    · intro w' hSw
      try dsimp only at hSw
      go_simp
      first | done | (with_reducible rfl)
    try simp only [List.getElem_toArray, List.getElem_cons_succ, List.getElem_cons_zero, Act.put, List.setIfInBounds_toArray, List.set_cons_zero, List.set_cons_succ]
    refine wpAnyH_take (i := 5) (v := ?_) rfl (by kernel_rfl) (by kernel_rfl) (by kernel_rfl) (fun _ _ _ h => h) (Or.inl ⟨by rfl, ?_⟩) (by assumption) ?_
    rotate_left
    · intro w' hSw
      try dsimp only at hSw
      go_simp
      first | done | (with_reducible rfl)
    try simp only [List.getElem_toArray, List.getElem_cons_succ, List.getElem_cons_zero, Act.put, List.setIfInBounds_toArray, List.set_cons_zero, List.set_cons_succ]
    refine wpAnyH_take (i := 6) (v := ?_) rfl (by kernel_rfl) (by kernel_rfl) (by kernel_rfl) (fun _ _ _ h => h) (Or.inl ⟨by rfl, ?_⟩) (by assumption) ?_
    rotate_left
    · intro w' hSw
      try dsimp only at hSw
      go_simp
      first | done | (with_reducible rfl)
    try simp only [List.getElem_toArray, List.getElem_cons_succ, List.getElem_cons_zero, Act.put, List.setIfInBounds_toArray, List.set_cons_zero, List.set_cons_succ]
    refine wpAnyH_take (i := 7) (v := ?_) rfl (by kernel_rfl) (by kernel_rfl) (by kernel_rfl) (fun _ _ _ h => h) (Or.inl ⟨by rfl, ?_⟩) (by assumption) ?_
    rotate_left
    · intro w' hSw
      try dsimp only at hSw
      go_simp
      first | done | (with_reducible rfl)
    try simp only [List.getElem_toArray, List.getElem_cons_succ, List.getElem_cons_zero, Act.put, List.setIfInBounds_toArray, List.set_cons_zero, List.set_cons_succ]
    refine wpAnyH_take (i := 8) (v := ?_) rfl (by kernel_rfl) (by kernel_rfl) (by kernel_rfl) (fun _ _ _ h => h) (Or.inl ⟨by rfl, ?_⟩) (by assumption) ?_
    rotate_left
    · intro w' hSw
      try dsimp only at hSw
      go_simp
      first | done | (with_reducible rfl)
    try simp only [List.getElem_toArray, List.getElem_cons_succ, List.getElem_cons_zero, Act.put, List.setIfInBounds_toArray, List.set_cons_zero, List.set_cons_succ]
    refine wpAnyH_take (i := 9) (v := ?_) rfl (by kernel_rfl) (by kernel_rfl) (by kernel_rfl) (fun _ _ _ h => h) (Or.inl ⟨by rfl, ?_⟩) (by assumption) ?_
    rotate_left
    · intro w' hSw
      try dsimp only at hSw
      go_simp
      first | done | (with_reducible rfl)
    try simp only [List.getElem_toArray, List.getElem_cons_succ, List.getElem_cons_zero, Act.put, List.setIfInBounds_toArray, List.set_cons_zero, List.set_cons_succ]
    refine wpAnyH_done (by kernel_rfl) ?_ _
    refine NoPanic.normal ?_
    go_wp2_with fail
    go_ret
    exact ⟨rfl, _, HT5.out.new HX6.out, HG.out⟩
  · have HG := Lib.hid ((HG0.out.take n).more (k' := g + 100) (by omega))
    have H1 := Lib.hid (ntake18 HN.out n)
    unfold TakP18 at H1
    go_enter Try.func8, Try.ntmps8
    go_upto_region 1 with fail
    generalize w.alloc (.cells #[.int .u8 k, .slice L m c, .int .i64 n] 36) = w1 at *
    generalize w.heap.size = Q5 at *
    obtain ⟨x0, x1, x2⟩ := actb18 HBA.out
    go_wp2_with fail
    refine H1.out.mono ?_
    rintro e w2 ⟨kk, rfl, hit, o3, hn2, hm⟩
    have HT2 := Lib.hid (TN18.set1 HC.out HN.out HD.out hn2 hm)
    have HBA2 := Lib.hid (HBA.out.chg hm.1 (HN.out.ne HBA.out (by decide) (by decide)))
    have ha := (Chg.refl (fun _ => False) w2).alloc (.cells #[.int .i64 kk.ki, .int .i64 kk.ch, .slice kk.A kk.n kk.c] 40)
    have HBX : Hid (Blk (w2.alloc (.cells #[.int .i64 kk.ki, .int .i64 kk.ch, .slice kk.A kk.n kk.c] 40)) w2.heap.size 40 #[.int .i64 kk.ki, .int .i64 kk.ch, .slice kk.A kk.n kk.c]) := Lib.hid (blk_new rfl)
    have HIT := Lib.hid (hit.chg ha (fun _ _ _ _ => id))
    replace HBA2 := Lib.hid (HBA2.out.chg ha id)
    have HC3 := Lib.hid (HT2.out.1.trans ha (fun _ _ e => e))
    have HN3 := Lib.hid (HT2.out.2.1.new ha)
    have HD3 := Lib.hid (HT2.out.2.2.new ha)
    have HQ7 := Lib.hid (Nat.lt_irrefl w2.heap.size)
    clear ha hit HT2 HBA H1 HN HD HC hn2 hm
    go_upto_region 5 with fail
    generalize w2.alloc (.cells #[.int .i64 kk.ki, .int .i64 kk.ch, .slice kk.A kk.n kk.c] 40) = w3 at *
    generalize w2.heap.size = Q7 at *
    have H2 := Lib.hid (rtake18 HD3.out (by have := HG0.out.len; omega) n)
    unfold RTakP18 at H2
    obtain ⟨y0, y1, y2⟩ := actb18 HBA2.out
    go_wp2_with fail
    refine H2.out.mono ?_
    rintro e w4 ⟨rfl, o4, hn4, hm4⟩
    have HT4 := Lib.hid (TN18.set2 HC3.out HN3.out HD3.out hn4 hm4)
    replace HBX := Lib.hid (HBX.out.chg hm4.1 (HD3.out.ne HBX.out (by decide) (by decide)))
    replace HIT := Lib.hid (HIT.out.chg hm4.1 (fun k cs fr hk => HD3.out.ne hk (by decide) (by decide)))
    generalize at18 x n = u at *
    generalize lackE x n = z at *
    have ha := (Chg.refl (fun _ => False) w4).alloc (.cells #[.int .i64 u.ki, .int .i64 u.ch, .string ⟨u.bs.toArray⟩] 49)
    have HBY : Hid (Blk (w4.alloc (.cells #[.int .i64 u.ki, .int .i64 u.ch, .string ⟨u.bs.toArray⟩] 49)) w4.heap.size 49 #[.int .i64 u.ki, .int .i64 u.ch, .string ⟨u.bs.toArray⟩]) := Lib.hid (blk_new rfl)
    replace HBX := Lib.hid (HBX.out.chg ha id)
    replace HIT := Lib.hid (HIT.out.chg ha (fun _ _ _ _ => id))
    have HT5 := Lib.hid (HT4.out.new ha)
    clear ha HT4 HBA2 H2 HN3 HD3 HC3 y0 y1 y2 hn4 hm4
    go_upto_region 6 with fail
    generalize w4.alloc (.cells #[.int .i64 u.ki, .int .i64 u.ch, .string ⟨u.bs.toArray⟩] 49) = w5 at *
    generalize w4.heap.size = Q9 at *
    have HKEEP : Hid (∀ w' : World, Chg (fun _ => False) w5 w' → (w'.cell? ⟨Q7, 0, none⟩ = some (.int .i64 kk.ki) ∧ w'.cell? ⟨Q7, 1, none⟩ = some (.int .i64 kk.ch) ∧ w'.cell? ⟨Q7, 2, none⟩ = some (.slice kk.A kk.n kk.c) ∧ w'.cell? ⟨Q9, 0, none⟩ = some (.int .i64 u.ki) ∧ w'.cell? ⟨Q9, 1, none⟩ = some (.int .i64 u.ch) ∧ w'.cell? ⟨Q9, 2, none⟩ = some (.string ⟨u.bs.toArray⟩))) := Lib.hid (fun w' hw => by
      obtain ⟨a0, a1, a2⟩ := it_cells (HBX.out.chg hw id)
      obtain ⟨b0, b1, b2⟩ := it_cells (HBY.out.chg hw id)
      exact ⟨a0, a1, a2, b0, b1, b2⟩)
    have HX := Lib.hid (Chg.refl (fun _ => False) w5).drew
    have HOF := Lib.hid (of18 kk.ki kk.ch kk.A kk.n kk.c u.bs _ w5.drew (HIT.out.chg HX.out (fun _ _ _ _ => id)).rds)
    rw [HIT.out.1, HIT.out.2.1] at HOF HKEEP
    have heq := fun W => eqRi18 W u.ki u.ch ⟨u.bs.toArray⟩
    have s0 := HKEEP.out _ HX.out
    refine wp_region_noPanic ?_
    refine wp_region_held_drew (S := (fun w' => w'.cell? ⟨Q7, 0, none⟩ = some (.int .i64 u.ki) ∧ w'.cell? ⟨Q7, 1, none⟩ = some (.int .i64 u.ch) ∧ w'.cell? ⟨Q7, 2, none⟩ = some (.slice kk.A kk.n kk.c) ∧ w'.cell? ⟨Q9, 0, none⟩ = some (.int .i64 u.ki) ∧ w'.cell? ⟨Q9, 1, none⟩ = some (.int .i64 u.ch) ∧ w'.cell? ⟨Q9, 2, none⟩ = some (.string ⟨u.bs.toArray⟩))) (by kernel_rfl) s0 (fun hHeld => ?_)
    refine wpAnyH_take (i := 0) (v := ?_) rfl (by kernel_rfl) (by kernel_rfl) (by kernel_rfl) (fun _ _ _ h => h) (Or.inl ⟨by rfl, ?_⟩) (by assumption) ?_
    rotate_left
    · intro w' hSw
      try dsimp only at hSw
      go_simp
      first | done | (with_reducible rfl)
    try simp only [List.getElem_toArray, List.getElem_cons_succ, List.getElem_cons_zero, Act.put, List.setIfInBounds_toArray, List.set_cons_zero, List.set_cons_succ]
    refine wpAnyH_take (i := 2) (v := ?_) rfl (by kernel_rfl) (by kernel_rfl) (by kernel_rfl) (fun _ _ _ h => h) (Or.inl ⟨by rfl, ?_⟩) (by assumption) ?_
    rotate_left
    · intro w' hSw
      try dsimp only at hSw
      go_simp
      first | done | (with_reducible rfl)
    try simp only [List.getElem_toArray, List.getElem_cons_succ, List.getElem_cons_zero, Act.put, List.setIfInBounds_toArray, List.set_cons_zero, List.set_cons_succ]
    refine wpAnyH_ready (rs := [1]) (by kernel_rfl) (by simp) ?_
    refine AllReadyH.cons rfl (fun K hK => ?_) AllReadyH.nil
    go_simp
    refine HOF.out.mono ?_
    rintro e w6 ⟨rfl, hc6⟩
    have HX6 := Lib.hid (HX.out.trans hc6 (fun _ _ e => e))
    clear hc6
    go_wp2_with fail
    refine hK.out _ _ (HKEEP.out _ HX6.out) (fun hHeld => ?_)
    clear hK K
    try simp only [List.getElem_toArray, List.getElem_cons_succ, List.getElem_cons_zero, Act.put, List.setIfInBounds_toArray, List.set_cons_zero, List.set_cons_succ]
    refine wpAnyH_take (i := 3) (v := ?_) rfl (by kernel_rfl) (by kernel_rfl) (by kernel_rfl) (fun _ _ _ h => h) (Or.inl ⟨by rfl, ?_⟩) (by assumption) ?_
    rotate_left
    · intro w' hSw
      try dsimp only at hSw
      go_simp
      first | done | (with_reducible rfl)
    try simp only [List.getElem_toArray, List.getElem_cons_succ, List.getElem_cons_zero, Act.put, List.setIfInBounds_toArray, List.set_cons_zero, List.set_cons_succ]
    refine wpAnyH_take (i := 4) (v := ?_) rfl (by kernel_rfl) (by kernel_rfl) (by kernel_rfl) (fun _ _ _ h => h) (Or.inl ⟨by rfl, ?_⟩) (by assumption) ?_
    rotate_left
    · intro w' hSw
      try dsimp only at hSw
      go_simp
      first | done | (with_reducible rfl)
    try simp only [List.getElem_toArray, List.getElem_cons_succ, List.getElem_cons_zero, Act.put, List.setIfInBounds_toArray, List.set_cons_zero, List.set_cons_succ]
    refine wpAnyH_take (i := 5) (v := ?_) rfl (by kernel_rfl) (by kernel_rfl) (by kernel_rfl) (fun _ _ _ h => h) (Or.inl ⟨by rfl, ?_⟩) (by assumption) ?_
    rotate_left
    · intro w' hSw
      try dsimp only at hSw
      go_simp
      first | done | (with_reducible rfl)
    try simp only [List.getElem_toArray, List.getElem_cons_succ, List.getElem_cons_zero, Act.put, List.setIfInBounds_toArray, List.set_cons_zero, List.set_cons_succ]
    refine wpAnyH_take (i := 6) (v := ?_) rfl (by kernel_rfl) (by kernel_rfl) (by kernel_rfl) (fun _ _ _ h => h) (Or.inl ⟨by rfl, ?_⟩) (by assumption) ?_
    rotate_left
    · intro w' hSw
      try dsimp only at hSw
      go_simp
      first | done | (with_reducible rfl)
    try simp only [List.getElem_toArray, List.getElem_cons_succ, List.getElem_cons_zero, Act.put, List.setIfInBounds_toArray, List.set_cons_zero, List.set_cons_succ]
    refine wpAnyH_take (i := 7) (v := ?_) rfl (by kernel_rfl) (by kernel_rfl) (by kernel_rfl) (fun _ _ _ h => h) (Or.inl ⟨by rfl, ?_⟩) (by assumption) ?_
    rotate_left
    · intro w' hSw
      try dsimp only at hSw
      go_simp
      first | done | (with_reducible rfl)
    try simp only [List.getElem_toArray, List.getElem_cons_succ, List.getElem_cons_zero, Act.put, List.setIfInBounds_toArray, List.set_cons_zero, List.set_cons_succ]
    refine wpAnyH_take (i := 8) (v := ?_) rfl (by kernel_rfl) (by kernel_rfl) (by kernel_rfl) (fun _ _ _ h => h) (Or.inl ⟨by rfl, ?_⟩) (by assumption) ?_
    rotate_left
    · intro w' hSw
      try dsimp only at hSw
      go_simp
      first | done | (with_reducible rfl)
    try simp only [List.getElem_toArray, List.getElem_cons_succ, List.getElem_cons_zero, Act.put, List.setIfInBounds_toArray, List.set_cons_zero, List.set_cons_succ]
    refine wpAnyH_take (i := 9) (v := ?_) rfl (by kernel_rfl) (by kernel_rfl) (by kernel_rfl) (fun _ _ _ h => h) (Or.inl ⟨by rfl, ?_⟩) (by assumption) ?_
    rotate_left
    · intro w' hSw
      try dsimp only at hSw
      go_simp
      first | done | (with_reducible rfl)
    try simp only [List.getElem_toArray, List.getElem_cons_succ, List.getElem_cons_zero, Act.put, List.setIfInBounds_toArray, List.set_cons_zero, List.set_cons_succ]
    refine wpAnyH_done (by kernel_rfl) ?_ _
    refine NoPanic.normal ?_
    go_wp2_with fail
    go_ret
    exact ⟨rfl, _, HT5.out.new HX6.out, HG.out⟩
  · have HG := Lib.hid ((HG0.out.dbl n).more (k' := g + 100) (by omega))
    have H1 := Lib.hid (ndouble18 HN.out (by have := HG0.out.room; omega) n)
    unfold DblP18 at H1
    go_enter Try.func8, Try.ntmps8
    go_upto_region 1 with fail
    generalize w.alloc (.cells #[.int .u8 k, .slice L m c, .int .i64 n] 36) = w1 at *
    generalize w.heap.size = Q5 at *
    obtain ⟨x0, x1, x2⟩ := actb18 HBA.out
    go_wp2_with fail
    refine H1.out.mono ?_
    rintro e w2 ⟨rfl, o3, hn2, hm⟩
    have HT2 := Lib.hid (TN18.set1 HC.out HN.out HD.out hn2 hm)
    have HBA2 := Lib.hid (HBA.out.chg hm.1 (HN.out.ne HBA.out (by decide) (by decide)))
    have H2 := Lib.hid (rdouble18 HT2.out.2.2 (by have := HG0.out.room; omega) (by have := HG0.out.lost; omega) HG0.out.ok n)
    unfold RDblP18 at H2
    clear hn2 hm H1 HN HD HC HBA
    obtain ⟨y0, y1, y2⟩ := actb18 HBA2.out
    go_wp2_with fail
    refine H2.out.mono ?_
    rintro e w4 ⟨rfl, o4, hn4, hm4⟩
    have HT4 := Lib.hid (TN18.set2 HT2.out.1 HT2.out.2.1 HT2.out.2.2 hn4 hm4)
    clear hn4 hm4 H2 HT2 HBA2 y0 y1 y2
    go_wp2_with fail
    go_ret
    exact ⟨by simp, _, HT4.out, HG.out⟩
  · have HG := Lib.hid (HG0.out.more (k' := g + 100) (by omega))
    have H1 := Lib.hid (nat18 HN.out n)
    unfold AtP18 at H1
    go_enter Try.func8, Try.ntmps8
    go_upto_region 1 with fail
    generalize w.alloc (.cells #[.int .u8 k, .slice L m c, .int .i64 n] 36) = w1 at *
    generalize w.heap.size = Q5 at *
    obtain ⟨x0, x1, x2⟩ := actb18 HBA.out
    go_wp2_with fail
    refine H1.out.mono ?_
    rintro e w2 ⟨kk, rfl, hit, hc⟩
    have HT2 := Lib.hid (show Chg (fun _ => False) W w2 ∧ NN w2 W.heap.size p o1 x ∧ DN w2 W.heap.size q o2 x from ⟨HC.out.trans hc (fun _ _ e => e), HN.out.new hc, HD.out.new hc⟩)
    have HBA2 := Lib.hid (HBA.out.chg hc id)
    have ha := (Chg.refl (fun _ => False) w2).alloc (.cells #[.int .i64 kk.ki, .int .i64 kk.ch, .slice kk.A kk.n kk.c] 40)
    have HBX : Hid (Blk (w2.alloc (.cells #[.int .i64 kk.ki, .int .i64 kk.ch, .slice kk.A kk.n kk.c] 40)) w2.heap.size 40 #[.int .i64 kk.ki, .int .i64 kk.ch, .slice kk.A kk.n kk.c]) := Lib.hid (blk_new rfl)
    have HIT := Lib.hid (hit.chg ha (fun _ _ _ _ => id))
    replace HBA2 := Lib.hid (HBA2.out.chg ha id)
    have HC3 := Lib.hid (HT2.out.1.trans ha (fun _ _ e => e))
    have HN3 := Lib.hid (HT2.out.2.1.new ha)
    have HD3 := Lib.hid (HT2.out.2.2.new ha)
    have HQ7 := Lib.hid (Nat.lt_irrefl w2.heap.size)
    clear ha hit HT2 HBA H1 HN HD HC hc
    go_upto_region 12 with fail
    generalize w2.alloc (.cells #[.int .i64 kk.ki, .int .i64 kk.ch, .slice kk.A kk.n kk.c] 40) = w3 at *
    generalize w2.heap.size = Q7 at *
    have H2 := Lib.hid (rat18 HD3.out n)
    unfold RAtP18 at H2
    obtain ⟨y0, y1, y2⟩ := actb18 HBA2.out
    go_wp2_with fail
    refine H2.out.mono ?_
    rintro e w4 ⟨rfl, hc4⟩
    have HT4 := Lib.hid (show TN18 W p q x x w4 from TN18.new ⟨HC3.out, _, _, HN3.out, HD3.out⟩ hc4)
    replace HBX := Lib.hid (HBX.out.chg hc4 id)
    replace HIT := Lib.hid (HIT.out.chg hc4 (fun _ _ _ _ => id))
    generalize at18 x n = u at *
    generalize lackE x n = z at *
    have ha := (Chg.refl (fun _ => False) w4).alloc (.cells #[.int .i64 u.ki, .int .i64 u.ch, .string ⟨u.bs.toArray⟩] 49)
    have HBY : Hid (Blk (w4.alloc (.cells #[.int .i64 u.ki, .int .i64 u.ch, .string ⟨u.bs.toArray⟩] 49)) w4.heap.size 49 #[.int .i64 u.ki, .int .i64 u.ch, .string ⟨u.bs.toArray⟩]) := Lib.hid (blk_new rfl)
    replace HBX := Lib.hid (HBX.out.chg ha id)
    replace HIT := Lib.hid (HIT.out.chg ha (fun _ _ _ _ => id))
    have HT5 := Lib.hid (HT4.out.new ha)
    clear ha HT4 HBA2 H2 HN3 HD3 HC3 y0 y1 y2 hc4
    go_upto_region 13 with fail
    generalize w4.alloc (.cells #[.int .i64 u.ki, .int .i64 u.ch, .string ⟨u.bs.toArray⟩] 49) = w5 at *
    generalize w4.heap.size = Q9 at *
    have HKEEP : Hid (∀ w' : World, Chg (fun _ => False) w5 w' → (w'.cell? ⟨Q7, 0, none⟩ = some (.int .i64 kk.ki) ∧ w'.cell? ⟨Q7, 1, none⟩ = some (.int .i64 kk.ch) ∧ w'.cell? ⟨Q7, 2, none⟩ = some (.slice kk.A kk.n kk.c) ∧ w'.cell? ⟨Q9, 0, none⟩ = some (.int .i64 u.ki) ∧ w'.cell? ⟨Q9, 1, none⟩ = some (.int .i64 u.ch) ∧ w'.cell? ⟨Q9, 2, none⟩ = some (.string ⟨u.bs.toArray⟩))) := Lib.hid (fun w' hw => by
      obtain ⟨a0, a1, a2⟩ := it_cells (HBX.out.chg hw id)
      obtain ⟨b0, b1, b2⟩ := it_cells (HBY.out.chg hw id)
      exact ⟨a0, a1, a2, b0, b1, b2⟩)
    have HX := Lib.hid (Chg.refl (fun _ => False) w5).drew
    have HOF := Lib.hid (of18 kk.ki kk.ch kk.A kk.n kk.c u.bs _ w5.drew (HIT.out.chg HX.out (fun _ _ _ _ => id)).rds)
    rw [HIT.out.1, HIT.out.2.1] at HOF HKEEP
    have heq := fun W => eqRi18 W u.ki u.ch ⟨u.bs.toArray⟩
    have s0 := HKEEP.out _ HX.out
    refine wp_region_noPanic ?_
    refine wp_region_held_drew (S := (fun w' => w'.cell? ⟨Q7, 0, none⟩ = some (.int .i64 u.ki) ∧ w'.cell? ⟨Q7, 1, none⟩ = some (.int .i64 u.ch) ∧ w'.cell? ⟨Q7, 2, none⟩ = some (.slice kk.A kk.n kk.c) ∧ w'.cell? ⟨Q9, 0, none⟩ = some (.int .i64 u.ki) ∧ w'.cell? ⟨Q9, 1, none⟩ = some (.int .i64 u.ch) ∧ w'.cell? ⟨Q9, 2, none⟩ = some (.string ⟨u.bs.toArray⟩))) (by kernel_rfl) s0 (fun hHeld => ?_)
    refine wpAnyH_take (i := 0) (v := ?_) rfl (by kernel_rfl) (by kernel_rfl) (by kernel_rfl) (fun _ _ _ h => h) (Or.inl ⟨by rfl, ?_⟩) (by assumption) ?_
    rotate_left
    · intro w' hSw
      try dsimp only at hSw
      go_simp
      first | done | (with_reducible rfl)
    try simp only [List.getElem_toArray, List.getElem_cons_succ, List.getElem_cons_zero, Act.put, List.setIfInBounds_toArray, List.set_cons_zero, List.set_cons_succ]
    refine wpAnyH_take (i := 2) (v := ?_) rfl (by kernel_rfl) (by kernel_rfl) (by kernel_rfl) (fun _ _ _ h => h) (Or.inl ⟨by rfl, ?_⟩) (by assumption) ?_
    rotate_left
    · intro w' hSw
      try dsimp only at hSw
      go_simp
      first | done | (with_reducible rfl)
    try simp only [List.getElem_toArray, List.getElem_cons_succ, List.getElem_cons_zero, Act.put, List.setIfInBounds_toArray, List.set_cons_zero, List.set_cons_succ]
    refine wpAnyH_ready (rs := [1]) (by kernel_rfl) (by simp) ?_
    refine AllReadyH.cons rfl (fun K hK => ?_) AllReadyH.nil
    go_simp
    refine HOF.out.mono ?_
    rintro e w6 ⟨rfl, hc6⟩
    have HX6 := Lib.hid (HX.out.trans hc6 (fun _ _ e => e))
    clear hc6
    go_wp2_with fail
    refine hK.out _ _ (HKEEP.out _ HX6.out) (fun hHeld => ?_)
    clear hK K
    try simp only [List.getElem_toArray, List.getElem_cons_succ, List.getElem_cons_zero, Act.put, List.setIfInBounds_toArray, List.set_cons_zero, List.set_cons_succ]
    refine wpAnyH_take (i := 3) (v := ?_) rfl (by kernel_rfl) (by kernel_rfl) (by kernel_rfl) (fun _ _ _ h => h) (Or.inl ⟨by rfl, ?_⟩) (by assumption) ?_
    rotate_left
    · intro w' hSw
      try dsimp only at hSw
      go_simp
      first | done | (with_reducible rfl)
    try simp only [List.getElem_toArray, List.getElem_cons_succ, List.getElem_cons_zero, Act.put, List.setIfInBounds_toArray, List.set_cons_zero, List.set_cons_succ]
    refine wpAnyH_take (i := 4) (v := ?_) rfl (by kernel_rfl) (by kernel_rfl) (by kernel_rfl) (fun _ _ _ h => h) (Or.inl ⟨by rfl, ?_⟩) (by assumption) ?_
    rotate_left
    · intro w' hSw
      try dsimp only at hSw
      go_simp
      first | done | (with_reducible rfl)
    try simp only [List.getElem_toArray, List.getElem_cons_succ, List.getElem_cons_zero, Act.put, List.setIfInBounds_toArray, List.set_cons_zero, List.set_cons_succ]
    refine wpAnyH_take (i := 5) (v := ?_) rfl (by kernel_rfl) (by kernel_rfl) (by kernel_rfl) (fun _ _ _ h => h) (Or.inl ⟨by rfl, ?_⟩) (by assumption) ?_
    rotate_left
    · intro w' hSw
      try dsimp only at hSw
      go_simp
      first | done | (with_reducible rfl)
    try simp only [List.getElem_toArray, List.getElem_cons_succ, List.getElem_cons_zero, Act.put, List.setIfInBounds_toArray, List.set_cons_zero, List.set_cons_succ]
    refine wpAnyH_take (i := 6) (v := ?_) rfl (by kernel_rfl) (by kernel_rfl) (by kernel_rfl) (fun _ _ _ h => h) (Or.inl ⟨by rfl, ?_⟩) (by assumption) ?_
    rotate_left
    · intro w' hSw
      try dsimp only at hSw
      go_simp
      first | done | (with_reducible rfl)
    try simp only [List.getElem_toArray, List.getElem_cons_succ, List.getElem_cons_zero, Act.put, List.setIfInBounds_toArray, List.set_cons_zero, List.set_cons_succ]
    refine wpAnyH_take (i := 7) (v := ?_) rfl (by kernel_rfl) (by kernel_rfl) (by kernel_rfl) (fun _ _ _ h => h) (Or.inl ⟨by rfl, ?_⟩) (by assumption) ?_
    rotate_left
    · intro w' hSw
      try dsimp only at hSw
      go_simp
      first | done | (with_reducible rfl)
    try simp only [List.getElem_toArray, List.getElem_cons_succ, List.getElem_cons_zero, Act.put, List.setIfInBounds_toArray, List.set_cons_zero, List.set_cons_succ]
    refine wpAnyH_take (i := 8) (v := ?_) rfl (by kernel_rfl) (by kernel_rfl) (by kernel_rfl) (fun _ _ _ h => h) (Or.inl ⟨by rfl, ?_⟩) (by assumption) ?_
    rotate_left
    · intro w' hSw
      try dsimp only at hSw
      go_simp
      first | done | (with_reducible rfl)
    try simp only [List.getElem_toArray, List.getElem_cons_succ, List.getElem_cons_zero, Act.put, List.setIfInBounds_toArray, List.set_cons_zero, List.set_cons_succ]
    refine wpAnyH_take (i := 9) (v := ?_) rfl (by kernel_rfl) (by kernel_rfl) (by kernel_rfl) (fun _ _ _ h => h) (Or.inl ⟨by rfl, ?_⟩) (by assumption) ?_
    rotate_left
    · intro w' hSw
      try dsimp only at hSw
      go_simp
      first | done | (with_reducible rfl)
    try simp only [List.getElem_toArray, List.getElem_cons_succ, List.getElem_cons_zero, Act.put, List.setIfInBounds_toArray, List.set_cons_zero, List.set_cons_succ]
    refine wpAnyH_done (by kernel_rfl) ?_ _
    refine NoPanic.normal ?_
    go_wp2_with fail
    go_ret
    exact ⟨rfl, _, HT5.out.new HX6.out, HG.out⟩
  · by_cases hm0 : m = 0
    · have hmp : ¬ 0 < (m : Int) := by omega
      clear hm0
      have HG := Lib.hid (HG0.out.more (k' := g + 100) (by omega))
      have H1 := Lib.hid (nfind18 HN.out (n) (n))
      go_enter Try.func8, Try.ntmps8
      go_upto_region 1 with fail
      generalize w.alloc (.cells #[.int .u8 k, .slice L m c, .int .i64 n] 36) = w1 at *
      generalize w.heap.size = Q5 at *
      obtain ⟨x0, x1, x2⟩ := actb18 HBA.out
      go_wp2_with fail
      refine H1.out.mono ?_
      rintro e w2 ⟨rfl, hc⟩
      have HD2 := Lib.hid (HD.out.new hc)
      have HT2 := Lib.hid (show TN18 W p q x x w2 from TN18.new ⟨HC.out, _, _, HN.out, HD.out⟩ hc)
      have H2 := Lib.hid (rfind18 HD2.out (n) (n))
      clear hc H1 HN HD HC HBA
      go_wp2_with fail
      refine H2.out.mono ?_
      rintro e w4 ⟨rfl, rfl⟩
      go_wp2_with fail
      go_ret
      exact ⟨by simp, _, HT2.out, HG.out⟩
    · have hmp : 0 < (m : Int) := by omega
      obtain ⟨ad, rfl, -⟩ := hl.2 (by omega)
      have hx : l[0]? = some (l[0]'(by have := hl.1; omega)) := List.getElem?_eq_getElem (by have := hl.1; omega)
      generalize l[0]'(by have := hl.1; omega) = y at *
      obtain ⟨z0, z1, z2, -⟩ := (hl.chg HC.out (fun _ _ => id)).at hx
      clear hx hl
      have HG := Lib.hid (HG0.out.more (k' := g + 100) (by omega))
      have H1 := Lib.hid (nfind18 HN.out (y.ki) (y.ch))
      go_enter Try.func8, Try.ntmps8
      go_upto_region 1 with fail
      generalize w.alloc (.cells #[.int .u8 k, .slice (some ad) m c, .int .i64 n] 36) = w1 at *
      generalize w.heap.size = Q5 at *
      obtain ⟨x0, x1, x2⟩ := actb18 HBA.out
      simp only [Nat.zero_mul, off_zero18] at z0 z1 z2
      go_wp2_with fail
      refine H1.out.mono ?_
      rintro e w2 ⟨rfl, hc⟩
      have HD2 := Lib.hid (HD.out.new hc)
      have HT2 := Lib.hid (show TN18 W p q x x w2 from TN18.new ⟨HC.out, _, _, HN.out, HD.out⟩ hc)
      have H2 := Lib.hid (rfind18 HD2.out (y.ki) (y.ch))
      clear hc H1 HN HD HC HBA
      go_wp2_with fail
      refine H2.out.mono ?_
      rintro e w4 ⟨rfl, rfl⟩
      go_wp2_with fail
      go_ret
      exact ⟨by simp, _, HT2.out, HG.out⟩
  · have HG := Lib.hid ((HG0.out.put (l.map AI18.it)).more (k' := g + 100) (by rw [List.length_map]; have := hl.1; omega))
    have H1 := Lib.hid (nput18 HN.out (by have := HG0.out.room; omega) L m c l _ (hl.chg HC.out (fun _ _ => id)) (fun k hk e => by
      rcases e with e | e
      · have := HN.out.lt.1; omega
      · have := (HN.out.lt.2 k e).1; omega) (by omega) (by have := HG0.out.lost; omega))
    unfold PutP18 at H1
    have HL := Lib.hid hl
    clear hl
    go_enter Try.func8, Try.ntmps8
    go_upto_region 1 with fail
    generalize w.alloc (.cells #[.int .u8 k, .slice L m c, .int .i64 n] 36) = w1 at *
    generalize w.heap.size = Q5 at *
    obtain ⟨x0, x1, x2⟩ := actb18 HBA.out
    go_wp2_with fail
    refine H1.out.mono ?_
    rintro e w2 ⟨rfl, o3, hn2, hm2⟩
    have HT2 := Lib.hid (TN18.set1 HC.out HN.out HD.out hn2 hm2)
    have HBA2 := Lib.hid (HBA.out.chg hm2.1 (HN.out.ne HBA.out (by decide) (by decide)))
    have H2 := Lib.hid (puts18_any HT2.out.2.2 (by have := HG0.out.room; omega) L m c l _ (HL.out.chg HT2.out.1 (fun _ _ => id)) (fun k hk e => by
      rcases e with e | e
      · have := HT2.out.2.2.lt.1; omega
      · have := (HT2.out.2.2.lt.2 k e).1; omega) (by omega) (by have := HG0.out.lost; omega))
    unfold PutsP18 at H2
    clear hn2 hm2 H1 HN HD HC HBA
    obtain ⟨y0, y1, y2⟩ := actb18 HBA2.out
    go_wp2_with fail
    refine H2.out.mono ?_
    rintro e w4 ⟨rfl, o4, hn4, hm4⟩
    have HT4 := Lib.hid (TN18.set2 HT2.out.1 HT2.out.2.1 HT2.out.2.2 hn4 hm4)
    clear hn4 hm4 H2 HT2 HBA2 y0 y1 y2
    go_wp2_with fail
    go_ret
    exact ⟨by simp, _, HT4.out, HG.out⟩

end Go.Proofs.Ythajmplheecepaa
