/-
  Walks: inet.port, inet.Right, inet.Back, rutterref04.Right, Back. Conditions: none.
-/
import Derived.Test.YtclikcbgeolngaaKa
import Derived.Test.YtclikcbgeolngaaGen
namespace Go.Proofs.Ytclikcbgeolngaa
open Go.RowKit
set_option linter.unusedVariables false

/-- A flow's cells. -/
def flC (pr src dst sp dp : Int) : Array Value := #[.int .i64 pr, .int .u32 src, .int .u32 dst, .int .i64 sp, .int .i64 dp]
def portB (x : Int) : Bool := decide (0 ≤ x) && decide (x ≤ 65535)
/-- May a flow be? -/
def flR (pr sp dp : Int) : Bool := (pr == 6 || pr == 17) && (portB sp && portB dp)

theorem fl_cells {w : World} {q : Nat} {pr src dst sp dp : Int} {T : TypeId} (hb : Blk w q T (flC pr src dst sp dp)) :
    w.cell? ⟨q, 0, none⟩ = some (.int .i64 pr) ∧ w.cell? ⟨q, 1, none⟩ = some (.int .u32 src) ∧ w.cell? ⟨q, 2, none⟩ = some (.int .u32 dst) ∧ w.cell? ⟨q, 3, none⟩ = some (.int .i64 sp) ∧ w.cell? ⟨q, 4, none⟩ = some (.int .i64 dp) := by
  have x0 := hb.cell 0
  have x1 := hb.cell 1
  have x2 := hb.cell 2
  have x3 := hb.cell 3
  have x4 := hb.cell 4
  simp only [flC, List.getElem?_toArray, List.getElem?_cons_zero, List.getElem?_cons_succ] at x0 x1 x2 x3 x4
  exact ⟨x0, x1, x2, x3, x4⟩
theorem fl_kept {w w' : World} {q : Nat} {pr src dst sp dp : Int} {T : TypeId} (hb : Blk w q T (flC pr src dst sp dp)) (h : Chg (fun _ => False) w w') :
    w'.cell? ⟨q, 0, none⟩ = some (.int .i64 pr) ∧ w'.cell? ⟨q, 1, none⟩ = some (.int .u32 src) ∧ w'.cell? ⟨q, 2, none⟩ = some (.int .u32 dst) ∧ w'.cell? ⟨q, 3, none⟩ = some (.int .i64 sp) ∧ w'.cell? ⟨q, 4, none⟩ = some (.int .i64 dp) := fl_cells (hb.chg h id)

set_option maxRecDepth 100000 in
set_option maxHeartbeats 400000 in
theorem port_any (x : Int) (w : World) : Calls Try.prog 30 #[.int .i64 x] w fun e w' => e = .returned (.bool (portB x)) ∧ w = w' := by
  by_cases h : 0 ≤ x
  · have hR := Lib.hid (show portB x = decide (x ≤ 65535) by unfold portB; simp [h])
    go_enter Try.func30, Try.ntmps30
    go_wp2_with fail
    go_ret
    exact ⟨ret_b hR.out.symm, rfl⟩
  · have hR := Lib.hid (show portB x = false by unfold portB; simp [h])
    go_enter Try.func30, Try.ntmps30
    go_wp2_with fail
    go_ret
    exact ⟨ret_b hR.out.symm, rfl⟩

set_option maxRecDepth 100000 in
set_option maxHeartbeats 800000 in
theorem iright_any (pr src dst sp dp : Int) (w : World) :
    Calls Try.prog 18 #[.agg (flC pr src dst sp dp)] w fun e w' => e = .returned (.bool (flR pr sp dp)) ∧ Chg (fun _ => False) w w' := by
  unfold flC
  have hC := Lib.hid ((Chg.refl (fun _ => False) w).alloc (.cells #[.int .i64 pr, .int .u32 src, .int .u32 dst, .int .i64 sp, .int .i64 dp] 35))
  have hP := Lib.hid port_any
  have hpr : pr = 6 ∨ (pr ≠ 6 ∧ pr = 17) ∨ (pr ≠ 6 ∧ pr ≠ 17) := by omega
  generalize h1 : portB sp = b1
  generalize h2 : portB dp = b2
  have hQ1 := Lib.hid (fun W => port_any sp W)
  have hQ2 := Lib.hid (fun W => port_any dp W)
  rw [h1] at hQ1
  rw [h2] at hQ2
  have hR := Lib.hid (show flR pr sp dp = ((pr == 6 || pr == 17) && (b1 && b2)) by unfold flR; rw [h1, h2])
  clear h1 h2 hP
  rcases hpr with rfl | ⟨hn, rfl⟩ | ⟨hn, hn2⟩
  · cases b1 with
    | false =>
      go_enter Try.func18, Try.ntmps18
      go_wp2_with fail
      refine (hQ1.out _).mono ?_
      rintro e w' ⟨rfl, rfl⟩
      go_wp2_with fail
      go_ret
      exact ⟨ret_b (by rw [hR.out]; rfl), hC.out⟩
    | true =>
      go_enter Try.func18, Try.ntmps18
      go_wp2_with fail
      refine (hQ1.out _).mono ?_
      rintro e w' ⟨rfl, rfl⟩
      go_wp2_with fail
      refine (hQ2.out _).mono ?_
      rintro e w' ⟨rfl, rfl⟩
      go_wp2_with fail
      go_ret
      exact ⟨ret_b (by rw [hR.out]; rfl), hC.out⟩
  · cases b1 with
    | false =>
      go_enter Try.func18, Try.ntmps18
      go_wp2_with fail
      refine (hQ1.out _).mono ?_
      rintro e w' ⟨rfl, rfl⟩
      go_wp2_with fail
      go_ret
      exact ⟨ret_b (by rw [hR.out]; rfl), hC.out⟩
    | true =>
      go_enter Try.func18, Try.ntmps18
      go_wp2_with fail
      refine (hQ1.out _).mono ?_
      rintro e w' ⟨rfl, rfl⟩
      go_wp2_with fail
      refine (hQ2.out _).mono ?_
      rintro e w' ⟨rfl, rfl⟩
      go_wp2_with fail
      go_ret
      exact ⟨ret_b (by rw [hR.out]; rfl), hC.out⟩
  · have t1 : (pr == 6) = false := by simpa using hn
    have t2 : (pr == 17) = false := by simpa using hn2
    clear hn hn2
    go_enter Try.func18, Try.ntmps18
    go_wp2_with fail
    go_ret
    exact ⟨ret_b (by rw [hR.out, t1, t2]; rfl), hC.out⟩

set_option maxRecDepth 100000 in
set_option maxHeartbeats 800000 in
theorem rright4_any (pr src dst sp dp : Int) (w : World) :
    Calls Try.prog 22 #[.agg (flC pr src dst sp dp)] w fun e w' => e = .returned (.bool (flR pr sp dp)) ∧ Chg (fun _ => False) w w' := by
  unfold flC
  have hC := Lib.hid ((Chg.refl (fun _ => False) w).alloc (.cells #[.int .i64 pr, .int .u32 src, .int .u32 dst, .int .i64 sp, .int .i64 dp] 35))
  have hpr : (pr = 6 ∨ (pr ≠ 6 ∧ pr = 17)) ∨ (pr ≠ 6 ∧ pr ≠ 17) := by omega
  rcases hpr with hpr | ⟨hn, hn2⟩
  · have hR0 : flR pr sp dp = (portB sp && portB dp) := by
      unfold flR
      rcases hpr with rfl | ⟨_, rfl⟩ <;> rfl
    unfold portB at hR0
    by_cases h1 : 0 ≤ sp
    · by_cases h2 : sp ≤ 65535
      · by_cases h3 : 0 ≤ dp
        · skip
          have hR := Lib.hid (hR0.trans (show _ = decide (dp ≤ 65535) by simp [h1, h2, h3]))
          clear hR0
          rcases hpr with rfl | ⟨hn, rfl⟩
          all_goals
            go_enter Try.func22, Try.ntmps22
            go_wp2_with fail
            go_ret
            exact ⟨ret_b hR.out.symm, hC.out⟩
        · skip
          have hR := Lib.hid (hR0.trans (show _ = false by simp [h3]))
          clear hR0
          rcases hpr with rfl | ⟨hn, rfl⟩
          all_goals
            go_enter Try.func22, Try.ntmps22
            go_wp2_with fail
            go_ret
            exact ⟨ret_b hR.out.symm, hC.out⟩
      · skip
        have hR := Lib.hid (hR0.trans (show _ = false by simp [h2]))
        clear hR0
        rcases hpr with rfl | ⟨hn, rfl⟩
        all_goals
          go_enter Try.func22, Try.ntmps22
          go_wp2_with fail
          go_ret
          exact ⟨ret_b hR.out.symm, hC.out⟩
    · skip
      have hR := Lib.hid (hR0.trans (show _ = false by simp [h1]))
      clear hR0
      rcases hpr with rfl | ⟨hn, rfl⟩
      all_goals
        go_enter Try.func22, Try.ntmps22
        go_wp2_with fail
        go_ret
        exact ⟨ret_b hR.out.symm, hC.out⟩
  · have t1 : (pr == 6) = false := by simpa using hn
    have t2 : (pr == 17) = false := by simpa using hn2
    have hR := Lib.hid (show flR pr sp dp = false by unfold flR; rw [t1, t2]; rfl)
    clear hn hn2
    go_enter Try.func22, Try.ntmps22
    go_wp2_with fail
    go_ret
    exact ⟨ret_b hR.out.symm, hC.out⟩

set_option maxRecDepth 100000 in
set_option maxHeartbeats 800000 in
theorem iback_any (pr src dst sp dp : Int) (w : World) :
    Calls Try.prog 35 #[.agg (flC pr src dst sp dp)] w fun e w' => e = .returned (.agg (flC pr dst src dp sp)) ∧ Chg (fun _ => False) w w' := by
  unfold flC
  go_enter Try.func35, Try.ntmps35
  go_wp2_with fail
  have hb : Blk ((w.alloc (.cells #[.int .i64 pr, .int .u32 src, .int .u32 dst, .int .i64 sp, .int .i64 dp] 35)).alloc (.cells #[.int .i64 pr, .int .u32 dst, .int .u32 src, .int .i64 dp, .int .i64 sp] 35)) (w.heap.size + 1) 35 (flC pr dst src dp sp) := blk_new (by simp)
  obtain ⟨r0, r1, r2, r3, r4⟩ := fl_cells hb
  exact bodyPost_ret (v := .agg #[.int .i64 pr, .int .u32 dst, .int .u32 src, .int .i64 dp, .int .i64 sp]) (by simp [results, Try.results35, go_sem, r0, r1, r2, r3, r4]) rfl ⟨rfl, ((Chg.refl (fun _ => False) w).alloc _).alloc _⟩
set_option maxRecDepth 100000 in
set_option maxHeartbeats 800000 in
theorem rback4_any (pr src dst sp dp : Int) (w : World) :
    Calls Try.prog 17 #[.agg (flC pr src dst sp dp)] w fun e w' => e = .returned (.agg (flC pr dst src dp sp)) ∧ Chg (fun _ => False) w w' := by
  unfold flC
  go_enter Try.func17, Try.ntmps17
  go_wp2_with fail
  have hb : Blk ((w.alloc (.cells #[.int .i64 pr, .int .u32 src, .int .u32 dst, .int .i64 sp, .int .i64 dp] 35)).alloc (.cells #[.int .i64 pr, .int .u32 dst, .int .u32 src, .int .i64 dp, .int .i64 sp] 35)) (w.heap.size + 1) 35 (flC pr dst src dp sp) := blk_new (by simp)
  obtain ⟨r0, r1, r2, r3, r4⟩ := fl_cells hb
  exact bodyPost_ret (v := .agg #[.int .i64 pr, .int .u32 dst, .int .u32 src, .int .i64 dp, .int .i64 sp]) (by simp [results, Try.results17, go_sem, r0, r1, r2, r3, r4]) rfl ⟨rfl, ((Chg.refl (fun _ => False) w).alloc _).alloc _⟩

end Go.Proofs.Ytclikcbgeolngaa
