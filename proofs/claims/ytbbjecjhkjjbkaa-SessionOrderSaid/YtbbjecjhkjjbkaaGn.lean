/-
  Walk: rutterlaw11.letters, of letters that are the same. Conditions: both lists lie in memory, and are short.
-/
import Derived.Test.YtbbjecjhkjjbkaaGl
import Derived.Laws.StructEq
import Derived.Deep.RegionHeld3
namespace Go.Proofs.Ytbbjecjhkjjbkaa
open Go.RowKit
set_option linter.unusedVariables false
set_option linter.unusedSimpArgs false

theorem stR11 : Try.prog.underlying 28 = some (.struct (Try.prog.fieldsOf 28)) := by kernel_rfl
theorem hpR11 : Try.prog.stoodInHeld 28 = false := by kernel_rfl
theorem ne_rl11 (W : World) (m p a s : Int) (b : ByteArray) : (binOp .neq 28 (.agg #[.int .i64 m, .int .i64 p, .int .i64 a, .int .i64 s, .string b]) (.agg #[.int .i64 m, .int .i64 p, .int .i64 a, .int .i64 s, .string b])).run Try.prog W = .ok (.bool false) W := by
  rw [run_neq_struct, show (10000 : Nat) = 9999 + 1 from rfl, run_equalIn_agg W 9999 28 _ _ stR11 hpR11]
  go_simp
theorem eq_rl11 (W : World) (m p a s : Int) (b : ByteArray) : (binOp .eql 28 (.agg #[.int .i64 m, .int .i64 p, .int .i64 a, .int .i64 s, .string b]) (.agg #[.int .i64 m, .int .i64 p, .int .i64 a, .int .i64 s, .string b])).run Try.prog W = .ok (.bool true) W := by
  rw [run_eql_struct, show (10000 : Nat) = 9999 + 1 from rfl, run_equalIn_agg W 9999 28 _ _ stR11 hpR11]
  go_simp
theorem flatR_at : ∀ (ls : List LV) (i : Nat) (l : LV), ls[i]? = some l → ∀ j, j < 5 → (ls.flatMap fun l => l.rc.toList)[i * 5 + j]? = l.rc[j]?
  | [], i, y, h, _, _ => by simp at h
  | z :: ys, 0, y, h, j, hj => by
    simp only [List.getElem?_cons_zero, Option.some.injEq] at h
    subst h
    simp only [List.flatMap_cons]
    rw [List.getElem?_append_left (by simp [LV.rc, rlC]; omega)]
    simp
  | z :: ys, i + 1, y, h, j, hj => by
    simp only [List.getElem?_cons_succ] at h
    simp only [List.flatMap_cons]
    rw [List.getElem?_append_right (by simp [LV.rc, rlC]; omega)]
    have e : (i + 1) * 5 + j - (z.rc).toList.length = i * 5 + j := by simp [LV.rc, rlC]; omega
    rw [e]
    exact flatR_at ys i y h j hj
/-- An element's cells of a row of letters. -/
theorem lrow_at {w : World} {base g n c : Nat} {ys : List LA} {j : Nat} {y : LA} (h : w.ownsRow base 24 5 (.slice (some ⟨g, 0, none⟩) n c) n (ys.flatMap fun y => y.cs.toList)) (hy : ys[j]? = some y) :
    w.cell? ⟨g, j * 5, none⟩ = some (.int .i64 y.mi) ∧ w.cell? ⟨g, j * 5 + 1, none⟩ = some (.int .i64 y.pe) ∧ w.cell? ⟨g, j * 5 + 2, none⟩ = some (.int .i64 y.ac) ∧ w.cell? ⟨g, j * 5 + 3, none⟩ = some (.int .i64 y.se) ∧ w.cell? ⟨g, j * 5 + 4, none⟩ = some (.slice y.A y.n y.c) := by
  have hc : ∀ t u, t < 5 → y.cs[t]? = some u → w.cell? ⟨g, j * 5 + t, none⟩ = some u := fun t u ht hu => by
    have := h.cells (g := g) rfl (j * 5 + t) u (by rw [flatL_at ys j y hy t ht]; exact hu)
    rwa [show (⟨g, 0, none⟩ : Addr).add (j * 5 + t) = ⟨g, j * 5 + t, none⟩ from by unfold Addr.add; split <;> simp_all] at this
  exact ⟨hc 0 _ (by decide) rfl, hc 1 _ (by decide) rfl, hc 2 _ (by decide) rfl, hc 3 _ (by decide) rfl, hc 4 _ (by decide) rfl⟩
theorem rrow_at {w : World} {base g n c : Nat} {ls : List LV} {j : Nat} {l : LV} (h : w.ownsRow base 28 5 (.slice (some ⟨g, 0, none⟩) n c) n (ls.flatMap fun l => l.rc.toList)) (hy : ls[j]? = some l) :
    w.cell? ⟨g, j * 5, none⟩ = some (.int .i64 l.mi) ∧ w.cell? ⟨g, j * 5 + 1, none⟩ = some (.int .i64 l.pe) ∧ w.cell? ⟨g, j * 5 + 2, none⟩ = some (.int .i64 l.ac) ∧ w.cell? ⟨g, j * 5 + 3, none⟩ = some (.int .i64 l.se) ∧ w.cell? ⟨g, j * 5 + 4, none⟩ = some (.string ⟨l.b.toArray⟩) := by
  have hc : ∀ t u, t < 5 → l.rc[t]? = some u → w.cell? ⟨g, j * 5 + t, none⟩ = some u := fun t u ht hu => by
    have := h.cells (g := g) rfl (j * 5 + t) u (by rw [flatR_at ls j l hy t ht]; exact hu)
    rwa [show (⟨g, 0, none⟩ : Addr).add (j * 5 + t) = ⟨g, j * 5 + t, none⟩ from by unfold Addr.add; split <;> simp_all] at this
  exact ⟨hc 0 _ (by decide) rfl, hc 1 _ (by decide) rfl, hc 2 _ (by decide) rfl, hc 3 _ (by decide) rfl, hc 4 _ (by decide) rfl⟩
theorem own_at0 {w : World} {base : Nat} {e : TypeId} {size n c : Nat} {A : Option Addr} {xs : List Value} (h : w.ownsRow base e size (.slice A n c) n xs) (hn : 0 < n) : ∃ g, A = some ⟨g, 0, none⟩ := by
  rcases h.2 with ⟨hv, h0⟩ | ⟨g, cap, cur, hv, _⟩
  · omega
  · injection hv with hv
    exact ⟨g, hv⟩

set_option maxRecDepth 100000 in
set_option maxHeartbeats 4000000 in
theorem letters_any (A A2 : Option Addr) (n c c2 base base2 : Nat) (ys : List LA) (ls : List LV) (S : Nat → Prop) (w : World) (h : w.ownsRow base 24 5 (.slice A n c) n (ys.flatMap fun y => y.cs.toList)) (hl : LB w S ys ls) (h2 : w.ownsRow base2 28 5 (.slice A2 n c2) n (ls.flatMap fun l => l.rc.toList)) (hn : n = ls.length) (h8 : n ≤ 1000) : Calls Try.prog 41 #[.slice A n c, .slice A2 n c2] w fun e w' => e = .returned (.bool true) ∧ Chg (fun _ => False) w w' := by
  have HH := Lib.hid h
  have HL := Lib.hid hl
  have HH2 := Lib.hid h2
  have HN := Lib.hid hn
  have hnn : ((n : Int) != (n : Int)) = false := by simp
  clear h hl h2 hn
  go_enter Try.func41, Try.ntmps41
  go_wp2_with fail
  go_loopg [5] n (fun g i wr => ∃ j : Nat, g = n - j ∧ j ≤ n ∧ i = .int .i64 (j : Int) ∧ Hid (Chg (fun _ => False) w wr))
  case atStart => exact ⟨0, rfl, Nat.zero_le _, rfl, Lib.hid (Chg.refl _ _)⟩
  case round =>
    obtain ⟨j, rfl, hj, rfl, HC⟩ := hrel
    by_cases hlt : j < n
    · obtain ⟨g1, hA1⟩ := own_at0 HH.out (by omega)
      obtain ⟨g2, hA2⟩ := own_at0 HH2.out (by omega)
      subst hA1
      subst hA2
      have hlj : j < ls.length := by have := HN.out; omega
      have hyj : j < ys.length := by have := HL.out.1; omega
      obtain ⟨⟨y0, y1, y2, y3, lb⟩, hlv⟩ : ∃ l, ls[j]? = some l := ⟨_, List.getElem?_eq_getElem hlj⟩
      obtain ⟨⟨x0, x1, x2, x3, yA, yn, yc⟩, hyv⟩ : ∃ y, ys[j]? = some y := ⟨_, List.getElem?_eq_getElem hyj⟩
      obtain ⟨e0, e1, e2, e3, hyn, -, hrd⟩ := HL.out.2 j _ _ hyv hlv
      simp only at e0 e1 e2 e3 hyn hrd
      subst e0 e1 e2 e3
      have HKEEP : Hid (∀ W : World, Chg (fun _ => False) wr W → (W.cell? ⟨g1, j * 5, none⟩ = some (.int .i64 x0) ∧ W.cell? ⟨g1, j * 5 + 1, none⟩ = some (.int .i64 x1) ∧ W.cell? ⟨g1, j * 5 + 2, none⟩ = some (.int .i64 x2) ∧ W.cell? ⟨g1, j * 5 + 3, none⟩ = some (.int .i64 x3) ∧ W.cell? ⟨g1, j * 5 + 4, none⟩ = some (.slice yA yn yc) ∧ W.cell? ⟨g2, j * 5, none⟩ = some (.int .i64 x0) ∧ W.cell? ⟨g2, j * 5 + 1, none⟩ = some (.int .i64 x1) ∧ W.cell? ⟨g2, j * 5 + 2, none⟩ = some (.int .i64 x2) ∧ W.cell? ⟨g2, j * 5 + 3, none⟩ = some (.int .i64 x3) ∧ W.cell? ⟨g2, j * 5 + 4, none⟩ = some (.string ⟨lb.toArray⟩))) := Lib.hid (fun W hw => by
        have hc := HC.out.trans hw (fun _ _ e => e)
        obtain ⟨a0, a1, a2, a3, a4⟩ := lrow_at (own_chg HH.out hc (fun _ _ => id)) hyv
        obtain ⟨b0, b1, b2, b3, b4⟩ := rrow_at (own_chg HH2.out hc (fun _ _ => id)) hlv
        exact ⟨a0, a1, a2, a3, a4, b0, b1, b2, b3, b4⟩)
      have HOF := Lib.hid (fun (W : World) (hw : Chg (fun _ => False) wr W) => of11_any x0 x1 x2 x3 yA yn yc lb S W hyn (hrd.chg (HC.out.trans hw (fun _ _ e => e)) (fun _ _ => id)))
      clear hlv hyv hyn hrd hlj hyj
      unfold ltC rlC at HOF
      have HX := Lib.hid (Chg.refl (fun _ => False) wr).drew
      have hne := fun W => ne_rl11 W x0 x1 x2 x3 ⟨lb.toArray⟩
      go_upto_region 6 with fail
      go_region_held3 (fun w' => w'.cell? ⟨g1, j * 5, none⟩ = some (.int .i64 x0) ∧ w'.cell? ⟨g1, j * 5 + 1, none⟩ = some (.int .i64 x1) ∧ w'.cell? ⟨g1, j * 5 + 2, none⟩ = some (.int .i64 x2) ∧ w'.cell? ⟨g1, j * 5 + 3, none⟩ = some (.int .i64 x3) ∧ w'.cell? ⟨g1, j * 5 + 4, none⟩ = some (.slice yA yn yc) ∧ w'.cell? ⟨g2, j * 5, none⟩ = some (.int .i64 x0) ∧ w'.cell? ⟨g2, j * 5 + 1, none⟩ = some (.int .i64 x1) ∧ w'.cell? ⟨g2, j * 5 + 2, none⟩ = some (.int .i64 x2) ∧ w'.cell? ⟨g2, j * 5 + 3, none⟩ = some (.int .i64 x3) ∧ w'.cell? ⟨g2, j * 5 + 4, none⟩ = some (.string ⟨lb.toArray⟩))
        (first | with_reducible exact HKEEP.out _ HX.out | fail)
        (first
          | (go_at_call 8; (with_reducible refine (HOF.out _ HX.out).mono ?_); rintro e wz ⟨rfl, hc⟩; have HX := Lib.hid (HX.out.trans hc (fun _ _ e => e)); clear hc)
          | fail)
      all_goals
        go_wp2_with fail
        go_roundg (n - (j + 1))
        case measure => omega
        case rel => exact ⟨j + 1, rfl, by omega, by go_num, Lib.hid (HC.out.trans HX.out (fun _ _ e => e))⟩
    · obtain rfl : j = n := by omega
      go_wp2_with fail
      go_ret
      exact ⟨rfl, HC.out⟩

end Go.Proofs.Ytbbjecjhkjjbkaa
