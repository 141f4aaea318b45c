/-
  Walks: the document's Late; rutterlaw10.of. Conditions: the store, and the changes, lie in memory; the span is an int.
-/
import Derived.Test.YtimgnogacanifaaGreatPo
import Derived.Test.YtimgnogacanifaaGreatOp
import Derived.Deep.RegionHeld3
namespace Go.Proofs.YtimgnogacanifaaGreat
open Go.RowKit
set_option linter.unusedVariables false
set_option linter.unusedSimpArgs false

theorem infoRC10 : (Tryz.prog.info? 80).map (fun i => (i.zero, i.size, i.bytes)) = some (some (.agg #[.int .i64 0, .int .u64 0, .int .i64 0, .int .i64 0, .int .i64 0, .int .i64 0, .int .i64 0, .int .i64 0, .int .i64 0, .int .i64 0]), 10, 80) := by kernel_rfl
theorem new_cells_d {w : World} {t : TypeId} {cs : Array Value} : ∀ (j : Nat) (u : Value), cs.toList[j]? = some u → ((w.alloc (.cells cs t)).drew).cell? ((⟨w.heap.size, 0, none⟩ : Addr).add j) = some u := fun j u hu => by
  have := new_cells (W := w.alloc (.cells cs t)) rfl j u hu
  simpa using this
theorem own_ne10 {w : World} {base : Nat} {e : TypeId} {size n : Nat} {v : Value} {xs : List Value} (h : w.ownsRow base e size v n xs) {g : Nat} {T : TypeId} {cs : Array Value} (hb : Blk w g T cs) (hT : T ≠ e) : ∀ k, v.ownBlock = some k → k ≠ g := by
  rintro k hk rfl
  rcases h.2 with ⟨rfl, _⟩ | ⟨g, cap, cur, rfl, _, hh, _⟩
  · cases hk
  · injection hk with hk
    subst hk
    unfold Blk at hb
    rw [hh] at hb
    injection hb with hb
    injection hb with _ hb
    exact hT hb.symm
def lateK (R : Int → Option RV) (now span : Int) (k : Nat) : List CV := (rowsK R k).filterMap (lateV now span)
theorem lateK_succ (R : Int → Option RV) (now span : Int) (k : Nat) : lateK R now span (k + 1) = lateK R now span k ++ (match R (k : Int) with | none => [] | some x => (lateV now span x).toList) := by
  unfold lateK
  rw [rowsK_succ, List.filterMap_append]
  congr 1
  cases h : R (k : Int) with
  | none => rfl
  | some x => cases h2 : lateV now span x <;> simp [h2]
theorem lateK_len (R : Int → Option RV) (now span : Int) (k : Nat) : (lateK R now span k).length ≤ k := Nat.le_trans (List.length_filterMap_le _ _) (rowsK_len R k)
set_option maxRecDepth 20000 in
set_option maxRecDepth 100000 in
set_option maxHeartbeats 8000000 in
theorem dslate_any {w : World} {q : Nat} {C : Int → Bool} {R : Int → Option RV} (h : DS w q C R) (hw : WF C R) (now span : Int) (hsp : -9223372036854775808 ≤ span ∧ span ≤ 9223372036854775807) : Calls Tryz.prog 30 #[.pointer (some ⟨q, 0, none⟩), .int .i64 now, .int .i64 span] w (NewS 80 10 CV.cs (lateP R now span) w) := by
  have HD := Lib.hid h
  have HW := Lib.hid hw
  have HQL := Lib.hid (Blk.lt h)
  clear h hw
  obtain ⟨i0, hi, hz0, hz1, hz2⟩ := info_parts infoRC10
  have HI := Lib.hid (And.intro hi (And.intro hz0 (And.intro hz1 hz2)))
  clear hi hz0 hz1 hz2
  go_enter Tryz.func30, Tryz.ntmps30
  go_wp2_with fail
  go_loopg [7, 8, 9, 10] 32 (fun g s7 i s9 s10 wr => ∃ (j n c : Nat) (A : Option Addr), g = 32 - j ∧ j ≤ 32 ∧ i = .int .i64 (j : Int) ∧ s7 = .slice A n c ∧ Hid (n = (lateK R now span j).length) ∧ Hid (wr.ownsRow w.heap.size 80 10 (.slice A n c) n ((lateK R now span j).flatMap fun x => x.cs.toList)) ∧ Hid (Chg (fun _ => False) w wr))
  case atStart => exact ⟨0, 0, 0, none, rfl, by omega, rfl, rfl, Lib.hid rfl, Lib.hid own_nilv, Lib.hid (Chg.refl _ _)⟩
  case round =>
    obtain ⟨j, n, c, A, rfl, hj, rfl, rfl, HN, HO, HX0⟩ := hrel
    have hkl := lateK_len R now span j
    have hn32 : n ≤ 32 := by have := HN.out; omega
    clear hkl
    by_cases hlt : j < 32
    · have hd := (HD.out.keep HX0.out).row hlt
      have hk := lateK_succ R now span j
      rcases HW.out.cell (j : Int) with ⟨h1, h2⟩ | ⟨x, h1, h2, h3⟩
      · rw [h2] at hd
        obtain ⟨-, -, -, -, -, -, -, y7, -⟩ := hd
        simp only [z9] at y7
        rw [h1] at hk
        simp only [List.append_nil] at hk
        have HK := Lib.hid hk
        clear hk h1 h2
        go_wp2_with fail
        go_roundg (32 - (j + 1))
        case measure => omega
        case rel => exact ⟨j + 1, n, c, A, rfl, by omega, by go_num, rfl, Lib.hid (by rw [HK.out]; exact HN.out), Lib.hid (by rw [HK.out]; exact HO.out), HX0⟩
      · obtain ⟨po, ma, ow, ta, ol, ge, ph, ve, si, rfl⟩ := rv_letters x
        rw [h2] at hd
        obtain ⟨y0, y1, y2, y3, y4, y5, y6, y7, y8⟩ := hd
        have hv0 : 1 ≤ ve := by change 1 ≤ ve at h3; exact h3
        have tv : (ve == 0) = false := by simp only [beq_eq_false_iff_ne, ne_eq]; omega
        rw [h1] at hk
        have hp := fun W => rlate_any po ma ow ta ol ge ph ve si now span W hsp
        obtain ⟨y, b, hyb⟩ : ∃ y b, lt9 ⟨po, ma, ow, ta, ol, ge, ph, ve, si⟩ now span = (y, b) := ⟨_, _, rfl⟩
        obtain ⟨a0, a1, a2, a3, a4, a5, a6, a7, a8, rfl⟩ := rv_letters y
        rw [hyb] at hp
        have HP : Hid (∀ W, Calls _ _ _ W (HB9 a0 a1 a2 a3 a4 a5 a6 a7 a8 b W)) := Lib.hid hp
        have hv : lateV now span ⟨po, ma, ow, ta, ol, ge, ph, ve, si⟩ = if b = true then some ⟨⟨a0, a1, a2, a3, a4, a5, a6, a7, a8⟩, ve⟩ else none := by unfold lateV; rw [hyb]
        simp only [hv] at hk
        have HK := Lib.hid hk
        have HLT := Lib.hid hlt
        have HR7 : Hid (∀ W, DS W q C R → W.cell? ⟨q, 16 + j * 9 + 7, none⟩ = some (.int .i64 ve)) := Lib.hid (fun W hW => by
          have := (hW.row hlt).2.2.2.2.2.2.2.1
          rw [h2] at this
          exact this)
        clear hp hyb hv hk h1 h2 h3
        go_wp2_with fail
        refine (HP.out _).mono ?_
        rintro e w4 ⟨rfl, hc⟩
        replace HX0 := Lib.hid (HX0.out.trans hc (fun _ _ e => e))
        replace HO := Lib.hid (own_chg HO.out hc (fun _ _ => id))
        clear hc y0 y1 y2 y3 y4 y5 y6 y7 y8 tv
        go_upto_region 7 with fail
        have HN0 : Blk (w4.alloc (.cells #[.int .i64 a0, .int .u64 a1, .int .i64 a2, .int .i64 a3, .int .i64 a4, .int .i64 a5, .int .i64 a6, .int .i64 a7, .int .i64 a8] 40)) w4.heap.size 40 (rvC a0 a1 a2 a3 a4 a5 a6 a7 a8) := blk_new rfl
        replace HN0 := Lib.hid HN0
        replace HX0 := Lib.hid (HX0.out.alloc (.cells #[.int .i64 a0, .int .u64 a1, .int .i64 a2, .int .i64 a3, .int .i64 a4, .int .i64 a5, .int .i64 a6, .int .i64 a7, .int .i64 a8] 40))
        replace HO := Lib.hid (own_chg HO.out ((Chg.refl (fun _ => False) w4).alloc (.cells #[.int .i64 a0, .int .u64 a1, .int .i64 a2, .int .i64 a3, .int .i64 a4, .int .i64 a5, .int .i64 a6, .int .i64 a7, .int .i64 a8] 40)) (fun _ _ => id))
        generalize (w4.alloc (.cells #[.int .i64 a0, .int .u64 a1, .int .i64 a2, .int .i64 a3, .int .i64 a4, .int .i64 a5, .int .i64 a6, .int .i64 a7, .int .i64 a8] 40)) = w5 at *
        generalize w4.heap.size = bn at *
        cases b with
        | false =>
          simp only [Bool.false_eq_true, if_false, Option.toList_none, List.append_nil] at HK
          go_wp2_with fail
          go_roundg (32 - (j + 1))
          case measure => omega
          case rel => exact ⟨j + 1, n, c, A, rfl, by omega, by go_num, rfl, Lib.hid (by rw [HK.out]; simpa using HN.out), Lib.hid (by rw [HK.out]; simpa using HO.out), HX0⟩
        | true =>
          have HKEEP : Hid (∀ W : World, Chg (fun k => k ≠ bn ∧ k ≠ q) w5 W → (W.cell? ⟨bn, 0, none⟩ = some (.int .i64 a0) ∧ W.cell? ⟨bn, 1, none⟩ = some (.int .u64 a1) ∧ W.cell? ⟨bn, 2, none⟩ = some (.int .i64 a2) ∧ W.cell? ⟨bn, 3, none⟩ = some (.int .i64 a3) ∧ W.cell? ⟨bn, 4, none⟩ = some (.int .i64 a4) ∧ W.cell? ⟨bn, 5, none⟩ = some (.int .i64 a5) ∧ W.cell? ⟨bn, 6, none⟩ = some (.int .i64 a6) ∧ W.cell? ⟨bn, 7, none⟩ = some (.int .i64 a7) ∧ W.cell? ⟨bn, 8, none⟩ = some (.int .i64 a8) ∧ W.cell? ⟨q, 16 + j * 9 + 7, none⟩ = some (.int .i64 ve))) := Lib.hid (fun W hw => by
            obtain ⟨x0, x1, x2, x3, x4, x5, x6, x7, x8⟩ := rv_cells (HN0.out.chg hw (fun h => h.1 rfl))
            exact ⟨x0, x1, x2, x3, x4, x5, x6, x7, x8, HR7.out _ ((HD.out.keep HX0.out).chg hw (fun h => h.2 rfl))⟩)
          have HXA := Lib.hid (Chg.refl (fun k => k ≠ bn ∧ k ≠ q) w5).drew
          have HXD := Lib.hid (((Chg.refl (fun _ => False) w5).alloc (.cells #[.int .i64 a0, .int .u64 a1, .int .i64 a2, .int .i64 a3, .int .i64 a4, .int .i64 a5, .int .i64 a6, .int .i64 a7, .int .i64 a8, .int .i64 ve] 80)).drew.mono (S' := fun k => k ≠ bn ∧ k ≠ q) (fun _ _ e => e.elim))
          have HXB := Lib.hid ((Chg.refl (fun _ => False) w5).alloc (.cells #[.int .i64 a0, .int .u64 a1, .int .i64 a2, .int .i64 a3, .int .i64 a4, .int .i64 a5, .int .i64 a6, .int .i64 a7, .int .i64 a8, .int .i64 ve] 80)).drew
          have hown : ((w5.alloc (.cells #[.int .i64 a0, .int .u64 a1, .int .i64 a2, .int .i64 a3, .int .i64 a4, .int .i64 a5, .int .i64 a6, .int .i64 a7, .int .i64 a8, .int .i64 ve] 80)).drew).ownsRow w.heap.size 80 10 (.slice A n c) n _ := own_chg HO.out HXB.out (fun _ _ => id)
          have hnew : ∀ (j : Nat) (u : Value), ([.int .i64 a0, .int .u64 a1, .int .i64 a2, .int .i64 a3, .int .i64 a4, .int .i64 a5, .int .i64 a6, .int .i64 a7, .int .i64 a8, .int .i64 ve] : List Value)[j]? = some u → ((w5.alloc (.cells #[.int .i64 a0, .int .u64 a1, .int .i64 a2, .int .i64 a3, .int .i64 a4, .int .i64 a5, .int .i64 a6, .int .i64 a7, .int .i64 a8, .int .i64 ve] 80)).drew).cell? ((⟨w5.heap.size, 0, none⟩ : Addr).add j) = some u := new_cells_d
          have hsz : w.heap.size ≤ ((w5.alloc (.cells #[.int .i64 a0, .int .u64 a1, .int .i64 a2, .int .i64 a3, .int .i64 a4, .int .i64 a5, .int .i64 a6, .int .i64 a7, .int .i64 a8, .int .i64 ve] 80)).drew).heap.size := by have h1 := HX0.out.size; have h2 := HXB.out.size; omega
          have hne1 := own_ne10 hown (HN0.out.chg HXB.out id) (by decide)
          have hne2 := own_ne10 hown ((HD.out.keep HX0.out).keep HXB.out) (by decide)
          obtain ⟨hi, hz0, hz1, hz2⟩ := HI.out
          obtain ⟨x0, x1, x2, x3, x4, x5, x6, x7, x8, xv⟩ := HKEEP.out _ HXA.out
          go_wp2_with fail
          go_region_held3 (fun W => W.cell? ⟨bn, 0, none⟩ = some (.int .i64 a0) ∧ W.cell? ⟨bn, 1, none⟩ = some (.int .u64 a1) ∧ W.cell? ⟨bn, 2, none⟩ = some (.int .i64 a2) ∧ W.cell? ⟨bn, 3, none⟩ = some (.int .i64 a3) ∧ W.cell? ⟨bn, 4, none⟩ = some (.int .i64 a4) ∧ W.cell? ⟨bn, 5, none⟩ = some (.int .i64 a5) ∧ W.cell? ⟨bn, 6, none⟩ = some (.int .i64 a6) ∧ W.cell? ⟨bn, 7, none⟩ = some (.int .i64 a7) ∧ W.cell? ⟨bn, 8, none⟩ = some (.int .i64 a8) ∧ W.cell? ⟨q, 16 + j * 9 + 7, none⟩ = some (.int .i64 ve))
            (first | with_reducible exact HKEEP.out _ HXA.out | with_reducible exact HKEEP.out _ HXD.out | with_reducible exact HKEEP.out _ HXC.out | fail)
            (first
              | (refine step_own_appendN _ rfl (.tmp 36) (.tmp 46) 76 rfl w.heap.size 80 i0 _ 10 80 Tryz.underlying76 hi hz0 hz1 hz2 rfl (by decide) (.slice A n c) n _ rfl hown ⟨w5.heap.size, 0, none⟩ 1 1 [.int .i64 a0, .int .u64 a1, .int .i64 a2, .int .i64 a3, .int .i64 a4, .int .i64 a5, .int .i64 a6, .int .i64 a7, .int .i64 a8, .int .i64 ve] rfl rfl hnew (by simp [Value.oneCell']) (by unfold maxLen; omega) (by omega) hsz ?_; intro v6 w6 hown6 hg6 hat6; obtain ⟨A6, c6, rfl, _, _⟩ := own_form hown6; have HX6 := Lib.hid (grown_keep (S := fun _ => False) (HX0.out.trans HXB.out (fun _ _ e => e)) hg6 hown (Nat.le_refl _)); have HXC := Lib.hid (HXD.out.grown hg6 (fun k hk _ => ⟨hne1 k hk, hne2 k hk⟩)); have HO6 := Lib.hid hown6; clear hown6 hg6 hat6)
              | fail)
          all_goals
            go_wp2_with fail
            go_roundg (32 - (j + 1))
            case measure => omega
            case rel =>
              refine ⟨j + 1, n + 1, c6, A6, rfl, by omega, by go_num, rfl, Lib.hid ?_, Lib.hid ?_, HX6⟩
              · rw [HK.out, List.length_append, HN.out]; rfl
              · rw [HK.out, List.flatMap_append]; exact HO6.out
    · have : j = 32 := by omega
      subst this
      go_wp2_with fail
      go_ret
      exact ⟨A, n, c, rfl, HN.out, HO.out, HX0.out⟩

theorem take_flat {l : List CV} {j : Nat} {x : CV} (h : l[j]? = some x) : (l.take (j + 1)).flatMap (fun x => x.cs.toList) = (l.take j).flatMap (fun x => x.cs.toList) ++ x.cs.toList := by
  rw [take_succ' h, List.flatMap_append]
  simp
end Go.Proofs.YtimgnogacanifaaGreat
