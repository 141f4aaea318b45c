/-
  Walks: store.Late, on nil too. Conditions: the store lies in memory; the span is an int.
-/
import Derived.Test.YtimgnogacanifaaGreatPe
namespace Go.Proofs.YtimgnogacanifaaGreat
open Go.RowKit
set_option linter.unusedVariables false
set_option linter.unusedSimpArgs false

theorem infoCh10 : (Tryz.prog.info? 88).map (fun i => (i.zero, i.size, i.bytes)) = some (some (.agg #[.int .i64 0, .int .u64 0, .int .i64 0, .int .i64 0, .int .i64 0, .int .i64 0, .int .i64 0, .int .i64 0, .int .i64 0, .int .i64 0]), 10, 80) := by kernel_rfl
theorem filter_take {α β : Type} (q : α → Option β) {l : List α} {j : Nat} {x : α} (h : l[j]? = some x) : (l.take (j + 1)).filterMap q = (l.take j).filterMap q ++ (q x).toList := by
  rw [take_succ' h, List.filterMap_append]
  cases hq : q x <;> simp [hq]
theorem filter_take_len {α β : Type} (q : α → Option β) (l : List α) (j : Nat) : ((l.take j).filterMap q).length ≤ j := by
  have h1 := List.length_filterMap_le q (l.take j)
  rw [List.length_take] at h1
  omega
set_option maxRecDepth 100000 in
set_option maxHeartbeats 8000000 in
theorem slate_any {B : Nat} {w : World} {p bc br : Nat} {C : Int → Bool} {R : Int → Option RV} (h : CS B w p bc br C R) (now span : Int) (hsp : -9223372036854775808 ≤ span ∧ span ≤ 9223372036854775807) : Calls Tryz.prog 29 #[.pointer (some ⟨p, 0, none⟩), .int .i64 now, .int .i64 span] w (NewS 88 10 CV.cs (lateP R now span) w) := by
  have HRS := Lib.hid (srows_any h)
  have HLN := Lib.hid (rows_len R)
  clear h
  unfold lateP
  generalize rowsP R = l at *
  obtain ⟨i0, hi, hz0, hz1, hz2⟩ := info_parts infoCh10
  have HI := Lib.hid (And.intro hi (And.intro hz0 (And.intro hz1 hz2)))
  clear hi hz0 hz1 hz2
  go_enter Tryz.func29, Tryz.ntmps29
  go_wp2_with fail
  refine HRS.out.mono ?_
  rintro e w2 ⟨L, m, lc, rfl, hm, hown, hc⟩
  have HC0 := Lib.hid hc
  have HL := Lib.hid (own_sr rv_size hown hm)
  have hm32 : m ≤ 32 := by have := HLN.out; omega
  have HM := Lib.hid hm
  clear hown hc hm
  go_wp2_with fail
  go_loopg [7, 9, 10, 11, 15] m (fun g s7 s9 s10 s11 i wr => ∃ (j n c : Nat) (A : Option Addr), g = m - j ∧ j ≤ m ∧ i = .int .i64 (j : Int) ∧ s7 = .slice A n c ∧ Hid (n = ((l.take j).filterMap (lateV now span)).length) ∧ Hid (wr.ownsRow w2.heap.size 88 10 (.slice A n c) n (((l.take j).filterMap (lateV now span)).flatMap fun x => x.cs.toList)) ∧ Hid (Chg (fun _ => False) w2 wr))
  case atStart => exact ⟨0, 0, 0, none, rfl, by omega, rfl, rfl, Lib.hid rfl, Lib.hid own_nilv, Lib.hid (Chg.refl _ _)⟩
  case round =>
    obtain ⟨j, n, c, A, rfl, hj, rfl, rfl, HN, HO, HX2⟩ := hrel
    have hn32 : n ≤ 32 := by have h1 := filter_take_len (lateV now span) l j; have h2 := HN.out; omega
    by_cases hlt : j < m
    · have hh := HL.out.chg HX2.out (fun _ _ => id)
      obtain ⟨ad, rfl, -⟩ := hh.2 (by omega)
      have hjl : j < l.length := by have := HM.out; omega
      have hx : l[j]? = some l[j] := List.getElem?_eq_getElem hjl
      generalize l[j] = x at *
      obtain ⟨po, ma, ow, ta, ol, ge, ph, ve, si, rfl⟩ := rv_letters x
      obtain ⟨z0, z1, z2, z3, z4, z5, z6, z7, z8⟩ := sr_at9 hh hx
      have hk := filter_take (lateV now span) hx
      have hp := fun W => plate_any po ma ow ta ol ge ph ve si now span W hsp
      obtain ⟨y, b, hyb⟩ : ∃ y b, lt9 ⟨po, ma, ow, ta, ol, ge, ph, ve, si⟩ now span = (y, b) := ⟨_, _, rfl⟩
      obtain ⟨a0, a1, a2, a3, a4, a5, a6, a7, a8, rfl⟩ := rv_letters y
      rw [hyb] at hp
      have HP : Hid (∀ W, Calls _ _ _ W (HB9 a0 a1 a2 a3 a4 a5 a6 a7 a8 b W)) := Lib.hid hp
      have hv : lateV now span ⟨po, ma, ow, ta, ol, ge, ph, ve, si⟩ = if b = true then some ⟨⟨a0, a1, a2, a3, a4, a5, a6, a7, a8⟩, ve⟩ else none := by unfold lateV; rw [hyb]
      rw [hv] at hk
      have HK := Lib.hid hk
      clear hx hh hjl hp hyb hv hk
      go_upto_region 5 with fail
      clear z0 z1 z2 z3 z4 z5 z6 z7 z8
      have HQ0 : Blk (wr.alloc (.cells #[.int .i64 po, .int .u64 ma, .int .i64 ow, .int .i64 ta, .int .i64 ol, .int .i64 ge, .int .i64 ph, .int .i64 ve, .int .i64 si] 40)) wr.heap.size 40 (rvC po ma ow ta ol ge ph ve si) := blk_new rfl
      replace HQ0 := Lib.hid HQ0
      replace HX2 := Lib.hid (HX2.out.alloc (.cells #[.int .i64 po, .int .u64 ma, .int .i64 ow, .int .i64 ta, .int .i64 ol, .int .i64 ge, .int .i64 ph, .int .i64 ve, .int .i64 si] 40))
      replace HO := Lib.hid (own_chg HO.out ((Chg.refl (fun _ => False) wr).alloc (.cells #[.int .i64 po, .int .u64 ma, .int .i64 ow, .int .i64 ta, .int .i64 ol, .int .i64 ge, .int .i64 ph, .int .i64 ve, .int .i64 si] 40)) (fun _ _ => id))
      generalize (wr.alloc (.cells #[.int .i64 po, .int .u64 ma, .int .i64 ow, .int .i64 ta, .int .i64 ol, .int .i64 ge, .int .i64 ph, .int .i64 ve, .int .i64 si] 40)) = w3 at *
      obtain ⟨y0, y1, y2, y3, y4, y5, y6, y7, y8⟩ := rv_cells HQ0.out
      go_wp2_with fail
      refine (HP.out _).mono ?_
      rintro e w4 ⟨rfl, hc⟩
      replace HX2 := Lib.hid (HX2.out.trans hc (fun _ _ e => e))
      replace HQ0 := Lib.hid (HQ0.out.chg hc id)
      replace HO := Lib.hid (own_chg HO.out hc (fun _ _ => id))
      clear hc y0 y1 y2 y3 y4 y5 y6 y7 y8
      go_upto_region 6 with fail
      have HN0 : Blk (w4.alloc (.cells #[.int .i64 a0, .int .u64 a1, .int .i64 a2, .int .i64 a3, .int .i64 a4, .int .i64 a5, .int .i64 a6, .int .i64 a7, .int .i64 a8] 40)) w4.heap.size 40 (rvC a0 a1 a2 a3 a4 a5 a6 a7 a8) := blk_new rfl
      replace HN0 := Lib.hid HN0
      replace HX2 := Lib.hid (HX2.out.alloc (.cells #[.int .i64 a0, .int .u64 a1, .int .i64 a2, .int .i64 a3, .int .i64 a4, .int .i64 a5, .int .i64 a6, .int .i64 a7, .int .i64 a8] 40))
      replace HQ0 := Lib.hid (HQ0.out.alloc (.cells #[.int .i64 a0, .int .u64 a1, .int .i64 a2, .int .i64 a3, .int .i64 a4, .int .i64 a5, .int .i64 a6, .int .i64 a7, .int .i64 a8] 40))
      replace HO := Lib.hid (own_chg HO.out ((Chg.refl (fun _ => False) w4).alloc (.cells #[.int .i64 a0, .int .u64 a1, .int .i64 a2, .int .i64 a3, .int .i64 a4, .int .i64 a5, .int .i64 a6, .int .i64 a7, .int .i64 a8] 40)) (fun _ _ => id))
      generalize (w4.alloc (.cells #[.int .i64 a0, .int .u64 a1, .int .i64 a2, .int .i64 a3, .int .i64 a4, .int .i64 a5, .int .i64 a6, .int .i64 a7, .int .i64 a8] 40)) = w5 at *
      cases b with
      | false =>
        rw [if_neg (by decide)] at HK
        go_wp2_with fail
        go_roundg (m - (j + 1))
        case measure => omega
        case rel => exact ⟨j + 1, n, c, A, rfl, by omega, by go_num, rfl, Lib.hid (by rw [HK.out]; simpa using HN.out), Lib.hid (by rw [HK.out]; simpa using HO.out), HX2⟩
      | true =>
        rw [if_pos rfl] at HK
        obtain ⟨x0, x1, x2, x3, x4, x5, x6, x7, x8⟩ := rv_cells HN0.out
        obtain ⟨-, -, -, -, -, -, -, q7, -⟩ := rv_cells HQ0.out
        have hown := own_chg HO.out ((Chg.refl (fun _ => False) w5).alloc (.cells #[.int .i64 a0, .int .u64 a1, .int .i64 a2, .int .i64 a3, .int .i64 a4, .int .i64 a5, .int .i64 a6, .int .i64 a7, .int .i64 a8, .int .i64 ve] 88)) (fun _ _ => id)
        have hsz : w2.heap.size ≤ (w5.alloc (.cells #[.int .i64 a0, .int .u64 a1, .int .i64 a2, .int .i64 a3, .int .i64 a4, .int .i64 a5, .int .i64 a6, .int .i64 a7, .int .i64 a8, .int .i64 ve] 88)).heap.size := by have := HX2.out.size; simp; omega
        have hxb := HX2.out.alloc (.cells #[.int .i64 a0, .int .u64 a1, .int .i64 a2, .int .i64 a3, .int .i64 a4, .int .i64 a5, .int .i64 a6, .int .i64 a7, .int .i64 a8, .int .i64 ve] 88)
        obtain ⟨hi, hz0, hz1, hz2⟩ := HI.out
        go_wp2_with (at_builtin; refine wpList_own_appendN _ rfl (.tmp 27) (.tmp 32) 74 rfl w2.heap.size 88 i0 _ 10 80 Tryz.underlying74 hi hz0 hz1 hz2 rfl (by decide) (.slice A n c) n _ rfl hown ⟨w5.heap.size, 0, none⟩ 1 1 [.int .i64 a0, .int .u64 a1, .int .i64 a2, .int .i64 a3, .int .i64 a4, .int .i64 a5, .int .i64 a6, .int .i64 a7, .int .i64 a8, .int .i64 ve] rfl rfl (new_cells rfl) (by simp [Value.oneCell']) (by unfold maxLen; omega) (by omega) hsz ?_; intro v6 w6 hown6 hg6 hat6; obtain ⟨A6, c6, rfl, _, _⟩ := own_form hown6; have HX6 := Lib.hid (grown_keep (S := fun _ => False) hxb hg6 hown (Nat.le_refl _)); have HO6 := Lib.hid hown6; clear hown6 hg6 hat6 hown hxb)
        go_roundg (m - (j + 1))
        case measure => omega
        case rel =>
          refine ⟨j + 1, n + 1, c6, A6, rfl, by omega, by go_num, rfl, Lib.hid ?_, Lib.hid ?_, HX6⟩
          · rw [HK.out, List.length_append, HN.out]; rfl
          · rw [HK.out, List.flatMap_append]; exact HO6.out
    · have : j = m := by omega
      subst this
      have HE := Lib.hid (show l.take j = l from List.take_of_length_le (by have := HM.out; omega))
      go_wp2_with fail
      go_ret
      exact ⟨A, n, c, rfl, by have := HN.out; rw [HE.out] at this; exact this, by have := HO.out; rw [HE.out] at this; exact own_base this HC0.out.size, HC0.out.trans HX2.out (fun _ _ e => e)⟩

set_option maxRecDepth 100000 in
set_option maxHeartbeats 4000000 in
theorem slate_nil (now span : Int) (w : World) : Calls Tryz.prog 29 #[.pointer none, .int .i64 now, .int .i64 span] w (NewS 88 10 CV.cs [] w) := by
  go_enter Tryz.func29, Tryz.ntmps29
  go_wp2_with fail
  refine (srows_nil w).mono ?_
  rintro e w2 ⟨L, m, lc, rfl, hm, hown, hc⟩
  have HX0 := Lib.hid hc
  have hm0 : m = 0 := hm
  subst hm0
  clear hown hc hm
  go_wp2_with fail
  go_loopg [7, 9, 10, 11, 15] 0 (fun g s7 s9 s10 s11 i wr => g = 0 ∧ i = .int .i64 0 ∧ s7 = .slice none 0 0 ∧ wr = w2)
  case atStart => exact ⟨rfl, rfl, rfl, rfl⟩
  case round =>
    obtain ⟨rfl, rfl, rfl, rfl⟩ := hrel
    go_wp2_with fail
    go_ret
    exact ⟨none, 0, 0, rfl, rfl, own_nilv, HX0.out⟩


end Go.Proofs.YtimgnogacanifaaGreat
