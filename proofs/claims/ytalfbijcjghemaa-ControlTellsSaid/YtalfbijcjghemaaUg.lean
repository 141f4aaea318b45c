/-
  Walks: control.putRow, putRecords. Conditions: the row, the records are read in memory, and may be.
-/
import Derived.Test.YtalfbijcjghemaaUf
import Derived.Deep.RegionHeld3
import Derived.Deep.DeepCutAuto
namespace Go.Proofs.Ytalfbijcjghemaa
open Go.RowKit
set_option linter.unusedVariables false

set_option maxHeartbeats 40000000 in
theorem putrow_ok (po ma ow ta ol ge ph ve si : Int) (p N : Nat) (st : Option (List UInt8)) (wB w : World) (hr : rwR po ma ow ta ol ge ph ve si = true) (hm : 0 ≤ ma) (hN : N ≤ 1000) (hW : Wat wB p st N w) :
    Calls Try.prog 27 #[.pointer (some ⟨p, 0, none⟩), .agg (rvC po ma ow ta ol ge ph ve si)] w fun e w' => e = .returned (.tuple #[]) ∧ Wat wB p (rowP po ma ow ta ol ge ph ve si st) (N + 72) w' ∧ Kp6 w w' := by
  obtain ⟨h1, h2, h3, h4, h5, h6, h7, h8, h9⟩ := row_parts hr
  have a1 : IntKind.i64.wrap ma = ma := i64_wrap (by omega)
  have a2 : IntKind.i64.wrap (ow + 1) = ow + 1 := i64_wrap (by omega)
  have a3 : IntKind.i64.wrap (ta + 1) = ta + 1 := i64_wrap (by omega)
  have a4 : IntKind.i64.wrap (ol + 1) = ol + 1 := i64_wrap (by omega)
  clear hr
  have HB0 : Hid (Blk (w.alloc (.cells #[.int .i64 po, .int .u64 ma, .int .i64 ow, .int .i64 ta, .int .i64 ol, .int .i64 ge, .int .i64 ph, .int .i64 ve, .int .i64 si] 25)) w.heap.size 25 (rvC po ma ow ta ol ge ph ve si)) := Lib.hid (blk_new rfl)
  have HW0 := Lib.hid (hW.alloc (.cells #[.int .i64 po, .int .u64 ma, .int .i64 ow, .int .i64 ta, .int .i64 ol, .int .i64 ge, .int .i64 ph, .int .i64 ve, .int .i64 si] 25))
  have HK0 := Lib.hid ((Kp6.refl w).alloc (.cells #[.int .i64 po, .int .u64 ma, .int .i64 ow, .int .i64 ta, .int .i64 ol, .int .i64 ge, .int .i64 ph, .int .i64 ve, .int .i64 si] 25))
  clear hW
  unfold rvC
  go_enter Try.func27, Try.ntmps27
  go_upto_region 1 with fail
  generalize w.alloc (.cells #[.int .i64 po, .int .u64 ma, .int .i64 ow, .int .i64 ta, .int .i64 ol, .int .i64 ge, .int .i64 ph, .int .i64 ve, .int .i64 si] 25) = w0 at *
  generalize w.heap.size = g at *
  go_cut [] (fun wx => Wat wB p (putS 1 [ow + 1, ta + 1, ol + 1, ph] (putS 6 [ma] (putS 1 [po] st))) (N + 48) wx ∧ Blk wx g 25 (rvC po ma ow ta ol ge ph ve si) ∧ Kp6 w0 wx)
  case first =>
    refine wp_region_noPanic ?_
    refine wp_region_held_drew (S := (fun w => w.cell? ⟨g, 0, none⟩ = some (.int .i64 po) ∧ w.cell? ⟨g, 1, none⟩ = some (.int .u64 ma) ∧ w.cell? ⟨g, 2, none⟩ = some (.int .i64 ow) ∧ w.cell? ⟨g, 3, none⟩ = some (.int .i64 ta) ∧ w.cell? ⟨g, 4, none⟩ = some (.int .i64 ol) ∧ w.cell? ⟨g, 5, none⟩ = some (.int .i64 ge) ∧ w.cell? ⟨g, 6, none⟩ = some (.int .i64 ph) ∧ w.cell? ⟨g, 7, none⟩ = some (.int .i64 ve) ∧ w.cell? ⟨g, 8, none⟩ = some (.int .i64 si))) (by kernel_rfl) (by have hKK := (And.intro HB0.out (Kp6.refl w0)); exact rv_cells hKK.1) (fun hHeld => ?_)
    refine wpAnyH_take (i := 0) (v := .pointer (some ⟨p, 0, none⟩)) rfl (by kernel_rfl) (by kernel_rfl) (by kernel_rfl) (fun _ _ _ h => h) (Or.inl ⟨by rfl, ?_⟩) (by assumption) ?_
    · intro w' hSw
      try dsimp only at hSw
      obtain ⟨s0, s1, s2, s3, s4, s5, s6, s7, s8⟩ := hSw
      go_simp
      first | done | (with_reducible rfl)
    try simp only [List.getElem_toArray, List.getElem_cons_zero, Act.put, List.setIfInBounds_toArray, List.set_cons_zero, List.set_cons_succ]
    refine wpAnyH_take (i := 1) (v := .pointer (some ⟨g, 0, none⟩)) rfl (by kernel_rfl) (by kernel_rfl) (by kernel_rfl) (fun _ _ _ h => h) (Or.inl ⟨by rfl, ?_⟩) (by assumption) ?_
    · intro w' hSw
      try dsimp only at hSw
      obtain ⟨s0, s1, s2, s3, s4, s5, s6, s7, s8⟩ := hSw
      go_simp
      first | done | (with_reducible rfl)
    try simp only [List.getElem_toArray, List.getElem_cons_succ, List.getElem_cons_zero, Act.put, List.setIfInBounds_toArray, List.set_cons_zero, List.set_cons_succ]
    refine wpAnyH_take (i := 2) (v := .int .i64 po) rfl (by kernel_rfl) (by kernel_rfl) (by kernel_rfl) (fun _ _ _ h => h) (Or.inl ⟨by rfl, ?_⟩) (by assumption) ?_
    · intro w' hSw
      try dsimp only at hSw
      obtain ⟨s0, s1, s2, s3, s4, s5, s6, s7, s8⟩ := hSw
      go_simp
      first | done | (with_reducible rfl)
    try simp only [List.getElem_toArray, List.getElem_cons_succ, List.getElem_cons_zero, Act.put, List.setIfInBounds_toArray, List.set_cons_zero, List.set_cons_succ]
    refine wpAnyH_take (i := 5) (v := .pointer (some ⟨g, 1, none⟩)) rfl (by kernel_rfl) (by kernel_rfl) (by kernel_rfl) (fun _ _ _ h => h) (Or.inl ⟨by rfl, ?_⟩) (by assumption) ?_
    · intro w' hSw
      try dsimp only at hSw
      obtain ⟨s0, s1, s2, s3, s4, s5, s6, s7, s8⟩ := hSw
      go_simp
      first | done | (with_reducible rfl)
    try simp only [List.getElem_toArray, List.getElem_cons_succ, List.getElem_cons_zero, Act.put, List.setIfInBounds_toArray, List.set_cons_zero, List.set_cons_succ]
    refine wpAnyH_take (i := 6) (v := .int .u64 ma) rfl (by kernel_rfl) (by kernel_rfl) (by kernel_rfl) (fun _ _ _ h => h) (Or.inl ⟨by rfl, ?_⟩) (by assumption) ?_
    · intro w' hSw
      try dsimp only at hSw
      obtain ⟨s0, s1, s2, s3, s4, s5, s6, s7, s8⟩ := hSw
      go_simp
      first | done | (with_reducible rfl)
    try simp only [List.getElem_toArray, List.getElem_cons_succ, List.getElem_cons_zero, Act.put, List.setIfInBounds_toArray, List.set_cons_zero, List.set_cons_succ]
    refine wpAnyH_take (i := 7) (v := .int .i64 ma) rfl (by kernel_rfl) (by kernel_rfl) (by kernel_rfl) (fun _ _ _ h => h) (Or.inl ⟨by rfl, ?_⟩) (by assumption) ?_
    · intro w' hSw
      try dsimp only at hSw
      obtain ⟨s0, s1, s2, s3, s4, s5, s6, s7, s8⟩ := hSw
      go_simp
      first | done | (with_reducible rfl)
    try simp only [List.getElem_toArray, List.getElem_cons_succ, List.getElem_cons_zero, Act.put, List.setIfInBounds_toArray, List.set_cons_zero, List.set_cons_succ]
    refine wpAnyH_take (i := 10) (v := .pointer (some ⟨g, 2, none⟩)) rfl (by kernel_rfl) (by kernel_rfl) (by kernel_rfl) (fun _ _ _ h => h) (Or.inl ⟨by rfl, ?_⟩) (by assumption) ?_
    · intro w' hSw
      try dsimp only at hSw
      obtain ⟨s0, s1, s2, s3, s4, s5, s6, s7, s8⟩ := hSw
      go_simp
      first | done | (with_reducible rfl)
    try simp only [List.getElem_toArray, List.getElem_cons_succ, List.getElem_cons_zero, Act.put, List.setIfInBounds_toArray, List.set_cons_zero, List.set_cons_succ]
    refine wpAnyH_take (i := 11) (v := .int .i64 ow) rfl (by kernel_rfl) (by kernel_rfl) (by kernel_rfl) (fun _ _ _ h => h) (Or.inl ⟨by rfl, ?_⟩) (by assumption) ?_
    · intro w' hSw
      try dsimp only at hSw
      obtain ⟨s0, s1, s2, s3, s4, s5, s6, s7, s8⟩ := hSw
      go_simp
      first | done | (with_reducible rfl)
    try simp only [List.getElem_toArray, List.getElem_cons_succ, List.getElem_cons_zero, Act.put, List.setIfInBounds_toArray, List.set_cons_zero, List.set_cons_succ]
    refine wpAnyH_take (i := 12) (v := .int .i64 (ow + 1)) rfl (by kernel_rfl) (by kernel_rfl) (by kernel_rfl) (fun _ _ _ h => h) (Or.inl ⟨by rfl, ?_⟩) (by assumption) ?_
    · intro w' hSw
      try dsimp only at hSw
      obtain ⟨s0, s1, s2, s3, s4, s5, s6, s7, s8⟩ := hSw
      go_simp
      first | done | (with_reducible rfl)
    try simp only [List.getElem_toArray, List.getElem_cons_succ, List.getElem_cons_zero, Act.put, List.setIfInBounds_toArray, List.set_cons_zero, List.set_cons_succ]
    refine wpAnyH_take (i := 13) (v := .pointer (some ⟨g, 3, none⟩)) rfl (by kernel_rfl) (by kernel_rfl) (by kernel_rfl) (fun _ _ _ h => h) (Or.inl ⟨by rfl, ?_⟩) (by assumption) ?_
    · intro w' hSw
      try dsimp only at hSw
      obtain ⟨s0, s1, s2, s3, s4, s5, s6, s7, s8⟩ := hSw
      go_simp
      first | done | (with_reducible rfl)
    try simp only [List.getElem_toArray, List.getElem_cons_succ, List.getElem_cons_zero, Act.put, List.setIfInBounds_toArray, List.set_cons_zero, List.set_cons_succ]
    refine wpAnyH_take (i := 14) (v := .int .i64 ta) rfl (by kernel_rfl) (by kernel_rfl) (by kernel_rfl) (fun _ _ _ h => h) (Or.inl ⟨by rfl, ?_⟩) (by assumption) ?_
    · intro w' hSw
      try dsimp only at hSw
      obtain ⟨s0, s1, s2, s3, s4, s5, s6, s7, s8⟩ := hSw
      go_simp
      first | done | (with_reducible rfl)
    try simp only [List.getElem_toArray, List.getElem_cons_succ, List.getElem_cons_zero, Act.put, List.setIfInBounds_toArray, List.set_cons_zero, List.set_cons_succ]
    refine wpAnyH_take (i := 15) (v := .int .i64 (ta + 1)) rfl (by kernel_rfl) (by kernel_rfl) (by kernel_rfl) (fun _ _ _ h => h) (Or.inl ⟨by rfl, ?_⟩) (by assumption) ?_
    · intro w' hSw
      try dsimp only at hSw
      obtain ⟨s0, s1, s2, s3, s4, s5, s6, s7, s8⟩ := hSw
      go_simp
      first | done | (with_reducible rfl)
    try simp only [List.getElem_toArray, List.getElem_cons_succ, List.getElem_cons_zero, Act.put, List.setIfInBounds_toArray, List.set_cons_zero, List.set_cons_succ]
    refine wpAnyH_take (i := 16) (v := .pointer (some ⟨g, 4, none⟩)) rfl (by kernel_rfl) (by kernel_rfl) (by kernel_rfl) (fun _ _ _ h => h) (Or.inl ⟨by rfl, ?_⟩) (by assumption) ?_
    · intro w' hSw
      try dsimp only at hSw
      obtain ⟨s0, s1, s2, s3, s4, s5, s6, s7, s8⟩ := hSw
      go_simp
      first | done | (with_reducible rfl)
    try simp only [List.getElem_toArray, List.getElem_cons_succ, List.getElem_cons_zero, Act.put, List.setIfInBounds_toArray, List.set_cons_zero, List.set_cons_succ]
    refine wpAnyH_take (i := 17) (v := .int .i64 ol) rfl (by kernel_rfl) (by kernel_rfl) (by kernel_rfl) (fun _ _ _ h => h) (Or.inl ⟨by rfl, ?_⟩) (by assumption) ?_
    · intro w' hSw
      try dsimp only at hSw
      obtain ⟨s0, s1, s2, s3, s4, s5, s6, s7, s8⟩ := hSw
      go_simp
      first | done | (with_reducible rfl)
    try simp only [List.getElem_toArray, List.getElem_cons_succ, List.getElem_cons_zero, Act.put, List.setIfInBounds_toArray, List.set_cons_zero, List.set_cons_succ]
    refine wpAnyH_take (i := 18) (v := .int .i64 (ol + 1)) rfl (by kernel_rfl) (by kernel_rfl) (by kernel_rfl) (fun _ _ _ h => h) (Or.inl ⟨by rfl, ?_⟩) (by assumption) ?_
    · intro w' hSw
      try dsimp only at hSw
      obtain ⟨s0, s1, s2, s3, s4, s5, s6, s7, s8⟩ := hSw
      go_simp
      first | done | (with_reducible rfl)
    try simp only [List.getElem_toArray, List.getElem_cons_succ, List.getElem_cons_zero, Act.put, List.setIfInBounds_toArray, List.set_cons_zero, List.set_cons_succ]
    refine wpAnyH_take (i := 19) (v := .pointer (some ⟨g, 6, none⟩)) rfl (by kernel_rfl) (by kernel_rfl) (by kernel_rfl) (fun _ _ _ h => h) (Or.inl ⟨by rfl, ?_⟩) (by assumption) ?_
    · intro w' hSw
      try dsimp only at hSw
      obtain ⟨s0, s1, s2, s3, s4, s5, s6, s7, s8⟩ := hSw
      go_simp
      first | done | (with_reducible rfl)
    try simp only [List.getElem_toArray, List.getElem_cons_succ, List.getElem_cons_zero, Act.put, List.setIfInBounds_toArray, List.set_cons_zero, List.set_cons_succ]
    refine wpAnyH_take (i := 20) (v := .int .i64 ph) rfl (by kernel_rfl) (by kernel_rfl) (by kernel_rfl) (fun _ _ _ h => h) (Or.inl ⟨by rfl, ?_⟩) (by assumption) ?_
    · intro w' hSw
      try dsimp only at hSw
      obtain ⟨s0, s1, s2, s3, s4, s5, s6, s7, s8⟩ := hSw
      go_simp
      first | done | (with_reducible rfl)
    try simp only [List.getElem_toArray, List.getElem_cons_succ, List.getElem_cons_zero, Act.put, List.setIfInBounds_toArray, List.set_cons_zero, List.set_cons_succ]
    refine wpAnyH_inv (fun lb a w => ∃ (b3 b4 b8 b9 b21 b22 : Bool) (v7 v8 v12 v13 v25 v26 : Value) (q7 q12 q25 : Nat), lb = #[true, true, true, b3, b4, true, true, true, b8, b9, true, true, true, true, true, true, true, true, true, true, true, b21, b22] ∧ a = { tmps := #[.pointer (some ⟨p, 0, none⟩), .agg #[.int .i64 po, .int .u64 ma, .int .i64 ow, .int .i64 ta, .int .i64 ol, .int .i64 ge, .int .i64 ph, .int .i64 ve, .int .i64 si], undef, .pointer (some ⟨g, 0, none⟩), .pointer (some ⟨p, 0, none⟩), .pointer (some ⟨g, 0, none⟩), .int .i64 po, v7, v8, .pointer (some ⟨g, 1, none⟩), .int .u64 ma, .int .i64 ma, v12, v13, .pointer (some ⟨g, 2, none⟩), .int .i64 ow, .int .i64 (ow + 1), .pointer (some ⟨g, 3, none⟩), .int .i64 ta, .int .i64 (ta + 1), .pointer (some ⟨g, 4, none⟩), .int .i64 ol, .int .i64 (ol + 1), .pointer (some ⟨g, 6, none⟩), .int .i64 ph, v25, v26, undef, undef, undef, undef, undef, undef, undef, undef, undef, undef, undef], defers := [] } ∧ (Blk w g 25 (rvC po ma ow ta ol ge ph ve si) ∧ Kp6 w0 w) ∧ Ch wB w p true (.pointer (some ⟨p, 0, none⟩)) (st) (N) [⟨b3, b4, v7, v8, q7, 1, [po]⟩, ⟨b8, b9, v12, v13, q12, 6, [ma]⟩, ⟨b21, b22, v25, v26, q25, 1, [ow + 1, ta + 1, ol + 1, ph]⟩]) ?hsz ?hS (by kernel_rfl) ?hend ?hops 6 #[true, true, true, false, false, true, true, true, false, false, true, true, true, true, true, true, true, true, true, true, true, false, false] _ _ (by decide) ?hstart
    case hsz =>
      rintro lb a w ⟨b3, b4, b8, b9, b21, b22, v7, v8, v12, v13, v25, v26, q7, q12, q25, rfl, rfl, hKK, hch⟩
      rfl
    case hS =>
      rintro lb a w ⟨b3, b4, b8, b9, b21, b22, v7, v8, v12, v13, v25, v26, q7, q12, q25, rfl, rfl, hKK, hch⟩
      exact rv_cells hKK.1
    case hstart =>
      exact ⟨false, false, false, false, false, false, _, _, _, _, _, _, 0, 0, 0, rfl, rfl, (And.intro HB0.out (Kp6.refl w0)), ⟨(fun _ => rfl), (fun h => by cases h), (fun _ => rfl), (fun _ _ => HW0.out.drew), ⟨(fun h => by cases h), (fun h => by cases h), (fun h => by cases h), (fun h => by cases h), ⟨(fun h => by cases h), (fun h => by cases h), (fun h => by cases h), (fun h => by cases h), (fun h => by cases h)⟩⟩⟩⟩
    case hops =>
      refine ⟨?_, ?_, ?_, ?_, ?_, ?_, ?_, ?_, ?_, ?_, ?_, ?_, ?_, ?_, ?_, ?_, ?_, ?_, ?_, ?_, ?_, ?_, ?_, trivial⟩
      · intro lb a w hI hun hdep K hK
        obtain ⟨b3, b4, b8, b9, b21, b22, v7, v8, v12, v13, v25, v26, q7, q12, q25, rfl, rfl, hKK, hch⟩ := hI
        cases (show true = false from hun)
      · intro lb a w hI hun hdep K hK
        obtain ⟨b3, b4, b8, b9, b21, b22, v7, v8, v12, v13, v25, v26, q7, q12, q25, rfl, rfl, hKK, hch⟩ := hI
        cases (show true = false from hun)
      · intro lb a w hI hun hdep K hK
        obtain ⟨b3, b4, b8, b9, b21, b22, v7, v8, v12, v13, v25, v26, q7, q12, q25, rfl, rfl, hKK, hch⟩ := hI
        cases (show true = false from hun)
      · intro lb a w hI hun hdep K hK
        obtain ⟨b3, b4, b8, b9, b21, b22, v7, v8, v12, v13, v25, v26, q7, q12, q25, rfl, rfl, hKK, hch⟩ := hI
        have hb : b3 = false := hun
        subst hb
        have HCH := Lib.hid hch
        have HKK := Lib.hid hKK
        clear hch hKK hdep
        go_simp
        refine hK.out _ _ ?_
        exact ⟨true, b4, b8, b9, b21, b22, _, _, _, _, _, _, w.heap.size, q12, q25, rfl, rfl, (by have hKK := HKK.out; exact ⟨hKK.1.alloc _, hKK.2.alloc _⟩), Ch.lay ((Chg.refl _ _).alloc _) w.heap.size ⟨false, b4, v7, v8, q7, 1, [po]⟩ [⟨b8, b9, v12, v13, q12, 6, [ma]⟩, ⟨b21, b22, v25, v26, q25, 1, [ow + 1, ta + 1, ol + 1, ph]⟩] (blk_new rfl) [] _ _ _ _ HCH.out⟩
      · intro lb a w hI hun hdep K hK
        obtain ⟨b3, b4, b8, b9, b21, b22, v7, v8, v12, v13, v25, v26, q7, q12, q25, rfl, rfl, hKK, hch⟩ := hI
        have hb : b4 = false := hun
        subst hb
        have ha : b3 = true := hdep ⟨3, .data⟩ (by simp) rfl
        subst ha
        obtain ⟨e1, e2, hblk, hwat⟩ := Ch.find ⟨true, false, v7, v8, q7, 1, [po]⟩ [⟨b8, b9, v12, v13, q12, 6, [ma]⟩, ⟨b21, b22, v25, v26, q25, 1, [ow + 1, ta + 1, ol + 1, ph]⟩] rfl rfl [] _ _ _ _ hch rfl
        have e2 : v7 = .slice (some ⟨q7, 0, none⟩) 1 1 := e2
        subst e2
        have HPUT := Lib.hid (wat_put6 p q7 _ 1 [po] _ wB w hwat hblk (fun x hx => by simp only [List.mem_cons, List.not_mem_nil, or_false] at hx; subst hx; omega) (by simp [nOf]; omega))
        have HCH := Lib.hid hch
        have HKK := Lib.hid hKK
        clear hch hKK hdep hwat hblk e1
        go_simp
        refine HPUT.out.mono ?_
        rintro e w' ⟨rfl, hw', hk'⟩
        go_wp2_with fail
        refine hK.out _ _ ?_
        exact ⟨true, true, b8, b9, b21, b22, _, _, _, _, _, _, q7, q12, q25, rfl, rfl, (by have hKK := HKK.out; exact ⟨hk' _ _ _ (by decide) (by decide) hKK.1, hKK.2.trans hk'⟩), Ch.call hk'.kp ⟨true, false, (.slice (some ⟨q7, 0, none⟩) 1 1), v8, q7, 1, [po]⟩ [⟨b8, b9, v12, v13, q12, 6, [ma]⟩, ⟨b21, b22, v25, v26, q25, 1, [ow + 1, ta + 1, ol + 1, ph]⟩] rfl [] _ _ _ _ HCH.out rfl hw'⟩
      · intro lb a w hI hun hdep K hK
        obtain ⟨b3, b4, b8, b9, b21, b22, v7, v8, v12, v13, v25, v26, q7, q12, q25, rfl, rfl, hKK, hch⟩ := hI
        cases (show true = false from hun)
      · intro lb a w hI hun hdep K hK
        obtain ⟨b3, b4, b8, b9, b21, b22, v7, v8, v12, v13, v25, v26, q7, q12, q25, rfl, rfl, hKK, hch⟩ := hI
        cases (show true = false from hun)
      · intro lb a w hI hun hdep K hK
        obtain ⟨b3, b4, b8, b9, b21, b22, v7, v8, v12, v13, v25, v26, q7, q12, q25, rfl, rfl, hKK, hch⟩ := hI
        cases (show true = false from hun)
      · intro lb a w hI hun hdep K hK
        obtain ⟨b3, b4, b8, b9, b21, b22, v7, v8, v12, v13, v25, v26, q7, q12, q25, rfl, rfl, hKK, hch⟩ := hI
        have hb : b8 = false := hun
        subst hb
        have HCH := Lib.hid hch
        have HKK := Lib.hid hKK
        clear hch hKK hdep
        go_simp
        refine hK.out _ _ ?_
        exact ⟨b3, b4, true, b9, b21, b22, _, _, _, _, _, _, q7, w.heap.size, q25, rfl, rfl, (by have hKK := HKK.out; exact ⟨hKK.1.alloc _, hKK.2.alloc _⟩), Ch.lay ((Chg.refl _ _).alloc _) w.heap.size ⟨false, b9, v12, v13, q12, 6, [ma]⟩ [⟨b21, b22, v25, v26, q25, 1, [ow + 1, ta + 1, ol + 1, ph]⟩] (blk_new rfl) [⟨b3, b4, v7, v8, q7, 1, [po]⟩] _ _ _ _ HCH.out⟩
      · intro lb a w hI hun hdep K hK
        obtain ⟨b3, b4, b8, b9, b21, b22, v7, v8, v12, v13, v25, v26, q7, q12, q25, rfl, rfl, hKK, hch⟩ := hI
        have hb : b9 = false := hun
        subst hb
        have ha : b8 = true := hdep ⟨8, .data⟩ (by simp) rfl
        subst ha
        have hp : b4 = true := hdep ⟨4, .data⟩ (by simp) rfl
        subst hp
        obtain ⟨e1, e2, hblk, hwat⟩ := Ch.find ⟨true, false, v12, v13, q12, 6, [ma]⟩ [⟨b21, b22, v25, v26, q25, 1, [ow + 1, ta + 1, ol + 1, ph]⟩] rfl rfl [⟨b3, true, v7, v8, q7, 1, [po]⟩] _ _ _ _ hch rfl
        have e1 : v8 = (.pointer (some ⟨p, 0, none⟩)) := e1
        subst e1
        have e2 : v12 = .slice (some ⟨q12, 0, none⟩) 1 1 := e2
        subst e2
        have HPUT := Lib.hid (wat_put6 p q12 _ 6 [ma] _ wB w hwat hblk (fun x hx => by simp only [List.mem_cons, List.not_mem_nil, or_false] at hx; subst hx; omega) (by simp [nOf]; omega))
        have HCH := Lib.hid hch
        have HKK := Lib.hid hKK
        clear hch hKK hdep hwat hblk
        go_simp
        refine HPUT.out.mono ?_
        rintro e w' ⟨rfl, hw', hk'⟩
        go_wp2_with fail
        refine hK.out _ _ ?_
        exact ⟨b3, true, true, true, b21, b22, _, _, _, _, _, _, q7, q12, q25, rfl, rfl, (by have hKK := HKK.out; exact ⟨hk' _ _ _ (by decide) (by decide) hKK.1, hKK.2.trans hk'⟩), Ch.call hk'.kp ⟨true, false, (.slice (some ⟨q12, 0, none⟩) 1 1), v13, q12, 6, [ma]⟩ [⟨b21, b22, v25, v26, q25, 1, [ow + 1, ta + 1, ol + 1, ph]⟩] rfl [⟨b3, true, v7, (.pointer (some ⟨p, 0, none⟩)), q7, 1, [po]⟩] _ _ _ _ HCH.out rfl hw'⟩
      · intro lb a w hI hun hdep K hK
        obtain ⟨b3, b4, b8, b9, b21, b22, v7, v8, v12, v13, v25, v26, q7, q12, q25, rfl, rfl, hKK, hch⟩ := hI
        cases (show true = false from hun)
      · intro lb a w hI hun hdep K hK
        obtain ⟨b3, b4, b8, b9, b21, b22, v7, v8, v12, v13, v25, v26, q7, q12, q25, rfl, rfl, hKK, hch⟩ := hI
        cases (show true = false from hun)
      · intro lb a w hI hun hdep K hK
        obtain ⟨b3, b4, b8, b9, b21, b22, v7, v8, v12, v13, v25, v26, q7, q12, q25, rfl, rfl, hKK, hch⟩ := hI
        cases (show true = false from hun)
      · intro lb a w hI hun hdep K hK
        obtain ⟨b3, b4, b8, b9, b21, b22, v7, v8, v12, v13, v25, v26, q7, q12, q25, rfl, rfl, hKK, hch⟩ := hI
        cases (show true = false from hun)
      · intro lb a w hI hun hdep K hK
        obtain ⟨b3, b4, b8, b9, b21, b22, v7, v8, v12, v13, v25, v26, q7, q12, q25, rfl, rfl, hKK, hch⟩ := hI
        cases (show true = false from hun)
      · intro lb a w hI hun hdep K hK
        obtain ⟨b3, b4, b8, b9, b21, b22, v7, v8, v12, v13, v25, v26, q7, q12, q25, rfl, rfl, hKK, hch⟩ := hI
        cases (show true = false from hun)
      · intro lb a w hI hun hdep K hK
        obtain ⟨b3, b4, b8, b9, b21, b22, v7, v8, v12, v13, v25, v26, q7, q12, q25, rfl, rfl, hKK, hch⟩ := hI
        cases (show true = false from hun)
      · intro lb a w hI hun hdep K hK
        obtain ⟨b3, b4, b8, b9, b21, b22, v7, v8, v12, v13, v25, v26, q7, q12, q25, rfl, rfl, hKK, hch⟩ := hI
        cases (show true = false from hun)
      · intro lb a w hI hun hdep K hK
        obtain ⟨b3, b4, b8, b9, b21, b22, v7, v8, v12, v13, v25, v26, q7, q12, q25, rfl, rfl, hKK, hch⟩ := hI
        cases (show true = false from hun)
      · intro lb a w hI hun hdep K hK
        obtain ⟨b3, b4, b8, b9, b21, b22, v7, v8, v12, v13, v25, v26, q7, q12, q25, rfl, rfl, hKK, hch⟩ := hI
        cases (show true = false from hun)
      · intro lb a w hI hun hdep K hK
        obtain ⟨b3, b4, b8, b9, b21, b22, v7, v8, v12, v13, v25, v26, q7, q12, q25, rfl, rfl, hKK, hch⟩ := hI
        cases (show true = false from hun)
      · intro lb a w hI hun hdep K hK
        obtain ⟨b3, b4, b8, b9, b21, b22, v7, v8, v12, v13, v25, v26, q7, q12, q25, rfl, rfl, hKK, hch⟩ := hI
        have hb : b21 = false := hun
        subst hb
        have HCH := Lib.hid hch
        have HKK := Lib.hid hKK
        clear hch hKK hdep
        go_simp
        refine hK.out _ _ ?_
        exact ⟨b3, b4, b8, b9, true, b22, _, _, _, _, _, _, q7, q12, w.heap.size, rfl, rfl, (by have hKK := HKK.out; exact ⟨hKK.1.alloc _, hKK.2.alloc _⟩), Ch.lay ((Chg.refl _ _).alloc _) w.heap.size ⟨false, b22, v25, v26, q25, 1, [ow + 1, ta + 1, ol + 1, ph]⟩ [] (blk_new rfl) [⟨b3, b4, v7, v8, q7, 1, [po]⟩, ⟨b8, b9, v12, v13, q12, 6, [ma]⟩] _ _ _ _ HCH.out⟩
      · intro lb a w hI hun hdep K hK
        obtain ⟨b3, b4, b8, b9, b21, b22, v7, v8, v12, v13, v25, v26, q7, q12, q25, rfl, rfl, hKK, hch⟩ := hI
        have hb : b22 = false := hun
        subst hb
        have ha : b21 = true := hdep ⟨21, .data⟩ (by simp) rfl
        subst ha
        have hp : b9 = true := hdep ⟨9, .data⟩ (by simp) rfl
        subst hp
        obtain ⟨e1, e2, hblk, hwat⟩ := Ch.find ⟨true, false, v25, v26, q25, 1, [ow + 1, ta + 1, ol + 1, ph]⟩ [] rfl rfl [⟨b3, b4, v7, v8, q7, 1, [po]⟩, ⟨b8, true, v12, v13, q12, 6, [ma]⟩] _ _ _ _ hch rfl
        have e1 : v13 = (.pointer (some ⟨p, 0, none⟩)) := e1
        subst e1
        have e2 : v25 = .slice (some ⟨q25, 0, none⟩) 4 4 := e2
        subst e2
        have HPUT := Lib.hid (wat_put6 p q25 _ 1 [ow + 1, ta + 1, ol + 1, ph] _ wB w hwat hblk (fun x hx => by simp only [List.mem_cons, List.not_mem_nil, or_false] at hx; rcases hx with rfl | rfl | rfl | rfl <;> omega) (by simp [nOf]; omega))
        have HCH := Lib.hid hch
        have HKK := Lib.hid hKK
        clear hch hKK hdep hwat hblk
        go_simp
        refine HPUT.out.mono ?_
        rintro e w' ⟨rfl, hw', hk'⟩
        go_wp2_with fail
        refine hK.out _ _ ?_
        exact ⟨b3, b4, b8, true, true, true, _, _, _, _, _, _, q7, q12, q25, rfl, rfl, (by have hKK := HKK.out; exact ⟨hk' _ _ _ (by decide) (by decide) hKK.1, hKK.2.trans hk'⟩), Ch.call hk'.kp ⟨true, false, (.slice (some ⟨q25, 0, none⟩) 4 4), v26, q25, 1, [ow + 1, ta + 1, ol + 1, ph]⟩ [] rfl [⟨b3, b4, v7, v8, q7, 1, [po]⟩, ⟨b8, true, v12, (.pointer (some ⟨p, 0, none⟩)), q12, 6, [ma]⟩] _ _ _ _ HCH.out rfl hw'⟩
    case hend =>
      rintro lb a w ⟨b3, b4, b8, b9, b21, b22, v7, v8, v12, v13, v25, v26, q7, q12, q25, rfl, rfl, hKK, hch⟩ hall
      have e9 : b22 = true := hall 22 (by decide)
      subst e9
      obtain ⟨e1, hw⟩ := Ch.last [⟨b3, b4, v7, v8, q7, 1, [po]⟩, ⟨b8, b9, v12, v13, q12, 6, [ma]⟩, ⟨b21, true, v25, v26, q25, 1, [ow + 1, ta + 1, ol + 1, ph]⟩] _ _ _ _ hch rfl
      have e1 : v26 = (.pointer (some ⟨p, 0, none⟩)) := e1
      subst e1
      clear hch
      refine NoPanic.normal ?_
      go_wp2_with fail
      go_meet
      exact ⟨hw, hKK⟩
  obtain ⟨hwx, hkx⟩ := hcut
  have HWx := Lib.hid hwx
  have HKx := Lib.hid hkx
  clear hwx hkx
  go_upto_region 2 with fail
  refine wp_region_noPanic ?_
  refine wp_region_held_drew (S := (fun w => w.cell? ⟨g, 0, none⟩ = some (.int .i64 po) ∧ w.cell? ⟨g, 1, none⟩ = some (.int .u64 ma) ∧ w.cell? ⟨g, 2, none⟩ = some (.int .i64 ow) ∧ w.cell? ⟨g, 3, none⟩ = some (.int .i64 ta) ∧ w.cell? ⟨g, 4, none⟩ = some (.int .i64 ol) ∧ w.cell? ⟨g, 5, none⟩ = some (.int .i64 ge) ∧ w.cell? ⟨g, 6, none⟩ = some (.int .i64 ph) ∧ w.cell? ⟨g, 7, none⟩ = some (.int .i64 ve) ∧ w.cell? ⟨g, 8, none⟩ = some (.int .i64 si))) (by kernel_rfl) (by have hKK := HKx.out; exact rv_cells hKK.1) (fun hHeld => ?_)
  refine wpAnyH_take (i := 0) (v := .pointer (some ⟨p, 0, none⟩)) rfl (by kernel_rfl) (by kernel_rfl) (by kernel_rfl) (fun _ _ _ h => h) (Or.inl ⟨by rfl, ?_⟩) (by assumption) ?_
  · intro w' hSw
    try dsimp only at hSw
    obtain ⟨s0, s1, s2, s3, s4, s5, s6, s7, s8⟩ := hSw
    go_simp
    first | done | (with_reducible rfl)
  try simp only [List.getElem_toArray, List.getElem_cons_zero, Act.put, List.setIfInBounds_toArray, List.set_cons_zero, List.set_cons_succ]
  refine wpAnyH_take (i := 1) (v := .pointer (some ⟨g, 5, none⟩)) rfl (by kernel_rfl) (by kernel_rfl) (by kernel_rfl) (fun _ _ _ h => h) (Or.inl ⟨by rfl, ?_⟩) (by assumption) ?_
  · intro w' hSw
    try dsimp only at hSw
    obtain ⟨s0, s1, s2, s3, s4, s5, s6, s7, s8⟩ := hSw
    go_simp
    first | done | (with_reducible rfl)
  try simp only [List.getElem_toArray, List.getElem_cons_succ, List.getElem_cons_zero, Act.put, List.setIfInBounds_toArray, List.set_cons_zero, List.set_cons_succ]
  refine wpAnyH_take (i := 2) (v := .int .i64 ge) rfl (by kernel_rfl) (by kernel_rfl) (by kernel_rfl) (fun _ _ _ h => h) (Or.inl ⟨by rfl, ?_⟩) (by assumption) ?_
  · intro w' hSw
    try dsimp only at hSw
    obtain ⟨s0, s1, s2, s3, s4, s5, s6, s7, s8⟩ := hSw
    go_simp
    first | done | (with_reducible rfl)
  try simp only [List.getElem_toArray, List.getElem_cons_succ, List.getElem_cons_zero, Act.put, List.setIfInBounds_toArray, List.set_cons_zero, List.set_cons_succ]
  refine wpAnyH_take (i := 5) (v := .pointer (some ⟨g, 7, none⟩)) rfl (by kernel_rfl) (by kernel_rfl) (by kernel_rfl) (fun _ _ _ h => h) (Or.inl ⟨by rfl, ?_⟩) (by assumption) ?_
  · intro w' hSw
    try dsimp only at hSw
    obtain ⟨s0, s1, s2, s3, s4, s5, s6, s7, s8⟩ := hSw
    go_simp
    first | done | (with_reducible rfl)
  try simp only [List.getElem_toArray, List.getElem_cons_succ, List.getElem_cons_zero, Act.put, List.setIfInBounds_toArray, List.set_cons_zero, List.set_cons_succ]
  refine wpAnyH_take (i := 6) (v := .int .i64 ve) rfl (by kernel_rfl) (by kernel_rfl) (by kernel_rfl) (fun _ _ _ h => h) (Or.inl ⟨by rfl, ?_⟩) (by assumption) ?_
  · intro w' hSw
    try dsimp only at hSw
    obtain ⟨s0, s1, s2, s3, s4, s5, s6, s7, s8⟩ := hSw
    go_simp
    first | done | (with_reducible rfl)
  try simp only [List.getElem_toArray, List.getElem_cons_succ, List.getElem_cons_zero, Act.put, List.setIfInBounds_toArray, List.set_cons_zero, List.set_cons_succ]
  refine wpAnyH_take (i := 7) (v := .pointer (some ⟨g, 8, none⟩)) rfl (by kernel_rfl) (by kernel_rfl) (by kernel_rfl) (fun _ _ _ h => h) (Or.inl ⟨by rfl, ?_⟩) (by assumption) ?_
  · intro w' hSw
    try dsimp only at hSw
    obtain ⟨s0, s1, s2, s3, s4, s5, s6, s7, s8⟩ := hSw
    go_simp
    first | done | (with_reducible rfl)
  try simp only [List.getElem_toArray, List.getElem_cons_succ, List.getElem_cons_zero, Act.put, List.setIfInBounds_toArray, List.set_cons_zero, List.set_cons_succ]
  refine wpAnyH_take (i := 8) (v := .int .i64 si) rfl (by kernel_rfl) (by kernel_rfl) (by kernel_rfl) (fun _ _ _ h => h) (Or.inl ⟨by rfl, ?_⟩) (by assumption) ?_
  · intro w' hSw
    try dsimp only at hSw
    obtain ⟨s0, s1, s2, s3, s4, s5, s6, s7, s8⟩ := hSw
    go_simp
    first | done | (with_reducible rfl)
  try simp only [List.getElem_toArray, List.getElem_cons_succ, List.getElem_cons_zero, Act.put, List.setIfInBounds_toArray, List.set_cons_zero, List.set_cons_succ]
  refine wpAnyH_inv (fun lb a w => ∃ (b3 b4 b9 b10 : Bool) (v30 v31 v36 v37 : Value) (q30 q36 : Nat), lb = #[true, true, true, b3, b4, true, true, true, true, b9, b10] ∧ a = { tmps := #[.pointer (some ⟨p, 0, none⟩), .agg #[.int .i64 po, .int .u64 ma, .int .i64 ow, .int .i64 ta, .int .i64 ol, .int .i64 ge, .int .i64 ph, .int .i64 ve, .int .i64 si], undef, .pointer (some ⟨g, 0, none⟩), u4, u5, u6, u7, u8, u9, u10, u11, u12, u13, u14, u15, u16, u17, u18, u19, u20, u21, u22, u23, u24, u25, u26, .pointer (some ⟨p, 0, none⟩), .pointer (some ⟨g, 5, none⟩), .int .i64 ge, v30, v31, .pointer (some ⟨g, 7, none⟩), .int .i64 ve, .pointer (some ⟨g, 8, none⟩), .int .i64 si, v36, v37], defers := [] } ∧ (Blk w g 25 (rvC po ma ow ta ol ge ph ve si) ∧ Kp6 w0 w) ∧ Ch wB w p true (.pointer (some ⟨p, 0, none⟩)) (putS 1 [ow + 1, ta + 1, ol + 1, ph] (putS 6 [ma] (putS 1 [po] st))) (N + 48) [⟨b3, b4, v30, v31, q30, 5, [ge]⟩, ⟨b9, b10, v36, v37, q36, 6, [ve, si]⟩]) ?hsz ?hS (by kernel_rfl) ?hend ?hops 4 #[true, true, true, false, false, true, true, true, true, false, false] _ _ (by decide) ?hstart
  case hsz =>
    rintro lb a w ⟨b3, b4, b9, b10, v30, v31, v36, v37, q30, q36, rfl, rfl, hKK, hch⟩
    rfl
  case hS =>
    rintro lb a w ⟨b3, b4, b9, b10, v30, v31, v36, v37, q30, q36, rfl, rfl, hKK, hch⟩
    exact rv_cells hKK.1
  case hstart =>
    exact ⟨false, false, false, false, _, _, _, _, 0, 0, rfl, rfl, HKx.out, ⟨(fun _ => rfl), (fun h => by cases h), (fun _ => rfl), (fun _ _ => HWx.out.drew), ⟨(fun h => by cases h), (fun h => by cases h), (fun h => by cases h), (fun h => by cases h), (fun h => by cases h)⟩⟩⟩
  case hops =>
    refine ⟨?_, ?_, ?_, ?_, ?_, ?_, ?_, ?_, ?_, ?_, ?_, trivial⟩
    · intro lb a w hI hun hdep K hK
      obtain ⟨b3, b4, b9, b10, v30, v31, v36, v37, q30, q36, rfl, rfl, hKK, hch⟩ := hI
      cases (show true = false from hun)
    · intro lb a w hI hun hdep K hK
      obtain ⟨b3, b4, b9, b10, v30, v31, v36, v37, q30, q36, rfl, rfl, hKK, hch⟩ := hI
      cases (show true = false from hun)
    · intro lb a w hI hun hdep K hK
      obtain ⟨b3, b4, b9, b10, v30, v31, v36, v37, q30, q36, rfl, rfl, hKK, hch⟩ := hI
      cases (show true = false from hun)
    · intro lb a w hI hun hdep K hK
      obtain ⟨b3, b4, b9, b10, v30, v31, v36, v37, q30, q36, rfl, rfl, hKK, hch⟩ := hI
      have hb : b3 = false := hun
      subst hb
      have HCH := Lib.hid hch
      have HKK := Lib.hid hKK
      clear hch hKK hdep
      go_simp
      refine hK.out _ _ ?_
      exact ⟨true, b4, b9, b10, _, _, _, _, w.heap.size, q36, rfl, rfl, (by have hKK := HKK.out; exact ⟨hKK.1.alloc _, hKK.2.alloc _⟩), Ch.lay ((Chg.refl _ _).alloc _) w.heap.size ⟨false, b4, v30, v31, q30, 5, [ge]⟩ [⟨b9, b10, v36, v37, q36, 6, [ve, si]⟩] (blk_new rfl) [] _ _ _ _ HCH.out⟩
    · intro lb a w hI hun hdep K hK
      obtain ⟨b3, b4, b9, b10, v30, v31, v36, v37, q30, q36, rfl, rfl, hKK, hch⟩ := hI
      have hb : b4 = false := hun
      subst hb
      have ha : b3 = true := hdep ⟨3, .data⟩ (by simp) rfl
      subst ha
      obtain ⟨e1, e2, hblk, hwat⟩ := Ch.find ⟨true, false, v30, v31, q30, 5, [ge]⟩ [⟨b9, b10, v36, v37, q36, 6, [ve, si]⟩] rfl rfl [] _ _ _ _ hch rfl
      have e2 : v30 = .slice (some ⟨q30, 0, none⟩) 1 1 := e2
      subst e2
      have HPUT := Lib.hid (wat_put6 p q30 _ 5 [ge] _ wB w hwat hblk (fun x hx => by simp only [List.mem_cons, List.not_mem_nil, or_false] at hx; subst hx; omega) (by simp [nOf]; omega))
      have HCH := Lib.hid hch
      have HKK := Lib.hid hKK
      clear hch hKK hdep hwat hblk e1
      go_simp
      refine HPUT.out.mono ?_
      rintro e w' ⟨rfl, hw', hk'⟩
      go_wp2_with fail
      refine hK.out _ _ ?_
      exact ⟨true, true, b9, b10, _, _, _, _, q30, q36, rfl, rfl, (by have hKK := HKK.out; exact ⟨hk' _ _ _ (by decide) (by decide) hKK.1, hKK.2.trans hk'⟩), Ch.call hk'.kp ⟨true, false, (.slice (some ⟨q30, 0, none⟩) 1 1), v31, q30, 5, [ge]⟩ [⟨b9, b10, v36, v37, q36, 6, [ve, si]⟩] rfl [] _ _ _ _ HCH.out rfl hw'⟩
    · intro lb a w hI hun hdep K hK
      obtain ⟨b3, b4, b9, b10, v30, v31, v36, v37, q30, q36, rfl, rfl, hKK, hch⟩ := hI
      cases (show true = false from hun)
    · intro lb a w hI hun hdep K hK
      obtain ⟨b3, b4, b9, b10, v30, v31, v36, v37, q30, q36, rfl, rfl, hKK, hch⟩ := hI
      cases (show true = false from hun)
    · intro lb a w hI hun hdep K hK
      obtain ⟨b3, b4, b9, b10, v30, v31, v36, v37, q30, q36, rfl, rfl, hKK, hch⟩ := hI
      cases (show true = false from hun)
    · intro lb a w hI hun hdep K hK
      obtain ⟨b3, b4, b9, b10, v30, v31, v36, v37, q30, q36, rfl, rfl, hKK, hch⟩ := hI
      cases (show true = false from hun)
    · intro lb a w hI hun hdep K hK
      obtain ⟨b3, b4, b9, b10, v30, v31, v36, v37, q30, q36, rfl, rfl, hKK, hch⟩ := hI
      have hb : b9 = false := hun
      subst hb
      have HCH := Lib.hid hch
      have HKK := Lib.hid hKK
      clear hch hKK hdep
      go_simp
      refine hK.out _ _ ?_
      exact ⟨b3, b4, true, b10, _, _, _, _, q30, w.heap.size, rfl, rfl, (by have hKK := HKK.out; exact ⟨hKK.1.alloc _, hKK.2.alloc _⟩), Ch.lay ((Chg.refl _ _).alloc _) w.heap.size ⟨false, b10, v36, v37, q36, 6, [ve, si]⟩ [] (blk_new rfl) [⟨b3, b4, v30, v31, q30, 5, [ge]⟩] _ _ _ _ HCH.out⟩
    · intro lb a w hI hun hdep K hK
      obtain ⟨b3, b4, b9, b10, v30, v31, v36, v37, q30, q36, rfl, rfl, hKK, hch⟩ := hI
      have hb : b10 = false := hun
      subst hb
      have ha : b9 = true := hdep ⟨9, .data⟩ (by simp) rfl
      subst ha
      have hp : b4 = true := hdep ⟨4, .data⟩ (by simp) rfl
      subst hp
      obtain ⟨e1, e2, hblk, hwat⟩ := Ch.find ⟨true, false, v36, v37, q36, 6, [ve, si]⟩ [] rfl rfl [⟨b3, true, v30, v31, q30, 5, [ge]⟩] _ _ _ _ hch rfl
      have e1 : v31 = (.pointer (some ⟨p, 0, none⟩)) := e1
      subst e1
      have e2 : v36 = .slice (some ⟨q36, 0, none⟩) 2 2 := e2
      subst e2
      have HPUT := Lib.hid (wat_put6 p q36 _ 6 [ve, si] _ wB w hwat hblk (fun x hx => by simp only [List.mem_cons, List.not_mem_nil, or_false] at hx; rcases hx with rfl | rfl <;> omega) (by simp [nOf]; omega))
      have HCH := Lib.hid hch
      have HKK := Lib.hid hKK
      clear hch hKK hdep hwat hblk
      go_simp
      refine HPUT.out.mono ?_
      rintro e w' ⟨rfl, hw', hk'⟩
      go_wp2_with fail
      refine hK.out _ _ ?_
      exact ⟨b3, true, true, true, _, _, _, _, q30, q36, rfl, rfl, (by have hKK := HKK.out; exact ⟨hk' _ _ _ (by decide) (by decide) hKK.1, hKK.2.trans hk'⟩), Ch.call hk'.kp ⟨true, false, (.slice (some ⟨q36, 0, none⟩) 2 2), v37, q36, 6, [ve, si]⟩ [] rfl [⟨b3, true, v30, (.pointer (some ⟨p, 0, none⟩)), q30, 5, [ge]⟩] _ _ _ _ HCH.out rfl hw'⟩
  case hend =>
    rintro lb a w ⟨b3, b4, b9, b10, v30, v31, v36, v37, q30, q36, rfl, rfl, hKK, hch⟩ hall
    have e9 : b10 = true := hall 10 (by decide)
    subst e9
    obtain ⟨e1, hw⟩ := Ch.last [⟨b3, b4, v30, v31, q30, 5, [ge]⟩, ⟨b9, true, v36, v37, q36, 6, [ve, si]⟩] _ _ _ _ hch rfl
    have e1 : v37 = (.pointer (some ⟨p, 0, none⟩)) := e1
    subst e1
    clear hch
    refine NoPanic.normal ?_
    go_wp2_with fail
    exact bodyPost_end (results_none rfl _ _ _) rfl ⟨rfl, hw, (HK0.out.trans hKK.2)⟩


end Go.Proofs.Ytalfbijcjghemaa
