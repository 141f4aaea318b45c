/-
  Walk: control.putRecords. Conditions: the records are read in memory, and may be.
-/
import Derived.Test.YtalfbijcjghemaaUg
import Derived.Deep.LoopGhost
namespace Go.Proofs.Ytalfbijcjghemaa
open Go.RowKit
set_option linter.unusedVariables false

set_option maxHeartbeats 40000000 in
theorem putrecs_ok (p N : Nat) (L : Option Addr) (m c : Nat) (l : List Rc) (S : Nat → Prop) (st : Option (List UInt8)) (wB w : World) (h : RcR wB S L m l) (hall : l.all rcR = true) (hn : ∀ x ∈ l, RcN x) (hm : m ≤ 16) (hN : N ≤ 1000) (hW : Wat wB p st N w) :
    Calls Try.prog 28 #[.pointer (some ⟨p, 0, none⟩), .slice L m c] w fun e w' => e = .returned (.tuple #[]) ∧ Wat wB p (recsP l (putS 1 [(m : Int)] st)) (N + 8 + 48 * m) w' ∧ Kp6 w w' := by
  have HALL := Lib.hid hall
  have HN := Lib.hid hn
  have HL := Lib.hid h.1
  have HH := Lib.hid h
  have HPUT := Lib.hid (wat_put6 p w.heap.size N 1 [(m : Int)] st wB (w.alloc (.cells #[.int .i64 (m : Int)] 3)) (hW.alloc _) (blk_new rfl) (fun x hx => by simp only [List.mem_singleton] at hx; subst hx; omega) (by simp; omega))
  have HK0 := Lib.hid ((Kp6.refl w).alloc (.cells #[.int .i64 (m : Int)] 3))
  clear h hall hn hW
  go_enter Try.func28, Try.ntmps28
  go_wp2_with fail
  refine HPUT.out.mono ?_
  rintro e w1 ⟨rfl, hw1, hk1⟩
  have HW1 : Hid (Wat wB p (putS 1 [(m : Int)] st) (N + 8) w1) := Lib.hid hw1
  have HK1 := Lib.hid (HK0.out.trans hk1)
  clear hw1 hk1 HPUT HK0
  go_wp2_with fail
  go_loopg [5, 13] m (fun g s5 i wr => ∃ j : Nat, g = m - j ∧ j ≤ m ∧ i = .int .i64 (j : Int) ∧ Hid (Wat wB p (recsP (l.take j) (putS 1 [(m : Int)] st)) (N + 8 + 48 * j) wr) ∧ Hid (Kp6 w wr))
  case atStart => exact ⟨0, rfl, Nat.zero_le _, rfl, HW1, HK1⟩
  case round =>
    obtain ⟨j, rfl, hj, rfl, HW, HK⟩ := hrel
    by_cases hlt : j < m
    · have hh := HH.out.chg HW.out.was (fun _ _ => id)
      obtain ⟨ad, rfl, _, _, _⟩ := hh.2 (by omega)
      have hjl : j < l.length := by have := HL.out; omega
      have hx : l[j]? = some l[j] := List.getElem?_eq_getElem hjl
      generalize l[j] = x at *
      obtain ⟨z0, z1, z2, z3, z4, z5⟩ := hh.at hx
      have HX := Lib.hid hx
      have hxr : rcR x = true := List.all_eq_true.1 HALL.out x (List.mem_of_getElem? hx)
      have hxn := HN.out x (List.mem_of_getElem? hx)
      obtain ⟨hp1, hp2, hp3, hp4⟩ := rec_parts hxr
      obtain ⟨hp5, hp6⟩ := hxn
      clear hx hh hxr
      obtain ⟨pr, sr, ds, sp, dp, un⟩ := x
      dsimp only at z0 z1 z2 z3 z4 z5 hp1 hp2 hp3 hp4 hp5 hp6
      have a1 : IntKind.i64.wrap sr = sr := i64_wrap (by omega)
      have a2 : IntKind.i64.wrap ds = ds := i64_wrap (by omega)
      have HB0 : Hid (Blk (wr.alloc (.cells #[.int .i64 pr, .int .u32 sr, .int .u32 ds, .int .i64 sp, .int .i64 dp, .int .i64 un] 46)) wr.heap.size 46 (rcC pr sr ds sp dp un)) := Lib.hid (blk_new rfl)
      have HW0 := Lib.hid (HW.out.alloc (.cells #[.int .i64 pr, .int .u32 sr, .int .u32 ds, .int .i64 sp, .int .i64 dp, .int .i64 un] 46))
      have HK0 := Lib.hid (HK.out.alloc (.cells #[.int .i64 pr, .int .u32 sr, .int .u32 ds, .int .i64 sp, .int .i64 dp, .int .i64 un] 46))
      clear HW HK
      go_upto_region 4 with fail
      generalize wr.alloc (.cells #[.int .i64 pr, .int .u32 sr, .int .u32 ds, .int .i64 sp, .int .i64 dp, .int .i64 un] 46) = w0 at *
      generalize wr.heap.size = g at *
      generalize w.heap.size = gw at *
      go_cut [] (fun wx => Wat wB p (putS 4 [sr, ds] (putS 1 [pr] (recsP (l.take j) (putS 1 [(m : Int)] st)))) (N + 8 + 48 * j + 24) wx ∧ Blk wx g 46 (rcC pr sr ds sp dp un) ∧ Kp6 w0 wx)
      case first =>
        refine wp_region_noPanic ?_
        refine wp_region_held_drew (S := (fun w => w.cell? ⟨g, 0, none⟩ = some (.int .i64 pr) ∧ w.cell? ⟨g, 1, none⟩ = some (.int .u32 sr) ∧ w.cell? ⟨g, 2, none⟩ = some (.int .u32 ds) ∧ w.cell? ⟨g, 3, none⟩ = some (.int .i64 sp) ∧ w.cell? ⟨g, 4, none⟩ = some (.int .i64 dp) ∧ w.cell? ⟨g, 5, none⟩ = some (.int .i64 un))) (by kernel_rfl) (by have hKK := (And.intro HB0.out (Kp6.refl w0)); exact rc_cells hKK.1) (fun hHeld => ?_)
        refine wpAnyH_take (i := 0) (v := .pointer (some ⟨p, 0, none⟩)) rfl (by kernel_rfl) (by kernel_rfl) (by kernel_rfl) (fun _ _ _ h => h) (Or.inl ⟨by rfl, ?_⟩) (by assumption) ?_
        · intro w' hSw
          try dsimp only at hSw
          obtain ⟨s0, s1, s2, s3, s4, s5⟩ := hSw
          go_simp
          first | done | (with_reducible rfl)
        try simp only [List.getElem_toArray, List.getElem_cons_zero, Act.put, List.setIfInBounds_toArray, List.set_cons_zero, List.set_cons_succ]
        refine wpAnyH_take (i := 1) (v := .pointer (some ⟨g, 0, none⟩)) rfl (by kernel_rfl) (by kernel_rfl) (by kernel_rfl) (fun _ _ _ h => h) (Or.inl ⟨by rfl, ?_⟩) (by assumption) ?_
        · intro w' hSw
          try dsimp only at hSw
          obtain ⟨s0, s1, s2, s3, s4, s5⟩ := hSw
          go_simp
          first | done | (with_reducible rfl)
        try simp only [List.getElem_toArray, List.getElem_cons_succ, List.getElem_cons_zero, Act.put, List.setIfInBounds_toArray, List.set_cons_zero, List.set_cons_succ]
        refine wpAnyH_take (i := 2) (v := .pointer (some ⟨g, 0, none⟩)) rfl (by kernel_rfl) (by kernel_rfl) (by kernel_rfl) (fun _ _ _ h => h) (Or.inl ⟨by rfl, ?_⟩) (by assumption) ?_
        · intro w' hSw
          try dsimp only at hSw
          obtain ⟨s0, s1, s2, s3, s4, s5⟩ := hSw
          go_simp
          first | done | (with_reducible rfl)
        try simp only [List.getElem_toArray, List.getElem_cons_succ, List.getElem_cons_zero, Act.put, List.setIfInBounds_toArray, List.set_cons_zero, List.set_cons_succ]
        refine wpAnyH_take (i := 3) (v := .int .i64 pr) rfl (by kernel_rfl) (by kernel_rfl) (by kernel_rfl) (fun _ _ _ h => h) (Or.inl ⟨by rfl, ?_⟩) (by assumption) ?_
        · intro w' hSw
          try dsimp only at hSw
          obtain ⟨s0, s1, s2, s3, s4, s5⟩ := hSw
          go_simp
          first | done | (with_reducible rfl)
        try simp only [List.getElem_toArray, List.getElem_cons_succ, List.getElem_cons_zero, Act.put, List.setIfInBounds_toArray, List.set_cons_zero, List.set_cons_succ]
        refine wpAnyH_take (i := 6) (v := .pointer (some ⟨g, 0, none⟩)) rfl (by kernel_rfl) (by kernel_rfl) (by kernel_rfl) (fun _ _ _ h => h) (Or.inl ⟨by rfl, ?_⟩) (by assumption) ?_
        · intro w' hSw
          try dsimp only at hSw
          obtain ⟨s0, s1, s2, s3, s4, s5⟩ := hSw
          go_simp
          first | done | (with_reducible rfl)
        try simp only [List.getElem_toArray, List.getElem_cons_succ, List.getElem_cons_zero, Act.put, List.setIfInBounds_toArray, List.set_cons_zero, List.set_cons_succ]
        refine wpAnyH_take (i := 7) (v := .pointer (some ⟨g, 1, none⟩)) rfl (by kernel_rfl) (by kernel_rfl) (by kernel_rfl) (fun _ _ _ h => h) (Or.inl ⟨by rfl, ?_⟩) (by assumption) ?_
        · intro w' hSw
          try dsimp only at hSw
          obtain ⟨s0, s1, s2, s3, s4, s5⟩ := hSw
          go_simp
          first | done | (with_reducible rfl)
        try simp only [List.getElem_toArray, List.getElem_cons_succ, List.getElem_cons_zero, Act.put, List.setIfInBounds_toArray, List.set_cons_zero, List.set_cons_succ]
        refine wpAnyH_take (i := 8) (v := .int .u32 sr) rfl (by kernel_rfl) (by kernel_rfl) (by kernel_rfl) (fun _ _ _ h => h) (Or.inl ⟨by rfl, ?_⟩) (by assumption) ?_
        · intro w' hSw
          try dsimp only at hSw
          obtain ⟨s0, s1, s2, s3, s4, s5⟩ := hSw
          go_simp
          first | done | (with_reducible rfl)
        try simp only [List.getElem_toArray, List.getElem_cons_succ, List.getElem_cons_zero, Act.put, List.setIfInBounds_toArray, List.set_cons_zero, List.set_cons_succ]
        refine wpAnyH_take (i := 9) (v := .int .i64 sr) rfl (by kernel_rfl) (by kernel_rfl) (by kernel_rfl) (fun _ _ _ h => h) (Or.inl ⟨by rfl, ?_⟩) (by assumption) ?_
        · intro w' hSw
          try dsimp only at hSw
          obtain ⟨s0, s1, s2, s3, s4, s5⟩ := hSw
          go_simp
          first | done | (with_reducible rfl)
        try simp only [List.getElem_toArray, List.getElem_cons_succ, List.getElem_cons_zero, Act.put, List.setIfInBounds_toArray, List.set_cons_zero, List.set_cons_succ]
        refine wpAnyH_take (i := 10) (v := .pointer (some ⟨g, 0, none⟩)) rfl (by kernel_rfl) (by kernel_rfl) (by kernel_rfl) (fun _ _ _ h => h) (Or.inl ⟨by rfl, ?_⟩) (by assumption) ?_
        · intro w' hSw
          try dsimp only at hSw
          obtain ⟨s0, s1, s2, s3, s4, s5⟩ := hSw
          go_simp
          first | done | (with_reducible rfl)
        try simp only [List.getElem_toArray, List.getElem_cons_succ, List.getElem_cons_zero, Act.put, List.setIfInBounds_toArray, List.set_cons_zero, List.set_cons_succ]
        refine wpAnyH_take (i := 11) (v := .pointer (some ⟨g, 2, none⟩)) rfl (by kernel_rfl) (by kernel_rfl) (by kernel_rfl) (fun _ _ _ h => h) (Or.inl ⟨by rfl, ?_⟩) (by assumption) ?_
        · intro w' hSw
          try dsimp only at hSw
          obtain ⟨s0, s1, s2, s3, s4, s5⟩ := hSw
          go_simp
          first | done | (with_reducible rfl)
        try simp only [List.getElem_toArray, List.getElem_cons_succ, List.getElem_cons_zero, Act.put, List.setIfInBounds_toArray, List.set_cons_zero, List.set_cons_succ]
        refine wpAnyH_take (i := 12) (v := .int .u32 ds) rfl (by kernel_rfl) (by kernel_rfl) (by kernel_rfl) (fun _ _ _ h => h) (Or.inl ⟨by rfl, ?_⟩) (by assumption) ?_
        · intro w' hSw
          try dsimp only at hSw
          obtain ⟨s0, s1, s2, s3, s4, s5⟩ := hSw
          go_simp
          first | done | (with_reducible rfl)
        try simp only [List.getElem_toArray, List.getElem_cons_succ, List.getElem_cons_zero, Act.put, List.setIfInBounds_toArray, List.set_cons_zero, List.set_cons_succ]
        refine wpAnyH_take (i := 13) (v := .int .i64 ds) rfl (by kernel_rfl) (by kernel_rfl) (by kernel_rfl) (fun _ _ _ h => h) (Or.inl ⟨by rfl, ?_⟩) (by assumption) ?_
        · intro w' hSw
          try dsimp only at hSw
          obtain ⟨s0, s1, s2, s3, s4, s5⟩ := hSw
          go_simp
          first | done | (with_reducible rfl)
        try simp only [List.getElem_toArray, List.getElem_cons_succ, List.getElem_cons_zero, Act.put, List.setIfInBounds_toArray, List.set_cons_zero, List.set_cons_succ]
        refine wpAnyH_inv (fun lb a w => ∃ (b4 b5 b14 b15 : Bool) (v21 v22 v31 v32 : Value) (q21 q31 : Nat), lb = #[true, true, true, true, b4, b5, true, true, true, true, true, true, true, true, b14, b15] ∧ a = { tmps := #[.pointer (some ⟨p, 0, none⟩), .slice (some ad) m c, undef, undef, undef, .pointer (some ⟨g, 0, none⟩), .pointer (some ⟨p, 0, none⟩), .slice (some ad) m c, .int .i64 (m : Int), .slice (some ⟨gw, 0, none⟩) 1 1, .pointer (some ⟨p, 0, none⟩), .slice (some ad) m c, .int .i64 (m : Int), .int .i64 (j : Int), .bool true, .pointer (some (ad.add (j * 6))), .agg #[.int .i64 pr, .int .u32 sr, .int .u32 ds, .int .i64 sp, .int .i64 dp, .int .i64 un], .pointer (some ⟨p, 0, none⟩), .pointer (some ⟨g, 0, none⟩), .pointer (some ⟨g, 0, none⟩), .int .i64 pr, v21, v22, .pointer (some ⟨g, 0, none⟩), .pointer (some ⟨g, 1, none⟩), .int .u32 sr, .int .i64 sr, .pointer (some ⟨g, 0, none⟩), .pointer (some ⟨g, 2, none⟩), .int .u32 ds, .int .i64 ds, v31, v32, u33, u34, u35, u36, u37, u38, u39, u40, u41, u42, u43, u44, u45, u46], defers := [] } ∧ (Blk w g 46 (rcC pr sr ds sp dp un) ∧ Kp6 w0 w) ∧ Ch wB w p true (.pointer (some ⟨p, 0, none⟩)) (recsP (l.take j) (putS 1 [(m : Int)] st)) (N + 8 + 48 * j) [⟨b4, b5, v21, v22, q21, 1, [pr]⟩, ⟨b14, b15, v31, v32, q31, 4, [sr, ds]⟩]) ?hsz ?hS (by kernel_rfl) ?hend ?hops 4 #[true, true, true, true, false, false, true, true, true, true, true, true, true, true, false, false] _ _ (by decide) ?hstart
        case hsz =>
          rintro lb a w ⟨b4, b5, b14, b15, v21, v22, v31, v32, q21, q31, rfl, rfl, hKK, hch⟩
          rfl
        case hS =>
          rintro lb a w ⟨b4, b5, b14, b15, v21, v22, v31, v32, q21, q31, rfl, rfl, hKK, hch⟩
          exact rc_cells hKK.1
        case hstart =>
          exact ⟨false, false, false, false, _, _, _, _, 0, 0, rfl, rfl, (And.intro HB0.out (Kp6.refl w0)), ⟨(fun _ => rfl), (fun h => by cases h), (fun _ => rfl), (fun _ _ => HW0.out.drew), ⟨(fun h => by cases h), (fun h => by cases h), (fun h => by cases h), (fun h => by cases h), (fun h => by cases h)⟩⟩⟩
        case hops =>
          refine ⟨?_, ?_, ?_, ?_, ?_, ?_, ?_, ?_, ?_, ?_, ?_, ?_, ?_, ?_, ?_, ?_, trivial⟩
          · intro lb a w hI hun hdep K hK
            obtain ⟨b4, b5, b14, b15, v21, v22, v31, v32, q21, q31, rfl, rfl, hKK, hch⟩ := hI
            cases (show true = false from hun)
          · intro lb a w hI hun hdep K hK
            obtain ⟨b4, b5, b14, b15, v21, v22, v31, v32, q21, q31, rfl, rfl, hKK, hch⟩ := hI
            cases (show true = false from hun)
          · intro lb a w hI hun hdep K hK
            obtain ⟨b4, b5, b14, b15, v21, v22, v31, v32, q21, q31, rfl, rfl, hKK, hch⟩ := hI
            cases (show true = false from hun)
          · intro lb a w hI hun hdep K hK
            obtain ⟨b4, b5, b14, b15, v21, v22, v31, v32, q21, q31, rfl, rfl, hKK, hch⟩ := hI
            cases (show true = false from hun)
          · intro lb a w hI hun hdep K hK
            obtain ⟨b4, b5, b14, b15, v21, v22, v31, v32, q21, q31, rfl, rfl, hKK, hch⟩ := hI
            have hb : b4 = false := hun
            subst hb
            have HCH := Lib.hid hch
            have HKK := Lib.hid hKK
            clear hch hKK hdep
            go_simp
            refine hK.out _ _ ?_
            exact ⟨true, b5, b14, b15, _, _, _, _, w.heap.size, q31, rfl, rfl, (by have hKK := HKK.out; exact ⟨hKK.1.alloc _, hKK.2.alloc _⟩), Ch.lay ((Chg.refl _ _).alloc _) w.heap.size ⟨false, b5, v21, v22, q21, 1, [pr]⟩ [⟨b14, b15, v31, v32, q31, 4, [sr, ds]⟩] (blk_new rfl) [] _ _ _ _ HCH.out⟩
          · intro lb a w hI hun hdep K hK
            obtain ⟨b4, b5, b14, b15, v21, v22, v31, v32, q21, q31, rfl, rfl, hKK, hch⟩ := hI
            have hb : b5 = false := hun
            subst hb
            have ha : b4 = true := hdep ⟨4, .data⟩ (by simp) rfl
            subst ha
            obtain ⟨e1, e2, hblk, hwat⟩ := Ch.find ⟨true, false, v21, v22, q21, 1, [pr]⟩ [⟨b14, b15, v31, v32, q31, 4, [sr, ds]⟩] rfl rfl [] _ _ _ _ hch rfl
            have e2 : v21 = .slice (some ⟨q21, 0, none⟩) 1 1 := e2
            subst e2
            have HPUT := Lib.hid (wat_put6 p q21 _ 1 [pr] _ wB w hwat hblk (fun x hx => by simp only [List.mem_cons, List.not_mem_nil, or_false] at hx; subst hx; omega) (by simp [nOf]; omega))
            have HCH := Lib.hid hch
            have HKK := Lib.hid hKK
            clear hch hKK hdep hwat hblk e1
            go_simp
            refine HPUT.out.mono ?_
            rintro e w' ⟨rfl, hw', hk'⟩
            go_wp2_with fail
            refine hK.out _ _ ?_
            exact ⟨true, true, b14, b15, _, _, _, _, q21, q31, rfl, rfl, (by have hKK := HKK.out; exact ⟨hk' _ _ _ (by decide) (by decide) hKK.1, hKK.2.trans hk'⟩), Ch.call hk'.kp ⟨true, false, (.slice (some ⟨q21, 0, none⟩) 1 1), v22, q21, 1, [pr]⟩ [⟨b14, b15, v31, v32, q31, 4, [sr, ds]⟩] rfl [] _ _ _ _ HCH.out rfl hw'⟩
          · intro lb a w hI hun hdep K hK
            obtain ⟨b4, b5, b14, b15, v21, v22, v31, v32, q21, q31, rfl, rfl, hKK, hch⟩ := hI
            cases (show true = false from hun)
          · intro lb a w hI hun hdep K hK
            obtain ⟨b4, b5, b14, b15, v21, v22, v31, v32, q21, q31, rfl, rfl, hKK, hch⟩ := hI
            cases (show true = false from hun)
          · intro lb a w hI hun hdep K hK
            obtain ⟨b4, b5, b14, b15, v21, v22, v31, v32, q21, q31, rfl, rfl, hKK, hch⟩ := hI
            cases (show true = false from hun)
          · intro lb a w hI hun hdep K hK
            obtain ⟨b4, b5, b14, b15, v21, v22, v31, v32, q21, q31, rfl, rfl, hKK, hch⟩ := hI
            cases (show true = false from hun)
          · intro lb a w hI hun hdep K hK
            obtain ⟨b4, b5, b14, b15, v21, v22, v31, v32, q21, q31, rfl, rfl, hKK, hch⟩ := hI
            cases (show true = false from hun)
          · intro lb a w hI hun hdep K hK
            obtain ⟨b4, b5, b14, b15, v21, v22, v31, v32, q21, q31, rfl, rfl, hKK, hch⟩ := hI
            cases (show true = false from hun)
          · intro lb a w hI hun hdep K hK
            obtain ⟨b4, b5, b14, b15, v21, v22, v31, v32, q21, q31, rfl, rfl, hKK, hch⟩ := hI
            cases (show true = false from hun)
          · intro lb a w hI hun hdep K hK
            obtain ⟨b4, b5, b14, b15, v21, v22, v31, v32, q21, q31, rfl, rfl, hKK, hch⟩ := hI
            cases (show true = false from hun)
          · intro lb a w hI hun hdep K hK
            obtain ⟨b4, b5, b14, b15, v21, v22, v31, v32, q21, q31, rfl, rfl, hKK, hch⟩ := hI
            have hb : b14 = false := hun
            subst hb
            have HCH := Lib.hid hch
            have HKK := Lib.hid hKK
            clear hch hKK hdep
            go_simp
            refine hK.out _ _ ?_
            exact ⟨b4, b5, true, b15, _, _, _, _, q21, w.heap.size, rfl, rfl, (by have hKK := HKK.out; exact ⟨hKK.1.alloc _, hKK.2.alloc _⟩), Ch.lay ((Chg.refl _ _).alloc _) w.heap.size ⟨false, b15, v31, v32, q31, 4, [sr, ds]⟩ [] (blk_new rfl) [⟨b4, b5, v21, v22, q21, 1, [pr]⟩] _ _ _ _ HCH.out⟩
          · intro lb a w hI hun hdep K hK
            obtain ⟨b4, b5, b14, b15, v21, v22, v31, v32, q21, q31, rfl, rfl, hKK, hch⟩ := hI
            have hb : b15 = false := hun
            subst hb
            have ha : b14 = true := hdep ⟨14, .data⟩ (by simp) rfl
            subst ha
            have hp : b5 = true := hdep ⟨5, .data⟩ (by simp) rfl
            subst hp
            obtain ⟨e1, e2, hblk, hwat⟩ := Ch.find ⟨true, false, v31, v32, q31, 4, [sr, ds]⟩ [] rfl rfl [⟨b4, true, v21, v22, q21, 1, [pr]⟩] _ _ _ _ hch rfl
            have e1 : v22 = (.pointer (some ⟨p, 0, none⟩)) := e1
            subst e1
            have e2 : v31 = .slice (some ⟨q31, 0, none⟩) 2 2 := e2
            subst e2
            have HPUT := Lib.hid (wat_put6 p q31 _ 4 [sr, ds] _ wB w hwat hblk (fun x hx => by simp only [List.mem_cons, List.not_mem_nil, or_false] at hx; rcases hx with rfl | rfl <;> omega) (by simp [nOf]; omega))
            have HCH := Lib.hid hch
            have HKK := Lib.hid hKK
            clear hch hKK hdep hwat hblk
            go_simp
            refine HPUT.out.mono ?_
            rintro e w' ⟨rfl, hw', hk'⟩
            go_wp2_with fail
            refine hK.out _ _ ?_
            exact ⟨b4, true, true, true, _, _, _, _, q21, q31, rfl, rfl, (by have hKK := HKK.out; exact ⟨hk' _ _ _ (by decide) (by decide) hKK.1, hKK.2.trans hk'⟩), Ch.call hk'.kp ⟨true, false, (.slice (some ⟨q31, 0, none⟩) 2 2), v32, q31, 4, [sr, ds]⟩ [] rfl [⟨b4, true, v21, (.pointer (some ⟨p, 0, none⟩)), q21, 1, [pr]⟩] _ _ _ _ HCH.out rfl hw'⟩
        case hend =>
          rintro lb a w ⟨b4, b5, b14, b15, v21, v22, v31, v32, q21, q31, rfl, rfl, hKK, hch⟩ hall
          have e9 : b15 = true := hall 15 (by decide)
          subst e9
          obtain ⟨e1, hw⟩ := Ch.last [⟨b4, b5, v21, v22, q21, 1, [pr]⟩, ⟨b14, true, v31, v32, q31, 4, [sr, ds]⟩] _ _ _ _ hch rfl
          have e1 : v32 = (.pointer (some ⟨p, 0, none⟩)) := e1
          subst e1
          clear hch
          refine NoPanic.normal ?_
          go_wp2_with fail
          go_meet
          exact ⟨hw, hKK⟩
      obtain ⟨hwx, hkx⟩ := hcut
      have HWx := Lib.hid hwx
      have HKx := Lib.hid hkx
      clear hwx hkx
      go_upto_region 5 with fail
      refine wp_region_noPanic ?_
      refine wp_region_held_drew (S := (fun w => w.cell? ⟨g, 0, none⟩ = some (.int .i64 pr) ∧ w.cell? ⟨g, 1, none⟩ = some (.int .u32 sr) ∧ w.cell? ⟨g, 2, none⟩ = some (.int .u32 ds) ∧ w.cell? ⟨g, 3, none⟩ = some (.int .i64 sp) ∧ w.cell? ⟨g, 4, none⟩ = some (.int .i64 dp) ∧ w.cell? ⟨g, 5, none⟩ = some (.int .i64 un))) (by kernel_rfl) (by have hKK := HKx.out; exact rc_cells hKK.1) (fun hHeld => ?_)
      refine wpAnyH_take (i := 0) (v := .pointer (some ⟨p, 0, none⟩)) rfl (by kernel_rfl) (by kernel_rfl) (by kernel_rfl) (fun _ _ _ h => h) (Or.inl ⟨by rfl, ?_⟩) (by assumption) ?_
      · intro w' hSw
        try dsimp only at hSw
        obtain ⟨s0, s1, s2, s3, s4, s5⟩ := hSw
        go_simp
        first | done | (with_reducible rfl)
      try simp only [List.getElem_toArray, List.getElem_cons_zero, Act.put, List.setIfInBounds_toArray, List.set_cons_zero, List.set_cons_succ]
      refine wpAnyH_take (i := 1) (v := .pointer (some ⟨g, 0, none⟩)) rfl (by kernel_rfl) (by kernel_rfl) (by kernel_rfl) (fun _ _ _ h => h) (Or.inl ⟨by rfl, ?_⟩) (by assumption) ?_
      · intro w' hSw
        try dsimp only at hSw
        obtain ⟨s0, s1, s2, s3, s4, s5⟩ := hSw
        go_simp
        first | done | (with_reducible rfl)
      try simp only [List.getElem_toArray, List.getElem_cons_succ, List.getElem_cons_zero, Act.put, List.setIfInBounds_toArray, List.set_cons_zero, List.set_cons_succ]
      refine wpAnyH_take (i := 2) (v := .pointer (some ⟨g, 3, none⟩)) rfl (by kernel_rfl) (by kernel_rfl) (by kernel_rfl) (fun _ _ _ h => h) (Or.inl ⟨by rfl, ?_⟩) (by assumption) ?_
      · intro w' hSw
        try dsimp only at hSw
        obtain ⟨s0, s1, s2, s3, s4, s5⟩ := hSw
        go_simp
        first | done | (with_reducible rfl)
      try simp only [List.getElem_toArray, List.getElem_cons_succ, List.getElem_cons_zero, Act.put, List.setIfInBounds_toArray, List.set_cons_zero, List.set_cons_succ]
      refine wpAnyH_take (i := 3) (v := .int .i64 sp) rfl (by kernel_rfl) (by kernel_rfl) (by kernel_rfl) (fun _ _ _ h => h) (Or.inl ⟨by rfl, ?_⟩) (by assumption) ?_
      · intro w' hSw
        try dsimp only at hSw
        obtain ⟨s0, s1, s2, s3, s4, s5⟩ := hSw
        go_simp
        first | done | (with_reducible rfl)
      try simp only [List.getElem_toArray, List.getElem_cons_succ, List.getElem_cons_zero, Act.put, List.setIfInBounds_toArray, List.set_cons_zero, List.set_cons_succ]
      refine wpAnyH_take (i := 4) (v := .pointer (some ⟨g, 0, none⟩)) rfl (by kernel_rfl) (by kernel_rfl) (by kernel_rfl) (fun _ _ _ h => h) (Or.inl ⟨by rfl, ?_⟩) (by assumption) ?_
      · intro w' hSw
        try dsimp only at hSw
        obtain ⟨s0, s1, s2, s3, s4, s5⟩ := hSw
        go_simp
        first | done | (with_reducible rfl)
      try simp only [List.getElem_toArray, List.getElem_cons_succ, List.getElem_cons_zero, Act.put, List.setIfInBounds_toArray, List.set_cons_zero, List.set_cons_succ]
      refine wpAnyH_take (i := 5) (v := .pointer (some ⟨g, 4, none⟩)) rfl (by kernel_rfl) (by kernel_rfl) (by kernel_rfl) (fun _ _ _ h => h) (Or.inl ⟨by rfl, ?_⟩) (by assumption) ?_
      · intro w' hSw
        try dsimp only at hSw
        obtain ⟨s0, s1, s2, s3, s4, s5⟩ := hSw
        go_simp
        first | done | (with_reducible rfl)
      try simp only [List.getElem_toArray, List.getElem_cons_succ, List.getElem_cons_zero, Act.put, List.setIfInBounds_toArray, List.set_cons_zero, List.set_cons_succ]
      refine wpAnyH_take (i := 6) (v := .int .i64 dp) rfl (by kernel_rfl) (by kernel_rfl) (by kernel_rfl) (fun _ _ _ h => h) (Or.inl ⟨by rfl, ?_⟩) (by assumption) ?_
      · intro w' hSw
        try dsimp only at hSw
        obtain ⟨s0, s1, s2, s3, s4, s5⟩ := hSw
        go_simp
        first | done | (with_reducible rfl)
      try simp only [List.getElem_toArray, List.getElem_cons_succ, List.getElem_cons_zero, Act.put, List.setIfInBounds_toArray, List.set_cons_zero, List.set_cons_succ]
      refine wpAnyH_take (i := 9) (v := .pointer (some ⟨g, 5, none⟩)) rfl (by kernel_rfl) (by kernel_rfl) (by kernel_rfl) (fun _ _ _ h => h) (Or.inl ⟨by rfl, ?_⟩) (by assumption) ?_
      · intro w' hSw
        try dsimp only at hSw
        obtain ⟨s0, s1, s2, s3, s4, s5⟩ := hSw
        go_simp
        first | done | (with_reducible rfl)
      try simp only [List.getElem_toArray, List.getElem_cons_succ, List.getElem_cons_zero, Act.put, List.setIfInBounds_toArray, List.set_cons_zero, List.set_cons_succ]
      refine wpAnyH_take (i := 10) (v := .int .i64 un) rfl (by kernel_rfl) (by kernel_rfl) (by kernel_rfl) (fun _ _ _ h => h) (Or.inl ⟨by rfl, ?_⟩) (by assumption) ?_
      · intro w' hSw
        try dsimp only at hSw
        obtain ⟨s0, s1, s2, s3, s4, s5⟩ := hSw
        go_simp
        first | done | (with_reducible rfl)
      try simp only [List.getElem_toArray, List.getElem_cons_succ, List.getElem_cons_zero, Act.put, List.setIfInBounds_toArray, List.set_cons_zero, List.set_cons_succ]
      refine wpAnyH_inv (fun lb a w => ∃ (b7 b8 b11 b12 : Bool) (v40 v41 v44 v45 : Value) (q40 q44 : Nat), lb = #[true, true, true, true, true, true, true, b7, b8, true, true, b11, b12] ∧ a = { tmps := #[.pointer (some ⟨p, 0, none⟩), .slice (some ad) m c, undef, undef, undef, .pointer (some ⟨g, 0, none⟩), .pointer (some ⟨p, 0, none⟩), .slice (some ad) m c, .int .i64 (m : Int), .slice (some ⟨gw, 0, none⟩) 1 1, .pointer (some ⟨p, 0, none⟩), .slice (some ad) m c, .int .i64 (m : Int), .int .i64 (j : Int), u14, u15, u16, u17, u18, u19, u20, u21, u22, u23, u24, u25, u26, u27, u28, u29, u30, u31, u32, .pointer (some ⟨p, 0, none⟩), .pointer (some ⟨g, 0, none⟩), .pointer (some ⟨g, 3, none⟩), .int .i64 sp, .pointer (some ⟨g, 0, none⟩), .pointer (some ⟨g, 4, none⟩), .int .i64 dp, v40, v41, .pointer (some ⟨g, 5, none⟩), .int .i64 un, v44, v45, u46], defers := [] } ∧ (Blk w g 46 (rcC pr sr ds sp dp un) ∧ Kp6 w0 w) ∧ Ch wB w p true (.pointer (some ⟨p, 0, none⟩)) (putS 4 [sr, ds] (putS 1 [pr] (recsP (l.take j) (putS 1 [(m : Int)] st)))) (N + 8 + 48 * j + 24) [⟨b7, b8, v40, v41, q40, 2, [sp, dp]⟩, ⟨b11, b12, v44, v45, q44, 6, [un]⟩]) ?hsz ?hS (by kernel_rfl) ?hend ?hops 4 #[true, true, true, true, true, true, true, false, false, true, true, false, false] _ _ (by decide) ?hstart
      case hsz =>
        rintro lb a w ⟨b7, b8, b11, b12, v40, v41, v44, v45, q40, q44, rfl, rfl, hKK, hch⟩
        rfl
      case hS =>
        rintro lb a w ⟨b7, b8, b11, b12, v40, v41, v44, v45, q40, q44, rfl, rfl, hKK, hch⟩
        exact rc_cells hKK.1
      case hstart =>
        exact ⟨false, false, false, false, _, _, _, _, 0, 0, rfl, rfl, HKx.out, ⟨(fun _ => rfl), (fun h => by cases h), (fun _ => rfl), (fun _ _ => HWx.out.drew), ⟨(fun h => by cases h), (fun h => by cases h), (fun h => by cases h), (fun h => by cases h), (fun h => by cases h)⟩⟩⟩
      case hops =>
        refine ⟨?_, ?_, ?_, ?_, ?_, ?_, ?_, ?_, ?_, ?_, ?_, ?_, ?_, trivial⟩
        · intro lb a w hI hun hdep K hK
          obtain ⟨b7, b8, b11, b12, v40, v41, v44, v45, q40, q44, rfl, rfl, hKK, hch⟩ := hI
          cases (show true = false from hun)
        · intro lb a w hI hun hdep K hK
          obtain ⟨b7, b8, b11, b12, v40, v41, v44, v45, q40, q44, rfl, rfl, hKK, hch⟩ := hI
          cases (show true = false from hun)
        · intro lb a w hI hun hdep K hK
          obtain ⟨b7, b8, b11, b12, v40, v41, v44, v45, q40, q44, rfl, rfl, hKK, hch⟩ := hI
          cases (show true = false from hun)
        · intro lb a w hI hun hdep K hK
          obtain ⟨b7, b8, b11, b12, v40, v41, v44, v45, q40, q44, rfl, rfl, hKK, hch⟩ := hI
          cases (show true = false from hun)
        · intro lb a w hI hun hdep K hK
          obtain ⟨b7, b8, b11, b12, v40, v41, v44, v45, q40, q44, rfl, rfl, hKK, hch⟩ := hI
          cases (show true = false from hun)
        · intro lb a w hI hun hdep K hK
          obtain ⟨b7, b8, b11, b12, v40, v41, v44, v45, q40, q44, rfl, rfl, hKK, hch⟩ := hI
          cases (show true = false from hun)
        · intro lb a w hI hun hdep K hK
          obtain ⟨b7, b8, b11, b12, v40, v41, v44, v45, q40, q44, rfl, rfl, hKK, hch⟩ := hI
          cases (show true = false from hun)
        · intro lb a w hI hun hdep K hK
          obtain ⟨b7, b8, b11, b12, v40, v41, v44, v45, q40, q44, rfl, rfl, hKK, hch⟩ := hI
          have hb : b7 = false := hun
          subst hb
          have HCH := Lib.hid hch
          have HKK := Lib.hid hKK
          clear hch hKK hdep
          go_simp
          refine hK.out _ _ ?_
          exact ⟨true, b8, b11, b12, _, _, _, _, w.heap.size, q44, rfl, rfl, (by have hKK := HKK.out; exact ⟨hKK.1.alloc _, hKK.2.alloc _⟩), Ch.lay ((Chg.refl _ _).alloc _) w.heap.size ⟨false, b8, v40, v41, q40, 2, [sp, dp]⟩ [⟨b11, b12, v44, v45, q44, 6, [un]⟩] (blk_new rfl) [] _ _ _ _ HCH.out⟩
        · intro lb a w hI hun hdep K hK
          obtain ⟨b7, b8, b11, b12, v40, v41, v44, v45, q40, q44, rfl, rfl, hKK, hch⟩ := hI
          have hb : b8 = false := hun
          subst hb
          have ha : b7 = true := hdep ⟨7, .data⟩ (by simp) rfl
          subst ha
          obtain ⟨e1, e2, hblk, hwat⟩ := Ch.find ⟨true, false, v40, v41, q40, 2, [sp, dp]⟩ [⟨b11, b12, v44, v45, q44, 6, [un]⟩] rfl rfl [] _ _ _ _ hch rfl
          have e2 : v40 = .slice (some ⟨q40, 0, none⟩) 2 2 := e2
          subst e2
          have HPUT := Lib.hid (wat_put6 p q40 _ 2 [sp, dp] _ wB w hwat hblk (fun x hx => by simp only [List.mem_cons, List.not_mem_nil, or_false] at hx; rcases hx with rfl | rfl <;> omega) (by simp [nOf]; omega))
          have HCH := Lib.hid hch
          have HKK := Lib.hid hKK
          clear hch hKK hdep hwat hblk e1
          go_simp
          refine HPUT.out.mono ?_
          rintro e w' ⟨rfl, hw', hk'⟩
          go_wp2_with fail
          refine hK.out _ _ ?_
          exact ⟨true, true, b11, b12, _, _, _, _, q40, q44, rfl, rfl, (by have hKK := HKK.out; exact ⟨hk' _ _ _ (by decide) (by decide) hKK.1, hKK.2.trans hk'⟩), Ch.call hk'.kp ⟨true, false, (.slice (some ⟨q40, 0, none⟩) 2 2), v41, q40, 2, [sp, dp]⟩ [⟨b11, b12, v44, v45, q44, 6, [un]⟩] rfl [] _ _ _ _ HCH.out rfl hw'⟩
        · intro lb a w hI hun hdep K hK
          obtain ⟨b7, b8, b11, b12, v40, v41, v44, v45, q40, q44, rfl, rfl, hKK, hch⟩ := hI
          cases (show true = false from hun)
        · intro lb a w hI hun hdep K hK
          obtain ⟨b7, b8, b11, b12, v40, v41, v44, v45, q40, q44, rfl, rfl, hKK, hch⟩ := hI
          cases (show true = false from hun)
        · intro lb a w hI hun hdep K hK
          obtain ⟨b7, b8, b11, b12, v40, v41, v44, v45, q40, q44, rfl, rfl, hKK, hch⟩ := hI
          have hb : b11 = false := hun
          subst hb
          have HCH := Lib.hid hch
          have HKK := Lib.hid hKK
          clear hch hKK hdep
          go_simp
          refine hK.out _ _ ?_
          exact ⟨b7, b8, true, b12, _, _, _, _, q40, w.heap.size, rfl, rfl, (by have hKK := HKK.out; exact ⟨hKK.1.alloc _, hKK.2.alloc _⟩), Ch.lay ((Chg.refl _ _).alloc _) w.heap.size ⟨false, b12, v44, v45, q44, 6, [un]⟩ [] (blk_new rfl) [⟨b7, b8, v40, v41, q40, 2, [sp, dp]⟩] _ _ _ _ HCH.out⟩
        · intro lb a w hI hun hdep K hK
          obtain ⟨b7, b8, b11, b12, v40, v41, v44, v45, q40, q44, rfl, rfl, hKK, hch⟩ := hI
          have hb : b12 = false := hun
          subst hb
          have ha : b11 = true := hdep ⟨11, .data⟩ (by simp) rfl
          subst ha
          have hp : b8 = true := hdep ⟨8, .data⟩ (by simp) rfl
          subst hp
          obtain ⟨e1, e2, hblk, hwat⟩ := Ch.find ⟨true, false, v44, v45, q44, 6, [un]⟩ [] rfl rfl [⟨b7, true, v40, v41, q40, 2, [sp, dp]⟩] _ _ _ _ hch rfl
          have e1 : v41 = (.pointer (some ⟨p, 0, none⟩)) := e1
          subst e1
          have e2 : v44 = .slice (some ⟨q44, 0, none⟩) 1 1 := e2
          subst e2
          have HPUT := Lib.hid (wat_put6 p q44 _ 6 [un] _ wB w hwat hblk (fun x hx => by simp only [List.mem_cons, List.not_mem_nil, or_false] at hx; subst hx; omega) (by simp [nOf]; omega))
          have HCH := Lib.hid hch
          have HKK := Lib.hid hKK
          clear hch hKK hdep hwat hblk
          go_simp
          refine HPUT.out.mono ?_
          rintro e w' ⟨rfl, hw', hk'⟩
          go_wp2_with fail
          refine hK.out _ _ ?_
          exact ⟨b7, true, true, true, _, _, _, _, q40, q44, rfl, rfl, (by have hKK := HKK.out; exact ⟨hk' _ _ _ (by decide) (by decide) hKK.1, hKK.2.trans hk'⟩), Ch.call hk'.kp ⟨true, false, (.slice (some ⟨q44, 0, none⟩) 1 1), v45, q44, 6, [un]⟩ [] rfl [⟨b7, true, v40, (.pointer (some ⟨p, 0, none⟩)), q40, 2, [sp, dp]⟩] _ _ _ _ HCH.out rfl hw'⟩
      case hend =>
        rintro lb a w ⟨b7, b8, b11, b12, v40, v41, v44, v45, q40, q44, rfl, rfl, hKK, hch⟩ hall
        have e9 : b12 = true := hall 12 (by decide)
        subst e9
        obtain ⟨e1, hw⟩ := Ch.last [⟨b7, b8, v40, v41, q40, 2, [sp, dp]⟩, ⟨b11, true, v44, v45, q44, 6, [un]⟩] _ _ _ _ hch rfl
        have e1 : v45 = (.pointer (some ⟨p, 0, none⟩)) := e1
        subst e1
        clear hch
        refine NoPanic.normal ?_
        have HKK := Lib.hid hKK
        have HWW := Lib.hid hw
        clear hKK hw
        go_wp2_with fail
        go_roundg (m - (j + 1))
        case measure => omega
        case rel =>
          refine ⟨j + 1, rfl, by omega, by go_num, ?_, (HK0.out.trans HKK.out.2)⟩
          rw [recsP_take HX.out]
          exact HWW.out.mono (by simp [nOf]; omega)
    · have hjm : m = j := by omega
      subst hjm
      go_wp2_with fail
      refine bodyPost_end (results_none rfl _ _ _) rfl ⟨rfl, ?_, HK.out⟩
      have e : l.take m = l := List.take_of_length_le (by rw [HL.out]; exact Nat.le_refl _)
      have hw := HW.out
      rw [e] at hw
      exact hw

end Go.Proofs.Ytalfbijcjghemaa
