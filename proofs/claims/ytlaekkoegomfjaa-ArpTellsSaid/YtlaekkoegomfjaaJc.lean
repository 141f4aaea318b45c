/-
  Walk: arp.Encode. Conditions: the arp's numbers are of their types.
-/
import Derived.Test.YtlaekkoegomfjaaJb
import Derived.Test.YtlaekkoegomfjaaCh
namespace Go.Proofs.Ytlaekkoegomfjaa
open Go.RowKit
set_option linter.unusedVariables false

theorem arp_kept {w w' : World} {q : Nat} {op sha tha spa tpa : Int} {T : TypeId} (hb : Blk w q T (arpC op sha tha spa tpa)) (h : Chg (fun _ => False) w w') :
    w'.cell? ⟨q, 0, none⟩ = some (.int .i64 op) ∧ w'.cell? ⟨q, 1, none⟩ = some (.int .u64 sha) ∧ w'.cell? ⟨q, 2, none⟩ = some (.int .u64 tha) ∧ w'.cell? ⟨q, 3, none⟩ = some (.int .u32 spa) ∧ w'.cell? ⟨q, 4, none⟩ = some (.int .u32 tpa) := arp_cells (hb.chg h id)
/-- What arp.Encode writes. -/
def arpW1 (op : Int) : Option (List UInt8) := putS 2 [op] (putS 1 [6, 4] (putS 2 [1, 2048] (some [])))
def arpW2 (op sha spa : Int) : Option (List UInt8) := putS 4 [IntKind.i64.wrap spa] (putS 6 [IntKind.i64.wrap sha] (arpW1 op))
def arpW (op sha tha spa tpa : Int) : Option (List UInt8) := putS 4 [IntKind.i64.wrap tpa] (putS 6 [IntKind.i64.wrap tha] (arpW2 op sha spa))

set_option maxHeartbeats 40000000 in
theorem aenc_any (op sha tha spa tpa : Int) (w : World) (ho : -9223372036854775808 ≤ op ∧ op ≤ 9223372036854775807) (hs : 0 ≤ sha ∧ sha ≤ 18446744073709551615) (ht : 0 ≤ tha ∧ tha ≤ 18446744073709551615) (hp : 0 ≤ spa ∧ spa ≤ 4294967295) (hq : 0 ≤ tpa ∧ tpa ≤ 4294967295) :
    Calls Try.prog 12 #[.agg (arpC op sha tha spa tpa)] w fun e w' => ∃ A k c x, e = .returned (.tuple #[.slice A k c, .int .i64 x]) ∧ DW w.heap.size (arpW op sha tha spa tpa) A k c x w' ∧ Chg (fun _ => False) w w' := by
  unfold arpC
  have hb1 : Blk (w.alloc (.cells #[.int .i64 op, .int .u64 sha, .int .u64 tha, .int .u32 spa, .int .u32 tpa] 25)) w.heap.size 25 (arpC op sha tha spa tpa) := blk_new rfl
  obtain ⟨x0, x1, x2, x3, x4⟩ := arp_cells hb1
  have hC0 := (Chg.refl (fun _ => False) w).alloc (.cells #[.int .i64 op, .int .u64 sha, .int .u64 tha, .int .u32 spa, .int .u32 tpa] 25)
  have hz : (w.alloc (.cells #[.int .i64 op, .int .u64 sha, .int .u64 tha, .int .u32 spa, .int .u32 tpa] 25)).heap.size = w.heap.size + 1 := by simp
  go_enter Try.func12, Try.ntmps12
  go_upto_region 1 with fail
  generalize w.alloc (.cells #[.int .i64 op, .int .u64 sha, .int .u64 tha, .int .u32 spa, .int .u32 tpa] 25) = w1 at *
  have HZ := Lib.hid hz
  clear hz
  generalize hg : w.heap.size = g at *
  go_cut [4] (fun s4 wx => ∃ p, s4 = .pointer (some ⟨p, 0, none⟩) ∧ Wat w1 p (arpW1 op) 40 wx)
  case first =>
    refine wp_region_noPanic ?_
    refine wp_region_held_drew (S := (fun w' => w'.cell? ⟨g, 0, none⟩ = some (.int .i64 op))) (by kernel_rfl) x0 (fun hHeld => ?_)
    refine wpAnyH_take (i := 0) (v := ?_) rfl (by kernel_rfl) (by kernel_rfl) (by kernel_rfl) (fun _ _ _ h => h) (Or.inl ⟨by rfl, ?_⟩) (by assumption) ?_
    rotate_left
    · intro w' hSw
      try dsimp only at hSw
      go_simp
      first | done | (with_reducible rfl)
    try simp only [List.getElem_toArray, List.getElem_cons_zero, Act.put, List.setIfInBounds_toArray, List.set_cons_zero, List.set_cons_succ]
    refine wpAnyH_take (i := 6) (v := ?_) rfl (by kernel_rfl) (by kernel_rfl) (by kernel_rfl) (fun _ _ _ h => h) (Or.inl ⟨by rfl, ?_⟩) (by assumption) ?_
    rotate_left
    · intro w' hSw
      try dsimp only at hSw
      go_simp
      first | done | (with_reducible rfl)
    try simp only [List.getElem_toArray, List.getElem_cons_succ, List.getElem_cons_zero, Act.put, List.setIfInBounds_toArray, List.set_cons_zero, List.set_cons_succ]
    refine wpAnyH_take (i := 7) (v := ?_) rfl (by kernel_rfl) (by kernel_rfl) (by kernel_rfl) (fun _ _ _ h => h) (Or.inl ⟨by rfl, ?_⟩) (by assumption) ?_
    rotate_left
    · intro w' hSw
      try dsimp only at hSw
      go_simp
      first | done | (with_reducible rfl)
    try simp only [List.getElem_toArray, List.getElem_cons_succ, List.getElem_cons_zero, Act.put, List.setIfInBounds_toArray, List.set_cons_zero, List.set_cons_succ]
    refine wpAnyH_inv (fun l a w => ∃ (b1 b2 b3 b4 b5 b8 b9 b10 : Bool) (v6 v7 v8 v9 v10 v13 v14 v4 : Value) (p q7 q9 q13 : Nat), l = #[true, b1, b2, b3, b4, b5, true, true, b8, b9, b10] ∧ a = { tmps := #[.agg #[.int .i64 op, .int .u64 sha, .int .u64 tha, .int .u32 spa, .int .u32 tpa], .pointer (some ⟨g, 0, none⟩), .slice none 0 0, .int .i64 0, v4, .agg #[.slice none 0 0, .bool false], v6, v7, v8, v9, v10, .pointer (some ⟨g, 0, none⟩), .int .i64 op, v13, v14, undef, undef, undef, undef, undef, undef, undef, undef, undef, undef, undef, undef, undef, undef, undef, undef, undef, undef, undef, undef, undef, undef, undef, undef, undef], defers := [] } ∧ Chg (fun _ => False) w1 w ∧ (b10 = true → v4 = .pointer (some ⟨p, 0, none⟩) ∧ b9 = true) ∧ Ch w1 w p b1 v6 (some []) 0 [⟨b2, b3, v7, v8, q7, 2, [1, 2048]⟩, ⟨b4, b5, v9, v10, q9, 1, [6, 4]⟩, ⟨b8, b9, v13, v14, q13, 2, [op]⟩]) ?hsz ?hS (by kernel_rfl) ?hend ?hops 8 #[true, false, false, false, false, false, true, true, false, false, false] _ _ (by decide) ?hstart
    case hsz =>
      rintro l a w ⟨b1, b2, b3, b4, b5, b8, b9, b10, v6, v7, v8, v9, v10, v13, v14, v4, p, q7, q9, q13, rfl, rfl, hC, h10, hch⟩
      rfl
    case hS =>
      rintro l a w ⟨b1, b2, b3, b4, b5, b8, b9, b10, v6, v7, v8, v9, v10, v13, v14, v4, p, q7, q9, q13, rfl, rfl, hC, h10, hch⟩
      exact (arp_kept hb1 hC).1
    case hstart =>
      exact ⟨false, false, false, false, false, false, false, false, _, _, _, _, _, _, _, _, 0, 0, 0, 0, rfl, rfl, (Chg.refl _ _).drew, (fun h => by cases h), ⟨(fun h => by cases h), (fun h => by cases h), (fun h => by cases h), (fun h => by cases h), ⟨(fun h => by cases h), (fun h => by cases h), (fun h => by cases h), (fun h => by cases h), ⟨(fun h => by cases h), (fun h => by cases h), (fun h => by cases h), (fun h => by cases h), (fun h => by cases h)⟩⟩⟩⟩
    case hops =>
      refine ⟨?_, ?_, ?_, ?_, ?_, ?_, ?_, ?_, ?_, ?_, ?_, trivial⟩
      · intro l a w hI hun hdep K hK
        obtain ⟨b1, b2, b3, b4, b5, b8, b9, b10, v6, v7, v8, v9, v10, v13, v14, v4, p, q7, q9, q13, rfl, rfl, hC, h10, hch⟩ := hI
        cases (show true = false from hun)
      · intro l a w hI hun hdep K hK
        obtain ⟨b1, b2, b3, b4, b5, b8, b9, b10, v6, v7, v8, v9, v10, v13, v14, v4, p, q7, q9, q13, rfl, rfl, hC, h10, hch⟩ := hI
        have hb : b1 = false := hun
        subst hb
        have HCH := Lib.hid hch
        have H10 := Lib.hid h10
        clear hch h10 hdep
        go_simp
        refine hK.out _ _ ?_
        exact ⟨true, b2, b3, b4, b5, b8, b9, b10, _, _, _, _, _, _, _, _, w.heap.size, q7, q9, q13, rfl, rfl, hC.alloc _, (fun h => by have hz := Ch.back [⟨b2, b3, v7, v8, q7, 2, [1, 2048]⟩, ⟨b4, b5, v9, v10, q9, 1, [6, 4]⟩, ⟨b8, b9, v13, v14, q13, 2, [op]⟩] [] _ _ _ _ HCH.out (H10.out h).2; cases hz), HCH.out.begin ((Chg.refl _ _).alloc _) (Wat.start (hC.alloc _) hC.size (blk_new rfl))⟩
      · intro l a w hI hun hdep K hK
        obtain ⟨b1, b2, b3, b4, b5, b8, b9, b10, v6, v7, v8, v9, v10, v13, v14, v4, p, q7, q9, q13, rfl, rfl, hC, h10, hch⟩ := hI
        have hb : b2 = false := hun
        subst hb
        have HCH := Lib.hid hch
        have H10 := Lib.hid h10
        clear hch h10 hdep
        go_simp
        refine hK.out _ _ ?_
        exact ⟨b1, true, b3, b4, b5, b8, b9, b10, _, _, _, _, _, _, _, _, p, w.heap.size, q9, q13, rfl, rfl, hC.alloc _, H10.out, Ch.lay ((Chg.refl _ _).alloc _) w.heap.size ⟨false, b3, v7, v8, q7, 2, [1, 2048]⟩ [⟨b4, b5, v9, v10, q9, 1, [6, 4]⟩, ⟨b8, b9, v13, v14, q13, 2, [op]⟩] (blk_new rfl) [] _ _ _ _ HCH.out⟩
      · intro l a w hI hun hdep K hK
        obtain ⟨b1, b2, b3, b4, b5, b8, b9, b10, v6, v7, v8, v9, v10, v13, v14, v4, p, q7, q9, q13, rfl, rfl, hC, h10, hch⟩ := hI
        have hb : b3 = false := hun
        subst hb
        have ha : b2 = true := hdep ⟨2, .data⟩ (by simp) rfl
        have hp : b1 = true := hdep ⟨1, .data⟩ (by simp) rfl
        subst ha
        subst hp
        obtain ⟨e1, e2, hblk, hwat⟩ := Ch.find ⟨true, false, v7, v8, q7, 2, [1, 2048]⟩ [⟨b4, b5, v9, v10, q9, 1, [6, 4]⟩, ⟨b8, b9, v13, v14, q13, 2, [op]⟩] rfl rfl [] _ _ _ _ hch rfl
        have e1 : v6 = .pointer (some ⟨p, 0, none⟩) := e1
        have e2 : v7 = .slice (some ⟨q7, 0, none⟩) 2 2 := e2
        subst e1
        subst e2
        have HPUT := Lib.hid (wat_put p q7 _ 2 [1, 2048] _ w1 w hwat hblk (fun x hx => by simp only [List.mem_cons, List.not_mem_nil, or_false] at hx; omega) (by simp [nOf]))
        have HCH := Lib.hid hch
        have H10 := Lib.hid h10
        clear hch h10 hdep hwat hblk
        go_simp
        refine HPUT.out.mono ?_
        rintro e w' ⟨rfl, hw', hk'⟩
        go_wp2_with fail
        refine hK.out _ _ ?_
        exact ⟨true, true, true, b4, b5, b8, b9, b10, _, _, _, _, _, _, _, _, p, q7, q9, q13, rfl, rfl, hw'.was, H10.out, Ch.call hk' ⟨true, false, (.slice (some ⟨q7, 0, none⟩) 2 2), v8, q7, 2, [1, 2048]⟩ [⟨b4, b5, v9, v10, q9, 1, [6, 4]⟩, ⟨b8, b9, v13, v14, q13, 2, [op]⟩] rfl [] _ _ _ _ HCH.out rfl hw'⟩
      · intro l a w hI hun hdep K hK
        obtain ⟨b1, b2, b3, b4, b5, b8, b9, b10, v6, v7, v8, v9, v10, v13, v14, v4, p, q7, q9, q13, rfl, rfl, hC, h10, hch⟩ := hI
        have hb : b4 = false := hun
        subst hb
        have HCH := Lib.hid hch
        have H10 := Lib.hid h10
        clear hch h10 hdep
        go_simp
        refine hK.out _ _ ?_
        exact ⟨b1, b2, b3, true, b5, b8, b9, b10, _, _, _, _, _, _, _, _, p, q7, w.heap.size, q13, rfl, rfl, hC.alloc _, H10.out, Ch.lay ((Chg.refl _ _).alloc _) w.heap.size ⟨false, b5, v9, v10, q9, 1, [6, 4]⟩ [⟨b8, b9, v13, v14, q13, 2, [op]⟩] (blk_new rfl) [⟨b2, b3, v7, v8, q7, 2, [1, 2048]⟩] _ _ _ _ HCH.out⟩
      · intro l a w hI hun hdep K hK
        obtain ⟨b1, b2, b3, b4, b5, b8, b9, b10, v6, v7, v8, v9, v10, v13, v14, v4, p, q7, q9, q13, rfl, rfl, hC, h10, hch⟩ := hI
        have hb : b5 = false := hun
        subst hb
        have ha : b4 = true := hdep ⟨4, .data⟩ (by simp) rfl
        have hp : b3 = true := hdep ⟨3, .data⟩ (by simp) rfl
        subst ha
        subst hp
        obtain ⟨e1, e2, hblk, hwat⟩ := Ch.find ⟨true, false, v9, v10, q9, 1, [6, 4]⟩ [⟨b8, b9, v13, v14, q13, 2, [op]⟩] rfl rfl [⟨b2, true, v7, v8, q7, 2, [1, 2048]⟩] _ _ _ _ hch rfl
        have e1 : v8 = .pointer (some ⟨p, 0, none⟩) := e1
        have e2 : v9 = .slice (some ⟨q9, 0, none⟩) 2 2 := e2
        subst e1
        subst e2
        have HPUT := Lib.hid (wat_put p q9 _ 1 [6, 4] _ w1 w hwat hblk (fun x hx => by simp only [List.mem_cons, List.not_mem_nil, or_false] at hx; omega) (by simp [nOf]))
        have HCH := Lib.hid hch
        have H10 := Lib.hid h10
        clear hch h10 hdep hwat hblk
        go_simp
        refine HPUT.out.mono ?_
        rintro e w' ⟨rfl, hw', hk'⟩
        go_wp2_with fail
        refine hK.out _ _ ?_
        exact ⟨b1, b2, true, true, true, b8, b9, b10, _, _, _, _, _, _, _, _, p, q7, q9, q13, rfl, rfl, hw'.was, H10.out, Ch.call hk' ⟨true, false, (.slice (some ⟨q9, 0, none⟩) 2 2), v10, q9, 1, [6, 4]⟩ [⟨b8, b9, v13, v14, q13, 2, [op]⟩] rfl [⟨b2, true, v7, (.pointer (some ⟨p, 0, none⟩)), q7, 2, [1, 2048]⟩] _ _ _ _ HCH.out rfl hw'⟩
      · intro l a w hI hun hdep K hK
        obtain ⟨b1, b2, b3, b4, b5, b8, b9, b10, v6, v7, v8, v9, v10, v13, v14, v4, p, q7, q9, q13, rfl, rfl, hC, h10, hch⟩ := hI
        cases (show true = false from hun)
      · intro l a w hI hun hdep K hK
        obtain ⟨b1, b2, b3, b4, b5, b8, b9, b10, v6, v7, v8, v9, v10, v13, v14, v4, p, q7, q9, q13, rfl, rfl, hC, h10, hch⟩ := hI
        cases (show true = false from hun)
      · intro l a w hI hun hdep K hK
        obtain ⟨b1, b2, b3, b4, b5, b8, b9, b10, v6, v7, v8, v9, v10, v13, v14, v4, p, q7, q9, q13, rfl, rfl, hC, h10, hch⟩ := hI
        have hb : b8 = false := hun
        subst hb
        have HCH := Lib.hid hch
        have H10 := Lib.hid h10
        clear hch h10 hdep
        go_simp
        refine hK.out _ _ ?_
        exact ⟨b1, b2, b3, b4, b5, true, b9, b10, _, _, _, _, _, _, _, _, p, q7, q9, w.heap.size, rfl, rfl, hC.alloc _, H10.out, Ch.lay ((Chg.refl _ _).alloc _) w.heap.size ⟨false, b9, v13, v14, q13, 2, [op]⟩ [] (blk_new rfl) [⟨b2, b3, v7, v8, q7, 2, [1, 2048]⟩, ⟨b4, b5, v9, v10, q9, 1, [6, 4]⟩] _ _ _ _ HCH.out⟩
      · intro l a w hI hun hdep K hK
        obtain ⟨b1, b2, b3, b4, b5, b8, b9, b10, v6, v7, v8, v9, v10, v13, v14, v4, p, q7, q9, q13, rfl, rfl, hC, h10, hch⟩ := hI
        have hb : b9 = false := hun
        subst hb
        have ha : b8 = true := hdep ⟨8, .data⟩ (by simp) rfl
        have hp : b5 = true := hdep ⟨5, .data⟩ (by simp) rfl
        subst ha
        subst hp
        obtain ⟨e1, e2, hblk, hwat⟩ := Ch.find ⟨true, false, v13, v14, q13, 2, [op]⟩ [] rfl rfl [⟨b2, b3, v7, v8, q7, 2, [1, 2048]⟩, ⟨b4, true, v9, v10, q9, 1, [6, 4]⟩] _ _ _ _ hch rfl
        have e1 : v10 = .pointer (some ⟨p, 0, none⟩) := e1
        have e2 : v13 = .slice (some ⟨q13, 0, none⟩) 1 1 := e2
        subst e1
        subst e2
        have HPUT := Lib.hid (wat_put p q13 _ 2 [op] _ w1 w hwat hblk (fun x hx => by simp only [List.mem_singleton] at hx; subst hx; exact ho) (by simp [nOf]))
        have HCH := Lib.hid hch
        have H10 := Lib.hid h10
        clear hch h10 hdep hwat hblk
        go_simp
        refine HPUT.out.mono ?_
        rintro e w' ⟨rfl, hw', hk'⟩
        go_wp2_with fail
        refine hK.out _ _ ?_
        exact ⟨b1, b2, b3, b4, true, true, true, b10, _, _, _, _, _, _, _, _, p, q7, q9, q13, rfl, rfl, hw'.was, (fun h => ⟨(H10.out h).1, rfl⟩), Ch.call hk' ⟨true, false, (.slice (some ⟨q13, 0, none⟩) 1 1), v14, q13, 2, [op]⟩ [] rfl [⟨b2, b3, v7, v8, q7, 2, [1, 2048]⟩, ⟨b4, true, v9, (.pointer (some ⟨p, 0, none⟩)), q9, 1, [6, 4]⟩] _ _ _ _ HCH.out rfl hw'⟩
      · intro l a w hI hun hdep K hK
        obtain ⟨b1, b2, b3, b4, b5, b8, b9, b10, v6, v7, v8, v9, v10, v13, v14, v4, p, q7, q9, q13, rfl, rfl, hC, h10, hch⟩ := hI
        have hb : b10 = false := hun
        subst hb
        have hp : b9 = true := hdep ⟨9, .data⟩ (by simp) rfl
        subst hp
        have e1 : v14 = .pointer (some ⟨p, 0, none⟩) := (Ch.last [⟨b2, b3, v7, v8, q7, 2, [1, 2048]⟩, ⟨b4, b5, v9, v10, q9, 1, [6, 4]⟩, ⟨b8, true, v13, v14, q13, 2, [op]⟩] _ _ _ _ hch rfl).1
        subst e1
        have HCH := Lib.hid hch
        have H10 := Lib.hid h10
        clear hch h10 hdep
        go_simp
        refine hK.out _ _ ?_
        exact ⟨b1, b2, b3, b4, b5, b8, true, true, _, _, _, _, _, _, _, _, p, q7, q9, q13, rfl, rfl, hC, (fun _ => ⟨rfl, rfl⟩), HCH.out⟩
    case hend =>
      rintro l a w ⟨b1, b2, b3, b4, b5, b8, b9, b10, v6, v7, v8, v9, v10, v13, v14, v4, p, q7, q9, q13, rfl, rfl, hC, h10, hch⟩ hall
      have e9 : b9 = true := hall 9 (by decide)
      have e10 : b10 = true := hall 10 (by decide)
      subst e10
      subst e9
      obtain ⟨e1, hw⟩ := Ch.last [⟨b2, b3, v7, v8, q7, 2, [1, 2048]⟩, ⟨b4, b5, v9, v10, q9, 1, [6, 4]⟩, ⟨b8, true, v13, v14, q13, 2, [op]⟩] _ _ _ _ hch rfl
      have e4 := (h10 rfl).1
      subst e4
      clear h10 hch e1
      refine NoPanic.normal ?_
      go_wp2_with fail
      go_meet
      exact ⟨p, rfl, hw⟩
  case rest =>
    obtain ⟨p, rfl, h0⟩ := hcut
    have ws : -9223372036854775808 ≤ IntKind.i64.wrap sha ∧ IntKind.i64.wrap sha ≤ 9223372036854775807 := by have := IntKind.wrap_i64 sha; omega
    have wt : -9223372036854775808 ≤ IntKind.i64.wrap tha ∧ IntKind.i64.wrap tha ≤ 9223372036854775807 := by have := IntKind.wrap_i64 tha; omega
    have wp : -9223372036854775808 ≤ IntKind.i64.wrap spa ∧ IntKind.i64.wrap spa ≤ 9223372036854775807 := by have := IntKind.wrap_i64 spa; omega
    have wq : -9223372036854775808 ≤ IntKind.i64.wrap tpa ∧ IntKind.i64.wrap tpa ≤ 9223372036854775807 := by have := IntKind.wrap_i64 tpa; omega
    obtain ⟨y0, y1, y2, y3, y4⟩ := arp_kept hb1 h0.was
    go_upto_region 2 with fail
    go_cut [4] (fun s4 wx => s4 = .pointer (some ⟨p, 0, none⟩) ∧ Wat w1 p (arpW2 op sha spa) 56 wx)
    case first =>
      go_region_held3 (fun w' => w'.cell? ⟨g, 1, none⟩ = some (.int .u64 sha) ∧ w'.cell? ⟨g, 3, none⟩ = some (.int .u32 spa))
        (first | exact ⟨y1, y3⟩ | exact ⟨(arp_kept hb1 (by (repeat (first | (with_reducible refine Chg.drew ?_) | (with_reducible exact Chg.refl _ _) | (with_reducible refine Chg.alloc ?_ _) | (with_reducible exact h3.was) | (with_reducible exact h2.was) | (with_reducible exact h1.was) | (with_reducible exact h0.was) | fail)); done)).2.1, (arp_kept hb1 (by (repeat (first | (with_reducible refine Chg.drew ?_) | (with_reducible exact Chg.refl _ _) | (with_reducible refine Chg.alloc ?_ _) | (with_reducible exact h3.was) | (with_reducible exact h2.was) | (with_reducible exact h1.was) | (with_reducible exact h0.was) | fail)); done)).2.2.2.1⟩ | fail)
        (first
          | (go_at_call 21; (with_reducible refine (wat_one _ _ 48 4 (IntKind.i64.wrap spa) (putS 6 [IntKind.i64.wrap sha] (arpW1 op)) w1 _ wp (by decide) (by (repeat (first | (with_reducible exact h1) | (with_reducible refine Wat.drew ?_) | (with_reducible refine Wat.alloc ?_ _) | fail)); done) (by (repeat (first | (with_reducible refine Blk.drew ?_) | (with_reducible exact blk_new (by first | rfl | (simp; done) | (simp; omega))) | (with_reducible refine Blk.alloc ?_ _) | (with_reducible refine Kp.blk k3 ?_) | (with_reducible refine Kp.blk k2 ?_) | (with_reducible refine Kp.blk k1 ?_) | fail)); done)).mono ?_); rintro e w6 ⟨rfl, h2, k2⟩)
          | (go_at_call 21; (with_reducible refine (wat_one _ _ 40 6 (IntKind.i64.wrap sha) (arpW1 op) w1 _ ws (by decide) (by (repeat (first | (with_reducible exact h0) | (with_reducible refine Wat.drew ?_) | (with_reducible refine Wat.alloc ?_ _) | fail)); done) (by (repeat (first | (with_reducible refine Blk.drew ?_) | (with_reducible exact blk_new (by first | rfl | (simp; done) | (simp; omega))) | (with_reducible refine Blk.alloc ?_ _) | (with_reducible refine Kp.blk k3 ?_) | (with_reducible refine Kp.blk k2 ?_) | (with_reducible refine Kp.blk k1 ?_) | fail)); done)).mono ?_); rintro e w4 ⟨rfl, h1, k1⟩)
          | fail)
      all_goals
        go_wp2_with fail
        go_meet
        exact ⟨rfl, h2⟩
    case rest =>
      obtain ⟨rfl, h5⟩ := hcut
      clear h0 y0 y1 y2 y3 y4
      obtain ⟨y0, y1, y2, y3, y4⟩ := arp_kept hb1 h5.was
      go_upto_region 3 with fail
      go_cut [2, 3] (fun s2 s3 wx => ∃ A k c x, s2 = .slice A k c ∧ s3 = .int .i64 x ∧ DW w1.heap.size (arpW op sha tha spa tpa) A k c x wx ∧ Chg (fun _ => False) w1 wx)
      case first =>
        go_region_held3 (fun w' => w'.cell? ⟨g, 2, none⟩ = some (.int .u64 tha) ∧ w'.cell? ⟨g, 4, none⟩ = some (.int .u32 tpa))
          (first | exact ⟨y2, y4⟩ | exact ⟨(arp_kept hb1 (by (repeat (first | (with_reducible refine Chg.drew ?_) | (with_reducible exact Chg.refl _ _) | (with_reducible refine Chg.alloc ?_ _) | (with_reducible exact h3) | (with_reducible exact h2.was) | (with_reducible exact h1.was) | (with_reducible exact h5.was) | fail)); done)).2.2.1, (arp_kept hb1 (by (repeat (first | (with_reducible refine Chg.drew ?_) | (with_reducible exact Chg.refl _ _) | (with_reducible refine Chg.alloc ?_ _) | (with_reducible exact h3) | (with_reducible exact h2.was) | (with_reducible exact h1.was) | (with_reducible exact h5.was) | fail)); done)).2.2.2.2⟩ | fail)
          (first
            | (go_at_call 22; (with_reducible refine (wat_done _ 72 (arpW op sha tha spa tpa) w1 _ (by decide) h2).mono ?_); rintro e w7 ⟨A, k, c, x, rfl, hd, h3⟩)
            | (go_at_call 21; (with_reducible refine (wat_one _ _ 64 4 (IntKind.i64.wrap tpa) (putS 6 [IntKind.i64.wrap tha] (arpW2 op sha spa)) w1 _ wq (by decide) (by (repeat (first | (with_reducible exact h1) | (with_reducible refine Wat.drew ?_) | (with_reducible refine Wat.alloc ?_ _) | fail)); done) (by (repeat (first | (with_reducible refine Blk.drew ?_) | (with_reducible exact blk_new (by first | rfl | (simp; done) | (simp; omega))) | (with_reducible refine Blk.alloc ?_ _) | (with_reducible refine Kp.blk k3 ?_) | (with_reducible refine Kp.blk k2 ?_) | (with_reducible refine Kp.blk k1 ?_) | fail)); done)).mono ?_); rintro e w6 ⟨rfl, h2, k2⟩)
            | (go_at_call 21; (with_reducible refine (wat_one _ _ 56 6 (IntKind.i64.wrap tha) (arpW2 op sha spa) w1 _ wt (by decide) (by (repeat (first | (with_reducible exact h5) | (with_reducible refine Wat.drew ?_) | (with_reducible refine Wat.alloc ?_ _) | fail)); done) (by (repeat (first | (with_reducible refine Blk.drew ?_) | (with_reducible exact blk_new (by first | rfl | (simp; done) | (simp; omega))) | (with_reducible refine Blk.alloc ?_ _) | (with_reducible refine Kp.blk k3 ?_) | (with_reducible refine Kp.blk k2 ?_) | (with_reducible refine Kp.blk k1 ?_) | fail)); done)).mono ?_); rintro e w4 ⟨rfl, h1, k1⟩)
            | fail)
        all_goals
          go_wp2_with fail
          go_meet
          exact ⟨A, k, c, x, rfl, rfl, hd, h3⟩
      case rest =>
        obtain ⟨A, k, c, x, rfl, rfl, hd, h3⟩ := hcut
        go_wp2_with fail
        go_ret2
        refine ⟨A, k, c, x, rfl, ?_, hC0.trans h3 (fun _ _ e => e)⟩
        have hz := hC0.size
        revert hd
        unfold DW
        cases arpW op sha tha spa tpa
        · exact id
        · rintro ⟨e1, e2, e3⟩
          exact ⟨e1, e2, own_base e3 (by omega)⟩

end Go.Proofs.Ytlaekkoegomfjaa
