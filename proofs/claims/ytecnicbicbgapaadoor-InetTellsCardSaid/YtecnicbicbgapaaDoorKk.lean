/-
  Walk: rutterlaw04.InetBytes. Conditions: the bytes are read in memory, no more of them than there is room; the table of widths reads as its initialiser lays it.
-/
import Derived.Test.YtecnicbicbgapaaDoorKj
namespace Go.Proofs.YtecnicbicbgapaaDoor
open Go.RowKit
set_option linter.unusedVariables false

set_option maxHeartbeats 400000 in
theorem ibytes_big (A : Option Addr) (n c : Nat) (w : World) (hg : Gw w) (hn : 3000 < n) (hn2 : n ≤ 9223372036854775807) :
    Calls Tryd.prog 4 #[.slice A n c] w fun e w' => e = .returned (.bool true) ∧ Chg (fun _ => False) w w' := by
  have HA := Lib.hid (alive4_any w hg)
  clear hg
  go_enter Tryd.func4, Tryd.ntmps4
  go_wp2_with fail
  refine HA.out.mono ?_
  rintro e w1 ⟨rfl, hc1⟩
  go_wp2_with fail
  go_ret
  exact ⟨rfl, hc1⟩

/-- What both parsers hand back, in letters. -/
theorem parsed_form (b : List UInt8) : ∃ o s t p q x, ∀ (w : World) (e : Ending) (w' : World), Parsed b w e w' →
    ∃ A k c, e = .returned (.tuple #[.agg #[.int .i64 o, .int .u32 s, .int .u32 t, .int .i64 p, .int .i64 q], .slice A k c, .int .i64 x]) ∧ Rds w' (fun j => w.heap.size ≤ j) A k (bcs (pB b)) ∧ Chg (fun _ => False) w w' := by
  refine ⟨pN b 9 1, pN b 12 4, pN b 16 4, pN b 20 2, pN b 22 2, parC b, fun w e w' h => ?_⟩
  obtain ⟨A, k, c, he, _, hr, hc⟩ := h
  exact ⟨A, k, c, he, hr, hc⟩

set_option maxHeartbeats 2000000 in
theorem ibytes_any (A : Option Addr) (n c : Nat) (b : List UInt8) (S : Nat → Prop) (w : World) (hg : Gw w) (hn : n = b.length) (h : Rds w S A n (bcs b)) (hc : n ≤ c) (hcm : c ≤ maxLen) (h3 : n ≤ 3000) :
    Calls Tryd.prog 4 #[.slice A n c] w fun e w' => e = .returned (.bool true) ∧ Chg (fun _ => False) w w' := by
  obtain ⟨o, s, t, p, q, x, hform⟩ := parsed_form b
  have HFO := Lib.hid hform
  have HP1 := Lib.hid (iparse_any A n c b S w hg hn h hc hcm (by omega))
  have HP2 := Lib.hid (fun (W : World) (hw : Chg (fun _ => False) w W) => rparse4_any A n c b S W hn (h.chg hw (fun _ _ => id)) hc hcm (by omega))
  have HAL := Lib.hid (fun (W : World) (hw : Chg (fun _ => False) w W) => alive4_any W (hg.chg hw id))
  have he := eqF
  clear hg hn h hform
  go_enter Tryd.func4, Tryd.ntmps4
  go_wp2_with fail
  refine HP1.out.mono ?_
  intro e w1 hp
  obtain ⟨A1, k1, c1, rfl, hr1, hc1⟩ := HFO.out _ _ _ hp
  have hC1 := hc1.alloc (.cells #[.int .i64 o, .int .u32 s, .int .u32 t, .int .i64 p, .int .i64 q] 24)
  have hf1 : Blk (w1.alloc (.cells #[.int .i64 o, .int .u32 s, .int .u32 t, .int .i64 p, .int .i64 q] 24)) w1.heap.size 24 (flC o s t p q) := blk_new rfl
  have HQ1 := Lib.hid hf1
  have HS1 := Lib.hid (hr1.alloc (.cells #[.int .i64 o, .int .u32 s, .int .u32 t, .int .i64 p, .int .i64 q] 24))
  have HP3 := Lib.hid (HP2.out _ hC1)
  have HC1 := Lib.hid hC1
  clear hp hr1 hc1 hC1 hf1 HP1 HP2
  go_wp2_with fail
  refine HP3.out.mono ?_
  intro e w2 hp
  obtain ⟨A2, k2, c2, rfl, hr2, hc2⟩ := HFO.out _ _ _ hp
  have hC2 := (HC1.out.trans hc2 (fun _ _ e => e)).alloc (.cells #[.int .i64 o, .int .u32 s, .int .u32 t, .int .i64 p, .int .i64 q] 24)
  have hf2 : Blk (w2.alloc (.cells #[.int .i64 o, .int .u32 s, .int .u32 t, .int .i64 p, .int .i64 q] 24)) w2.heap.size 24 (flC o s t p q) := blk_new rfl
  have HQ2 := Lib.hid hf2
  have HQ1 := Lib.hid ((HQ1.out.chg hc2 id).alloc (.cells #[.int .i64 o, .int .u32 s, .int .u32 t, .int .i64 p, .int .i64 q] 24))
  have HS1 := Lib.hid ((HS1.out.chg hc2 (fun _ _ => id)).alloc (.cells #[.int .i64 o, .int .u32 s, .int .u32 t, .int .i64 p, .int .i64 q] 24))
  have HS2 := Lib.hid (hr2.alloc (.cells #[.int .i64 o, .int .u32 s, .int .u32 t, .int .i64 p, .int .i64 q] 24))
  have HC2 := Lib.hid hC2
  have HAL2 := Lib.hid (HAL.out _ hC2)
  clear hp hr2 hc2 hC2 hf2 HP3 HC1 HAL HFO
  go_wp2_with fail
  refine HAL2.out.mono ?_
  rintro e w3 ⟨rfl, hc3⟩
  have HC3 := Lib.hid (HC2.out.trans hc3 (fun _ _ e => e))
  obtain ⟨x0, x1, x2, x3, x4⟩ := fl_cells (HQ1.out.chg hc3 id)
  obtain ⟨y0, y1, y2, y3, y4⟩ := fl_cells (HQ2.out.chg hc3 id)
  have s1 := conv_any (c := c1) (HS1.out.chg hc3 (fun _ _ => id))
  have s2 := conv_any (c := c2) (HS2.out.chg hc3 (fun _ _ => id))
  clear hc3 HAL2 HQ1 HQ2 HS1 HS2 HC2
  go_wp2_with fail
  go_ret
  exact ⟨rfl, HC3.out⟩

end Go.Proofs.YtecnicbicbgapaaDoor
