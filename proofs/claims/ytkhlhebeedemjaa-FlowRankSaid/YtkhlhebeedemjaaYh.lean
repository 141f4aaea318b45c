/-
  Walk: rutterlaw13.alive. Actions and entries compared. No condition.
-/
import Derived.Test.YtkhlhebeedemjaaYe
import Derived.Deep.RegionHeld3
import Derived.RegionTactic
import Derived.Laws.StructEq
import Derived.BigQuiet
namespace Go.Proofs.Ytkhlhebeedemjaa
open Go.RowKit
set_option linter.unusedVariables false
set_option linter.unusedSimpArgs false

/-- Are two actions the same? -/
def acE13 (a b c d a2 b2 c2 d2 : Int) : Bool := (a == a2) && ((b == b2) && ((c == c2) && (d == d2)))
theorem acE13_refl (a b c d : Int) : acE13 a b c d a b c d = true := by simp [acE13]
theorem stAc13 : Try.prog.underlying 35 = some (.struct (Try.prog.fieldsOf 35)) := by kernel_rfl
theorem hpAc13 : Try.prog.stoodInHeld 35 = false := by kernel_rfl
theorem eqAc13 (W : World) (a b c d a2 b2 c2 d2 : Int) : (binOp .eql 35 (.agg #[.int .i64 a, .int .i64 b, .int .i64 c, .int .i64 d]) (.agg #[.int .i64 a2, .int .i64 b2, .int .i64 c2, .int .i64 d2])).run Try.prog W = .ok (.bool (acE13 a b c d a2 b2 c2 d2)) W := by
  rw [run_eql_struct, show (10000 : Nat) = 9999 + 1 from rfl, run_equalIn_agg W 9999 35 _ _ stAc13 hpAc13]
  unfold acE13
  go_simp
  by_cases h0 : a = a2
  case neg => simp [h0]
  subst h0
  by_cases h1 : b = b2
  case neg => simp [h1]
  subst h1
  by_cases h2 : c = c2
  case neg => simp [h2]
  subst h2
  by_cases h3 : d = d2
  case neg => simp [h3]
  subst h3
  simp
theorem enr_blk13 {w : World} {g : Nat} {T : TypeId} {l : List En} (h : Blk w g T (enF l).toArray) : EnR w (some ⟨g, 0, none⟩) l.length l := by
  refine ⟨rfl, fun _ => ⟨⟨g, 0, none⟩, rfl, h.lt, fun i x hi j u hu => ?_⟩⟩
  have hj : j < 11 := (Array.getElem?_eq_some_iff.1 hu).1
  have e : (⟨g, 0, none⟩ : Addr).add (i * 11 + j) = ⟨g, i * 11 + j, none⟩ := by unfold Addr.add; split <;> simp_all
  rw [e, h.cell]
  have h2 := enF_at l i x hi j hj
  rw [hu] at h2
  simpa using h2
theorem alook13 {w : World} {p : Nat} (h : TF w p [(⟨1, 3, 7, 2, 0, 9, -2, 1, 2, 0, 0⟩ : En), (⟨5, 2, 0, 2, 0, 4, 3, 2, 0, 6, 0⟩ : En)]) (k : Ky) (o : Option En) (hk : lk13 k [(⟨1, 3, 7, 2, 0, 9, -2, 1, 2, 0, 0⟩ : En), (⟨5, 2, 0, 2, 0, 4, 3, 2, 0, 6, 0⟩ : En)] = o) : Calls Try.prog 9 #[.pointer (some ⟨p, 0, none⟩), .agg k.cs] w (LkP13 o w) := by
  obtain ⟨k0, k1, k2, k3, k4⟩ := k
  have h2 := flook13_any h (by simp) k0 k1 k2 k3 k4
  rw [hk] at h2
  exact h2
set_option maxRecDepth 100000 in
set_option maxHeartbeats 8000000 in
theorem alive13_any (w : World) : Calls Try.prog 5 #[] w fun e w' => e = .returned (.bool true) ∧ Chg (fun _ => False) w w' := by
  have HA0 : Hid (Blk ((w.alloc (.cells #[.int .i64 1, .int .i64 3, .int .u64 7, .int .i64 2, .int .i64 0, .int .i64 9, .int .i64 (-2), .int .i64 1, .int .i64 2, .int .i64 0, .int .i64 0] 49)).alloc (.cells #[.int .i64 5, .int .i64 2, .int .u64 0, .int .i64 2, .int .i64 0, .int .i64 4, .int .i64 3, .int .i64 2, .int .i64 0, .int .i64 6, .int .i64 0] 49)) w.heap.size 49 (enC 1 3 7 2 0 9 (-2) 1 2 0 0)) := Lib.hid (Blk.alloc (blk_new rfl) _)
  have HB0 : Hid (Blk ((w.alloc (.cells #[.int .i64 1, .int .i64 3, .int .u64 7, .int .i64 2, .int .i64 0, .int .i64 9, .int .i64 (-2), .int .i64 1, .int .i64 2, .int .i64 0, .int .i64 0] 49)).alloc (.cells #[.int .i64 5, .int .i64 2, .int .u64 0, .int .i64 2, .int .i64 0, .int .i64 4, .int .i64 3, .int .i64 2, .int .i64 0, .int .i64 6, .int .i64 0] 49)) (w.heap.size + 1) 49 (enC 5 2 0 2 0 4 3 2 0 6 0)) := Lib.hid (blk_new (by simp))
  have HX := Lib.hid (((Chg.refl (fun _ => False) w).alloc (.cells #[.int .i64 1, .int .i64 3, .int .u64 7, .int .i64 2, .int .i64 0, .int .i64 9, .int .i64 (-2), .int .i64 1, .int .i64 2, .int .i64 0, .int .i64 0] 49)).alloc (.cells #[.int .i64 5, .int .i64 2, .int .u64 0, .int .i64 2, .int .i64 0, .int .i64 4, .int .i64 3, .int .i64 2, .int .i64 0, .int .i64 6, .int .i64 0] 49))
  go_enter Try.func5, Try.ntmps5
  go_upto_region 3 with fail
  generalize (w.alloc (.cells #[.int .i64 1, .int .i64 3, .int .u64 7, .int .i64 2, .int .i64 0, .int .i64 9, .int .i64 (-2), .int .i64 1, .int .i64 2, .int .i64 0, .int .i64 0] 49)).alloc (.cells #[.int .i64 5, .int .i64 2, .int .u64 0, .int .i64 2, .int .i64 0, .int .i64 4, .int .i64 3, .int .i64 2, .int .i64 0, .int .i64 6, .int .i64 0] 49) = w2 at *
  generalize w.heap.size = QA at HA0 HB0 ⊢
  obtain ⟨y0, y1, y2, y3, y4, y5, y6, y7, y8, y9, y10⟩ := en_cells13 HA0.out
  obtain ⟨u0, u1, u2, u3, u4, u5, u6, u7, u8, u9, u10⟩ := en_cells13 HB0.out
  have HROW : Hid (EnR (w2.alloc (.cells #[.int .i64 1, .int .i64 3, .int .u64 7, .int .i64 2, .int .i64 0, .int .i64 9, .int .i64 (-2), .int .i64 1, .int .i64 2, .int .i64 0, .int .i64 0, .int .i64 5, .int .i64 2, .int .u64 0, .int .i64 2, .int .i64 0, .int .i64 4, .int .i64 3, .int .i64 2, .int .i64 0, .int .i64 6, .int .i64 0] 49)) (some ⟨w2.heap.size, 0, none⟩) 2 [(⟨1, 3, 7, 2, 0, 9, -2, 1, 2, 0, 0⟩ : En), (⟨5, 2, 0, 2, 0, 4, 3, 2, 0, 6, 0⟩ : En)]) := Lib.hid (enr_blk13 (l := [(⟨1, 3, 7, 2, 0, 9, -2, 1, 2, 0, 0⟩ : En), (⟨5, 2, 0, 2, 0, 4, 3, 2, 0, 6, 0⟩ : En)]) (T := 49) (by have h : Blk (w2.alloc (.cells #[.int .i64 1, .int .i64 3, .int .u64 7, .int .i64 2, .int .i64 0, .int .i64 9, .int .i64 (-2), .int .i64 1, .int .i64 2, .int .i64 0, .int .i64 0, .int .i64 5, .int .i64 2, .int .u64 0, .int .i64 2, .int .i64 0, .int .i64 4, .int .i64 3, .int .i64 2, .int .i64 0, .int .i64 6, .int .i64 0] 49)) w2.heap.size 49 #[.int .i64 1, .int .i64 3, .int .u64 7, .int .i64 2, .int .i64 0, .int .i64 9, .int .i64 (-2), .int .i64 1, .int .i64 2, .int .i64 0, .int .i64 0, .int .i64 5, .int .i64 2, .int .u64 0, .int .i64 2, .int .i64 0, .int .i64 4, .int .i64 3, .int .i64 2, .int .i64 0, .int .i64 6, .int .i64 0] := blk_new rfl; exact h))
  have HN := Lib.hid (fnew13_any (w := w2.alloc (.cells #[.int .i64 1, .int .i64 3, .int .u64 7, .int .i64 2, .int .i64 0, .int .i64 9, .int .i64 (-2), .int .i64 1, .int .i64 2, .int .i64 0, .int .i64 0, .int .i64 5, .int .i64 2, .int .u64 0, .int .i64 2, .int .i64 0, .int .i64 4, .int .i64 3, .int .i64 2, .int .i64 0, .int .i64 6, .int .i64 0] 49)) (L := some ⟨w2.heap.size, 0, none⟩) (m := 2) (lc := 2) (l := [(⟨1, 3, 7, 2, 0, 9, -2, 1, 2, 0, 0⟩ : En), (⟨5, 2, 0, 2, 0, 4, 3, 2, 0, 6, 0⟩ : En)]) HROW.out (fun e => by cases e) (by decide))
  have hca := (Chg.refl (fun _ => False) w2).alloc (.cells #[.int .i64 1, .int .i64 3, .int .u64 7, .int .i64 2, .int .i64 0, .int .i64 9, .int .i64 (-2), .int .i64 1, .int .i64 2, .int .i64 0, .int .i64 0, .int .i64 5, .int .i64 2, .int .u64 0, .int .i64 2, .int .i64 0, .int .i64 4, .int .i64 3, .int .i64 2, .int .i64 0, .int .i64 6, .int .i64 0] 49)
  replace HA0 := Lib.hid (HA0.out.chg hca id)
  replace HX := Lib.hid (HX.out.trans hca (fun _ _ e => e))
  clear hca
  go_wp2_with fail
  refine HN.out.mono ?_
  rintro e w3 ⟨p, rfl, hT, hc⟩
  have HT := Lib.hid hT
  replace HA0 := Lib.hid (HA0.out.chg hc id)
  replace HX := Lib.hid (HX.out.trans hc (fun _ _ e => e))
  clear hT hc HN HB0 y0 y1 y2 y3 y4 y5 y6 y7 y8 y9 y10 u0 u1 u2 u3 u4 u5 u6 u7 u8 u9 u10
  have hl := alook13 HT.out ⟨1, 0, 2, 4, 0⟩ (some (⟨5, 2, 0, 2, 0, 4, 3, 2, 0, 6, 0⟩ : En)) rfl
  replace hl : Calls _ _ #[_, .agg #[.int .i64 1, .int .u64 0, .int .i64 2, .int .i64 4, .int .i64 0]] _ (fun e w' => e = .returned (.tuple #[.agg #[.int .i64 2, .int .i64 0, .int .i64 6, .int .i64 0], .bool true]) ∧ Chg (fun _ => False) _ w') := hl
  have HL4 := Lib.hid hl
  clear hl
  go_wp2_with fail
  refine HL4.out.mono ?_
  rintro e w4 ⟨rfl, hc⟩
  have hca := hc.alloc (.cells #[.int .i64 2, .int .i64 0, .int .i64 6, .int .i64 0] 35)
  have HB4 : Hid (Blk (w4.alloc (.cells #[.int .i64 2, .int .i64 0, .int .i64 6, .int .i64 0] 35)) w4.heap.size 35 (acC 2 0 6 0)) := Lib.hid (blk_new rfl)
  replace HT := Lib.hid (HT.out.chg hca)
  replace HA0 := Lib.hid (HA0.out.chg hca id)
  replace HX := Lib.hid (HX.out.trans hca (fun _ _ e => e))
  clear hc hca HL4
  go_upto_region 5 with fail
  generalize w4.alloc (.cells #[.int .i64 2, .int .i64 0, .int .i64 6, .int .i64 0] 35) = v4 at *
  generalize w4.heap.size = X4 at *
  have hl := alook13 HT.out ⟨1, 0, 2, 4, 3⟩ (some (⟨1, 3, 7, 2, 0, 9, -2, 1, 2, 0, 0⟩ : En)) rfl
  replace hl : Calls _ _ #[_, .agg #[.int .i64 1, .int .u64 0, .int .i64 2, .int .i64 4, .int .i64 3]] _ (fun e w' => e = .returned (.tuple #[.agg #[.int .i64 1, .int .i64 2, .int .i64 0, .int .i64 0], .bool true]) ∧ Chg (fun _ => False) _ w') := hl
  have HL5 := Lib.hid hl
  clear hl
  go_wp2_with fail
  refine HL5.out.mono ?_
  rintro e w5 ⟨rfl, hc⟩
  have hca := hc.alloc (.cells #[.int .i64 1, .int .i64 2, .int .i64 0, .int .i64 0] 35)
  have HB5 : Hid (Blk (w5.alloc (.cells #[.int .i64 1, .int .i64 2, .int .i64 0, .int .i64 0] 35)) w5.heap.size 35 (acC 1 2 0 0)) := Lib.hid (blk_new rfl)
  replace HT := Lib.hid (HT.out.chg hca)
  replace HA0 := Lib.hid (HA0.out.chg hca id)
  replace HB4 := Lib.hid (HB4.out.chg hca id)
  replace HX := Lib.hid (HX.out.trans hca (fun _ _ e => e))
  clear hc hca HL5
  go_upto_region 6 with fail
  generalize w5.alloc (.cells #[.int .i64 1, .int .i64 2, .int .i64 0, .int .i64 0] 35) = v5 at *
  generalize w5.heap.size = X5 at *
  have hl := alook13 HT.out ⟨2, 0, 2, 0, 0⟩ none rfl
  replace hl : Calls _ _ #[_, .agg #[.int .i64 2, .int .u64 0, .int .i64 2, .int .i64 0, .int .i64 0]] _ (fun e w' => e = .returned (.tuple #[.agg #[.int .i64 0, .int .i64 0, .int .i64 0, .int .i64 0], .bool false]) ∧ Chg (fun _ => False) _ w') := hl
  have HL6 := Lib.hid hl
  clear hl
  go_wp2_with fail
  refine HL6.out.mono ?_
  rintro e w6 ⟨rfl, hc⟩
  have hca := hc.alloc (.cells #[.int .i64 0, .int .i64 0, .int .i64 0, .int .i64 0] 35)
  have HB6 : Hid (Blk (w6.alloc (.cells #[.int .i64 0, .int .i64 0, .int .i64 0, .int .i64 0] 35)) w6.heap.size 35 (acC 0 0 0 0)) := Lib.hid (blk_new rfl)
  replace HT := Lib.hid (HT.out.chg hca)
  replace HA0 := Lib.hid (HA0.out.chg hca id)
  replace HB4 := Lib.hid (HB4.out.chg hca id)
  replace HB5 := Lib.hid (HB5.out.chg hca id)
  replace HX := Lib.hid (HX.out.trans hca (fun _ _ e => e))
  clear hc hca HL6
  go_upto_region 7 with fail
  generalize w6.alloc (.cells #[.int .i64 0, .int .i64 0, .int .i64 0, .int .i64 0] 35) = v6 at *
  generalize w6.heap.size = X6 at *
  obtain ⟨x0, x1, x2, x3⟩ := ac_cells13 HB4.out
  obtain ⟨z0, z1, z2, z3⟩ := ac_cells13 HB5.out
  obtain ⟨u0, u1, u2, u3⟩ := ac_cells13 HB6.out
  have he := fun W => eqAc13 W 0 0 0 0 0 0 0 0
  rw [acE13_refl] at he
  have HE : Hid (Calls Try.prog 12 #[.pointer (some ⟨p, 0, none⟩)] v6 (ClP13 2 [(⟨1, 3, 7, 2, 0, 9, -2, 1, 2, 0, 0⟩ : En), (⟨5, 2, 0, 2, 0, 4, 3, 2, 0, 6, 0⟩ : En)] v6)) := Lib.hid (fent13_any HT.out (by simp))
  have hf := fun W => ffits13_any 1 3 7 2 0 9 (-2) 1 2 0 0 0 7 0 0 (-1) W
  replace hf : ∀ W, Calls _ _ #[.agg #[.int .i64 1, .int .i64 3, .int .u64 7, .int .i64 2, .int .i64 0, .int .i64 9, .int .i64 (-2), .int .i64 1, .int .i64 2, .int .i64 0, .int .i64 0], .agg #[.int .i64 0, .int .u64 7, .int .i64 0, .int .i64 0, .int .i64 (-1)]] W (fun e w' => e = .returned (.bool true) ∧ Chg (fun _ => False) W w') := hf
  have HF := Lib.hid hf
  clear hf
  go_wp2_with fail
  refine HE.out.mono ?_
  rintro e w7 ⟨E, d, rfl, -, -, -, -, hc⟩
  replace HX := Lib.hid (HX.out.trans hc (fun _ _ e => e))
  obtain ⟨y0, y1, y2, y3, y4, y5, y6, y7, y8, y9, y10⟩ := en_cells13 (HA0.out.chg hc id)
  clear hc x0 x1 x2 x3 z0 z1 z2 z3 u0 u1 u2 u3
  go_wp2_with fail
  refine (HF.out _).mono ?_
  rintro e w8 ⟨rfl, hc⟩
  replace HX := Lib.hid (HX.out.trans hc (fun _ _ e => e))
  clear hc
  go_wp2_with fail
  go_ret
  exact ⟨rfl, HX.out⟩

end Go.Proofs.Ytkhlhebeedemjaa
