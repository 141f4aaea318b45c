/-
  Walk: rutterref04.Parse. Conditions: the bytes are read in memory, not more than 100000.
-/
import Derived.Test.YtecnicbicbgapaaDoorKf
import Derived.Test.YtecnicbicbgapaaDoorRs
import Derived.BigQuiet
import Derived.Deep.RegionHeld3
import Derived.Deep.DeepCutAuto
namespace Go.Proofs.YtecnicbicbgapaaDoor
open Go.RowKit
set_option linter.unusedVariables false
set_option linter.unusedSimpArgs false

set_option maxHeartbeats 1000000 in
theorem rparse4_short (A : Option Addr) (n c : Nat) (b : List UInt8) (w : World) (hn : n = b.length) (hn2 : n < 24) :
    Calls Tryd.prog 15 #[.slice A n c] w (Parsed b w) := by
  have HP := Lib.hid (parC_short (b := b) (by omega))
  have hd : decide ((n : Int) < 24) = true := by simp; omega
  clear hn
  go_enter Tryd.func15, Tryd.ntmps15
  go_wp2_with fail
  go_region
  go_wp2_with fail
  exact bodyPost_ret (v := .tuple #[zeroL, .slice none 0 0, .int .i64 2]) (by simp [results, Tryd.results15, go_sem, zeroL]) rfl (parsed_no HP.out (by decide) rfl ((Chg.refl _ w).alloc _).drew)

theorem cell_kept {w w' : World} {p : Addr} {v : Value} (h : w.cell? p = some v) (hc : Chg (fun _ => False) w w') : w'.cell? p = some v := by
  rw [hc.cell (World.block_lt_of_cell? w _ h) id]
  exact h
theorem fl_set {w : World} {r : Nat} {T : TypeId} {o s t p q : Int} (hb : Blk w r T (flC o s t p q)) (o' s' t' p' q' : Int) :
    Blk (((((w.setCell ⟨r, 0, none⟩ (.int .i64 o')).setCell ⟨r, 1, none⟩ (.int .u32 s')).setCell ⟨r, 2, none⟩ (.int .u32 t')).setCell ⟨r, 3, none⟩ (.int .i64 p')).setCell ⟨r, 4, none⟩ (.int .i64 q')) r T (flC o' s' t' p' q') := by
  have h5 := ((((hb.set 0 (.int .i64 o')).set 1 (.int .u32 s')).set 2 (.int .u32 t')).set 3 (.int .i64 p')).set 4 (.int .i64 q')
  simp only [flC, List.setIfInBounds_toArray, List.set_cons_succ, List.set_cons_zero] at h5
  exact h5
theorem rget_stepK (p : Nat) (S : Nat → Prop) (b : List UInt8) (i k : Nat) (w : World) (h : Rd 48 false w p S (some (b.drop i))) (h1 : 1 ≤ k) (h7 : k ≤ 7) (hik : i + k ≤ b.length) :
    Calls Tryd.prog 23 #[.pointer (some ⟨p, 0, none⟩), .int .i64 (k : Int)] w fun e w' => e = .returned (.int .i64 (nAt b i k)) ∧ Rd 48 false w' p S (some (b.drop (i + k))) ∧ Chg (fun k => k = p) w w' := by
  have hg := rget_any p S _ (k : Int) w h
  rw [get_from b i k h1 h7 hik] at hg
  exact hg

theorem rget_four (p : Nat) (S : Nat → Prop) (b : List UInt8) (i : Nat) (w : World) (h : Rd 48 false w p S (some (b.drop i))) (hik : i + 4 ≤ b.length) :
    Calls Tryd.prog 23 #[.pointer (some ⟨p, 0, none⟩), .int .i64 4] w fun e w' => e = .returned (.int .i64 (nAt b i 4)) ∧ Rd 48 false w' p S (some (b.drop (i + 4))) ∧ Chg (fun k => k = p) w w' :=
  rget_stepK p S b i 4 w h (by decide) (by decide) hik

set_option maxRecDepth 100000 in
set_option maxHeartbeats 8000000 in
theorem rparse4_long (A : Option Addr) (n c : Nat) (b : List UInt8) (S : Nat → Prop) (w : World) (hn : n = b.length) (h : Rds w S A n (bcs b)) (h24 : 24 ≤ n) (hc : n ≤ c) (hcm : c ≤ maxLen) (hb : n ≤ 100000) :
    Calls Tryd.prog 15 #[.slice A n c] w (Parsed b w) := by
  have hcm' : (c : Int) ≤ 9223372036854775807 := by unfold maxLen at hcm; omega
  have hd : decide ((n : Int) < 24) = false := by simp; omega
  have i0 : (0 : Int) < (n : Int) := by omega
  have i2 : (2 : Int) < (n : Int) := by omega
  have i3 : (3 : Int) < (n : Int) := by omega
  have i9 : (9 : Int) < (n : Int) := by omega
  have j0 : 0 < n := by omega
  have hR0 : Blk (w.alloc (.cells #[.int .i64 0, .int .u32 0, .int .u32 0, .int .i64 0, .int .i64 0] 24)) w.heap.size 24 (flC 0 0 0 0 0) := blk_new rfl
  have hC0 := (Chg.refl (fun _ => False) w).alloc (.cells #[.int .i64 0, .int .u32 0, .int .u32 0, .int .i64 0, .int .i64 0] 24)
  have h0 := h.chg hC0 (fun _ _ => id)
  obtain ⟨a, rfl, _, _, hcell⟩ := h0.2 (by omega)
  have b0 := hcell 0 _ (bcs_at b 0 (by omega))
  have b2 := hcell 2 _ (bcs_at b 2 (by omega))
  have b3 := hcell 3 _ (bcs_at b 3 (by omega))
  have b9 := hcell 9 _ (bcs_at b 9 (by omega))
  simp [Addr.add] at b0 b2 b3 b9
  have e0 := nAt_one b 0 (by omega)
  have e2 := nAt_two b 2 (by omega)
  have e9 := nAt_one b 9 (by omega)
  have l0 : (b[0]'(by omega)).toNat < 256 := UInt8.toNat_lt _
  have l2 : (b[2]'(by omega)).toNat < 256 := UInt8.toNat_lt _
  have l3 : (b[3]'(by omega)).toNat < 256 := UInt8.toNat_lt _
  have l9 : (b[9]'(by omega)).toNat < 256 := UInt8.toNat_lt _
  generalize (b[0]'(by omega)).toNat = x0 at *
  generalize (b[2]'(by omega)).toNat = x2 at *
  generalize (b[3]'(by omega)).toNat = x3 at *
  generalize (b[9]'(by omega)).toNat = x9 at *
  have HOK : Hid (okF b = (nAt b 0 1 == 69 && nAt b 2 2 == (b.length : Int))) := rfl
  have HE0 := Lib.hid e0
  have HE2 := Lib.hid e2
  have HE9 := Lib.hid e9
  have HR0 := Lib.hid hR0
  have HC0 := Lib.hid hC0
  have HN := Lib.hid hn
  have HH := Lib.hid h
  have HCM := Lib.hid hcm
  have g1 := nAt_nonneg b 12 4
  have g1' : nAt b 12 4 ≤ 4294967295 := by have := nAt_lt b 12 4; omega
  have g2 := nAt_nonneg b 16 4
  have g2' : nAt b 16 4 ≤ 4294967295 := by have := nAt_lt b 16 4; omega
  clear hR0 hC0 hn h hcm h0 hcell e0 e2 e9
  by_cases q0 : x0 = 69
  case neg =>
    have s0 : ((x0 : Int) != 69) = true := by simp; omega
    have HP := Lib.hid (parC_form (b := b) (by rw [HOK.out, HE0.out]; simp; omega))
    clear q0
    go_enter Tryd.func15, Tryd.ntmps15
    go_wp2_with fail
    go_quiet (fail)
    have hR := HR0.out.drewN nq
    have hC := HC0.out.drewN nq
    have b9' : (World.drewN (w.alloc (.cells #[.int .i64 0, .int .u32 0, .int .u32 0, .int .i64 0, .int .i64 0] 24)) nq).cell? { block := a.block, off := a.off + 9 } = some (.int .u8 (x9 : Int)) := b9
    clear b0 b2 b3 b9
    have b9 := b9'
    clear b9'
    generalize (World.drewN (w.alloc (.cells #[.int .i64 0, .int .u32 0, .int .u32 0, .int .i64 0, .int .i64 0] 24)) nq) = wq at *
    obtain ⟨y0, y1, y2, y3, y4⟩ := fl_cells hR
    obtain ⟨u0, u1, u2, u3, u4⟩ := fl_free hR
    obtain ⟨r0, r1, r2, r3, r4, hcs⟩ := fl_put hR 0 0 0 0 0
    have HF := Lib.hid (fresh_set hC hcs (Nat.le_refl _))
    have RR := Lib.hid (And.intro r0 (And.intro r1 (And.intro r2 (And.intro r3 r4))))
    clear r0 r1 r2 r3 r4 hcs hR hC
    go_wp2_with fail
    obtain ⟨r0, r1, r2, r3, r4⟩ := RR.out
    exact bodyPost_ret (v := .tuple #[zeroL, .slice none 0 0, .int .i64 2]) (by simp [results, Tryd.results15, go_sem, zeroL, r0, r1, r2, r3, r4]) rfl (parsed_no HP.out (by decide) rfl HF.out)
  have s0 : ((x0 : Int) != 69) = false := by simp; omega
  by_cases q2 : 256 * x2 + x3 = n
  case neg =>
    have s2 : ((256 * (x2 : Int) + (x3 : Int)) != (n : Int)) = true := by simp; omega
    have HP := Lib.hid (parC_form (b := b) (by rw [HOK.out, HE2.out, ← HN.out]; simp; omega))
    clear q0 q2
    go_enter Tryd.func15, Tryd.ntmps15
    go_wp2_with fail
    go_quiet (fail)
    have hR := HR0.out.drewN nq
    have hC := HC0.out.drewN nq
    have b9' : (World.drewN (w.alloc (.cells #[.int .i64 0, .int .u32 0, .int .u32 0, .int .i64 0, .int .i64 0] 24)) nq).cell? { block := a.block, off := a.off + 9 } = some (.int .u8 (x9 : Int)) := b9
    clear b0 b2 b3 b9
    have b9 := b9'
    clear b9'
    generalize (World.drewN (w.alloc (.cells #[.int .i64 0, .int .u32 0, .int .u32 0, .int .i64 0, .int .i64 0] 24)) nq) = wq at *
    obtain ⟨y0, y1, y2, y3, y4⟩ := fl_cells hR
    obtain ⟨u0, u1, u2, u3, u4⟩ := fl_free hR
    obtain ⟨r0, r1, r2, r3, r4, hcs⟩ := fl_put hR 0 0 0 0 0
    have HF := Lib.hid (fresh_set hC hcs (Nat.le_refl _))
    have RR := Lib.hid (And.intro r0 (And.intro r1 (And.intro r2 (And.intro r3 r4))))
    clear r0 r1 r2 r3 r4 hcs hR hC
    go_wp2_with fail
    obtain ⟨r0, r1, r2, r3, r4⟩ := RR.out
    exact bodyPost_ret (v := .tuple #[zeroL, .slice none 0 0, .int .i64 2]) (by simp [results, Tryd.results15, go_sem, zeroL, r0, r1, r2, r3, r4]) rfl (parsed_no HP.out (by decide) rfl HF.out)
  have s2 : ((256 * (x2 : Int) + (x3 : Int)) != (n : Int)) = false := by simp; omega
  have HO := Lib.hid (show okF b = true by rw [HOK.out, HE0.out, HE2.out, ← HN.out]; simp; omega)
  have HL20 := Lib.hid (show 20 = (b.take 20).length by have := HN.out; rw [List.length_take]; omega)
  have HL := Lib.hid (show 24 ≤ b.length by have := HN.out; omega)
  clear q0 q2
  go_enter Tryd.func15, Tryd.ntmps15
  go_wp2_with fail
  go_quiet (fail)
  have hR := HR0.out.drewN nq
  have hC := HC0.out.drewN nq
  have b9' : (World.drewN (w.alloc (.cells #[.int .i64 0, .int .u32 0, .int .u32 0, .int .i64 0, .int .i64 0] 24)) nq).cell? { block := a.block, off := a.off + 9 } = some (.int .u8 (x9 : Int)) := b9
  clear b0 b2 b3 b9
  have b9 := b9'
  clear b9'
  generalize (World.drewN (w.alloc (.cells #[.int .i64 0, .int .u32 0, .int .u32 0, .int .i64 0, .int .i64 0] 24)) nq) = wq at *
  have HS := Lib.hid (show Rds wq S (some a) 20 (bcs (b.take 20)) by rw [bcs_take]; exact (HH.out.take 20 (by omega)).chg hC (fun _ _ => id))
  have HR := Lib.hid hR
  have HC := Lib.hid hC
  clear hR hC HR0 HC0
  go_wp2_with fail
  refine (rcheck_any (some a) 20 c (b.take 20) S _ HL20.out HS.out (by decide)).mono ?_
  rintro e w3 ⟨rfl, hw3⟩
  subst hw3
  clear HS
  by_cases qc : (chkB (b.take 20) == 0) = true
  case neg =>
    have qc : (chkB (b.take 20) == 0) = false := by simpa using qc
    have sc : (chkB (b.take 20) != 0) = true := by simpa using qc
    have HP := Lib.hid (parC_sum HL.out HO.out qc)
    have hR := HR.out
    have hC := HC.out
    generalize chkB (b.take 20) = ck at *
    clear qc HR HC
    obtain ⟨y0, y1, y2, y3, y4⟩ := fl_cells hR
    obtain ⟨u0, u1, u2, u3, u4⟩ := fl_free hR
    obtain ⟨r0, r1, r2, r3, r4, hcs⟩ := fl_put hR 0 0 0 0 0
    have HF := Lib.hid (fresh_set hC hcs (Nat.le_refl _))
    have RR := Lib.hid (And.intro r0 (And.intro r1 (And.intro r2 (And.intro r3 r4))))
    clear r0 r1 r2 r3 r4 hcs hR hC
    go_wp2_with fail
    obtain ⟨r0, r1, r2, r3, r4⟩ := RR.out
    exact bodyPost_ret (v := .tuple #[zeroL, .slice none 0 0, .int .i64 6]) (by simp [results, Tryd.results15, go_sem, zeroL, r0, r1, r2, r3, r4]) rfl (parsed_no HP.out (by decide) rfl HF.out)
  have sc : (chkB (b.take 20) != 0) = false := by simpa using qc
  have HKIND := Lib.hid (fun h => parC_kind HL.out HO.out qc h)
  have HYES := Lib.hid (fun h => parC_ok HL.out HO.out qc h)
  generalize chkB (b.take 20) = ck at *
  clear qc
  by_cases k6 : x9 = 6 ∨ x9 = 17
  case neg =>
    have s6 : ((x9 : Int) != 6) = true := by simp; omega
    have s17 : ((x9 : Int) != 17) = true := by simp; omega
    have HP := Lib.hid (HKIND.out (by rw [HE9.out]; simp; omega))
    have hR := HR.out
    have hC := HC.out
    clear k6 HR HC
    obtain ⟨y0, y1, y2, y3, y4⟩ := fl_cells hR
    obtain ⟨u0, u1, u2, u3, u4⟩ := fl_free hR
    obtain ⟨r0, r1, r2, r3, r4, hcs⟩ := fl_put hR 0 0 0 0 0
    have HF := Lib.hid (fresh_set hC hcs (Nat.le_refl _))
    have RR := Lib.hid (And.intro r0 (And.intro r1 (And.intro r2 (And.intro r3 r4))))
    clear r0 r1 r2 r3 r4 hcs hR hC
    go_wp2_with fail
    obtain ⟨r0, r1, r2, r3, r4⟩ := RR.out
    exact bodyPost_ret (v := .tuple #[zeroL, .slice none 0 0, .int .i64 14]) (by simp [results, Tryd.results15, go_sem, zeroL, r0, r1, r2, r3, r4]) rfl (parsed_no HP.out (by decide) rfl HF.out)
  have HP := Lib.hid (HYES.out (by rw [HE9.out]; simp; omega))
  have hd12 := ((HH.out.chg HC.out (fun _ _ => id)).drop 12 c (by omega) hc).old
  rw [if_neg (by omega), ← bcs_drop] at hd12
  have RCELLS : Hid (True) := trivial
  have hrd : Rd 48 false (wq.alloc (.cells #[.slice (some { block := a.block, off := a.off + 12 }) (n - 12) (c - 12), .bool false] 48)) wq.heap.size (fun k => S k ∧ k < wq.heap.size) (some (b.drop 12)) :=
    ⟨fun h => by have := h.2; omega, some (a.add 12), n - 12, c - 12, false, b.drop 12, heap_alloc_new wq _, by omega, by have := HCM.out; omega, by rw [List.length_drop, HN.out], hd12.alloc _, rfl, rfl⟩
  have hR := HR.out.alloc (.cells #[.slice (some { block := a.block, off := a.off + 12 }) (n - 12) (c - 12), .bool false] 48)
  have hC := HC.out.alloc (.cells #[.slice (some { block := a.block, off := a.off + 12 }) (n - 12) (c - 12), .bool false] 48)
  have b9r := cell_kept b9 ((Chg.refl (fun _ => False) wq).alloc (.cells #[.slice (some { block := a.block, off := a.off + 12 }) (n - 12) (c - 12), .bool false] 48))
  have hz9 := HR.out.lt
  have HE9b := Lib.hid (show ((x9 : Int) != 6) = false ∨ (((x9 : Int) != 6) = true ∧ ((x9 : Int) != 17) = false) by
    rcases k6 with rfl | rfl
    · exact .inl rfl
    · exact .inr ⟨rfl, rfl⟩)
  have HG0 := Lib.hid (rget_four wq.heap.size _ b 12 (wq.alloc (.cells #[.slice (some { block := a.block, off := a.off + 12 }) (n - 12) (c - 12), .bool false] 48)).drew (hrd.chg (Chg.refl (fun _ => False) _).drew id (fun _ _ => id)) (by have := HL.out; omega))
  have HG1 := Lib.hid (rget_four wq.heap.size _ b 12 ((wq.alloc (.cells #[.slice (some { block := a.block, off := a.off + 12 }) (n - 12) (c - 12), .bool false] 48)).alloc (.cells #[.int .i64 0, .int .u32 0, .int .u32 0, .int .i64 0, .int .i64 0] 24)).drew (hrd.chg ((Chg.refl (fun _ => False) _).alloc (.cells #[.int .i64 0, .int .u32 0, .int .u32 0, .int .i64 0, .int .i64 0] 24)).drew id (fun _ _ => id)) (by have := HL.out; omega))
  have HQ1 := Lib.hid (show Blk ((wq.alloc (.cells #[.slice (some { block := a.block, off := a.off + 12 }) (n - 12) (c - 12), .bool false] 48)).alloc (.cells #[.int .i64 0, .int .u32 0, .int .u32 0, .int .i64 0, .int .i64 0] 24)).drew (wq.heap.size + 1) 24 (flC 0 0 0 0 0) from (blk_new (by simp)).drew)
  have HCA := Lib.hid (((Chg.refl (fun _ => False) wq).alloc (.cells #[.slice (some { block := a.block, off := a.off + 12 }) (n - 12) (c - 12), .bool false] 48)).alloc (.cells #[.int .i64 0, .int .u32 0, .int .u32 0, .int .i64 0, .int .i64 0] 24)).drew
  have HCB := Lib.hid ((Chg.refl (fun _ => False) wq).alloc (.cells #[.slice (some { block := a.block, off := a.off + 12 }) (n - 12) (c - 12), .bool false] 48)).drew
  have HSZ := Lib.hid (show (wq.alloc (.cells #[.slice (some { block := a.block, off := a.off + 12 }) (n - 12) (c - 12), .bool false] 48)).drew.heap.size = wq.heap.size + 1 by show (wq.alloc (.cells #[.slice (some { block := a.block, off := a.off + 12 }) (n - 12) (c - 12), .bool false] 48)).heap.size = _; simp)
  have b9d : (wq.alloc (.cells #[.slice (some { block := a.block, off := a.off + 12 }) (n - 12) (c - 12), .bool false] 48)).drew.cell? { block := a.block, off := a.off + 9 } = some (.int .u8 (x9 : Int)) := b9r
  clear hrd hR hC k6 b9r
  have w9 : IntKind.i64.wrap (x9 : Int) = (x9 : Int) := IntWalk.i64_in _ (by omega)
  have w12 : IntKind.u32.wrap (nAt b 12 4) = nAt b 12 4 := by rw [IntKind.wrap_u32']; omega
  rcases HE9b.out with s6 | ⟨s6, s17⟩
  all_goals
    go_upto_region 8 with fail
    go_cut [6] (fun s6 wx => ∃ q, s6 = .pointer (some ⟨q, 0, none⟩) ∧ wq.heap.size < q ∧ Blk wx q 24 (flC (x9 : Int) (nAt b 12 4) 0 0 0) ∧ Rd 48 false wx wq.heap.size (fun k => S k ∧ k < wq.heap.size) (some (b.drop 16)) ∧ Chg (fun _ => False) wq wx)
    case first =>
      go_region_held3 (fun w' => w'.cell? { block := a.block, off := a.off + 9 } = some (.int .u8 (x9 : Int)))
        (first | with_reducible exact b9d | with_reducible exact cell_kept b9 HC5.out | with_reducible exact cell_kept b9 (HC5.out.alloc _) | with_reducible exact cell_kept b9 HCA.out | with_reducible exact cell_kept b9 HCS.out | fail)
        (first
          | (go_at_call 23; (with_reducible refine HG0.out.mono ?_); rintro e w5 ⟨rfl, hrd5, hc5⟩; have HRD5 := Lib.hid hrd5; have HC5 := Lib.hid (fresh_set HCB.out hc5 (Nat.le_refl _)); have HS5 := Lib.hid (And.intro hc5.size True.intro); clear hrd5 hc5)
          | (go_at_call 23; (with_reducible refine HG1.out.mono ?_); rintro e w5 ⟨rfl, hrd5, hc5⟩; have HRD5 := Lib.hid hrd5; have HC5 := Lib.hid (fresh_set HCA.out hc5 (Nat.le_refl _)); have HQ5 := Lib.hid (HQ1.out.chg hc5 (by omega)); obtain ⟨z0, z1, z2, z3, z4⟩ := fl_cells HQ5.out; obtain ⟨u0, u1, u2, u3, u4⟩ := fl_free HQ5.out; obtain ⟨_, _, _, _, _, hcs⟩ := fl_put HQ5.out (x9 : Int) (nAt b 12 4) 0 0 0; have HCS0 := Lib.hid hcs; have HCS := Lib.hid (fresh_set HC5.out hcs (Nat.le_succ _)); clear hrd5 hc5 hcs)
          | fail)
      all_goals
        go_wp2_with fail
        go_meet
        first
          | (have hq5 := HQ5.out; exact ⟨wq.heap.size + 1, rfl, Nat.lt_succ_self _, fl_set hq5 _ _ _ _ _, HRD5.out.chg HCS0.out (by omega) (fun k hk e => by have := hk.2; omega), HCS.out⟩)
          | (have hs5 := HS5.out.1; have hsz := HSZ.out; exact ⟨w5.heap.size, rfl, by omega, blk_new rfl, HRD5.out.chg ((Chg.refl (fun _ => False) w5).alloc _) id (fun _ _ => id), HC5.out.alloc _⟩)
    case rest =>
      obtain ⟨q, rfl, hq, hA, hrd, hC⟩ := hcut
      clear HG0 HG1 HQ1 HCA HCB HSZ b9d w9 w12
      have HG := Lib.hid (rget_stepK wq.heap.size _ b 16 4 _ hrd (by decide) (by decide) (by have := HL.out; omega))
      have HAb := Lib.hid hA
      have HCb := Lib.hid hC
      clear hrd hC hA
      go_wp2_with fail
      try clear y0 y1 y2 y3 y4 f0 f1 f2 f3 f4
      refine HG.out.mono ?_
      rintro e w6 ⟨rfl, hrd, hc'⟩
      have hC := fresh_set HCb.out hc' (Nat.le_refl _)
      have hA := HAb.out.chg hc' (by omega)
      clear HG HCb HAb hc'
      obtain ⟨y0, y1, y2, y3, y4⟩ := fl_cells hA
      obtain ⟨f0, f1, f2, f3, f4⟩ := fl_free hA
      have hcs := (Chg.refl (fun k => k = q) w6).put q 2 (fun _ => rfl) (.int .u32 (nAt b 16 4))
      have hC := fresh_set hC hcs (Nat.le_of_lt hq)
      have hA := hA.set 2 (.int .u32 (nAt b 16 4))
      have hrd := hrd.chg hcs (by omega) (fun k hk e => by have := hk.2; omega)
      simp only [flC, List.setIfInBounds_toArray, List.set_cons_succ, List.set_cons_zero] at hA
      have hA : Blk _ _ 24 (flC (x9 : Int) (nAt b 12 4) (nAt b 16 4) 0 0) := hA
      clear hcs
      have HG := Lib.hid (rget_stepK wq.heap.size _ b 20 2 _ hrd (by decide) (by decide) (by have := HL.out; omega))
      have HAb := Lib.hid hA
      have HCb := Lib.hid hC
      clear hrd hC hA
      go_wp2_with fail
      try clear y0 y1 y2 y3 y4 f0 f1 f2 f3 f4
      refine HG.out.mono ?_
      rintro e w7 ⟨rfl, hrd, hc'⟩
      have hC := fresh_set HCb.out hc' (Nat.le_refl _)
      have hA := HAb.out.chg hc' (by omega)
      clear HG HCb HAb hc'
      obtain ⟨y0, y1, y2, y3, y4⟩ := fl_cells hA
      obtain ⟨f0, f1, f2, f3, f4⟩ := fl_free hA
      have hcs := (Chg.refl (fun k => k = q) w7).put q 3 (fun _ => rfl) (.int .i64 (nAt b 20 2))
      have hC := fresh_set hC hcs (Nat.le_of_lt hq)
      have hA := hA.set 3 (.int .i64 (nAt b 20 2))
      have hrd := hrd.chg hcs (by omega) (fun k hk e => by have := hk.2; omega)
      simp only [flC, List.setIfInBounds_toArray, List.set_cons_succ, List.set_cons_zero] at hA
      have hA : Blk _ _ 24 (flC (x9 : Int) (nAt b 12 4) (nAt b 16 4) (nAt b 20 2) 0) := hA
      clear hcs
      have HG := Lib.hid (rget_stepK wq.heap.size _ b 22 2 _ hrd (by decide) (by decide) (by have := HL.out; omega))
      have HAb := Lib.hid hA
      have HCb := Lib.hid hC
      clear hrd hC hA
      go_wp2_with fail
      try clear y0 y1 y2 y3 y4 f0 f1 f2 f3 f4
      refine HG.out.mono ?_
      rintro e w8 ⟨rfl, hrd, hc'⟩
      have hC := fresh_set HCb.out hc' (Nat.le_refl _)
      have hA := HAb.out.chg hc' (by omega)
      clear HG HCb HAb hc'
      obtain ⟨y0, y1, y2, y3, y4⟩ := fl_cells hA
      obtain ⟨f0, f1, f2, f3, f4⟩ := fl_free hA
      have hcs := (Chg.refl (fun k => k = q) w8).put q 4 (fun _ => rfl) (.int .i64 (nAt b 22 2))
      have hC := fresh_set hC hcs (Nat.le_of_lt hq)
      have hA := hA.set 4 (.int .i64 (nAt b 22 2))
      have hrd := hrd.chg hcs (by omega) (fun k hk e => by have := hk.2; omega)
      simp only [flC, List.setIfInBounds_toArray, List.set_cons_succ, List.set_cons_zero] at hA
      have hA : Blk _ _ 24 (flC (x9 : Int) (nAt b 12 4) (nAt b 16 4) (nAt b 20 2) (nAt b 22 2)) := hA
      clear hcs
      have HAb := Lib.hid hA
      have HCb := Lib.hid hC
      have HRDb := Lib.hid hrd
      clear hrd hC hA
      go_wp2_with fail
      generalize (w8.setCell ⟨q, 4, none⟩ (.int .i64 (nAt b 22 2))) = wz at *
      have HREST := Lib.hid (rrest_any wq.heap.size _ _ wz.drew (HRDb.out.chg (Chg.refl (fun _ => False) wz).drew id (fun _ _ => id)) (fun b' hb' => by injection hb' with hb'; subst hb'; have := HN.out; rw [List.length_drop]; omega))
      clear y0 y1 y2 y3 y4 f0 f1 f2 f3 f4 HRDb
      obtain ⟨y0, y1, y2, y3, y4⟩ := fl_cells HAb.out
      refine wp_region_noPanic ?_
      refine wp_region_held_drew (S := (fun w' => w'.cell? ⟨q, 0, none⟩ = some (.int .i64 (x9 : Int)) ∧ w'.cell? ⟨q, 1, none⟩ = some (.int .u32 (nAt b 12 4)) ∧ w'.cell? ⟨q, 2, none⟩ = some (.int .u32 (nAt b 16 4)) ∧ w'.cell? ⟨q, 3, none⟩ = some (.int .i64 (nAt b 20 2)) ∧ w'.cell? ⟨q, 4, none⟩ = some (.int .i64 (nAt b 22 2)))) (by kernel_rfl) ⟨y0, y1, y2, y3, y4⟩ (fun hHeld => ?_)
      refine wpAnyH_take (i := 0) (v := ?_) rfl (by kernel_rfl) (by kernel_rfl) (by kernel_rfl) (fun _ _ _ h => h) (Or.inl ⟨by rfl, ?_⟩) (by assumption) ?_
      rotate_left
      · intro w' hSw
        try dsimp only at hSw
        go_simp
        first | done | (with_reducible rfl)
      try simp only [List.getElem_toArray, List.getElem_cons_succ, List.getElem_cons_zero, Act.put, List.setIfInBounds_toArray, List.set_cons_zero, List.set_cons_succ]
      refine wpAnyH_take (i := 1) (v := ?_) rfl (by kernel_rfl) (by kernel_rfl) (by kernel_rfl) (fun _ _ _ h => h) (Or.inl ⟨by rfl, ?_⟩) (by assumption) ?_
      rotate_left
      · intro w' hSw
        try dsimp only at hSw
        go_simp
        first | done | (with_reducible rfl)
      try simp only [List.getElem_toArray, List.getElem_cons_succ, List.getElem_cons_zero, Act.put, List.setIfInBounds_toArray, List.set_cons_zero, List.set_cons_succ]
      refine wpAnyH_ready (rs := [2]) (by kernel_rfl) (by simp) ?_
      refine AllReadyH.cons rfl (fun K hK => ?_) AllReadyH.nil
      go_simp
      refine HREST.out.mono ?_
      rintro e w9 ⟨D, dk, dc, rfl, hdk, hrds, _, hc9⟩
      have HC9 := Lib.hid (fresh_set HCb.out ((Chg.refl (fun k => k = wq.heap.size) wz).drew.trans hc9 (fun _ _ e => e)) (Nat.le_refl _))
      have HA9 := Lib.hid (HAb.out.chg ((Chg.refl (fun k => k = wq.heap.size) wz).drew.trans hc9 (fun _ _ e => e)) (by omega))
      have HD9 := Lib.hid hrds
      have HDK := Lib.hid hdk
      have HR9 := Lib.hid (HR.out.chg HC9.out id)
      clear hc9 hrds hdk y0 y1 y2 y3 y4 HREST HAb
      go_wp2_with fail
      refine hK.out _ _ (fl_cells HA9.out) (fun hHeld => ?_)
      clear hK K
      try simp only [List.getElem_toArray, List.getElem_cons_succ, List.getElem_cons_zero, Act.put, List.setIfInBounds_toArray, List.set_cons_zero, List.set_cons_succ]
      obtain ⟨z0, z1, z2, z3, z4⟩ := fl_cells HR9.out
      obtain ⟨u0, u1, u2, u3, u4⟩ := fl_free HR9.out
      obtain ⟨r0, r1, r2, r3, r4, hcs5⟩ := fl_put HR9.out (x9 : Int) (nAt b 12 4) (nAt b 16 4) (nAt b 20 2) (nAt b 22 2)
      have RR := Lib.hid (And.intro r0 (And.intro r1 (And.intro r2 (And.intro r3 r4))))
      have HCS := Lib.hid hcs5
      clear r0 r1 r2 r3 r4 hcs5
      refine wpAnyH_ready (rs := [3]) (by kernel_rfl) (by simp) ?_
      refine AllReadyH.cons rfl (fun K hK => ?_) AllReadyH.nil
      go_simp
      refine hK.out _ _ (fl_cells (HA9.out.chg HCS.out (by omega))) (fun hHeld => ?_)
      clear hK K
      try simp only [List.getElem_toArray, List.getElem_cons_succ, List.getElem_cons_zero, Act.put, List.setIfInBounds_toArray, List.set_cons_zero, List.set_cons_succ]
      refine wpAnyH_take (i := 4) (v := ?_) rfl (by kernel_rfl) (by kernel_rfl) (by kernel_rfl) (fun _ _ _ h => h) (Or.inl ⟨by rfl, ?_⟩) (by assumption) ?_
      rotate_left
      · intro w' hSw
        try dsimp only at hSw
        go_simp
        first | done | (with_reducible rfl)
      try simp only [List.getElem_toArray, List.getElem_cons_succ, List.getElem_cons_zero, Act.put, List.setIfInBounds_toArray, List.set_cons_zero, List.set_cons_succ]
      refine wpAnyH_take (i := 5) (v := ?_) rfl (by kernel_rfl) (by kernel_rfl) (by kernel_rfl) (fun _ _ _ h => h) (Or.inl ⟨by rfl, ?_⟩) (by assumption) ?_
      rotate_left
      · intro w' hSw
        try dsimp only at hSw
        go_simp
        first | done | (with_reducible rfl)
      try simp only [List.getElem_toArray, List.getElem_cons_succ, List.getElem_cons_zero, Act.put, List.setIfInBounds_toArray, List.set_cons_zero, List.set_cons_succ]
      refine wpAnyH_done (by kernel_rfl) ?_ _
      refine NoPanic.normal ?_
      clear z0 z1 z2 z3 z4 u0 u1 u2 u3 u4
      go_wp2_with fail
      obtain ⟨r0, r1, r2, r3, r4⟩ := RR.out
      have hsz := HC.out.size
      have hszb : wq.heap.size ≤ wz.drew.heap.size := HCb.out.size
      have hrds := HD9.out.chg HCS.out (fun k hk e => by omega)
      have hdk : dk = b.length - 24 := by rw [HDK.out]; show (b.drop 24).length = _; rw [List.length_drop]
      exact bodyPost_ret (v := .tuple #[.agg #[.int .i64 (x9 : Int), .int .u32 (nAt b 12 4), .int .u32 (nAt b 16 4), .int .i64 (nAt b 20 2), .int .i64 (nAt b 22 2)], .slice D dk dc, .int .i64 0]) (by simp [results, Tryd.results15, go_sem, r0, r1, r2, r3, r4]) rfl
        (parsed_yes HP.out (by rw [HE9.out]) hdk (hrds.mono (fun k hk => by omega)) (fresh_set (HC.out.trans HC9.out (fun _ _ e => e)) HCS.out (Nat.le_refl _)))

theorem rparse4_any (A : Option Addr) (n c : Nat) (b : List UInt8) (S : Nat → Prop) (w : World) (hn : n = b.length) (h : Rds w S A n (bcs b)) (hc : n ≤ c) (hcm : c ≤ maxLen) (hb : n ≤ 100000) :
    Calls Tryd.prog 15 #[.slice A n c] w (Parsed b w) := by
  by_cases h24 : n < 24
  · exact rparse4_short A n c b w hn h24
  · exact rparse4_long A n c b S w hn h (by omega) hc hcm hb

end Go.Proofs.YtecnicbicbgapaaDoor
