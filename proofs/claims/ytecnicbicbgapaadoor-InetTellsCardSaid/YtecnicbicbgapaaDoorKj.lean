/-
  Walk: rutterlaw04.alive. Conditions: the table of widths reads as its initialiser lays it.
-/
import Derived.Test.YtecnicbicbgapaaDoorKi
import Derived.Test.YtecnicbicbgapaaDoorKh
import Derived.Laws.StructEq
import Derived.Lib.SmallJoins
namespace Go.Proofs.YtecnicbicbgapaaDoor
open Go.RowKit
set_option linter.unusedVariables false

theorem parsed_back {pr src dst sp dp : Int} {l : List UInt8} (hr : flR pr sp dp = true) (hs : 0 ≤ src ∧ src ≤ 4294967295) (hd : 0 ≤ dst ∧ dst ≤ 4294967295) (hl : l.length ≤ 1400) {w : World} {e : Ending} {w' : World} (h : Parsed (dgB pr src dst sp dp l) w e w') :
    ∃ A c, e = .returned (.tuple #[.agg #[.int .i64 pr, .int .u32 src, .int .u32 dst, .int .i64 sp, .int .i64 dp], .slice A l.length c, .int .i64 0]) ∧ Rds w' (fun j => w.heap.size ≤ j) A l.length (bcs l) ∧ Chg (fun _ => False) w w' := by
  obtain ⟨h0, h1, h2, h3, h4, h5, h6, h7⟩ := dg_parse pr src dst sp dp l hr hs hd hl
  obtain ⟨A, k, c, rfl, hk, hrd, hc⟩ := h
  have e1 : ∀ i k, pN (dgB pr src dst sp dp l) i k = nAt (dgB pr src dst sp dp l) i k := fun i k => by unfold pN; rw [if_pos h0]
  have e2 : pB (dgB pr src dst sp dp l) = l := by unfold pB; rw [if_pos h0, h6]
  rw [e2] at hk hrd
  subst hk
  refine ⟨A, c, ?_, hrd, hc⟩
  rw [e1, e1, e1, e1, e1, h0, h1, h2, h3, h4, h5]
  rfl
theorem dg_twenty {w : World} {base c k : Nat} {A : Option Addr} {pr src dst sp dp : Int} {l : List UInt8} (h : w.ownsRow base 5 1 (.slice A k c) k (bcs (dgB pr src dst sp dp l))) (hk : 20 ≤ k) (hr : flR pr sp dp = true) (hs : 0 ≤ src ∧ src ≤ 4294967295) (hd : 0 ≤ dst ∧ dst ≤ 4294967295) (hl : l.length ≤ 1400) :
    Rds w (fun j => base ≤ j ∧ j < w.heap.size) A 20 (bcs (hdB (24 + (l.length : Int)) pr (ckOf (24 + (l.length : Int)) pr src dst) src dst)) := by
  obtain ⟨_, _, _, _, _, _, _, h7⟩ := dg_parse pr src dst sp dp l hr hs hd hl
  have h2 := (own_rds2 h).take 20 hk
  rwa [← bcs_take, h7] at h2

theorem stF : Tryd.prog.underlying 24 = some (.struct (Tryd.prog.fieldsOf 24)) := by kernel_rfl
theorem hpF : Tryd.prog.stoodInHeld 24 = false := by kernel_rfl
theorem eqF (W : World) (o s t p q : Int) : (binOp .eql 24 (.agg #[.int .i64 o, .int .u32 s, .int .u32 t, .int .i64 p, .int .i64 q]) (.agg #[.int .i64 o, .int .u32 s, .int .u32 t, .int .i64 p, .int .i64 q])).run Tryd.prog W = .ok (.bool true) W := by
  rw [run_eql_struct, show (10000 : Nat) = 9999 + 1 from rfl, run_equalIn_agg W 9999 24 _ _ stF hpF]
  go_simp
theorem neF (W : World) (o s t p q : Int) : (binOp .neq 24 (.agg #[.int .i64 o, .int .u32 s, .int .u32 t, .int .i64 p, .int .i64 q]) (.agg #[.int .i64 o, .int .u32 s, .int .u32 t, .int .i64 p, .int .i64 q])).run Tryd.prog W = .ok (.bool false) W := by
  rw [run_neq_struct, show (10000 : Nat) = 9999 + 1 from rfl, run_equalIn_agg W 9999 24 _ _ stF hpF]
  go_simp

theorem chk123 : chkB [1, 2, 3] = 64509 := by
  unfold chkB
  have e : csum true [1, 2, 3] = 1026 := rfl
  rw [e]
  rfl

set_option maxHeartbeats 2000000 in
theorem alive4_any (w : World) (hg : Gw w) : Calls Tryd.prog 5 #[] w fun e w' => e = .returned (.bool true) ∧ Chg (fun _ => False) w w' := by
  have hf0 : Blk (w.alloc (.cells #[.int .i64 17, .int .u32 1, .int .u32 2, .int .i64 3, .int .i64 4] 24)) w.heap.size 24 (flC 17 1 2 3 4) := blk_new rfl
  have hz1 : (w.alloc (.cells #[.int .i64 17, .int .u32 1, .int .u32 2, .int .i64 3, .int .i64 4] 24)).heap.size = w.heap.size + 1 := by simp
  have hc0 := ((Chg.refl (fun _ => False) w).alloc (.cells #[.int .i64 17, .int .u32 1, .int .u32 2, .int .i64 3, .int .i64 4] 24)).alloc (.cells #[.int .u8 104, .int .u8 105] 5 (2, 3))
  have hf1 := hf0.alloc (.cells #[.int .u8 104, .int .u8 105] 5 (2, 3))
  have hri := rds_new1 (w.alloc (.cells #[.int .i64 17, .int .u32 1, .int .u32 2, .int .i64 3, .int .i64 4] 24)) 5 #[.int .u8 104, .int .u8 105] (2, 3) (w.heap.size + 1) (by simp) (bcs [104, 105]) 2 rfl rfl
  have HMK := Lib.hid (make_ok 17 1 2 3 4 _ 2 2 [104, 105] _ _ (hg.chg hc0 id) rfl hri (by decide) rfl (by decide) (by decide))
  have kc := Go.Joins.run_convert_bytes_const_at (P := Tryd.prog) (w.alloc (.cells #[.int .i64 17, .int .u32 1, .int .u32 2, .int .i64 3, .int .i64 4] 24)) 25 5 #[.int .u8 104, .int .u8 105] 2 2 (w.heap.size + 1) hz1.symm Tryd.underlying25 Tryd.underlying5
  have HF1 := Lib.hid hf1
  have HC0 := Lib.hid hc0
  have HG := Lib.hid hg
  have HE := Lib.hid eqF
  unfold flC at HMK
  clear hf0 hc0 hf1 hri hg hz1
  go_enter Tryd.func5, Tryd.ntmps5
  go_wp2_with fail
  refine HMK.out.mono ?_
  rintro e w1 ⟨A, k, c, rfl, rfl, hown, hc1⟩
  have hcap := own_cap hown
  have HC1 := Lib.hid (HC0.out.trans hc1 (fun _ _ e => e))
  have HF2 := Lib.hid (HF1.out.chg hc1 id)
  have HP := Lib.hid (iparse_any A 26 c (dgB 17 1 2 3 4 [104, 105]) _ w1 (HG.out.chg (HC0.out.trans hc1 (fun _ _ e => e)) id) (by rw [dgB_len]; rfl) (own_rds2 hown) hcap.1 hcap.2 (by decide))
  have HT := Lib.hid (dg_twenty hown (by decide) rfl (by decide) (by decide) (by decide))
  have hb20 : (20 : Int) ≤ (c : Int) := by omega
  clear HMK kc hown hc1 HF1 HC0 hcap
  go_wp2_with fail
  refine HP.out.mono ?_
  intro e w2 hp
  obtain ⟨A2, c2, rfl, hrd2, hc2⟩ := parsed_back rfl (by decide) (by decide) (by decide) hp
  have hrd2 : Rds w2 _ A2 2 (bcs [104, 105]) := hrd2
  have HC2 := Lib.hid (HC1.out.trans hc2 (fun _ _ e => e))
  have hf2 := (HF2.out.chg hc2 id).alloc (.cells #[.int .i64 17, .int .u32 1, .int .u32 2, .int .i64 3, .int .i64 4] 24)
  have hh2 : Blk (w2.alloc (.cells #[.int .i64 17, .int .u32 1, .int .u32 2, .int .i64 3, .int .i64 4] 24)) w2.heap.size 24 (flC 17 1 2 3 4) := blk_new rfl
  have hT2 := (HT.out.chg hc2 (fun _ _ => id)).alloc (.cells #[.int .i64 17, .int .u32 1, .int .u32 2, .int .i64 3, .int .i64 4] 24)
  have s2 := conv_any (c := c2) (hrd2.alloc (.cells #[.int .i64 17, .int .u32 1, .int .u32 2, .int .i64 3, .int .i64 4] 24))
  have HC3 := Lib.hid (HC2.out.alloc (.cells #[.int .i64 17, .int .u32 1, .int .u32 2, .int .i64 3, .int .i64 4] 24))
  obtain ⟨x0, x1, x2, x3, x4⟩ := fl_cells hf2
  obtain ⟨y0, y1, y2, y3, y4⟩ := fl_cells hh2
  have HCK := Lib.hid (check_any A 20 c _ _ _ (hdB_len _ _ _ _ _).symm hT2 (by decide))
  rw [ck_zero] at HCK
  have HF3 := Lib.hid hf2
  have he := eqF
  clear hp hrd2 hc2 hf2 hh2 hT2 HC1 HF2 HP HT HC2
  go_wp2_with fail
  refine HCK.out.mono ?_
  rintro e w3 ⟨rfl, hw3⟩
  subst hw3
  have hr3 := rds_new1 (w2.alloc (.cells #[.int .i64 17, .int .u32 1, .int .u32 2, .int .i64 3, .int .i64 4] 24)) 5 #[.int .u8 1, .int .u8 2, .int .u8 3] (0, 0) (w2.heap.size + 1) (by simp) (bcs [1, 2, 3]) 3 rfl rfl
  have HC3 := Lib.hid (HC3.out.alloc (.cells #[.int .u8 1, .int .u8 2, .int .u8 3] 5))
  have hf3 := HF3.out.alloc (.cells #[.int .u8 1, .int .u8 2, .int .u8 3] 5)
  have HCK3 := Lib.hid (check_any _ 3 3 [1, 2, 3] _ _ rfl hr3 (by decide))
  rw [chk123] at HCK3
  have HF4 := Lib.hid hf3
  clear hr3 hf3 HF3 HCK
  go_wp2_with fail
  refine HCK3.out.mono ?_
  rintro e w4 ⟨rfl, hw4⟩
  subst hw4
  clear x0 x1 x2 x3 x4 y0 y1 y2 y3 y4 HCK3 he s2
  obtain ⟨x0, x1, x2, x3, x4⟩ := fl_cells HF4.out
  go_wp2_with fail
  have hfd : ∀ W, (Instr.field 24 (.agg #[.int .i64 17, .int .u32 2, .int .u32 1, .int .i64 4, .int .i64 3]) 1).run Tryd.prog W = .ok (.int .u32 2) W := fun _ => by kernel_rfl
  refine (iback_any 17 1 2 3 4 _).mono ?_
  unfold flC
  rintro e w5 ⟨rfl, hc5⟩
  go_wp2_with fail
  go_ret
  exact ⟨rfl, HC3.out.trans hc5 (fun _ _ e => e)⟩

end Go.Proofs.YtecnicbicbgapaaDoor
