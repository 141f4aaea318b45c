/-
  Walks: inet.Make and its closure. Conditions: the body is read in memory; the table of widths reads as its initialiser lays it.
-/
import Derived.Test.YtecnicbicbgapaaDoorKc
import Derived.Deep.RegionHeld3
import Derived.Deep.DeepCutAuto
namespace Go.Proofs.YtecnicbicbgapaaDoor
open Go.RowKit
set_option linter.unusedVariables false

theorem fl_right {pr sp dp : Int} (h : flR pr sp dp = true) : (pr = 6 ∨ pr = 17) ∧ (0 ≤ sp ∧ sp ≤ 65535) ∧ 0 ≤ dp ∧ dp ≤ 65535 := by
  unfold flR portB at h
  simp only [Bool.and_eq_true, Bool.or_eq_true, decide_eq_true_eq, beq_iff_eq] at h
  exact h
theorem dgL_fits (n pr ck src dst sp dp : Int) (hn : 0 ≤ n ∧ n ≤ 65535) (hp : 0 ≤ pr ∧ pr ≤ 255) (hc : 0 ≤ ck ∧ ck ≤ 65535) (hs : 0 ≤ src ∧ src ≤ 4294967295) (hd : 0 ≤ dst ∧ dst ≤ 4294967295) (h1 : 0 ≤ sp ∧ sp ≤ 65535) (h2 : 0 ≤ dp ∧ dp ≤ 65535) :
    (∀ k, k < 12 → fits (wds.getD k 0) ((dgL n pr ck src dst sp dp).getD k 0) = true) ∧ ∀ x ∈ dgL n pr ck src dst sp dp, -9223372036854775808 ≤ x ∧ x ≤ 9223372036854775807 := by
  constructor
  · intro k hk
    have hk' : k = 0 ∨ k = 1 ∨ k = 2 ∨ k = 3 ∨ k = 4 ∨ k = 5 ∨ k = 6 ∨ k = 7 ∨ k = 8 ∨ k = 9 ∨ k = 10 ∨ k = 11 := by omega
    rcases hk' with rfl | rfl | rfl | rfl | rfl | rfl | rfl | rfl | rfl | rfl | rfl | rfl <;> simp [wds, dgL, fits] <;> omega
  · intro x hx
    simp only [dgL, List.mem_cons, List.mem_nil_iff, or_false] at hx
    rcases hx with rfl | rfl | rfl | rfl | rfl | rfl | rfl | rfl | rfl | rfl | rfl | rfl <;> omega

/-- What the closure hands back, and its world. -/
def Headed (b : List UInt8) (w : World) (e : Ending) (w' : World) : Prop :=
  ∃ A c, e = .returned (.slice A 24 c) ∧ w'.ownsRow w.heap.size 5 1 (.slice A 24 c) 24 (bcs b) ∧ Chg (fun _ => False) w w'

set_option maxHeartbeats 1000000 in
theorem with_any (pr src dst sp dp ck : Int) (A : Option Addr) (n c pb pf : Nat) (w : World) (hg : Gw w) (hb : Blk w pb 25 #[.slice A n c]) (hf : Blk w pf 24 (flC pr src dst sp dp))
    (hn : n ≤ 1400) (hr : flR pr sp dp = true) (hs : 0 ≤ src ∧ src ≤ 4294967295) (hd : 0 ≤ dst ∧ dst ≤ 4294967295) (hc : 0 ≤ ck ∧ ck ≤ 65535) :
    Calls Tryd.prog 16 #[.int .i64 ck, .pointer (some ⟨pb, 0, none⟩), .pointer (some ⟨pf, 0, none⟩)] w (Headed (ahB (24 + (n : Int)) pr ck src dst sp dp) w) := by
  obtain ⟨hp, h1, h2⟩ := fl_right hr
  obtain ⟨hfit, hint⟩ := dgL_fits (24 + (n : Int)) pr ck src dst sp dp (by omega) (by omega) hc hs hd h1 h2
  have b0 := hb.cell 0
  simp only [List.getElem?_toArray, List.getElem?_cons_zero] at b0
  obtain ⟨x0, x1, x2, x3, x4⟩ := fl_cells hf
  have HFIT := Lib.hid hfit
  have HINT := Lib.hid hint
  have HG := Lib.hid hg
  clear hfit hint hg hb hf hr
  go_enter Tryd.func16, Tryd.ntmps16
  go_wp2_with fail
  have hcc := (Chg.refl (fun _ => False) w).alloc (.cells #[.int .i64 69, .int .i64 0, .int .i64 (24 + (n : Int)), .int .i64 0, .int .i64 0, .int .i64 64, .int .i64 pr, .int .i64 ck, .int .i64 src, .int .i64 dst, .int .i64 sp, .int .i64 dp] 3)
  refine (head_any _ 12 (dgL (24 + (n : Int)) pr ck src dst sp dp) _ _ (HG.out.chg hcc id) (rds_new1 w 3 _ (0, 0) _ rfl _ _ rfl rfl) rfl HFIT.out HINT.out).mono ?_
  rintro e w2 ⟨A2, k, c2, rfl, hk, hown, hc2⟩
  rw [putW_dg] at hk hown
  rw [ahB_len] at hk
  subst hk
  have HF := Lib.hid (And.intro (own_base hown hcc.size) (hcc.trans hc2 (fun _ _ e => e)))
  clear hown hcc hc2
  go_wp2_with fail
  go_ret
  exact ⟨A2, c2, rfl, HF.out⟩

set_option maxHeartbeats 1000000 in
theorem make_bad (pr src dst sp dp : Int) (A : Option Addr) (n c : Nat) (w : World) (hn : n ≤ 9223372036854775807) (hr : flR pr sp dp = false ∨ 1400 < n) :
    Calls Tryd.prog 6 #[.agg (flC pr src dst sp dp), .slice A n c] w fun e w' => e = .returned (.tuple #[.slice none 0 0, .int .i64 1]) ∧ Chg (fun _ => False) w w' := by
  have hC0 := ((Chg.refl (fun _ => False) w).alloc (.cells #[.int .i64 pr, .int .u32 src, .int .u32 dst, .int .i64 sp, .int .i64 dp] 24)).alloc (.cells #[.slice A n c] 25)
  have hb0 : Blk ((w.alloc (.cells #[.int .i64 pr, .int .u32 src, .int .u32 dst, .int .i64 sp, .int .i64 dp] 24)).alloc (.cells #[.slice A n c] 25)) (w.heap.size + 1) 25 #[.slice A n c] := blk_new (by simp)
  have HR := Lib.hid (fun W => iright_any pr src dst sp dp W)
  have HC0 := Lib.hid hC0
  have HB0 := Lib.hid hb0
  generalize flR pr sp dp = r at *
  unfold flC at *
  clear hC0 hb0
  cases r with
  | false =>
    clear hr
    go_enter Tryd.func6, Tryd.ntmps6
    go_wp2_with fail
    refine (HR.out _).mono ?_
    rintro e w1 ⟨rfl, hc1⟩
    go_wp2_with fail
    go_ret2
    exact ⟨rfl, HC0.out.trans hc1 (fun _ _ e => e)⟩
  | true =>
    have hn2 : 1400 < n := by simpa using hr
    clear hr
    go_enter Tryd.func6, Tryd.ntmps6
    go_wp2_with fail
    refine (HR.out _).mono ?_
    rintro e w1 ⟨rfl, hc1⟩
    have b0 := (HB0.out.chg hc1 id).cell 0
    simp only [List.getElem?_toArray, List.getElem?_cons_zero] at b0
    go_wp2_with fail
    go_ret2
    exact ⟨rfl, HC0.out.trans hc1 (fun _ _ e => e)⟩

theorem box_kept {w w' : World} {q : Nat} {T : TypeId} {v : Value} (hb : Blk w q T #[v]) (h : Chg (fun _ => False) w w') : w'.cell? ⟨q, 0, none⟩ = some v := by
  have x0 := (hb.chg h id).cell 0
  simp only [List.getElem?_toArray, List.getElem?_cons_zero] at x0
  exact x0
theorem ah_take (n pr ck src dst sp dp : Int) : (ahB n pr ck src dst sp dp).take 20 = hdB n pr ck src dst := List.take_left' (hdB_len n pr ck src dst)
theorem own_twenty {w : World} {base c : Nat} {A : Option Addr} {n pr ck src dst sp dp : Int} (h : w.ownsRow base 5 1 (.slice A 24 c) 24 (bcs (ahB n pr ck src dst sp dp))) : Rds w (fun k => base ≤ k ∧ k < w.heap.size) A 20 (bcs (hdB n pr ck src dst)) := by
  have h2 := (own_rds2 h).take 20 (by decide)
  rwa [← bcs_take, ah_take] at h2

set_option maxHeartbeats 2000000 in
theorem make_ok (pr src dst sp dp : Int) (A : Option Addr) (n c : Nat) (l : List UInt8) (S : Nat → Prop) (w : World) (hg : Gw w) (hn : n = l.length) (h : Rds w S A n (bcs l)) (hn2 : n ≤ 1400)
    (hr : flR pr sp dp = true) (hs : 0 ≤ src ∧ src ≤ 4294967295) (hd : 0 ≤ dst ∧ dst ≤ 4294967295) :
    Calls Tryd.prog 6 #[.agg (flC pr src dst sp dp), .slice A n c] w fun e w' => ∃ A' k c', e = .returned (.tuple #[.slice A' k c', .int .i64 0]) ∧ k = 24 + n ∧
      w'.ownsRow w.heap.size 5 1 (.slice A' k c') k (bcs (dgB pr src dst sp dp l)) ∧ Chg (fun _ => False) w w' := by
  obtain ⟨i0, hi0, hz0, hz1, hz2⟩ := info_parts infoByte
  have hC0 := ((Chg.refl (fun _ => False) w).alloc (.cells #[.int .i64 pr, .int .u32 src, .int .u32 dst, .int .i64 sp, .int .i64 dp] 24)).alloc (.cells #[.slice A n c] 25)
  have hb0 : Blk ((w.alloc (.cells #[.int .i64 pr, .int .u32 src, .int .u32 dst, .int .i64 sp, .int .i64 dp] 24)).alloc (.cells #[.slice A n c] 25)) (w.heap.size + 1) 25 #[.slice A n c] := blk_new (by simp)
  have hf0 : Blk ((w.alloc (.cells #[.int .i64 pr, .int .u32 src, .int .u32 dst, .int .i64 sp, .int .i64 dp] 24)).alloc (.cells #[.slice A n c] 25)) w.heap.size 24 (flC pr src dst sp dp) := (Blk.new _ _ _).alloc _
  have HRT := Lib.hid (fun W => iright_any pr src dst sp dp W)
  rw [hr] at HRT
  have HR := Lib.hid hr
  have HC0 := Lib.hid hC0
  have HB0 := Lib.hid hb0
  have HF0 := Lib.hid hf0
  have HG := Lib.hid (hg.chg hC0 id)
  have HH := Lib.hid ((h.alloc (.cells #[.int .i64 pr, .int .u32 src, .int .u32 dst, .int .i64 sp, .int .i64 dp] 24)).alloc (.cells #[.slice A n c] 25))
  have HN := Lib.hid hn
  have HS := Lib.hid (And.intro hs hd)
  unfold flC at HRT ⊢
  clear hC0 hb0 hf0 hg h hn hr hs hd
  go_enter Tryd.func6, Tryd.ntmps6
  go_wp2_with fail
  refine (HRT.out _).mono ?_
  rintro e w1 ⟨rfl, hc1⟩
  have b0 := (HB0.out.chg hc1 id).cell 0
  simp only [List.getElem?_toArray, List.getElem?_cons_zero] at b0
  have hmf : ∀ (fn : Fn) (first cap : Array Value) (w : World), (Instr.makeFunc fn first cap).run Tryd.prog w = .ok (.func fn first cap) w := fun _ _ _ _ => rfl
  have HB1 := Lib.hid (HB0.out.chg hc1 id)
  have HF1 := Lib.hid (HF0.out.chg hc1 id)
  have HG1 := Lib.hid (HG.out.chg hc1 id)
  have HC1 := Lib.hid (HC0.out.trans hc1 (fun _ _ e => e))
  have HH1 := Lib.hid (HH.out.chg hc1 (fun _ _ => id))
  have hck := chkB_le (hdB (24 + (n : Int)) pr 0 src dst)
  have HCK : Hid (chkB (hdB (24 + (n : Int)) pr 0 src dst) = ckOf (24 + (n : Int)) pr src dst) := rfl
  generalize hx : chkB (hdB (24 + (n : Int)) pr 0 src dst) = ck at *
  have HX := Lib.hid hx
  clear HG HB0 HF0 HC0 HH HRT hc1 hx
  go_wp2_with fail
  go_region_held3 (fun w' => w'.cell? ⟨w.heap.size + 1, 0, none⟩ = some (.slice A n c))
    (first | exact b0 | exact box_kept HB1.out HCA.out | exact box_kept HB1.out HCB.out | exact box_kept HB1.out HC6.out)
    (first
      | (go_at_call 16; (with_reducible refine (with_any pr src dst sp dp 0 A n c _ _ _ (HG1.out.chg (Chg.refl (fun _ => False) w1).drew id) HB1.out.drew HF1.out.drew hn2 HR.out HS.out.1 HS.out.2 (by decide)).mono ?_); rintro e w2 ⟨A2, c2, rfl, hown2, hca⟩; have HCA := Lib.hid ((Chg.refl (fun _ => False) w1).drew.trans hca (fun _ _ e => e)); have hb20 : (20 : Int) ≤ (c2 : Int) := (by have := own_cap hown2; omega); have HTW := Lib.hid (own_twenty hown2); clear hca hown2)
      | (go_at_call 10; (with_reducible refine (check_any A2 20 c2 (hdB (24 + (n : Int)) pr 0 src dst) _ _ (hdB_len _ _ _ _ _).symm HTW.out (by decide)).mono ?_); rw [HX.out]; rintro e w3 ⟨rfl, rfl⟩)
      | (go_at_call 16; (with_reducible refine (with_any pr src dst sp dp ck A n c _ _ _ (HG1.out.chg HCA.out id) (HB1.out.chg HCA.out id) (HF1.out.chg HCA.out id) hn2 HR.out HS.out.1 HS.out.2 hck).mono ?_); rintro e w4 ⟨A3, c3, rfl, hown3, hcb⟩; have HCB := Lib.hid (HCA.out.trans hcb (fun _ _ e => e)); have HO3 := Lib.hid hown3; have HSZ := Lib.hid hcb.size; clear hcb hown3)
      | (with_reducible refine step_own_append _ rfl (.tmp 21) (.tmp 22) 25 rfl w2.heap.size 5 i0 (.int .u8 0) 1 Tryd.underlying25 hi0 hz0 hz1 hz2 rfl (.slice A3 24 c3) 24 _ rfl HO3.out _ A n c _ rfl (HH1.out.chg HCB.out (fun _ _ => id)) (bcs_one _) (by unfold maxLen; omega) (by omega) HSZ.out ?_; intro v6 w6 hown6 hg6 hat6; obtain ⟨D6, dc6, rfl, _, _⟩ := own_form hown6; have HC6 := Lib.hid (grown_fresh HCB.out hg6 HO3.out HCA.out.size); have HO6 := Lib.hid hown6; clear hown6 hg6 hat6))
  all_goals
    go_wp2_with fail
    go_ret2
    refine ⟨D6, _, dc6, rfl, rfl, ?_, HC1.out.trans HC6.out (fun _ _ e => e)⟩
    have e : bcs (dgB pr src dst sp dp l) = bcs (ahB (24 + (n : Int)) pr ck src dst sp dp) ++ bcs l := by
      unfold dgB
      rw [bcs_app, ← HN.out, ← HCK.out]
    rw [e]
    exact own_base HO6.out (Nat.le_trans HC1.out.size HCA.out.size)

end Go.Proofs.YtecnicbicbgapaaDoor
