/-
  Walk: control.getRecords. Conditions: the receiver is a reader in memory.
-/
import Derived.Test.YtalfbijcjghemaaUl
import Derived.OwnWalk
namespace Go.Proofs.Ytalfbijcjghemaa
open Go.RowKit
set_option linter.unusedVariables false

theorem infoRec : (Try.prog.info? 46).map (fun i => (i.zero, i.size, i.bytes)) = some (some (.agg #[.int .i64 0, .int .u32 0, .int .u32 0, .int .i64 0, .int .i64 0, .int .i64 0]), 6, 40) := by kernel_rfl
/-- A made row of nn records, the first of which are l. -/
def RM (w : World) (B nn : Nat) (l : List Rc) : Prop :=
  ∃ arr : Array Value, Blk w B 46 arr ∧ arr.size = nn * 6 ∧ ∀ (i : Nat) (x : Rc), l[i]? = some x → ∀ (j : Nat) (u : Value), x.cs[j]? = some u → arr[i * 6 + j]? = some u
section
variable {w w' : World} {B nn : Nat} {l : List Rc}
theorem RM.chg {S : Nat → Prop} (h : RM w B nn l) (hc : Chg S w w') (hB : ¬ S B) : RM w' B nn l := by
  obtain ⟨arr, hb, h2⟩ := h
  exact ⟨arr, hb.chg hc hB, h2⟩
theorem RM.made (w : World) (nn : Nat) (z : Array Value) : RM (w.alloc (.cells (madeCells z (nn * 6)) 46)) w.heap.size nn [] :=
  ⟨_, blk_new rfl, size_madeCells _ _, fun i x h => by simp at h⟩
theorem RM.lt (h : RM w B nn l) : B < w.heap.size := by
  obtain ⟨arr, hb, _⟩ := h
  exact hb.lt
theorem RM.free (h : RM w B nn l) {j : Nat} (hj : j < nn) : ∃ c0 c1 c2 c3 c4 c5 : Value, w.cell? ⟨B, j * 6, none⟩ = some c0 ∧ w.cell? ⟨B, j * 6 + 1, none⟩ = some c1 ∧ w.cell? ⟨B, j * 6 + 2, none⟩ = some c2 ∧ w.cell? ⟨B, j * 6 + 3, none⟩ = some c3 ∧ w.cell? ⟨B, j * 6 + 4, none⟩ = some c4 ∧ w.cell? ⟨B, j * 6 + 5, none⟩ = some c5 ∧ w.frozen? ⟨B, j * 6, none⟩ = false ∧ w.frozen? ⟨B, j * 6 + 1, none⟩ = false ∧ w.frozen? ⟨B, j * 6 + 2, none⟩ = false ∧ w.frozen? ⟨B, j * 6 + 3, none⟩ = false ∧ w.frozen? ⟨B, j * 6 + 4, none⟩ = false ∧ w.frozen? ⟨B, j * 6 + 5, none⟩ = false := by
  obtain ⟨arr, hb, hs, _⟩ := h
  have hc : ∀ k, k < 6 → ∃ c, w.cell? ⟨B, j * 6 + k, none⟩ = some c := fun k hk => by
    rw [hb.cell]
    exact ⟨_, Array.getElem?_eq_getElem (by omega)⟩
  obtain ⟨c0, e0⟩ := hc 0 (by decide)
  obtain ⟨c1, e1⟩ := hc 1 (by decide)
  obtain ⟨c2, e2⟩ := hc 2 (by decide)
  obtain ⟨c3, e3⟩ := hc 3 (by decide)
  obtain ⟨c4, e4⟩ := hc 4 (by decide)
  obtain ⟨c5, e5⟩ := hc 5 (by decide)
  exact ⟨c0, c1, c2, c3, c4, c5, e0, e1, e2, e3, e4, e5, hb.frozen _, hb.frozen _, hb.frozen _, hb.frozen _, hb.frozen _, hb.frozen _⟩
theorem keep1 {a : Array Value} {k p : Nat} {u : Value} (v : Value) (hp : p ≠ k) (h : a[k]? = some u) : (a.setIfInBounds p v)[k]? = some u := by
  rw [Array.getElem?_setIfInBounds_ne hp]
  exact h
theorem self1 {a : Array Value} {p : Nat} (v : Value) (h : p < a.size) : (a.setIfInBounds p v)[p]? = some v := Array.getElem?_setIfInBounds_self_of_lt h
set_option maxHeartbeats 1000000 in
theorem RM.put (h : RM w B nn l) {j : Nat} (hl : l.length = j) (hj : j < nn) (x : Rc) : RM ((((((w.setCell ⟨B, j * 6, none⟩ (.int .i64 x.pr)).setCell ⟨B, j * 6 + 1, none⟩ (.int .u32 x.sr)).setCell ⟨B, j * 6 + 2, none⟩ (.int .u32 x.ds)).setCell ⟨B, j * 6 + 3, none⟩ (.int .i64 x.sp)).setCell ⟨B, j * 6 + 4, none⟩ (.int .i64 x.dp)).setCell ⟨B, j * 6 + 5, none⟩ (.int .i64 x.un)) B nn (l ++ [x]) := by
  obtain ⟨arr, hb, hs, hc⟩ := h
  refine ⟨_, ((((((hb.set (j * 6) (.int .i64 x.pr)).set (j * 6 + 1) (.int .u32 x.sr)).set (j * 6 + 2) (.int .u32 x.ds)).set (j * 6 + 3) (.int .i64 x.sp)).set (j * 6 + 4) (.int .i64 x.dp)).set (j * 6 + 5) (.int .i64 x.un)), by simp [hs], fun i y hy k u hu => ?_⟩
  have hk : k < 6 := (Array.getElem?_eq_some_iff.1 hu).1
  by_cases hi : i < l.length
  · rw [List.getElem?_append_left hi] at hy
    exact keep1 _ (by omega) (keep1 _ (by omega) (keep1 _ (by omega) (keep1 _ (by omega) (keep1 _ (by omega) (keep1 _ (by omega) (hc i y hy k u hu))))))
  · have hi2 : i < (l ++ [x]).length := (List.getElem?_eq_some_iff.1 hy).1
    rw [List.length_append, List.length_singleton] at hi2
    have hij : i = j := by omega
    subst hij
    rw [List.getElem?_append_right (by omega), show i - l.length = 0 by omega, List.getElem?_cons_zero, Option.some.injEq] at hy
    subst hy
    have hsz : i * 6 + 6 ≤ arr.size := by omega
    clear hc hb
    have hk6 : k = 0 ∨ k = 1 ∨ k = 2 ∨ k = 3 ∨ k = 4 ∨ k = 5 := by omega
    rcases hk6 with rfl | rfl | rfl | rfl | rfl | rfl
    · have e : x.cs[0]? = some (.int .i64 x.pr) := rfl
      rw [e] at hu
      rw [← hu]
      exact keep1 _ (by omega) (keep1 _ (by omega) (keep1 _ (by omega) (keep1 _ (by omega) (keep1 _ (by omega) (self1 _ (by (try simp only [Array.size_setIfInBounds]); omega))))))
    · have e : x.cs[1]? = some (.int .u32 x.sr) := rfl
      rw [e] at hu
      rw [← hu]
      exact keep1 _ (by omega) (keep1 _ (by omega) (keep1 _ (by omega) (keep1 _ (by omega) (self1 _ (by (try simp only [Array.size_setIfInBounds]); omega)))))
    · have e : x.cs[2]? = some (.int .u32 x.ds) := rfl
      rw [e] at hu
      rw [← hu]
      exact keep1 _ (by omega) (keep1 _ (by omega) (keep1 _ (by omega) (self1 _ (by (try simp only [Array.size_setIfInBounds]); omega))))
    · have e : x.cs[3]? = some (.int .i64 x.sp) := rfl
      rw [e] at hu
      rw [← hu]
      exact keep1 _ (by omega) (keep1 _ (by omega) (self1 _ (by (try simp only [Array.size_setIfInBounds]); omega)))
    · have e : x.cs[4]? = some (.int .i64 x.dp) := rfl
      rw [e] at hu
      rw [← hu]
      exact keep1 _ (by omega) (self1 _ (by (try simp only [Array.size_setIfInBounds]); omega))
    · have e : x.cs[5]? = some (.int .i64 x.un) := rfl
      rw [e] at hu
      rw [← hu]
      exact self1 _ (by (try simp only [Array.size_setIfInBounds]); omega)
theorem RM.rcr (h : RM w B nn l) (hl : nn = l.length) : RcR w (fun k => k = B) (some ⟨B, 0, none⟩) nn l := by
  obtain ⟨arr, hb, hs, hc⟩ := h
  refine ⟨hl, fun hm => ⟨⟨B, 0, none⟩, rfl, rfl, hb.lt, fun i x hi j u hu => ?_⟩⟩
  have e : (⟨B, 0, none⟩ : Addr).add (i * 6 + j) = ⟨B, i * 6 + j, none⟩ := by unfold Addr.add; split <;> simp_all
  rw [e, hb.cell]
  exact hc i x hi j u hu
end

set_option maxHeartbeats 8000000 in
theorem getrecs_any (p : Nat) (S : Nat → Prop) (st : Option (List UInt8)) (w : World) (h : Rd 83 true w p S st) (hS : ∀ k, S k → k < p) :
    Calls Try.prog 33 #[.pointer (some ⟨p, 0, none⟩)] w fun e w' => ∃ A nn c, e = .returned (.slice A nn c) ∧ nn = (gv 1 st).toNat ∧ RcR w' (fun k => w.heap.size ≤ k) A nn (rcsV nn (gn 1 st)) ∧ Rd 83 true w' p S (rcsE nn (gn 1 st)) ∧ Chg (fun k => k = p) w w' := by
  obtain ⟨i0, hi0, hz0, hz1, hz2⟩ := info_parts infoRec
  have hp := h.lt
  have HS := Lib.hid hS
  have hn := gv_range 1 st
  have hn2 := gv_lt 1 st (by decide) (by decide)
  have HG := Lib.hid (cget p 1 S st w h)
  obtain ⟨nn, hnn⟩ : ∃ nn : Nat, gv 1 st = (nn : Int) := ⟨(gv 1 st).toNat, by omega⟩
  rw [hnn] at HG hn hn2
  have HNN := Lib.hid hnn
  have hn3 : nn < 256 := by omega
  have hmk := fun W : World => run_make (P := Try.prog) W 26 46 i0 (.agg #[.int .i64 0, .int .u32 0, .int .u32 0, .int .i64 0, .int .i64 0, .int .i64 0]) Try.underlying26 hi0 hz0 .i64 .i64 (nn : Int) (nn : Int) (by omega) (Int.le_refl _) (by rw [hz2]; omega) (by omega)
  simp only [Int.toNat_natCast, hz1, Value.cells] at hmk
  clear h hS hnn hn hn2 hi0 hz0 hz1 hz2
  go_enter Try.func33, Try.ntmps33
  go_wp2_with fail
  refine HG.out.mono ?_
  rintro e w1 ⟨rfl, hrd, hc'⟩
  have hsz := hc'.size
  have HM0 := Lib.hid (RM.made w1 nn #[.int .i64 0, .int .u32 0, .int .u32 0, .int .i64 0, .int .i64 0, .int .i64 0])
  have HC0 := Lib.hid (hc'.alloc (.cells (madeCells #[.int .i64 0, .int .u32 0, .int .u32 0, .int .i64 0, .int .i64 0, .int .i64 0] (nn * 6)) 46))
  have HR0 := Lib.hid (show Rd 83 true (w1.alloc (.cells (madeCells #[.int .i64 0, .int .u32 0, .int .u32 0, .int .i64 0, .int .i64 0, .int .i64 0] (nn * 6)) 46)) p S (rcsE 0 (gn 1 st)) from hrd.chg ((Chg.refl (fun _ => False) w1).alloc _) id (fun _ _ => id))
  clear hrd hc' HG
  go_wp2_with fail
  generalize w1.heap.size = B at *
  go_loopg [4, 5, 11] nn (fun g s4 s5 i wr => ∃ j : Nat, g = nn - j ∧ j ≤ nn ∧ i = .int .i64 (j : Int) ∧ Hid (Rd 83 true wr p S (rcsE j (gn 1 st))) ∧ Hid (RM wr B nn (rcsV j (gn 1 st))) ∧ Hid (Chg (fun k => k = p) w wr))
  case atStart => exact ⟨0, rfl, Nat.zero_le _, rfl, HR0, HM0, HC0⟩
  case round =>
    obtain ⟨j, rfl, hj, rfl, HRD, HM, HC⟩ := hrel
    by_cases hlt : j < nn
    · have hlen := rcsV_len j (gn 1 st)
      have HV := Lib.hid (rcsV_succ j (gn 1 st))
      have HE := Lib.hid (rcsE_succ j (gn 1 st))
      generalize rcsV j (gn 1 st) = l at *
      generalize rcsE j (gn 1 st) = s at *
      have HLEN := Lib.hid hlen
      clear hlen
      replace HRD := Lib.hid (show Rd 83 true wr p S (os s 0) from HRD.out)
      have g1 := gv_range 4 (os s 1)
      have g2 := gv_lt 4 (os s 1) (by decide) (by decide)
      have g3 := gv_range 4 (os s 2)
      have g4 := gv_lt 4 (os s 2) (by decide) (by decide)
      have a1 : IntKind.u32.wrap (ov s 1) = ov s 1 := u32_wrap (by have e : ov s 1 = gv 4 (os s 1) := rfl; omega)
      have a2 : IntKind.u32.wrap (ov s 2) = ov s 2 := u32_wrap (by have e : ov s 2 = gv 4 (os s 2) := rfl; omega)
      clear g1 g2 g3 g4
      have HG := Lib.hid (show Calls _ _ _ _ (fun e w' => e = .returned (.int .i64 (ov s 0)) ∧ Rd 83 true w' p S (os s 1) ∧ Chg (fun k => k = p) _ w') from cget p 1 S (os s 0) _ HRD.out)
      go_wp2_with fail
      refine HG.out.mono ?_
      rintro e v0 ⟨rfl, hrd, hc'⟩
      replace HC := Lib.hid (HC.out.past hc')
      replace HM := Lib.hid (HM.out.chg hc' (by omega))
      replace HRD := Lib.hid hrd
      clear HG hrd hc'
      have HG := Lib.hid (show Calls _ _ _ _ (fun e w' => e = .returned (.int .i64 (ov s 1)) ∧ Rd 83 true w' p S (os s 2) ∧ Chg (fun k => k = p) _ w') from cget p 4 S (os s 1) _ HRD.out)
      go_wp2_with fail
      refine HG.out.mono ?_
      rintro e v1 ⟨rfl, hrd, hc'⟩
      replace HC := Lib.hid (HC.out.past hc')
      replace HM := Lib.hid (HM.out.chg hc' (by omega))
      replace HRD := Lib.hid hrd
      clear HG hrd hc'
      have HG := Lib.hid (show Calls _ _ _ _ (fun e w' => e = .returned (.int .i64 (ov s 2)) ∧ Rd 83 true w' p S (os s 3) ∧ Chg (fun k => k = p) _ w') from cget p 4 S (os s 2) _ HRD.out)
      go_wp2_with fail
      refine HG.out.mono ?_
      rintro e v2 ⟨rfl, hrd, hc'⟩
      replace HC := Lib.hid (HC.out.past hc')
      replace HM := Lib.hid (HM.out.chg hc' (by omega))
      replace HRD := Lib.hid hrd
      clear HG hrd hc'
      have hv2 := HC.out.size
      have hrp := HRD.out.lt
      have hbp := HM.out.lt
      have HF : Hid (Blk (v2.alloc (.cells #[.int .i64 (ov s 0), .int .u32 (ov s 1), .int .u32 (ov s 2), .int .i64 0, .int .i64 0] 44)) v2.heap.size 44 (flC (ov s 0) (ov s 1) (ov s 2) 0 0)) := Lib.hid (blk_new rfl)
      replace HC := Lib.hid (HC.out.alloc (.cells #[.int .i64 (ov s 0), .int .u32 (ov s 1), .int .u32 (ov s 2), .int .i64 0, .int .i64 0] 44))
      replace HM := Lib.hid (HM.out.chg ((Chg.refl (fun _ => False) _).alloc (.cells #[.int .i64 (ov s 0), .int .u32 (ov s 1), .int .u32 (ov s 2), .int .i64 0, .int .i64 0] 44)) id)
      replace HRD := Lib.hid (HRD.out.chg ((Chg.refl (fun _ => False) _).alloc (.cells #[.int .i64 (ov s 0), .int .u32 (ov s 1), .int .u32 (ov s 2), .int .i64 0, .int .i64 0] 44)) id (fun _ _ => id))
      have HG := Lib.hid (show Calls _ _ _ _ (fun e w' => e = .returned (.int .i64 (ov s 3)) ∧ Rd 83 true w' p S (os s 4) ∧ Chg (fun k => k = p) _ w') from cget p 2 S (os s 3) _ HRD.out)
      go_wp2_with fail
      refine HG.out.mono ?_
      rintro e v3 ⟨rfl, hrd, hc'⟩
      replace HC := Lib.hid (HC.out.past hc')
      replace HM := Lib.hid (HM.out.chg hc' (by omega))
      replace HRD := Lib.hid hrd
      replace HF := Lib.hid (HF.out.chg hc' (by omega))
      clear HG hrd hc'
      have HG := Lib.hid (show Calls _ _ _ _ (fun e w' => e = .returned (.int .i64 (ov s 4)) ∧ Rd 83 true w' p S (os s 5) ∧ Chg (fun k => k = p) _ w') from cget p 2 S (os s 4) _ HRD.out)
      go_wp2_with fail
      refine HG.out.mono ?_
      rintro e v4 ⟨rfl, hrd, hc'⟩
      replace HC := Lib.hid (HC.out.past hc')
      replace HM := Lib.hid (HM.out.chg hc' (by omega))
      replace HRD := Lib.hid hrd
      replace HF := Lib.hid (HF.out.chg hc' (by omega))
      clear HG hrd hc'
      obtain ⟨x0, x1, x2, x3, x4⟩ := fl_cells HF.out
      have u3 := HF.out.frozen 3
      have u4 := HF.out.frozen 4
      have hset := (HF.out.set 3 (.int .i64 (ov s 3))).set 4 (.int .i64 (ov s 4))
      simp only [flC, List.setIfInBounds_toArray, List.set_cons_succ, List.set_cons_zero] at hset
      have hset : Blk _ _ 44 (flC (ov s 0) (ov s 1) (ov s 2) (ov s 3) (ov s 4)) := hset
      have hcs := ((Chg.refl (fun k => k = v2.heap.size) v4).put v2.heap.size 3 (fun _ => rfl) (.int .i64 (ov s 3))).put v2.heap.size 4 (fun _ => rfl) (.int .i64 (ov s 4))
      replace HC := Lib.hid (HC.out.new hcs hv2)
      replace HM := Lib.hid (HM.out.chg hcs (by omega))
      replace HRD := Lib.hid (HRD.out.chg hcs (by omega) (fun k hk => by have := HS.out k hk; omega))
      replace HF := Lib.hid hset
      clear hset hcs
      go_upto_region 7 with fail
      generalize ((v4.setCell ⟨v2.heap.size, 3, none⟩ (.int .i64 (ov s 3))).setCell ⟨v2.heap.size, 4, none⟩ (.int .i64 (ov s 4))) = v5 at *
      have hFp : p < v2.heap.size := by omega
      have hFB : B < v2.heap.size := by omega
      generalize v2.heap.size = F at *
      clear x0 x1 x2 x3 x4 u3 u4
      have HG := Lib.hid (show Calls _ _ _ v5.drew (fun e w' => e = .returned (.int .i64 (ov s 5)) ∧ Rd 83 true w' p S (os s 6) ∧ Chg (fun k => k = p) v5.drew w') from cget p 6 S (os s 5) v5.drew HRD.out)
      have hx0 := fl_cells HF.out
      have hx1 : v5.drew.cell? ⟨F, 0, none⟩ = some (.int .i64 (ov s 0)) ∧ v5.drew.cell? ⟨F, 1, none⟩ = some (.int .u32 (ov s 1)) ∧ v5.drew.cell? ⟨F, 2, none⟩ = some (.int .u32 (ov s 2)) ∧ v5.drew.cell? ⟨F, 3, none⟩ = some (.int .i64 (ov s 3)) ∧ v5.drew.cell? ⟨F, 4, none⟩ = some (.int .i64 (ov s 4)) := hx0
      replace HF : Hid (Blk v5.drew F 44 (flC (ov s 0) (ov s 1) (ov s 2) (ov s 3) (ov s 4))) := Lib.hid HF.out
      replace HM : Hid (RM v5.drew B nn l) := Lib.hid HM.out
      replace HC := Lib.hid HC.out.drew
      go_region_held3 (fun w' => w'.cell? ⟨F, 0, none⟩ = some (.int .i64 (ov s 0)) ∧ w'.cell? ⟨F, 1, none⟩ = some (.int .u32 (ov s 1)) ∧ w'.cell? ⟨F, 2, none⟩ = some (.int .u32 (ov s 2)) ∧ w'.cell? ⟨F, 3, none⟩ = some (.int .i64 (ov s 3)) ∧ w'.cell? ⟨F, 4, none⟩ = some (.int .i64 (ov s 4)))
        (first | with_reducible exact hx0 | with_reducible exact hx1 | with_reducible exact HX6.out | with_reducible exact HXS.out | fail)
        (first
          | (go_at_call 31; (refine HG.out.mono ?_); rintro e v6 ⟨rfl, hrd, hc'⟩; have HX6 := Lib.hid (fl_cells (HF.out.chg hc' (by omega))); have HM6 := Lib.hid (HM.out.chg hc' (by omega)); have HC6 := Lib.hid (HC.out.past hc'); have HRD6 := Lib.hid hrd; obtain ⟨c0, c1, c2, c3, c4, c5, e0, e1, e2, e3, e4, e5, f0, f1, f2, f3, f4, f5⟩ := HM6.out.free hlt; have hcs6 := ((((((Chg.refl (fun k => k = B) v6).put B (j * 6) (fun _ => rfl) (.int .i64 (ov s 0))).put B (j * 6 + 1) (fun _ => rfl) (.int .u32 (ov s 1))).put B (j * 6 + 2) (fun _ => rfl) (.int .u32 (ov s 2))).put B (j * 6 + 3) (fun _ => rfl) (.int .i64 (ov s 3))).put B (j * 6 + 4) (fun _ => rfl) (.int .i64 (ov s 4))).put B (j * 6 + 5) (fun _ => rfl) (.int .i64 (ov s 5)); have HXS := Lib.hid (fl_cells ((HF.out.chg hc' (by omega)).chg hcs6 (by omega))); have HCS := Lib.hid hcs6; clear hrd hc' hcs6)
          | fail)
      have hM := HM6.out.put HLEN.out hlt (oneV s)
      have HMM := Lib.hid (show RM _ B nn (rcsV (j + 1) (gn 1 st)) from HV.out ▸ hM)
      have HRR := Lib.hid (show Rd 83 true _ p S (rcsE (j + 1) (gn 1 st)) from HE.out ▸ (show Rd 83 true _ p S (oneE s) from HRD6.out.chg HCS.out (by omega) (fun k hk => by have := HS.out k hk; omega)))
      have HCC := Lib.hid (HC6.out.new HCS.out hsz)
      clear hM HM6 HV HE HRD6 HCS HC6
      go_wp2_with fail
      go_roundg (nn - (j + 1))
      case measure => omega
      case rel => exact ⟨j + 1, rfl, by omega, by go_num, HRR, HMM, HCC⟩
    · have hjn : nn = j := by omega
      subst hjn
      go_wp2_with fail
      go_ret
      refine ⟨some ⟨B, 0, none⟩, nn, nn, rfl, by rw [HNN.out, Int.toNat_natCast], (HM.out.rcr (rcsV_len _ _).symm).mono (fun k hk => by omega), HRD.out, HC.out⟩

end Go.Proofs.Ytalfbijcjghemaa
