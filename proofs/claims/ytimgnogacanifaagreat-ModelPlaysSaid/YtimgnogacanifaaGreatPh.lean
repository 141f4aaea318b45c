/-
  Walks: store.Chassis, Add, Remove, each on nil too. Conditions: the store lies in memory.
-/
import Derived.Test.YtimgnogacanifaaGreatPg
import Derived.Maps.OwnSet
namespace Go.Proofs.YtimgnogacanifaaGreat
open Go.RowKit
set_option linter.unusedVariables false
set_option linter.unusedSimpArgs false

theorem wpList_put10 {P : Program} {w w' : World} {ops : Array Oper} {rest : List Oper} {o : Oper} {a : Act} {Q : Exit → Act → World → Prop} (hg : o.guard = none) (m x v : Operand) (t : TypeId) (hop : o.op = Op.mapUpdate t m x v)
    (b : Nat) (z : Int) (val : Value) (hm : a.eval m = .map (some b)) (hx : a.eval x = .int .i64 z) (hv : a.eval v = val) (hrun : (Instr.mapUpdate t (.map (some b)) (.int .i64 z) val).run P w = .ok () w') (hK : wpList P ops Q rest (a.put o.dst undef) w') : wpList P ops Q (o :: rest) a w := by
  refine wpList_plain hg fun K' hK' => ?_
  unfold Oper.wp
  simp [execOp, hop, hm, hx, hv, hrun, Result.andThen]
  exact hK' _ _ hK
theorem wpList_del10 {P : Program} {w w' : World} {ops : Array Oper} {rest : List Oper} {o : Oper} {a : Act} {Q : Exit → Act → World → Prop} (hg : o.guard = none) (m x : Operand) (t k : TypeId) (hop : o.op = Op.call { callee := Callee.builtin Builtin.delete, args := #[m, x], argTypes := #[t, k] })
    (b : Nat) (z : Int) (hm : a.eval m = .map (some b)) (hx : a.eval x = .int .i64 z) (hrun : ∀ ty, (Builtin.delete_ #[t, k] ty #[.map (some b), .int .i64 z]).run P w = .ok (.tuple #[]) w') (hK : wpList P ops Q rest (a.put o.dst (.tuple #[])) w') : wpList P ops Q (o :: rest) a w := by
  refine wpList_plain hg fun K' hK' => ?_
  unfold Oper.wp
  simp [execOp, hop, resolve, invoke, builtin, hm, hx, hrun, Result.andThen]
  exact hK' _ _ hK
theorem sorts10 (m : Nat) : AnyZI.SortsIn Tryz.prog sortedA10_ren Fence.wide m :=
  ⟨fun blk off cap ss W hH hblk hsz => callsIn_wide.2 (AnyM.slices_Sort_int sortA10 blk off cap ss W hH hblk hsz),
   fun p cap W => callsIn_wide.2 (AnyM.slices_Sort_int_none sortA10 p cap W)⟩
theorem keys10_any (mb : Option Nat) (W : World) : Calls Tryz.prog 75 #[.map mb] W fun e w' => e = .returned (.func (.func 108) #[] #[.pointer (some ⟨W.heap.size, 0, none⟩)]) ∧ w' = W.alloc (.cells #[.map mb] 84) :=
  (callsIn_wide (n := 5)).1 (AnyZI.keys_in keysA10 Fence.wide 5 trivial rfl mb W)
set_option maxRecDepth 100000 in
set_option maxHeartbeats 1000000 in
/-- The keys of a map, sorted. -/
theorem sorted10_any {b : Nat} {f : Int → Option Value} (w : World) (h : IM w b f) : Calls Tryz.prog 74 #[.func (.func 108) #[] #[.pointer (some ⟨w.heap.size, 0, none⟩)]] (w.alloc (.cells #[.map (some b)] 84)) (NumP (keysP f) (w.alloc (.cells #[.map (some b)] 84))) := by
  obtain ⟨D0, hown, hsz, hk⟩ := h.owns Tryz.underlying3
  have hbl := hown.lt
  have hseq : SeqGives Fence.wide 2 Tryz.prog 108 #[.pointer (some ⟨w.heap.size, 0, none⟩)] encZ (fun ss => ss.Perm (intKeys D0)) (Maps.size D0) (w.alloc (.cells #[.map (some b)] 84)) :=
    AnyZI.keys_gives (ρ := keysA10_ren) { keysA10 with } Fence.wide _ trivial rfl (by omega) w.heap.size b 32 D0 _ (by simp) (by simp) (by
      obtain ⟨es, clock, hb, Ft, hs, hD⟩ := hown
      exact ⟨es, clock, (Below.heap_alloc _ _ b hbl).trans hb, Ft, hs, hD⟩)
  have cS := AnyZI.sorted_in sortedA10 Fence.wide 5 trivial trivial trivial trivial rfl (by omega) (sorts10 _) (enters_of Tryz.func107 (by kernel_rfl) rfl) 108 #[.pointer (some ⟨w.heap.size, 0, none⟩)] trivial (enters_of Tryz.func108 (by kernel_rfl) rfl) _ _ (by unfold maxLen; omega) (by omega) _ hseq
  change CallsIn _ _ Tryz.prog 74 _ _ _ at cS
  refine (callsIn_wide.1 cS).mono ?_
  rintro e w' ⟨v, ss, rfl, hp, hrow, hnil, hb⟩
  obtain ⟨h1, h2⟩ := hk ss hp
  rw [h1, h2] at hrow
  obtain ⟨A, c, rfl, _, _⟩ := own_form hrow
  exact ⟨A, _, c, rfl, rfl, (own_rds2 hrow).mono (fun k hk => hk.1), Chg.of_below hb (Nat.le_refl _) _⟩
theorem keysP_fC (C : Int → Bool) : keysP (fC C) = chasP C := by
  unfold keysP chasP
  congr 1
  funext z
  unfold fC
  cases C z <;> rfl
set_option maxRecDepth 100000 in
set_option maxHeartbeats 1000000 in
theorem schas_any {B : Nat} {w : World} {p bc br : Nat} {C : Int → Bool} {R : Int → Option RV} (h : CS B w p bc br C R) : Calls Tryz.prog 36 #[.pointer (some ⟨p, 0, none⟩)] w (NumP (chasP C) w) := by
  obtain ⟨c0, c1⟩ := h.cells
  have HSO := Lib.hid (sorted10_any w h.ch)
  rw [keysP_fC] at HSO
  have HX := Lib.hid ((Chg.refl (fun _ => False) w).alloc (.cells #[.map (some bc)] 84))
  clear h
  go_enter Tryz.func36, Tryz.ntmps36
  go_wp2_with fail
  refine (keys10_any (some bc) w).mono ?_
  rintro e w1 ⟨rfl, rfl⟩
  go_wp2_with fail
  refine HSO.out.mono ?_
  rintro e w2 ⟨A, n, c, rfl, hn, hrd, hc⟩
  have HN := Lib.hid hn
  have HR := Lib.hid hrd
  have HC := Lib.hid hc
  clear hn hrd hc
  go_wp2_with fail
  go_ret
  exact ⟨A, n, c, rfl, HN.out, HR.out.mono (fun k hk => by simp at hk; omega), HX.out.trans HC.out (fun _ _ e => e)⟩

set_option maxRecDepth 100000 in
set_option maxHeartbeats 400000 in
theorem schas_nil (w : World) : Calls Tryz.prog 36 #[.pointer none] w (NumP [] w) := by
  go_enter Tryz.func36, Tryz.ntmps36
  go_wp2_with fail
  go_ret
  exact ⟨none, 0, 0, rfl, rfl, Rds.nil _ _ _, Chg.refl _ _⟩

theorem fC_add (C : Int → Bool) (z : Int) : putF (fC C) z (.bool true) = fC (addC C z) := by
  funext y
  unfold putF fC addC
  by_cases h : y = z <;> simp [h]
theorem fC_rem (C : Int → Bool) (z : Int) : delF (fC C) z = fC (remC C z) := by
  funext y
  unfold delF fC remC
  by_cases h : y = z <;> simp [h]
theorem fR_put (R : Int → Option RV) (x : RV) : putF (fR R) x.po (.agg x.cs) = fR (putR R x) := by
  funext y
  unfold putF fR putR
  by_cases h : y = x.po <;> simp [h]
set_option maxRecDepth 20000 in
set_option maxRecDepth 100000 in
set_option maxHeartbeats 2000000 in
theorem sadd_any {B : Nat} {w : World} {p bc br : Nat} {C : Int → Bool} {R : Int → Option RV} (h : CS B w p bc br C R) (z : Int) : Calls Tryz.prog 37 #[.pointer (some ⟨p, 0, none⟩), .int .i64 z] w fun e w' => e = .returned (.int .i64 (addP C z)) ∧ CS B w' p bc br (addK C z) R ∧ Chg (fun k => k = bc) w w' := by
  by_cases hb : 0 ≤ z ∧ z ≤ 15
  case neg =>
    have HV : addP C z = 1 := by
      unfold addP
      rw [if_pos (by simp only [Bool.or_eq_true, decide_eq_true_eq]; omega)]
    have HK : addK C z = C := by unfold addK; rw [HV]; rfl
    rw [HV, HK]
    have HH := Lib.hid h
    clear h HV HK
    by_cases h0 : z < 0
    · go_enter Tryz.func37, Tryz.ntmps37
      go_wp2_with fail
      go_ret
      exact ⟨rfl, HH.out, Chg.refl _ _⟩
    · have h1 : ¬ z < 16 := by omega
      clear hb
      go_enter Tryz.func37, Tryz.ntmps37
      go_wp2_with fail
      go_ret
      exact ⟨rfl, HH.out, Chg.refl _ _⟩
  case pos =>
    obtain ⟨hb1, hb2⟩ := hb
    have hg : (decide (z < 0) || decide (15 < z)) = false := by simp only [Bool.or_eq_false_iff, decide_eq_false_iff_not]; omega
    have HHS := Lib.hid (shas_any h z)
    cases hC : C z with
    | true =>
      have HV : addP C z = 5 := by unfold addP; rw [if_neg (by rw [hg]; decide), if_pos hC]
      have HK : addK C z = C := by unfold addK; rw [HV]; rfl
      rw [HV, HK]
      rw [hC] at HHS
      have HH := Lib.hid h
      clear h HV HK hg hC
      go_enter Tryz.func37, Tryz.ntmps37
      go_wp2_with fail
      refine HHS.out.mono ?_
      rintro e w1 ⟨rfl, rfl⟩
      go_wp2_with fail
      go_ret
      exact ⟨rfl, HH.out, Chg.refl _ _⟩
    | false =>
      have HV : addP C z = 0 := by unfold addP; rw [if_neg (by rw [hg]; decide), if_neg (by rw [hC]; decide)]
      have HK : addK C z = addC C z := by unfold addK; rw [if_pos HV]
      rw [HV, HK]
      rw [hC] at HHS
      have HCE := Lib.hid h.cells
      obtain ⟨w2, hrun, him, hc⟩ := h.ch.put Tryz.underlying84 Tryz.underlying3 z ⟨hb1, by omega⟩ (.bool true)
      rw [fC_add] at him
      have HE : Hid (CS B w2 p bc br (addC C z) R ∧ Chg (fun k => k = bc) w w2) := Lib.hid ⟨⟨h.bp, h.bbc, h.bbr, h.ne, h.blk.chg hc (h.ch.ne h.blk), him, h.ro.chg hc (fun e => h.ne e.symm)⟩, hc⟩
      have HRUN := Lib.hid hrun
      clear h HV HK hg hC him hc hrun
      go_enter Tryz.func37, Tryz.ntmps37
      go_wp2_with fail
      refine HHS.out.mono ?_
      rintro e w1 ⟨rfl, rfl⟩
      obtain ⟨c0, c1⟩ := HCE.out
      go_wp2_with (at_mapUpdate; refine wpList_put10 rfl _ _ _ 84 rfl bc z (.bool true) rfl rfl rfl HRUN.out ?_; clear HRUN)
      go_ret
      exact ⟨rfl, HE.out.1, HE.out.2⟩

set_option maxRecDepth 100000 in
set_option maxHeartbeats 400000 in
theorem sadd_nil (z : Int) (w : World) : Calls Tryz.prog 37 #[.pointer none, .int .i64 z] w fun e w' => e = .returned (.int .i64 1) ∧ w = w' := by
  go_enter Tryz.func37, Tryz.ntmps37
  go_wp2_with fail
  go_ret
  exact ⟨rfl, rfl⟩

set_option maxRecDepth 100000 in
set_option maxHeartbeats 2000000 in
theorem srem_any {B : Nat} {w : World} {p bc br : Nat} {C : Int → Bool} {R : Int → Option RV} (h : CS B w p bc br C R) (z : Int) : Calls Tryz.prog 41 #[.pointer (some ⟨p, 0, none⟩), .int .i64 z] w fun e w' => e = .returned (.int .i64 (remP C R z)) ∧ CS B w' p bc br (remK C R z) R ∧ Chg (fun k => k = bc) w w' := by
  have HHS := Lib.hid (shas_any h z)
  cases hC : C z with
  | false =>
    have HV : remP C R z = 4 := by unfold remP; rw [if_pos hC]
    have HK : remK C R z = C := by unfold remK; rw [HV]; rfl
    rw [HV, HK]
    rw [hC] at HHS
    have HH := Lib.hid h
    clear h HV HK hC
    go_enter Tryz.func41, Tryz.ntmps41
    go_wp2_with fail
    refine HHS.out.mono ?_
    rintro e w1 ⟨rfl, rfl⟩
    go_wp2_with fail
    go_ret
    exact ⟨rfl, HH.out, Chg.refl _ _⟩
  | true =>
    rw [hC] at HHS
    have HU := Lib.hid (suses_any h z)
    cases hu : usesP R z with
    | true =>
      have HV : remP C R z = 11 := by unfold remP; rw [if_neg (by rw [hC]; decide), if_pos hu]
      have HK : remK C R z = C := by unfold remK; rw [HV]; rfl
      rw [HV, HK]
      rw [hu] at HU
      have HH := Lib.hid h
      clear h HV HK hC hu
      go_enter Tryz.func41, Tryz.ntmps41
      go_wp2_with fail
      refine HHS.out.mono ?_
      rintro e w1 ⟨rfl, rfl⟩
      go_wp2_with fail
      refine HU.out.mono ?_
      rintro e w1 ⟨rfl, hc⟩
      have HC := Lib.hid hc
      clear hc
      go_wp2_with fail
      go_ret
      exact ⟨rfl, HH.out.keep HC.out, HC.out.mono (fun _ _ e => e.elim)⟩
    | false =>
      have HV : remP C R z = 0 := by unfold remP; rw [if_neg (by rw [hC]; decide), if_neg (by rw [hu]; decide)]
      have HK : remK C R z = remC C z := by unfold remK; rw [if_pos HV]
      rw [HV, HK]
      rw [hu] at HU
      have HH := Lib.hid h
      clear h HV HK hC hu
      go_enter Tryz.func41, Tryz.ntmps41
      go_wp2_with fail
      refine HHS.out.mono ?_
      rintro e w1 ⟨rfl, rfl⟩
      go_wp2_with fail
      refine HU.out.mono ?_
      rintro e w1 ⟨rfl, hc0⟩
      have h := HH.out.keep hc0
      obtain ⟨c0, c1⟩ := h.cells
      obtain ⟨w2, hrun, him, hc⟩ := h.ch.del Tryz.underlying84 Tryz.underlying3 z
      rw [fC_rem] at him
      have HE : Hid (CS B w2 p bc br (remC C z) R ∧ Chg (fun k => k = bc) w w2) := Lib.hid ⟨⟨h.bp, h.bbc, h.bbr, h.ne, h.blk.chg hc (h.ch.ne h.blk), him, h.ro.chg hc (fun e => h.ne e.symm)⟩, (hc0.mono (fun _ _ e => e.elim)).trans hc (fun _ _ e => e)⟩
      have HRUN := Lib.hid hrun
      clear h him hc hc0 hrun
      go_wp2_with (at_delete; refine wpList_del10 rfl _ _ 84 3 rfl bc z rfl rfl HRUN.out ?_; clear HRUN)
      go_ret
      exact ⟨rfl, HE.out.1, HE.out.2⟩

set_option maxRecDepth 100000 in
set_option maxHeartbeats 400000 in
theorem srem_nil (z : Int) (w : World) : Calls Tryz.prog 41 #[.pointer none, .int .i64 z] w fun e w' => e = .returned (.int .i64 1) ∧ w = w' := by
  go_enter Tryz.func41, Tryz.ntmps41
  go_wp2_with fail
  go_ret
  exact ⟨rfl, rfl⟩


end Go.Proofs.YtimgnogacanifaaGreat
