/-
  Walks: model.deeds, Do. Conditions: the model lies in memory, and holds what always holds.
-/
import Derived.Test.YtimgnogacanifaaGreatBh
import Derived.Test.YtimgnogacanifaaGreatMa
namespace Go.Proofs.YtimgnogacanifaaGreat
open Go.RowKit
set_option linter.unusedVariables false
set_option linter.unusedSimpArgs false

/-- What the ops do, by a model at block QM's pointer, of a call at block QX. -/
def deedsM (QM QX : Nat) : Array MapEntry := #[⟨.int .i64 0, .func (.func 39) #[] #[.pointer (some ⟨QM, 0, none⟩), .pointer (some ⟨QX, 0, none⟩)], 0⟩, ⟨.int .i64 1, .func (.func 40) #[] #[.pointer (some ⟨QM, 0, none⟩), .pointer (some ⟨QX, 0, none⟩)], 1⟩, ⟨.int .i64 2, .func (.func 42) #[] #[.pointer (some ⟨QM, 0, none⟩), .pointer (some ⟨QX, 0, none⟩)], 2⟩, ⟨.int .i64 3, .func (.func 44) #[] #[.pointer (some ⟨QM, 0, none⟩), .pointer (some ⟨QX, 0, none⟩)], 3⟩, ⟨.int .i64 4, .func (.func 47) #[] #[.pointer (some ⟨QM, 0, none⟩), .pointer (some ⟨QX, 0, none⟩)], 4⟩, ⟨.int .i64 5, .func (.func 50) #[] #[.pointer (some ⟨QM, 0, none⟩), .pointer (some ⟨QX, 0, none⟩)], 5⟩, ⟨.int .i64 6, .func (.func 53) #[] #[.pointer (some ⟨QM, 0, none⟩), .pointer (some ⟨QX, 0, none⟩)], 6⟩, ⟨.int .i64 7, .func (.func 56) #[] #[.pointer (some ⟨QM, 0, none⟩), .pointer (some ⟨QX, 0, none⟩)], 7⟩]
/-- Function n does op. -/
def Deed20 (n : Nat) (op : Int) : Prop := (∀ (xs : Array Value) (W : World), (callFunc n xs).run Tryz.prog W = .ok (.enter n xs) W) ∧ ∀ (B : Nat) (w : World) (p ps bc br : Nat) (C : Int → Bool) (R : Int → Option RV) (sp no : Int) (QM QX : Nat) (po ch ma : Int), MM20 B w p ps bc br C R sp no → WF C R → Blk w QM 24 #[.pointer (some ⟨p, 0, none⟩)] → Blk w QX 33 #[.int .i64 op, .int .i64 po, .int .i64 ch, .int .u64 ma] → Calls Tryz.prog n #[.pointer (some ⟨QM, 0, none⟩), .pointer (some ⟨QX, 0, none⟩)] w (BecP20 B p ps bc (doM20 ⟨C, R, sp, no⟩ op po ch ma) w)
theorem deed_look20 {W : World} {m QM QX : Nat} (h : Mp W m (deedsM QM QX) 8) (op : Int) : ∃ v b, (Instr.lookup 67 (.map (some m)) (.int .i64 op) true).run Tryz.prog W = .ok (.tuple #[v, .bool b]) W ∧ ((b = false ∧ ¬ (0 ≤ op ∧ op ≤ 7)) ∨ (b = true ∧ ∃ n, v = .func (.func n) #[] #[.pointer (some ⟨QM, 0, none⟩), .pointer (some ⟨QX, 0, none⟩)] ∧ Deed20 n op)) := by
  by_cases o0 : op = 0
  · subst o0
    exact ⟨_, true, h.hit (P := Tryz.prog) (x := 0) (i := 0) (v := .func (.func 39) #[] #[.pointer (some ⟨QM, 0, none⟩), .pointer (some ⟨QX, 0, none⟩)]) Tryz.underlying67 Tryz.underlying30 rfl, .inr ⟨rfl, _, rfl, fun _ _ => by go_simp, fun B w p ps bc br C R sp no QM QX po ch ma h hw hm hx => deed0_20 h hw hm hx⟩⟩
  by_cases o1 : op = 1
  · subst o1
    exact ⟨_, true, h.hit (P := Tryz.prog) (x := 1) (i := 1) (v := .func (.func 40) #[] #[.pointer (some ⟨QM, 0, none⟩), .pointer (some ⟨QX, 0, none⟩)]) Tryz.underlying67 Tryz.underlying30 rfl, .inr ⟨rfl, _, rfl, fun _ _ => by go_simp, fun B w p ps bc br C R sp no QM QX po ch ma h hw hm hx => deed1_20 h hw hm hx⟩⟩
  by_cases o2 : op = 2
  · subst o2
    exact ⟨_, true, h.hit (P := Tryz.prog) (x := 2) (i := 2) (v := .func (.func 42) #[] #[.pointer (some ⟨QM, 0, none⟩), .pointer (some ⟨QX, 0, none⟩)]) Tryz.underlying67 Tryz.underlying30 rfl, .inr ⟨rfl, _, rfl, fun _ _ => by go_simp, fun B w p ps bc br C R sp no QM QX po ch ma h hw hm hx => deed2_20 h hw hm hx⟩⟩
  by_cases o3 : op = 3
  · subst o3
    exact ⟨_, true, h.hit (P := Tryz.prog) (x := 3) (i := 3) (v := .func (.func 44) #[] #[.pointer (some ⟨QM, 0, none⟩), .pointer (some ⟨QX, 0, none⟩)]) Tryz.underlying67 Tryz.underlying30 rfl, .inr ⟨rfl, _, rfl, fun _ _ => by go_simp, fun B w p ps bc br C R sp no QM QX po ch ma h hw hm hx => deed3_20 h hw hm hx⟩⟩
  by_cases o4 : op = 4
  · subst o4
    exact ⟨_, true, h.hit (P := Tryz.prog) (x := 4) (i := 4) (v := .func (.func 47) #[] #[.pointer (some ⟨QM, 0, none⟩), .pointer (some ⟨QX, 0, none⟩)]) Tryz.underlying67 Tryz.underlying30 rfl, .inr ⟨rfl, _, rfl, fun _ _ => by go_simp, fun B w p ps bc br C R sp no QM QX po ch ma h hw hm hx => deed4_20 h hw hm hx⟩⟩
  by_cases o5 : op = 5
  · subst o5
    exact ⟨_, true, h.hit (P := Tryz.prog) (x := 5) (i := 5) (v := .func (.func 50) #[] #[.pointer (some ⟨QM, 0, none⟩), .pointer (some ⟨QX, 0, none⟩)]) Tryz.underlying67 Tryz.underlying30 rfl, .inr ⟨rfl, _, rfl, fun _ _ => by go_simp, fun B w p ps bc br C R sp no QM QX po ch ma h hw hm hx => deed5_20 h hw hm hx⟩⟩
  by_cases o6 : op = 6
  · subst o6
    exact ⟨_, true, h.hit (P := Tryz.prog) (x := 6) (i := 6) (v := .func (.func 53) #[] #[.pointer (some ⟨QM, 0, none⟩), .pointer (some ⟨QX, 0, none⟩)]) Tryz.underlying67 Tryz.underlying30 rfl, .inr ⟨rfl, _, rfl, fun _ _ => by go_simp, fun B w p ps bc br C R sp no QM QX po ch ma h hw hm hx => deed6_20 h hw hm hx⟩⟩
  by_cases o7 : op = 7
  · subst o7
    exact ⟨_, true, h.hit (P := Tryz.prog) (x := 7) (i := 7) (v := .func (.func 56) #[] #[.pointer (some ⟨QM, 0, none⟩), .pointer (some ⟨QX, 0, none⟩)]) Tryz.underlying67 Tryz.underlying30 rfl, .inr ⟨rfl, _, rfl, fun _ _ => by go_simp, fun B w p ps bc br C R sp no QM QX po ch ma h hw hm hx => deed7_20 h hw hm hx⟩⟩
  have hfn : Instr.findNow (.int .i64) (.int .i64 op) (deedsM QM QX).toList 0 = some none := by
    have e0 : (op == 0) = false := by simpa using o0
    have e1 : (op == 1) = false := by simpa using o1
    have e2 : (op == 2) = false := by simpa using o2
    have e3 : (op == 3) = false := by simpa using o3
    have e4 : (op == 4) = false := by simpa using o4
    have e5 : (op == 5) = false := by simpa using o5
    have e6 : (op == 6) = false := by simpa using o6
    have e7 : (op == 7) = false := by simpa using o7
    simp [deedsM, Instr.findNow, Instr.sameNow, e0, e1, e2, e3, e4, e5, e6, e7]
  exact ⟨_, false, h.miss (P := Tryz.prog) (x := op) (z := .nilFunc) Tryz.underlying67 Tryz.underlying30 (by kernel_rfl) hfn, .inl ⟨rfl, by omega⟩⟩
set_option maxRecDepth 100000 in
set_option maxHeartbeats 4000000 in
theorem deeds20_any (p : Nat) (op po ch ma : Int) (w : World) : Calls Tryz.prog 22 #[.pointer (some ⟨p, 0, none⟩), .agg #[.int .i64 op, .int .i64 po, .int .i64 ch, .int .u64 ma]] w fun e w' => ∃ QM QX m, e = .returned (.map (some m)) ∧ Blk w' QM 24 #[.pointer (some ⟨p, 0, none⟩)] ∧ Blk w' QX 33 #[.int .i64 op, .int .i64 po, .int .i64 ch, .int .u64 ma] ∧ Mp w' m (deedsM QM QX) 8 ∧ Chg (fun _ => False) w w' := by
  have hmm := @run_makeMap Tryz.prog
  have hmf : ∀ (fn : Fn) (first cap : Array Value) (w : World), (Instr.makeFunc fn first cap).run Tryz.prog w = .ok (.func fn first cap) w := fun _ _ _ _ => rfl
  generalize hq : w.heap.size = q at *
  have hb0 : Blk (((w.alloc (.cells #[.pointer (some ⟨p, 0, none⟩)] 24)).alloc (.cells #[.int .i64 op, .int .i64 po, .int .i64 ch, .int .u64 ma] 33)).alloc (.map #[] 0)) q 24 #[.pointer (some ⟨p, 0, none⟩)] := ((blk_new hq.symm).alloc _).alloc _
  have hb1 : Blk (((w.alloc (.cells #[.pointer (some ⟨p, 0, none⟩)] 24)).alloc (.cells #[.int .i64 op, .int .i64 po, .int .i64 ch, .int .u64 ma] 33)).alloc (.map #[] 0)) (q + 1) 33 #[.int .i64 op, .int .i64 po, .int .i64 ch, .int .u64 ma] := (blk_new (by simp [hq])).alloc _
  have hz : ((w.alloc (.cells #[.pointer (some ⟨p, 0, none⟩)] 24)).alloc (.cells #[.int .i64 op, .int .i64 po, .int .i64 ch, .int .u64 ma] 33)).heap.size = q + 1 + 1 := by simp [hq]
  have hm0 := Mp.new ((w.alloc (.cells #[.pointer (some ⟨p, 0, none⟩)] 24)).alloc (.cells #[.int .i64 op, .int .i64 po, .int .i64 ch, .int .u64 ma] 33))
  rw [hz] at hm0
  have hu1 := hm0.add (P := Tryz.prog) (x := 0) Tryz.underlying67 Tryz.underlying30 rfl (.func (.func 39) #[] #[.pointer (some ⟨q, 0, none⟩), .pointer (some ⟨q + 1, 0, none⟩)])
  have hm1 : Mp _ (q + 1 + 1) #[⟨.int .i64 0, .func (.func 39) #[] #[.pointer (some ⟨q, 0, none⟩), .pointer (some ⟨q + 1, 0, none⟩)], 0⟩] 1 := hm0.set (clock' := 1)
  have hu2 := hm1.add (P := Tryz.prog) (x := 1) Tryz.underlying67 Tryz.underlying30 rfl (.func (.func 40) #[] #[.pointer (some ⟨q, 0, none⟩), .pointer (some ⟨q + 1, 0, none⟩)])
  have hm2 : Mp _ (q + 1 + 1) #[⟨.int .i64 0, .func (.func 39) #[] #[.pointer (some ⟨q, 0, none⟩), .pointer (some ⟨q + 1, 0, none⟩)], 0⟩, ⟨.int .i64 1, .func (.func 40) #[] #[.pointer (some ⟨q, 0, none⟩), .pointer (some ⟨q + 1, 0, none⟩)], 1⟩] 2 := hm1.set (clock' := 2)
  have hu3 := hm2.add (P := Tryz.prog) (x := 2) Tryz.underlying67 Tryz.underlying30 rfl (.func (.func 42) #[] #[.pointer (some ⟨q, 0, none⟩), .pointer (some ⟨q + 1, 0, none⟩)])
  have hm3 : Mp _ (q + 1 + 1) #[⟨.int .i64 0, .func (.func 39) #[] #[.pointer (some ⟨q, 0, none⟩), .pointer (some ⟨q + 1, 0, none⟩)], 0⟩, ⟨.int .i64 1, .func (.func 40) #[] #[.pointer (some ⟨q, 0, none⟩), .pointer (some ⟨q + 1, 0, none⟩)], 1⟩, ⟨.int .i64 2, .func (.func 42) #[] #[.pointer (some ⟨q, 0, none⟩), .pointer (some ⟨q + 1, 0, none⟩)], 2⟩] 3 := hm2.set (clock' := 3)
  have hu4 := hm3.add (P := Tryz.prog) (x := 3) Tryz.underlying67 Tryz.underlying30 rfl (.func (.func 44) #[] #[.pointer (some ⟨q, 0, none⟩), .pointer (some ⟨q + 1, 0, none⟩)])
  have hm4 : Mp _ (q + 1 + 1) #[⟨.int .i64 0, .func (.func 39) #[] #[.pointer (some ⟨q, 0, none⟩), .pointer (some ⟨q + 1, 0, none⟩)], 0⟩, ⟨.int .i64 1, .func (.func 40) #[] #[.pointer (some ⟨q, 0, none⟩), .pointer (some ⟨q + 1, 0, none⟩)], 1⟩, ⟨.int .i64 2, .func (.func 42) #[] #[.pointer (some ⟨q, 0, none⟩), .pointer (some ⟨q + 1, 0, none⟩)], 2⟩, ⟨.int .i64 3, .func (.func 44) #[] #[.pointer (some ⟨q, 0, none⟩), .pointer (some ⟨q + 1, 0, none⟩)], 3⟩] 4 := hm3.set (clock' := 4)
  have hu5 := hm4.add (P := Tryz.prog) (x := 4) Tryz.underlying67 Tryz.underlying30 rfl (.func (.func 47) #[] #[.pointer (some ⟨q, 0, none⟩), .pointer (some ⟨q + 1, 0, none⟩)])
  have hm5 : Mp _ (q + 1 + 1) #[⟨.int .i64 0, .func (.func 39) #[] #[.pointer (some ⟨q, 0, none⟩), .pointer (some ⟨q + 1, 0, none⟩)], 0⟩, ⟨.int .i64 1, .func (.func 40) #[] #[.pointer (some ⟨q, 0, none⟩), .pointer (some ⟨q + 1, 0, none⟩)], 1⟩, ⟨.int .i64 2, .func (.func 42) #[] #[.pointer (some ⟨q, 0, none⟩), .pointer (some ⟨q + 1, 0, none⟩)], 2⟩, ⟨.int .i64 3, .func (.func 44) #[] #[.pointer (some ⟨q, 0, none⟩), .pointer (some ⟨q + 1, 0, none⟩)], 3⟩, ⟨.int .i64 4, .func (.func 47) #[] #[.pointer (some ⟨q, 0, none⟩), .pointer (some ⟨q + 1, 0, none⟩)], 4⟩] 5 := hm4.set (clock' := 5)
  have hu6 := hm5.add (P := Tryz.prog) (x := 5) Tryz.underlying67 Tryz.underlying30 rfl (.func (.func 50) #[] #[.pointer (some ⟨q, 0, none⟩), .pointer (some ⟨q + 1, 0, none⟩)])
  have hm6 : Mp _ (q + 1 + 1) #[⟨.int .i64 0, .func (.func 39) #[] #[.pointer (some ⟨q, 0, none⟩), .pointer (some ⟨q + 1, 0, none⟩)], 0⟩, ⟨.int .i64 1, .func (.func 40) #[] #[.pointer (some ⟨q, 0, none⟩), .pointer (some ⟨q + 1, 0, none⟩)], 1⟩, ⟨.int .i64 2, .func (.func 42) #[] #[.pointer (some ⟨q, 0, none⟩), .pointer (some ⟨q + 1, 0, none⟩)], 2⟩, ⟨.int .i64 3, .func (.func 44) #[] #[.pointer (some ⟨q, 0, none⟩), .pointer (some ⟨q + 1, 0, none⟩)], 3⟩, ⟨.int .i64 4, .func (.func 47) #[] #[.pointer (some ⟨q, 0, none⟩), .pointer (some ⟨q + 1, 0, none⟩)], 4⟩, ⟨.int .i64 5, .func (.func 50) #[] #[.pointer (some ⟨q, 0, none⟩), .pointer (some ⟨q + 1, 0, none⟩)], 5⟩] 6 := hm5.set (clock' := 6)
  have hu7 := hm6.add (P := Tryz.prog) (x := 6) Tryz.underlying67 Tryz.underlying30 rfl (.func (.func 53) #[] #[.pointer (some ⟨q, 0, none⟩), .pointer (some ⟨q + 1, 0, none⟩)])
  have hm7 : Mp _ (q + 1 + 1) #[⟨.int .i64 0, .func (.func 39) #[] #[.pointer (some ⟨q, 0, none⟩), .pointer (some ⟨q + 1, 0, none⟩)], 0⟩, ⟨.int .i64 1, .func (.func 40) #[] #[.pointer (some ⟨q, 0, none⟩), .pointer (some ⟨q + 1, 0, none⟩)], 1⟩, ⟨.int .i64 2, .func (.func 42) #[] #[.pointer (some ⟨q, 0, none⟩), .pointer (some ⟨q + 1, 0, none⟩)], 2⟩, ⟨.int .i64 3, .func (.func 44) #[] #[.pointer (some ⟨q, 0, none⟩), .pointer (some ⟨q + 1, 0, none⟩)], 3⟩, ⟨.int .i64 4, .func (.func 47) #[] #[.pointer (some ⟨q, 0, none⟩), .pointer (some ⟨q + 1, 0, none⟩)], 4⟩, ⟨.int .i64 5, .func (.func 50) #[] #[.pointer (some ⟨q, 0, none⟩), .pointer (some ⟨q + 1, 0, none⟩)], 5⟩, ⟨.int .i64 6, .func (.func 53) #[] #[.pointer (some ⟨q, 0, none⟩), .pointer (some ⟨q + 1, 0, none⟩)], 6⟩] 7 := hm6.set (clock' := 7)
  have hu8 := hm7.add (P := Tryz.prog) (x := 7) Tryz.underlying67 Tryz.underlying30 rfl (.func (.func 56) #[] #[.pointer (some ⟨q, 0, none⟩), .pointer (some ⟨q + 1, 0, none⟩)])
  have hm8 : Mp _ (q + 1 + 1) #[⟨.int .i64 0, .func (.func 39) #[] #[.pointer (some ⟨q, 0, none⟩), .pointer (some ⟨q + 1, 0, none⟩)], 0⟩, ⟨.int .i64 1, .func (.func 40) #[] #[.pointer (some ⟨q, 0, none⟩), .pointer (some ⟨q + 1, 0, none⟩)], 1⟩, ⟨.int .i64 2, .func (.func 42) #[] #[.pointer (some ⟨q, 0, none⟩), .pointer (some ⟨q + 1, 0, none⟩)], 2⟩, ⟨.int .i64 3, .func (.func 44) #[] #[.pointer (some ⟨q, 0, none⟩), .pointer (some ⟨q + 1, 0, none⟩)], 3⟩, ⟨.int .i64 4, .func (.func 47) #[] #[.pointer (some ⟨q, 0, none⟩), .pointer (some ⟨q + 1, 0, none⟩)], 4⟩, ⟨.int .i64 5, .func (.func 50) #[] #[.pointer (some ⟨q, 0, none⟩), .pointer (some ⟨q + 1, 0, none⟩)], 5⟩, ⟨.int .i64 6, .func (.func 53) #[] #[.pointer (some ⟨q, 0, none⟩), .pointer (some ⟨q + 1, 0, none⟩)], 6⟩, ⟨.int .i64 7, .func (.func 56) #[] #[.pointer (some ⟨q, 0, none⟩), .pointer (some ⟨q + 1, 0, none⟩)], 7⟩] 8 := hm7.set (clock' := 8)
  have hbc := (((((((((Chg.refl (fun k => k = q + 1 + 1) (((w.alloc (.cells #[.pointer (some ⟨p, 0, none⟩)] 24)).alloc (.cells #[.int .i64 op, .int .i64 po, .int .i64 ch, .int .u64 ma] 33)).alloc (.map #[] 0))).setBlock (q + 1 + 1) (.map #[⟨.int .i64 0, .func (.func 39) #[] #[.pointer (some ⟨q, 0, none⟩), .pointer (some ⟨q + 1, 0, none⟩)], 0⟩] 1) (fun _ => rfl)).setBlock (q + 1 + 1) (.map #[⟨.int .i64 0, .func (.func 39) #[] #[.pointer (some ⟨q, 0, none⟩), .pointer (some ⟨q + 1, 0, none⟩)], 0⟩, ⟨.int .i64 1, .func (.func 40) #[] #[.pointer (some ⟨q, 0, none⟩), .pointer (some ⟨q + 1, 0, none⟩)], 1⟩] 2) (fun _ => rfl)).setBlock (q + 1 + 1) (.map #[⟨.int .i64 0, .func (.func 39) #[] #[.pointer (some ⟨q, 0, none⟩), .pointer (some ⟨q + 1, 0, none⟩)], 0⟩, ⟨.int .i64 1, .func (.func 40) #[] #[.pointer (some ⟨q, 0, none⟩), .pointer (some ⟨q + 1, 0, none⟩)], 1⟩, ⟨.int .i64 2, .func (.func 42) #[] #[.pointer (some ⟨q, 0, none⟩), .pointer (some ⟨q + 1, 0, none⟩)], 2⟩] 3) (fun _ => rfl)).setBlock (q + 1 + 1) (.map #[⟨.int .i64 0, .func (.func 39) #[] #[.pointer (some ⟨q, 0, none⟩), .pointer (some ⟨q + 1, 0, none⟩)], 0⟩, ⟨.int .i64 1, .func (.func 40) #[] #[.pointer (some ⟨q, 0, none⟩), .pointer (some ⟨q + 1, 0, none⟩)], 1⟩, ⟨.int .i64 2, .func (.func 42) #[] #[.pointer (some ⟨q, 0, none⟩), .pointer (some ⟨q + 1, 0, none⟩)], 2⟩, ⟨.int .i64 3, .func (.func 44) #[] #[.pointer (some ⟨q, 0, none⟩), .pointer (some ⟨q + 1, 0, none⟩)], 3⟩] 4) (fun _ => rfl)).setBlock (q + 1 + 1) (.map #[⟨.int .i64 0, .func (.func 39) #[] #[.pointer (some ⟨q, 0, none⟩), .pointer (some ⟨q + 1, 0, none⟩)], 0⟩, ⟨.int .i64 1, .func (.func 40) #[] #[.pointer (some ⟨q, 0, none⟩), .pointer (some ⟨q + 1, 0, none⟩)], 1⟩, ⟨.int .i64 2, .func (.func 42) #[] #[.pointer (some ⟨q, 0, none⟩), .pointer (some ⟨q + 1, 0, none⟩)], 2⟩, ⟨.int .i64 3, .func (.func 44) #[] #[.pointer (some ⟨q, 0, none⟩), .pointer (some ⟨q + 1, 0, none⟩)], 3⟩, ⟨.int .i64 4, .func (.func 47) #[] #[.pointer (some ⟨q, 0, none⟩), .pointer (some ⟨q + 1, 0, none⟩)], 4⟩] 5) (fun _ => rfl)).setBlock (q + 1 + 1) (.map #[⟨.int .i64 0, .func (.func 39) #[] #[.pointer (some ⟨q, 0, none⟩), .pointer (some ⟨q + 1, 0, none⟩)], 0⟩, ⟨.int .i64 1, .func (.func 40) #[] #[.pointer (some ⟨q, 0, none⟩), .pointer (some ⟨q + 1, 0, none⟩)], 1⟩, ⟨.int .i64 2, .func (.func 42) #[] #[.pointer (some ⟨q, 0, none⟩), .pointer (some ⟨q + 1, 0, none⟩)], 2⟩, ⟨.int .i64 3, .func (.func 44) #[] #[.pointer (some ⟨q, 0, none⟩), .pointer (some ⟨q + 1, 0, none⟩)], 3⟩, ⟨.int .i64 4, .func (.func 47) #[] #[.pointer (some ⟨q, 0, none⟩), .pointer (some ⟨q + 1, 0, none⟩)], 4⟩, ⟨.int .i64 5, .func (.func 50) #[] #[.pointer (some ⟨q, 0, none⟩), .pointer (some ⟨q + 1, 0, none⟩)], 5⟩] 6) (fun _ => rfl)).setBlock (q + 1 + 1) (.map #[⟨.int .i64 0, .func (.func 39) #[] #[.pointer (some ⟨q, 0, none⟩), .pointer (some ⟨q + 1, 0, none⟩)], 0⟩, ⟨.int .i64 1, .func (.func 40) #[] #[.pointer (some ⟨q, 0, none⟩), .pointer (some ⟨q + 1, 0, none⟩)], 1⟩, ⟨.int .i64 2, .func (.func 42) #[] #[.pointer (some ⟨q, 0, none⟩), .pointer (some ⟨q + 1, 0, none⟩)], 2⟩, ⟨.int .i64 3, .func (.func 44) #[] #[.pointer (some ⟨q, 0, none⟩), .pointer (some ⟨q + 1, 0, none⟩)], 3⟩, ⟨.int .i64 4, .func (.func 47) #[] #[.pointer (some ⟨q, 0, none⟩), .pointer (some ⟨q + 1, 0, none⟩)], 4⟩, ⟨.int .i64 5, .func (.func 50) #[] #[.pointer (some ⟨q, 0, none⟩), .pointer (some ⟨q + 1, 0, none⟩)], 5⟩, ⟨.int .i64 6, .func (.func 53) #[] #[.pointer (some ⟨q, 0, none⟩), .pointer (some ⟨q + 1, 0, none⟩)], 6⟩] 7) (fun _ => rfl)).setBlock (q + 1 + 1) (.map #[⟨.int .i64 0, .func (.func 39) #[] #[.pointer (some ⟨q, 0, none⟩), .pointer (some ⟨q + 1, 0, none⟩)], 0⟩, ⟨.int .i64 1, .func (.func 40) #[] #[.pointer (some ⟨q, 0, none⟩), .pointer (some ⟨q + 1, 0, none⟩)], 1⟩, ⟨.int .i64 2, .func (.func 42) #[] #[.pointer (some ⟨q, 0, none⟩), .pointer (some ⟨q + 1, 0, none⟩)], 2⟩, ⟨.int .i64 3, .func (.func 44) #[] #[.pointer (some ⟨q, 0, none⟩), .pointer (some ⟨q + 1, 0, none⟩)], 3⟩, ⟨.int .i64 4, .func (.func 47) #[] #[.pointer (some ⟨q, 0, none⟩), .pointer (some ⟨q + 1, 0, none⟩)], 4⟩, ⟨.int .i64 5, .func (.func 50) #[] #[.pointer (some ⟨q, 0, none⟩), .pointer (some ⟨q + 1, 0, none⟩)], 5⟩, ⟨.int .i64 6, .func (.func 53) #[] #[.pointer (some ⟨q, 0, none⟩), .pointer (some ⟨q + 1, 0, none⟩)], 6⟩, ⟨.int .i64 7, .func (.func 56) #[] #[.pointer (some ⟨q, 0, none⟩), .pointer (some ⟨q + 1, 0, none⟩)], 7⟩] 8) (fun _ => rfl))
  have hc := fresh_put20 ((((Chg.refl (fun _ => False) w).alloc (.cells #[.pointer (some ⟨p, 0, none⟩)] 24)).alloc (.cells #[.int .i64 op, .int .i64 po, .int .i64 ch, .int .u64 ma] 33)).alloc (.map #[] 0)) hbc (by omega)
  have HH := Lib.hid (And.intro (hb0.chg hbc (by omega)) (And.intro (hb1.chg hbc (by omega)) (And.intro hm8 hc)))
  clear hb0 hb1 hm0 hm1 hm2 hm3 hm4 hm5 hm6 hm7 hm8 hbc hc
  simp only [List.push_toArray, List.nil_append, List.cons_append, Nat.zero_add] at hu1 hu2 hu3 hu4 hu5 hu6 hu7 hu8
  go_enter Tryz.func22, Tryz.ntmps22
  go_wp2_with fail
  go_ret
  exact ⟨q, q + 1, q + 1 + 1, rfl, HH.out.1, HH.out.2.1, HH.out.2.2.1, HH.out.2.2.2⟩
set_option maxRecDepth 100000 in
set_option maxHeartbeats 8000000 in
theorem do20_any {B : Nat} {w : World} {p ps bc br : Nat} {C : Int → Bool} {R : Int → Option RV} {sp no : Int} (h : MM20 B w p ps bc br C R sp no) (hw : WF C R) (op po ch ma : Int) : Calls Tryz.prog 9 #[.pointer (some ⟨p, 0, none⟩), .agg #[.int .i64 op, .int .i64 po, .int .i64 ch, .int .u64 ma]] w (BecP20 B p ps bc (doM20 ⟨C, R, sp, no⟩ op po ch ma) w) := by
  have hc0 := ((Chg.refl (fun _ => False) w).alloc (.cells #[.int .i64 op, .int .i64 po, .int .i64 ch, .int .u64 ma] 33)).alloc (.cells #[.int .i64 0, .int .u64 0, .int .i64 0, .int .i64 0, .int .i64 0, .int .i64 0, .int .i64 0, .int .i64 0, .int .i64 0] 40)
  have HM := Lib.hid (h.keep hc0)
  have HB : Hid (Blk ((w.alloc (.cells #[.int .i64 op, .int .i64 po, .int .i64 ch, .int .u64 ma] 33)).alloc (.cells #[.int .i64 0, .int .u64 0, .int .i64 0, .int .i64 0, .int .i64 0, .int .i64 0, .int .i64 0, .int .i64 0, .int .i64 0] 40)) w.heap.size 33 #[.int .i64 op, .int .i64 po, .int .i64 ch, .int .u64 ma]) := Lib.hid ((blk_new rfl).alloc _)
  have HZ : Hid (Blk ((w.alloc (.cells #[.int .i64 op, .int .i64 po, .int .i64 ch, .int .u64 ma] 33)).alloc (.cells #[.int .i64 0, .int .u64 0, .int .i64 0, .int .i64 0, .int .i64 0, .int .i64 0, .int .i64 0, .int .i64 0, .int .i64 0] 40)) (w.heap.size + 1) 40 (rvC 0 0 0 0 0 0 0 0 0)) := Lib.hid (blk_new (by simp))
  have HX := Lib.hid hc0
  have HLT := Lib.hid h.lt
  have HW := Lib.hid hw
  clear h hc0 hw
  go_enter Tryz.func9, Tryz.ntmps9
  go_upto_region 3 with fail
  generalize (w.alloc (.cells #[.int .i64 op, .int .i64 po, .int .i64 ch, .int .u64 ma] 33)).alloc (.cells #[.int .i64 0, .int .u64 0, .int .i64 0, .int .i64 0, .int .i64 0, .int .i64 0, .int .i64 0, .int .i64 0, .int .i64 0] 40) = w1 at *
  generalize hq1 : w.heap.size + 1 = Q1 at HZ ⊢
  have HQ : Hid (w.heap.size ≤ Q1) := Lib.hid (by omega)
  have HNE : Hid (¬ Mv20 p ps bc Q1 ∧ ¬ p = Q1 ∧ ¬ ps = Q1 ∧ ¬ bc = Q1) := Lib.hid (by have h1 := HLT.out; unfold Mv20; omega)
  clear hq1
  generalize w.heap.size = Q0 at HB ⊢
  have HKEEP : Hid (∀ W : World, Chg (fun _ => False) w1 W → ((W.cell? ⟨Q0, 0, none⟩ = some (.int .i64 op) ∧ W.cell? ⟨Q0, 1, none⟩ = some (.int .i64 po) ∧ W.cell? ⟨Q0, 2, none⟩ = some (.int .i64 ch) ∧ W.cell? ⟨Q0, 3, none⟩ = some (.int .u64 ma)))) := Lib.hid (fun W hw => cl_cells17 (HB.out.chg hw id))
  have HY0 := Lib.hid (Chg.refl (fun _ => False) w1).drew
  have hkk := HKEEP.out _ HY0.out
  obtain ⟨g0, g1, g2, g3⟩ := hkk
  go_region_held3 (fun w' => (w'.cell? ⟨Q0, 0, none⟩ = some (.int .i64 op) ∧ w'.cell? ⟨Q0, 1, none⟩ = some (.int .i64 po) ∧ w'.cell? ⟨Q0, 2, none⟩ = some (.int .i64 ch) ∧ w'.cell? ⟨Q0, 3, none⟩ = some (.int .u64 ma)))
    (first | with_reducible exact HKEEP.out _ HY0.out | with_reducible exact HKEEP.out _ HYB.out | fail)
    (first
      | (go_at_call 22; (with_reducible refine (deeds20_any _ _ _ _ _ _).mono ?_); rintro e wz ⟨QM, QX, m, rfl, hqm, hqx, hmp, hc⟩; have HYB := Lib.hid (HY0.out.trans hc (fun _ _ e => e)); obtain ⟨v, vb, hlk, hv⟩ := deed_look20 hmp op; have HVV := Lib.hid hv; have HQM := Lib.hid hqm; have HQX := Lib.hid hqx; clear hc hqm hqx hmp hv)
      | fail)
  all_goals
    clear hlk g0 g1 g2 g3
    replace HM := Lib.hid (HM.out.keep HYB.out)
    replace HZ := Lib.hid (HZ.out.chg HYB.out id)
    replace HX := Lib.hid (HX.out.trans HYB.out (fun _ _ e => e))
    rcases HVV.out with ⟨rfl, hn⟩ | ⟨rfl, n, rfl, hcf, hd⟩
    · have HT : Hid (doM20 ⟨C, R, sp, no⟩ op po ch ma = (z9, 1, ⟨C, R, sp, no⟩)) := Lib.hid (do_miss20 _ hn po ch ma)
      clear hn HVV HKEEP HY0 HYB HB
      have HM2 := Lib.hid HM.out
      have HS2 := Lib.hid HM.out.cs
      have HX2 : Hid (Chg (Mv20 p ps bc) w wz) := Lib.hid (HX.out.mono (fun _ _ h => h.elim))
      obtain ⟨x0, x1, x2, x3, x4, x5, x6, x7, x8⟩ := rv_cells HZ.out
      obtain ⟨u0, u1, u2, u3, u4, u5, u6, u7, u8⟩ := rv_free9 HZ.out
      obtain ⟨r0, r1, r2, r3, r4, r5, r6, r7, r8, -, hcs⟩ := rv_put9 HZ.out 0 0 0 0 0 0 0 0 0
      have RR := Lib.hid (And.intro r0 (And.intro r1 (And.intro r2 (And.intro r3 (And.intro r4 (And.intro r5 (And.intro r6 (And.intro r7 r8))))))))
      have HCS := Lib.hid hcs
      have HBR := Lib.hid (HS2.out.apart HZ.out (by decide)).2.2.symm
      have HFM := Lib.hid (fresh_put20 HX2.out hcs HQ.out)
      clear r0 r1 r2 r3 r4 r5 r6 r7 r8 hcs
      go_wp2_with fail
      obtain ⟨r0, r1, r2, r3, r4, r5, r6, r7, r8⟩ := RR.out
      refine bodyPost_ret (v := .tuple #[.agg #[.int .i64 0, .int .u64 0, .int .i64 0, .int .i64 0, .int .i64 0, .int .i64 0, .int .i64 0, .int .i64 0, .int .i64 0], .int .i64 1]) (by simp [results, Tryz.results9, go_sem, r0, r1, r2, r3, r4, r5, r6, r7, r8]) rfl ?_
      exact ⟨br, by rw [HT.out]; first | done | rfl, by rw [HT.out]; exact HM2.out.chg HCS.out HNE.out.2.1 HNE.out.2.2.1 HNE.out.2.2.2 HBR.out, HFM.out⟩
    · have hcl := hd B wz p ps bc br C R sp no QM QX po ch ma HM.out HW.out HQM.out HQX.out
      obtain ⟨b0, b1, b2, b3, b4, b5, b6, b7, b8, be, C2, R2, sp2, no2, hbp⟩ := num9b (doM20 ⟨C, R, sp, no⟩ op po ch ma)
      rw [hbp] at hcl
      have HBP := Lib.hid hbp
      have HCL : Hid (Calls _ _ _ _ (fun e w' => ∃ br', e = .returned (.tuple #[.agg #[.int .i64 b0, .int .u64 b1, .int .i64 b2, .int .i64 b3, .int .i64 b4, .int .i64 b5, .int .i64 b6, .int .i64 b7, .int .i64 b8], .int .i64 be]) ∧ MM20 B w' p ps bc br' C2 R2 sp2 no2 ∧ Chg (Mv20 p ps bc) wz w')) := Lib.hid hcl
      clear hcl hbp hd HVV HKEEP HY0 HYB HB
      go_wp2_with fail
      refine HCL.out.mono ?_
      rintro e wy ⟨br', rfl, hm2, hc2⟩
      have HX2 := Lib.hid (HX.out.widen17 hc2 (fun _ h => h))
      replace HZ := Lib.hid (HZ.out.chg hc2 HNE.out.1)
      have HS2 := Lib.hid hm2.cs
      have HM2 := Lib.hid hm2
      clear hm2 hc2 HCL
      obtain ⟨x0, x1, x2, x3, x4, x5, x6, x7, x8⟩ := rv_cells HZ.out
      obtain ⟨u0, u1, u2, u3, u4, u5, u6, u7, u8⟩ := rv_free9 HZ.out
      obtain ⟨r0, r1, r2, r3, r4, r5, r6, r7, r8, -, hcs⟩ := rv_put9 HZ.out b0 b1 b2 b3 b4 b5 b6 b7 b8
      have RR := Lib.hid (And.intro r0 (And.intro r1 (And.intro r2 (And.intro r3 (And.intro r4 (And.intro r5 (And.intro r6 (And.intro r7 r8))))))))
      have HCS := Lib.hid hcs
      have HBR := Lib.hid (HS2.out.apart HZ.out (by decide)).2.2.symm
      have HFM := Lib.hid (fresh_put20 HX2.out hcs HQ.out)
      clear r0 r1 r2 r3 r4 r5 r6 r7 r8 hcs
      go_wp2_with fail
      obtain ⟨r0, r1, r2, r3, r4, r5, r6, r7, r8⟩ := RR.out
      refine bodyPost_ret (v := .tuple #[.agg #[.int .i64 b0, .int .u64 b1, .int .i64 b2, .int .i64 b3, .int .i64 b4, .int .i64 b5, .int .i64 b6, .int .i64 b7, .int .i64 b8], .int .i64 be]) (by simp [results, Tryz.results9, go_sem, r0, r1, r2, r3, r4, r5, r6, r7, r8]) rfl ?_
      exact ⟨br', by rw [HBP.out]; first | done | rfl, by rw [HBP.out]; exact HM2.out.chg HCS.out HNE.out.2.1 HNE.out.2.2.1 HNE.out.2.2.2 HBR.out, HFM.out⟩
set_option maxRecDepth 100000 in
set_option maxHeartbeats 4000000 in
theorem do20_nil (op po ch ma : Int) (w : World) : Calls Tryz.prog 9 #[.pointer none, .agg #[.int .i64 op, .int .i64 po, .int .i64 ch, .int .u64 ma]] w fun e w' => e = .returned (.tuple #[.agg #[.int .i64 0, .int .u64 0, .int .i64 0, .int .i64 0, .int .i64 0, .int .i64 0, .int .i64 0, .int .i64 0, .int .i64 0], .int .i64 1]) ∧ Chg (fun _ => False) w w' := by
  have hc0 := ((Chg.refl (fun _ => False) w).alloc (.cells #[.int .i64 op, .int .i64 po, .int .i64 ch, .int .u64 ma] 33)).alloc (.cells #[.int .i64 0, .int .u64 0, .int .i64 0, .int .i64 0, .int .i64 0, .int .i64 0, .int .i64 0, .int .i64 0, .int .i64 0] 40)
  have HZ : Hid (Blk ((w.alloc (.cells #[.int .i64 op, .int .i64 po, .int .i64 ch, .int .u64 ma] 33)).alloc (.cells #[.int .i64 0, .int .u64 0, .int .i64 0, .int .i64 0, .int .i64 0, .int .i64 0, .int .i64 0, .int .i64 0, .int .i64 0] 40)) (w.heap.size + 1) 40 (rvC 0 0 0 0 0 0 0 0 0)) := Lib.hid (blk_new (by simp))
  have HX := Lib.hid hc0
  clear hc0
  go_enter Tryz.func9, Tryz.ntmps9
  go_upto_region 2 with fail
  generalize (w.alloc (.cells #[.int .i64 op, .int .i64 po, .int .i64 ch, .int .u64 ma] 33)).alloc (.cells #[.int .i64 0, .int .u64 0, .int .i64 0, .int .i64 0, .int .i64 0, .int .i64 0, .int .i64 0, .int .i64 0, .int .i64 0] 40) = w1 at *
  have HQ : Hid (w.heap.size ≤ w.heap.size + 1) := Lib.hid (by omega)
  obtain ⟨x0, x1, x2, x3, x4, x5, x6, x7, x8⟩ := rv_cells HZ.out
  obtain ⟨u0, u1, u2, u3, u4, u5, u6, u7, u8⟩ := rv_free9 HZ.out
  obtain ⟨r0, r1, r2, r3, r4, r5, r6, r7, r8, -, hcs⟩ := rv_put9 HZ.out 0 0 0 0 0 0 0 0 0
  have RR := Lib.hid (And.intro r0 (And.intro r1 (And.intro r2 (And.intro r3 (And.intro r4 (And.intro r5 (And.intro r6 (And.intro r7 r8))))))))
  have HF := Lib.hid (fresh_set HX.out hcs HQ.out)
  clear r0 r1 r2 r3 r4 r5 r6 r7 r8 hcs
  go_wp2_with fail
  obtain ⟨r0, r1, r2, r3, r4, r5, r6, r7, r8⟩ := RR.out
  exact bodyPost_ret (v := .tuple #[.agg #[.int .i64 0, .int .u64 0, .int .i64 0, .int .i64 0, .int .i64 0, .int .i64 0, .int .i64 0, .int .i64 0, .int .i64 0], .int .i64 1]) (by simp [results, Tryz.results9, go_sem, r0, r1, r2, r3, r4, r5, r6, r7, r8]) rfl ⟨rfl, HF.out⟩

end Go.Proofs.YtimgnogacanifaaGreat
