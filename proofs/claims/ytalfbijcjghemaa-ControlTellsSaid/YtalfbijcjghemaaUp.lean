/-
  Walks: rutterref06.row, one; append of elements of any size onto what is owned. Conditions: the receiver is such a reader in memory.
-/
import Derived.Test.YtalfbijcjghemaaUm
import Derived.Test.YtalfbijcjghemaaRr
namespace Go.Proofs.Ytalfbijcjghemaa
open Go.RowKit
set_option linter.unusedVariables false

theorem rcget (p k : Nat) (S : Nat → Prop) (st : Option (List UInt8)) (w : World) (h : Rd 72 false w p S st) :
    Calls Try.prog 36 #[.pointer (some ⟨p, 0, none⟩), .int .i64 (k : Int)] w fun e w' => e = .returned (.int .i64 (gv k st)) ∧ Rd 72 false w' p S (gn k st) ∧ Chg (fun k => k = p) w w' := rget_any p S st k w h
theorem step_own_append6 {P : Program} (w : World) {ops : Array Oper} {o : Oper} {a : Act} {K : Act → World → Prop} {Q : Exit → Act → World → Prop} {E : Prop} (hgd : o.guard = none) (s x : Operand) (t : TypeId)
    (ho : o.op = .call { callee := .builtin .append, args := #[s, x], argTypes := #[t, t] })
    (base : Nat) (e : TypeId) (i : TypeInfo) (z : Value) (size bytes : Nat) (ht : P.underlying t = some (.slice e)) (hi : P.info? e = some i) (hz : i.zero = some z)
    (hsize : i.size = size) (hby : i.bytes = bytes) (hzs : z.cells.size = size) (hpos : 0 < size)
    (v : Value) (n : Nat) (xs : List Value) (hs : a.eval s = v) (hown : w.ownsRow base e size v n xs)
    (ad : Addr) (m c : Nat) (news : List Value) (hx : a.eval x = .slice (some ad) m c) (hl : news.length = m * size) (hnews : ∀ j u, news[j]? = some u → w.cell? (ad.add j) = some u) (h1 : ∀ u ∈ news, u.oneCell' = true)
    (h63 : n + m ≤ maxLen) (hbytes : (n + m) * bytes ≤ 140737488355328) (hbase : base ≤ w.heap.size)
    (h : ∀ v' w', w'.ownsRow base e size v' (n + m) (xs ++ news) → w.grownBy w' v.ownBlock → (v'.ownBlock = v.ownBlock ∨ v'.ownBlock = some w.heap.size) → K (a.put o.dst v') w') :
    if Region.wanted o (yielded ops a.tmps) = true then Oper.wp P o a w K Q else E := by
  rw [if_pos (by simp [Region.wanted, hgd])]
  obtain ⟨v', w', hrun, h2, h3, _, h4⟩ := run_append_own_at (P := P) w base t o.type e i z size bytes ht hi hz hsize hby hzs hpos v n xs hown ad m c news hl hnews h1 h63 hbytes hbase
  unfold Oper.wp execOp
  simp only [ho, resolve, invoke, builtin, Sem.run_bind, Sem.run_pure, Result.andThen_ok, List.map_toArray, List.map_cons, List.map_nil, hs, hx, hrun]
  exact h v' w' h2 h3 h4

set_option maxHeartbeats 2000000 in
theorem rrow6_any (p : Nat) (S : Nat → Prop) (st : Option (List UInt8)) (w : World) (h : Rd 72 false w p S st) (hS : ∀ k, S k → k < p) :
    Calls Try.prog 37 #[.pointer (some ⟨p, 0, none⟩)] w fun e w' => e = .returned (.agg (rvC (rv st 0) (rv st 1) (rv st 2 - 1) (rv st 3 - 1) (rv st 4 - 1) (rv st 6) (rv st 5) (rv st 7) (rv st 8))) ∧ Rd 72 false w' p S (rs st 9) ∧ Chg (fun k => k = p) w w' := by
  have hp := h.lt
  have HS := Lib.hid hS
  have HR : Hid (Blk (w.alloc (.cells #[.int .i64 0, .int .u64 0, .int .i64 0, .int .i64 0, .int .i64 0, .int .i64 0, .int .i64 0, .int .i64 0, .int .i64 0] 25)) w.heap.size 25 (rvC 0 0 0 0 0 0 0 0 0)) := Lib.hid (blk_new rfl)
  have HC := Lib.hid ((Chg.refl (fun k => k = p) w).alloc (.cells #[.int .i64 0, .int .u64 0, .int .i64 0, .int .i64 0, .int .i64 0, .int .i64 0, .int .i64 0, .int .i64 0, .int .i64 0] 25))
  have HRD := Lib.hid (show Rd 72 false (w.alloc (.cells #[.int .i64 0, .int .u64 0, .int .i64 0, .int .i64 0, .int .i64 0, .int .i64 0, .int .i64 0, .int .i64 0, .int .i64 0] 25)) p S (rs st 0) from h.chg ((Chg.refl (fun _ => False) w).alloc _) id (fun _ _ => id))
  have g1 := gv_range 6 (rs st 1)
  have g2 := gv_range 1 (rs st 2)
  have g3 := gv_range 1 (rs st 3)
  have g4 := gv_range 1 (rs st 4)
  have a1 : IntKind.u64.wrap (rv st 1) = rv st 1 := u64_wrap ⟨g1.1, Int.le_trans g1.2 (by decide)⟩
  have a2 : IntKind.i64.wrap (rv st 2 - 1) = rv st 2 - 1 := i64_wrap (by have e : rv st 2 = gv 1 (rs st 2) := rfl; omega)
  have a3 : IntKind.i64.wrap (rv st 3 - 1) = rv st 3 - 1 := i64_wrap (by have e : rv st 3 = gv 1 (rs st 3) := rfl; omega)
  have a4 : IntKind.i64.wrap (rv st 4 - 1) = rv st 4 - 1 := i64_wrap (by have e : rv st 4 = gv 1 (rs st 4) := rfl; omega)
  clear h hS g1 g2 g3 g4
  go_enter Try.func37, Try.ntmps37
  have HG := Lib.hid (show Calls _ _ _ _ (fun e w' => e = .returned (.int .i64 (rv st 0)) ∧ Rd 72 false w' p S (rs st 1) ∧ Chg (fun k => k = p) _ w') from rcget p 1 S (rs st 0) _ HRD.out)
  go_wp2_with fail
  refine HG.out.mono ?_
  rintro e w0 ⟨rfl, hrd, hc'⟩
  replace HC := Lib.hid (HC.out.past hc')
  replace HR := Lib.hid (HR.out.chg hc' (by omega))
  replace HRD := Lib.hid hrd
  clear HG hrd hc'
  have hX := HR.out.lt
  have hXp := HRD.out.lt
  have HX : Hid (Blk (w0.alloc (.cells #[.int .i64 (rv st 0), .int .u64 0, .int .i64 0, .int .i64 0, .int .i64 0, .int .i64 0, .int .i64 0, .int .i64 0, .int .i64 0] 25)) w0.heap.size 25 (rvC (rv st 0) 0 0 0 0 0 0 0 0)) := Lib.hid (blk_new rfl)
  replace HC := Lib.hid (HC.out.alloc (.cells #[.int .i64 (rv st 0), .int .u64 0, .int .i64 0, .int .i64 0, .int .i64 0, .int .i64 0, .int .i64 0, .int .i64 0, .int .i64 0] 25))
  replace HR := Lib.hid (HR.out.alloc (.cells #[.int .i64 (rv st 0), .int .u64 0, .int .i64 0, .int .i64 0, .int .i64 0, .int .i64 0, .int .i64 0, .int .i64 0, .int .i64 0] 25))
  replace HRD := Lib.hid (HRD.out.chg ((Chg.refl (fun _ => False) _).alloc (.cells #[.int .i64 (rv st 0), .int .u64 0, .int .i64 0, .int .i64 0, .int .i64 0, .int .i64 0, .int .i64 0, .int .i64 0, .int .i64 0] 25)) id (fun _ _ => id))
  have HG := Lib.hid (show Calls _ _ _ _ (fun e w' => e = .returned (.int .i64 (rv st 1)) ∧ Rd 72 false w' p S (rs st 2) ∧ Chg (fun k => k = p) _ w') from rcget p 6 S (rs st 1) _ HRD.out)
  go_wp2_with fail
  refine HG.out.mono ?_
  rintro e w1 ⟨rfl, hrd, hc'⟩
  replace HC := Lib.hid (HC.out.past hc')
  replace HR := Lib.hid (HR.out.chg hc' (by omega))
  replace HX := Lib.hid (HX.out.chg hc' (by omega))
  replace HRD := Lib.hid hrd
  clear HG hrd hc'
  obtain ⟨y0, y1, y2, y3, y4, y5, y6, y7, y8⟩ := rv_cells HX.out
  obtain ⟨u0, u1, u2, u3, u4, u5, u6, u7, u8⟩ := rv_free HX.out
  have hset := HX.out.set 1 (.int .u64 (rv st 1))
  simp only [rvC, List.setIfInBounds_toArray, List.set_cons_succ, List.set_cons_zero] at hset
  have hset : Blk _ _ 25 (rvC (rv st 0) (rv st 1) 0 0 0 0 0 0 0) := hset
  have hcs := (Chg.refl (fun k => k = w0.heap.size) w1).put (w0.heap.size) 1 (fun _ => rfl) (.int .u64 (rv st 1))
  replace HC := Lib.hid (HC.out.new hcs (by omega))
  replace HR := Lib.hid (HR.out.chg hcs (by omega))
  replace HRD := Lib.hid (HRD.out.chg hcs (by omega) (fun k hk => by have := HS.out k hk; omega))
  replace HX := Lib.hid hset
  clear hset hcs
  have HG := Lib.hid (show Calls _ _ _ _ (fun e w' => e = .returned (.int .i64 (rv st 2)) ∧ Rd 72 false w' p S (rs st 3) ∧ Chg (fun k => k = p) _ w') from rcget p 1 S (rs st 2) _ HRD.out)
  go_wp2_with fail
  refine HG.out.mono ?_
  rintro e w2 ⟨rfl, hrd, hc'⟩
  replace HC := Lib.hid (HC.out.past hc')
  replace HR := Lib.hid (HR.out.chg hc' (by omega))
  replace HX := Lib.hid (HX.out.chg hc' (by omega))
  replace HRD := Lib.hid hrd
  clear HG hrd hc'
  clear y0 y1 y2 y3 y4 y5 y6 y7 y8 u0 u1 u2 u3 u4 u5 u6 u7 u8
  obtain ⟨y0, y1, y2, y3, y4, y5, y6, y7, y8⟩ := rv_cells HX.out
  obtain ⟨u0, u1, u2, u3, u4, u5, u6, u7, u8⟩ := rv_free HX.out
  have hset := HX.out.set 2 (.int .i64 (rv st 2 - 1))
  simp only [rvC, List.setIfInBounds_toArray, List.set_cons_succ, List.set_cons_zero] at hset
  have hset : Blk _ _ 25 (rvC (rv st 0) (rv st 1) (rv st 2 - 1) 0 0 0 0 0 0) := hset
  have hcs := (Chg.refl (fun k => k = w0.heap.size) w2).put (w0.heap.size) 2 (fun _ => rfl) (.int .i64 (rv st 2 - 1))
  replace HC := Lib.hid (HC.out.new hcs (by omega))
  replace HR := Lib.hid (HR.out.chg hcs (by omega))
  replace HRD := Lib.hid (HRD.out.chg hcs (by omega) (fun k hk => by have := HS.out k hk; omega))
  replace HX := Lib.hid hset
  clear hset hcs
  have HG := Lib.hid (show Calls _ _ _ _ (fun e w' => e = .returned (.int .i64 (rv st 3)) ∧ Rd 72 false w' p S (rs st 4) ∧ Chg (fun k => k = p) _ w') from rcget p 1 S (rs st 3) _ HRD.out)
  go_wp2_with fail
  refine HG.out.mono ?_
  rintro e w3 ⟨rfl, hrd, hc'⟩
  replace HC := Lib.hid (HC.out.past hc')
  replace HR := Lib.hid (HR.out.chg hc' (by omega))
  replace HX := Lib.hid (HX.out.chg hc' (by omega))
  replace HRD := Lib.hid hrd
  clear HG hrd hc'
  clear y0 y1 y2 y3 y4 y5 y6 y7 y8 u0 u1 u2 u3 u4 u5 u6 u7 u8
  obtain ⟨y0, y1, y2, y3, y4, y5, y6, y7, y8⟩ := rv_cells HX.out
  obtain ⟨u0, u1, u2, u3, u4, u5, u6, u7, u8⟩ := rv_free HX.out
  have hset := HX.out.set 3 (.int .i64 (rv st 3 - 1))
  simp only [rvC, List.setIfInBounds_toArray, List.set_cons_succ, List.set_cons_zero] at hset
  have hset : Blk _ _ 25 (rvC (rv st 0) (rv st 1) (rv st 2 - 1) (rv st 3 - 1) 0 0 0 0 0) := hset
  have hcs := (Chg.refl (fun k => k = w0.heap.size) w3).put (w0.heap.size) 3 (fun _ => rfl) (.int .i64 (rv st 3 - 1))
  replace HC := Lib.hid (HC.out.new hcs (by omega))
  replace HR := Lib.hid (HR.out.chg hcs (by omega))
  replace HRD := Lib.hid (HRD.out.chg hcs (by omega) (fun k hk => by have := HS.out k hk; omega))
  replace HX := Lib.hid hset
  clear hset hcs
  have HG := Lib.hid (show Calls _ _ _ _ (fun e w' => e = .returned (.int .i64 (rv st 4)) ∧ Rd 72 false w' p S (rs st 5) ∧ Chg (fun k => k = p) _ w') from rcget p 1 S (rs st 4) _ HRD.out)
  go_wp2_with fail
  refine HG.out.mono ?_
  rintro e w4 ⟨rfl, hrd, hc'⟩
  replace HC := Lib.hid (HC.out.past hc')
  replace HR := Lib.hid (HR.out.chg hc' (by omega))
  replace HX := Lib.hid (HX.out.chg hc' (by omega))
  replace HRD := Lib.hid hrd
  clear HG hrd hc'
  clear y0 y1 y2 y3 y4 y5 y6 y7 y8 u0 u1 u2 u3 u4 u5 u6 u7 u8
  obtain ⟨y0, y1, y2, y3, y4, y5, y6, y7, y8⟩ := rv_cells HX.out
  obtain ⟨u0, u1, u2, u3, u4, u5, u6, u7, u8⟩ := rv_free HX.out
  have hset := HX.out.set 4 (.int .i64 (rv st 4 - 1))
  simp only [rvC, List.setIfInBounds_toArray, List.set_cons_succ, List.set_cons_zero] at hset
  have hset : Blk _ _ 25 (rvC (rv st 0) (rv st 1) (rv st 2 - 1) (rv st 3 - 1) (rv st 4 - 1) 0 0 0 0) := hset
  have hcs := (Chg.refl (fun k => k = w0.heap.size) w4).put (w0.heap.size) 4 (fun _ => rfl) (.int .i64 (rv st 4 - 1))
  replace HC := Lib.hid (HC.out.new hcs (by omega))
  replace HR := Lib.hid (HR.out.chg hcs (by omega))
  replace HRD := Lib.hid (HRD.out.chg hcs (by omega) (fun k hk => by have := HS.out k hk; omega))
  replace HX := Lib.hid hset
  clear hset hcs
  have HG := Lib.hid (show Calls _ _ _ _ (fun e w' => e = .returned (.int .i64 (rv st 5)) ∧ Rd 72 false w' p S (rs st 6) ∧ Chg (fun k => k = p) _ w') from rcget p 1 S (rs st 5) _ HRD.out)
  go_wp2_with fail
  refine HG.out.mono ?_
  rintro e w5 ⟨rfl, hrd, hc'⟩
  replace HC := Lib.hid (HC.out.past hc')
  replace HR := Lib.hid (HR.out.chg hc' (by omega))
  replace HX := Lib.hid (HX.out.chg hc' (by omega))
  replace HRD := Lib.hid hrd
  clear HG hrd hc'
  clear y0 y1 y2 y3 y4 y5 y6 y7 y8 u0 u1 u2 u3 u4 u5 u6 u7 u8
  obtain ⟨y0, y1, y2, y3, y4, y5, y6, y7, y8⟩ := rv_cells HX.out
  obtain ⟨u0, u1, u2, u3, u4, u5, u6, u7, u8⟩ := rv_free HX.out
  have hset := HX.out.set 6 (.int .i64 (rv st 5))
  simp only [rvC, List.setIfInBounds_toArray, List.set_cons_succ, List.set_cons_zero] at hset
  have hset : Blk _ _ 25 (rvC (rv st 0) (rv st 1) (rv st 2 - 1) (rv st 3 - 1) (rv st 4 - 1) 0 (rv st 5) 0 0) := hset
  have hcs := (Chg.refl (fun k => k = w0.heap.size) w5).put (w0.heap.size) 6 (fun _ => rfl) (.int .i64 (rv st 5))
  replace HC := Lib.hid (HC.out.new hcs (by omega))
  replace HR := Lib.hid (HR.out.chg hcs (by omega))
  replace HRD := Lib.hid (HRD.out.chg hcs (by omega) (fun k hk => by have := HS.out k hk; omega))
  replace HX := Lib.hid hset
  clear hset hcs
  have HG := Lib.hid (show Calls _ _ _ _ (fun e w' => e = .returned (.int .i64 (rv st 6)) ∧ Rd 72 false w' p S (rs st 7) ∧ Chg (fun k => k = p) _ w') from rcget p 5 S (rs st 6) _ HRD.out)
  go_wp2_with fail
  refine HG.out.mono ?_
  rintro e w6 ⟨rfl, hrd, hc'⟩
  replace HC := Lib.hid (HC.out.past hc')
  replace HR := Lib.hid (HR.out.chg hc' (by omega))
  replace HX := Lib.hid (HX.out.chg hc' (by omega))
  replace HRD := Lib.hid hrd
  clear HG hrd hc'
  clear y0 y1 y2 y3 y4 y5 y6 y7 y8 u0 u1 u2 u3 u4 u5 u6 u7 u8
  obtain ⟨y0, y1, y2, y3, y4, y5, y6, y7, y8⟩ := rv_cells HX.out
  obtain ⟨u0, u1, u2, u3, u4, u5, u6, u7, u8⟩ := rv_free HX.out
  have hset := HX.out.set 5 (.int .i64 (rv st 6))
  simp only [rvC, List.setIfInBounds_toArray, List.set_cons_succ, List.set_cons_zero] at hset
  have hset : Blk _ _ 25 (rvC (rv st 0) (rv st 1) (rv st 2 - 1) (rv st 3 - 1) (rv st 4 - 1) (rv st 6) (rv st 5) 0 0) := hset
  have hcs := (Chg.refl (fun k => k = w0.heap.size) w6).put (w0.heap.size) 5 (fun _ => rfl) (.int .i64 (rv st 6))
  replace HC := Lib.hid (HC.out.new hcs (by omega))
  replace HR := Lib.hid (HR.out.chg hcs (by omega))
  replace HRD := Lib.hid (HRD.out.chg hcs (by omega) (fun k hk => by have := HS.out k hk; omega))
  replace HX := Lib.hid hset
  clear hset hcs
  have HG := Lib.hid (show Calls _ _ _ _ (fun e w' => e = .returned (.int .i64 (rv st 7)) ∧ Rd 72 false w' p S (rs st 8) ∧ Chg (fun k => k = p) _ w') from rcget p 6 S (rs st 7) _ HRD.out)
  go_wp2_with fail
  refine HG.out.mono ?_
  rintro e w7 ⟨rfl, hrd, hc'⟩
  replace HC := Lib.hid (HC.out.past hc')
  replace HR := Lib.hid (HR.out.chg hc' (by omega))
  replace HX := Lib.hid (HX.out.chg hc' (by omega))
  replace HRD := Lib.hid hrd
  clear HG hrd hc'
  clear y0 y1 y2 y3 y4 y5 y6 y7 y8 u0 u1 u2 u3 u4 u5 u6 u7 u8
  obtain ⟨y0, y1, y2, y3, y4, y5, y6, y7, y8⟩ := rv_cells HX.out
  obtain ⟨u0, u1, u2, u3, u4, u5, u6, u7, u8⟩ := rv_free HX.out
  have hset := HX.out.set 7 (.int .i64 (rv st 7))
  simp only [rvC, List.setIfInBounds_toArray, List.set_cons_succ, List.set_cons_zero] at hset
  have hset : Blk _ _ 25 (rvC (rv st 0) (rv st 1) (rv st 2 - 1) (rv st 3 - 1) (rv st 4 - 1) (rv st 6) (rv st 5) (rv st 7) 0) := hset
  have hcs := (Chg.refl (fun k => k = w0.heap.size) w7).put (w0.heap.size) 7 (fun _ => rfl) (.int .i64 (rv st 7))
  replace HC := Lib.hid (HC.out.new hcs (by omega))
  replace HR := Lib.hid (HR.out.chg hcs (by omega))
  replace HRD := Lib.hid (HRD.out.chg hcs (by omega) (fun k hk => by have := HS.out k hk; omega))
  replace HX := Lib.hid hset
  clear hset hcs
  have HG := Lib.hid (show Calls _ _ _ _ (fun e w' => e = .returned (.int .i64 (rv st 8)) ∧ Rd 72 false w' p S (rs st 9) ∧ Chg (fun k => k = p) _ w') from rcget p 6 S (rs st 8) _ HRD.out)
  go_wp2_with fail
  refine HG.out.mono ?_
  rintro e w8 ⟨rfl, hrd, hc'⟩
  replace HC := Lib.hid (HC.out.past hc')
  replace HR := Lib.hid (HR.out.chg hc' (by omega))
  replace HX := Lib.hid (HX.out.chg hc' (by omega))
  replace HRD := Lib.hid hrd
  clear HG hrd hc'
  clear y0 y1 y2 y3 y4 y5 y6 y7 y8 u0 u1 u2 u3 u4 u5 u6 u7 u8
  obtain ⟨y0, y1, y2, y3, y4, y5, y6, y7, y8⟩ := rv_cells HX.out
  obtain ⟨u0, u1, u2, u3, u4, u5, u6, u7, u8⟩ := rv_free HX.out
  have hset := HX.out.set 8 (.int .i64 (rv st 8))
  simp only [rvC, List.setIfInBounds_toArray, List.set_cons_succ, List.set_cons_zero] at hset
  have hset : Blk _ _ 25 (rvC (rv st 0) (rv st 1) (rv st 2 - 1) (rv st 3 - 1) (rv st 4 - 1) (rv st 6) (rv st 5) (rv st 7) (rv st 8)) := hset
  have hcs := (Chg.refl (fun k => k = w0.heap.size) w8).put (w0.heap.size) 8 (fun _ => rfl) (.int .i64 (rv st 8))
  replace HC := Lib.hid (HC.out.new hcs (by omega))
  replace HR := Lib.hid (HR.out.chg hcs (by omega))
  replace HRD := Lib.hid (HRD.out.chg hcs (by omega) (fun k hk => by have := HS.out k hk; omega))
  replace HX := Lib.hid hset
  clear hset hcs
  obtain ⟨z0, z1, z2, z3, z4, z5, z6, z7, z8⟩ := rv_cells HX.out
  obtain ⟨x0, x1, x2, x3, x4, x5, x6, x7, x8⟩ := rv_cells HR.out
  obtain ⟨f0, f1, f2, f3, f4, f5, f6, f7, f8⟩ := rv_free HR.out
  obtain ⟨r0, r1, r2, r3, r4, r5, r6, r7, r8, _, hcs⟩ := rv_put HR.out (rv st 0) (rv st 1) (rv st 2 - 1) (rv st 3 - 1) (rv st 4 - 1) (rv st 6) (rv st 5) (rv st 7) (rv st 8)
  replace HC := Lib.hid (HC.out.new hcs (Nat.le_refl _))
  replace HRD := Lib.hid (HRD.out.chg hcs (by omega) (fun k hk => by have := HS.out k hk; omega))
  have RR := Lib.hid (And.intro r0 (And.intro r1 (And.intro r2 (And.intro r3 (And.intro r4 (And.intro r5 (And.intro r6 (And.intro r7 (r8)))))))))
  clear r0 r1 r2 r3 r4 r5 r6 r7 r8 hcs
  go_wp2_with fail
  obtain ⟨r0, r1, r2, r3, r4, r5, r6, r7, r8⟩ := RR.out
  exact bodyPost_ret (v := .agg (rvC (rv st 0) (rv st 1) (rv st 2 - 1) (rv st 3 - 1) (rv st 4 - 1) (rv st 6) (rv st 5) (rv st 7) (rv st 8))) (by simp [results, Try.results37, go_sem, rvC, r0, r1, r2, r3, r4, r5, r6, r7, r8]) rfl ⟨rfl, HRD.out, HC.out⟩
theorem rc_put {w : World} {r : Nat} {pr sr ds sp dp un : Int} {T : TypeId} (hb : Blk w r T (rcC pr sr ds sp dp un)) (pr' sr' ds' sp' dp' un' : Int) :
    (w.setCell ⟨r, 0, none⟩ (.int .i64 pr')).cell? ⟨r, 0, none⟩ = some (.int .i64 pr') ∧
    ((w.setCell ⟨r, 0, none⟩ (.int .i64 pr')).setCell ⟨r, 1, none⟩ (.int .u32 sr')).cell? ⟨r, 1, none⟩ = some (.int .u32 sr') ∧
    (((w.setCell ⟨r, 0, none⟩ (.int .i64 pr')).setCell ⟨r, 1, none⟩ (.int .u32 sr')).setCell ⟨r, 2, none⟩ (.int .u32 ds')).cell? ⟨r, 2, none⟩ = some (.int .u32 ds') ∧
    ((((w.setCell ⟨r, 0, none⟩ (.int .i64 pr')).setCell ⟨r, 1, none⟩ (.int .u32 sr')).setCell ⟨r, 2, none⟩ (.int .u32 ds')).setCell ⟨r, 3, none⟩ (.int .i64 sp')).cell? ⟨r, 3, none⟩ = some (.int .i64 sp') ∧
    (((((w.setCell ⟨r, 0, none⟩ (.int .i64 pr')).setCell ⟨r, 1, none⟩ (.int .u32 sr')).setCell ⟨r, 2, none⟩ (.int .u32 ds')).setCell ⟨r, 3, none⟩ (.int .i64 sp')).setCell ⟨r, 4, none⟩ (.int .i64 dp')).cell? ⟨r, 4, none⟩ = some (.int .i64 dp') ∧
    ((((((w.setCell ⟨r, 0, none⟩ (.int .i64 pr')).setCell ⟨r, 1, none⟩ (.int .u32 sr')).setCell ⟨r, 2, none⟩ (.int .u32 ds')).setCell ⟨r, 3, none⟩ (.int .i64 sp')).setCell ⟨r, 4, none⟩ (.int .i64 dp')).setCell ⟨r, 5, none⟩ (.int .i64 un')).cell? ⟨r, 5, none⟩ = some (.int .i64 un') ∧
    Blk ((((((w.setCell ⟨r, 0, none⟩ (.int .i64 pr')).setCell ⟨r, 1, none⟩ (.int .u32 sr')).setCell ⟨r, 2, none⟩ (.int .u32 ds')).setCell ⟨r, 3, none⟩ (.int .i64 sp')).setCell ⟨r, 4, none⟩ (.int .i64 dp')).setCell ⟨r, 5, none⟩ (.int .i64 un')) r T (rcC pr' sr' ds' sp' dp' un') ∧ Chg (fun k => k = r) w ((((((w.setCell ⟨r, 0, none⟩ (.int .i64 pr')).setCell ⟨r, 1, none⟩ (.int .u32 sr')).setCell ⟨r, 2, none⟩ (.int .u32 ds')).setCell ⟨r, 3, none⟩ (.int .i64 sp')).setCell ⟨r, 4, none⟩ (.int .i64 dp')).setCell ⟨r, 5, none⟩ (.int .i64 un')) := by
  have h0 := (hb.set 0 (.int .i64 pr'))
  have r0 := h0.cell 0
  have h1 := ((hb.set 0 (.int .i64 pr')).set 1 (.int .u32 sr'))
  have r1 := h1.cell 1
  have h2 := (((hb.set 0 (.int .i64 pr')).set 1 (.int .u32 sr')).set 2 (.int .u32 ds'))
  have r2 := h2.cell 2
  have h3 := ((((hb.set 0 (.int .i64 pr')).set 1 (.int .u32 sr')).set 2 (.int .u32 ds')).set 3 (.int .i64 sp'))
  have r3 := h3.cell 3
  have h4 := (((((hb.set 0 (.int .i64 pr')).set 1 (.int .u32 sr')).set 2 (.int .u32 ds')).set 3 (.int .i64 sp')).set 4 (.int .i64 dp'))
  have r4 := h4.cell 4
  have h5 := ((((((hb.set 0 (.int .i64 pr')).set 1 (.int .u32 sr')).set 2 (.int .u32 ds')).set 3 (.int .i64 sp')).set 4 (.int .i64 dp')).set 5 (.int .i64 un'))
  have r5 := h5.cell 5
  simp only [rcC, List.setIfInBounds_toArray, List.set_cons_succ, List.set_cons_zero, List.getElem?_toArray, List.getElem?_cons_zero, List.getElem?_cons_succ] at r0 r1 r2 r3 r4 r5 h5
  exact ⟨r0, r1, r2, r3, r4, r5, h5, ((((((Chg.refl (fun k => k = r) w).put r 0 (fun _ => rfl) _).put r 1 (fun _ => rfl) _).put r 2 (fun _ => rfl) _).put r 3 (fun _ => rfl) _).put r 4 (fun _ => rfl) _).put r 5 (fun _ => rfl) _⟩
theorem rc_free {w : World} {r : Nat} {T : TypeId} {cs : Array Value} (hb : Blk w r T cs) : w.frozen? ⟨r, 0, none⟩ = false ∧ w.frozen? ⟨r, 1, none⟩ = false ∧ w.frozen? ⟨r, 2, none⟩ = false ∧ w.frozen? ⟨r, 3, none⟩ = false ∧ w.frozen? ⟨r, 4, none⟩ = false ∧ w.frozen? ⟨r, 5, none⟩ = false :=
  ⟨hb.frozen 0, hb.frozen 1, hb.frozen 2, hb.frozen 3, hb.frozen 4, hb.frozen 5⟩

set_option maxHeartbeats 2000000 in
theorem rone_any (p : Nat) (S : Nat → Prop) (st : Option (List UInt8)) (w : World) (h : Rd 72 false w p S st) (hS : ∀ k, S k → k < p) :
    Calls Try.prog 38 #[.pointer (some ⟨p, 0, none⟩)] w fun e w' => e = .returned (.agg (rcC (ov st 0) (ov st 1) (ov st 2) (ov st 3) (ov st 4) (ov st 5))) ∧ Rd 72 false w' p S (oneE st) ∧ Chg (fun k => k = p) w w' := by
  have hp := h.lt
  have HS := Lib.hid hS
  have HR : Hid (Blk ((w.alloc (.cells #[.int .i64 0, .int .u32 0, .int .u32 0, .int .i64 0, .int .i64 0, .int .i64 0] 46)).alloc (.cells #[.int .i64 0, .int .u32 0, .int .u32 0, .int .i64 0, .int .i64 0, .int .i64 0] 46)) w.heap.size 46 (rcC 0 0 0 0 0 0)) := Lib.hid ((blk_new rfl).alloc _)
  have HX : Hid (Blk ((w.alloc (.cells #[.int .i64 0, .int .u32 0, .int .u32 0, .int .i64 0, .int .i64 0, .int .i64 0] 46)).alloc (.cells #[.int .i64 0, .int .u32 0, .int .u32 0, .int .i64 0, .int .i64 0, .int .i64 0] 46)) (w.heap.size + 1) 46 (rcC 0 0 0 0 0 0)) := Lib.hid (blk_new (by simp))
  have HC := Lib.hid (((Chg.refl (fun k => k = p) w).alloc (.cells #[.int .i64 0, .int .u32 0, .int .u32 0, .int .i64 0, .int .i64 0, .int .i64 0] 46)).alloc (.cells #[.int .i64 0, .int .u32 0, .int .u32 0, .int .i64 0, .int .i64 0, .int .i64 0] 46))
  have HRD := Lib.hid (show Rd 72 false ((w.alloc (.cells #[.int .i64 0, .int .u32 0, .int .u32 0, .int .i64 0, .int .i64 0, .int .i64 0] 46)).alloc (.cells #[.int .i64 0, .int .u32 0, .int .u32 0, .int .i64 0, .int .i64 0, .int .i64 0] 46)) p S (os st 0) from h.chg (((Chg.refl (fun _ => False) w).alloc _).alloc _) id (fun _ _ => id))
  have g1 := gv_range 4 (os st 1)
  have g2 := gv_lt 4 (os st 1) (by decide) (by decide)
  have g3 := gv_range 4 (os st 2)
  have g4 := gv_lt 4 (os st 2) (by decide) (by decide)
  have a1 : IntKind.u32.wrap (ov st 1) = ov st 1 := u32_wrap (by have e : ov st 1 = gv 4 (os st 1) := rfl; omega)
  have a2 : IntKind.u32.wrap (ov st 2) = ov st 2 := u32_wrap (by have e : ov st 2 = gv 4 (os st 2) := rfl; omega)
  clear h hS g1 g2 g3 g4
  go_enter Try.func38, Try.ntmps38
  have HG := Lib.hid (show Calls _ _ _ _ (fun e w' => e = .returned (.int .i64 (ov st 0)) ∧ Rd 72 false w' p S (os st 1) ∧ Chg (fun k => k = p) _ w') from rcget p 1 S (os st 0) _ HRD.out)
  go_wp2_with fail
  refine HG.out.mono ?_
  rintro e w0 ⟨rfl, hrd, hc'⟩
  replace HC := Lib.hid (HC.out.past hc')
  replace HR := Lib.hid (HR.out.chg hc' (by omega))
  replace HX := Lib.hid (HX.out.chg hc' (by omega))
  replace HRD := Lib.hid hrd
  clear HG hrd hc'
  obtain ⟨y0, y1, y2, y3, y4, y5⟩ := rc_cells HX.out
  obtain ⟨u0, u1, u2, u3, u4, u5⟩ := rc_free HX.out
  have hset := HX.out.set 0 (.int .i64 (ov st 0))
  simp only [rcC, List.setIfInBounds_toArray, List.set_cons_succ, List.set_cons_zero] at hset
  have hset : Blk _ _ 46 (rcC (ov st 0) 0 0 0 0 0) := hset
  have hcs := (Chg.refl (fun k => k = w.heap.size + 1) w0).put (w.heap.size + 1) 0 (fun _ => rfl) (.int .i64 (ov st 0))
  replace HC := Lib.hid (HC.out.new hcs (by omega))
  replace HR := Lib.hid (HR.out.chg hcs (by omega))
  replace HRD := Lib.hid (HRD.out.chg hcs (by omega) (fun k hk => by have := HS.out k hk; omega))
  replace HX := Lib.hid hset
  clear hset hcs
  have HG := Lib.hid (show Calls _ _ _ _ (fun e w' => e = .returned (.int .i64 (ov st 1)) ∧ Rd 72 false w' p S (os st 2) ∧ Chg (fun k => k = p) _ w') from rcget p 4 S (os st 1) _ HRD.out)
  go_wp2_with fail
  refine HG.out.mono ?_
  rintro e w1 ⟨rfl, hrd, hc'⟩
  replace HC := Lib.hid (HC.out.past hc')
  replace HR := Lib.hid (HR.out.chg hc' (by omega))
  replace HX := Lib.hid (HX.out.chg hc' (by omega))
  replace HRD := Lib.hid hrd
  clear HG hrd hc'
  clear y0 y1 y2 y3 y4 y5 u0 u1 u2 u3 u4 u5
  obtain ⟨y0, y1, y2, y3, y4, y5⟩ := rc_cells HX.out
  obtain ⟨u0, u1, u2, u3, u4, u5⟩ := rc_free HX.out
  have hset := HX.out.set 1 (.int .u32 (ov st 1))
  simp only [rcC, List.setIfInBounds_toArray, List.set_cons_succ, List.set_cons_zero] at hset
  have hset : Blk _ _ 46 (rcC (ov st 0) (ov st 1) 0 0 0 0) := hset
  have hcs := (Chg.refl (fun k => k = w.heap.size + 1) w1).put (w.heap.size + 1) 1 (fun _ => rfl) (.int .u32 (ov st 1))
  replace HC := Lib.hid (HC.out.new hcs (by omega))
  replace HR := Lib.hid (HR.out.chg hcs (by omega))
  replace HRD := Lib.hid (HRD.out.chg hcs (by omega) (fun k hk => by have := HS.out k hk; omega))
  replace HX := Lib.hid hset
  clear hset hcs
  have HG := Lib.hid (show Calls _ _ _ _ (fun e w' => e = .returned (.int .i64 (ov st 2)) ∧ Rd 72 false w' p S (os st 3) ∧ Chg (fun k => k = p) _ w') from rcget p 4 S (os st 2) _ HRD.out)
  go_wp2_with fail
  refine HG.out.mono ?_
  rintro e w2 ⟨rfl, hrd, hc'⟩
  replace HC := Lib.hid (HC.out.past hc')
  replace HR := Lib.hid (HR.out.chg hc' (by omega))
  replace HX := Lib.hid (HX.out.chg hc' (by omega))
  replace HRD := Lib.hid hrd
  clear HG hrd hc'
  clear y0 y1 y2 y3 y4 y5 u0 u1 u2 u3 u4 u5
  obtain ⟨y0, y1, y2, y3, y4, y5⟩ := rc_cells HX.out
  obtain ⟨u0, u1, u2, u3, u4, u5⟩ := rc_free HX.out
  have hset := HX.out.set 2 (.int .u32 (ov st 2))
  simp only [rcC, List.setIfInBounds_toArray, List.set_cons_succ, List.set_cons_zero] at hset
  have hset : Blk _ _ 46 (rcC (ov st 0) (ov st 1) (ov st 2) 0 0 0) := hset
  have hcs := (Chg.refl (fun k => k = w.heap.size + 1) w2).put (w.heap.size + 1) 2 (fun _ => rfl) (.int .u32 (ov st 2))
  replace HC := Lib.hid (HC.out.new hcs (by omega))
  replace HR := Lib.hid (HR.out.chg hcs (by omega))
  replace HRD := Lib.hid (HRD.out.chg hcs (by omega) (fun k hk => by have := HS.out k hk; omega))
  replace HX := Lib.hid hset
  clear hset hcs
  have HG := Lib.hid (show Calls _ _ _ _ (fun e w' => e = .returned (.int .i64 (ov st 3)) ∧ Rd 72 false w' p S (os st 4) ∧ Chg (fun k => k = p) _ w') from rcget p 2 S (os st 3) _ HRD.out)
  go_wp2_with fail
  refine HG.out.mono ?_
  rintro e w3 ⟨rfl, hrd, hc'⟩
  replace HC := Lib.hid (HC.out.past hc')
  replace HR := Lib.hid (HR.out.chg hc' (by omega))
  replace HX := Lib.hid (HX.out.chg hc' (by omega))
  replace HRD := Lib.hid hrd
  clear HG hrd hc'
  clear y0 y1 y2 y3 y4 y5 u0 u1 u2 u3 u4 u5
  obtain ⟨y0, y1, y2, y3, y4, y5⟩ := rc_cells HX.out
  obtain ⟨u0, u1, u2, u3, u4, u5⟩ := rc_free HX.out
  have hset := HX.out.set 3 (.int .i64 (ov st 3))
  simp only [rcC, List.setIfInBounds_toArray, List.set_cons_succ, List.set_cons_zero] at hset
  have hset : Blk _ _ 46 (rcC (ov st 0) (ov st 1) (ov st 2) (ov st 3) 0 0) := hset
  have hcs := (Chg.refl (fun k => k = w.heap.size + 1) w3).put (w.heap.size + 1) 3 (fun _ => rfl) (.int .i64 (ov st 3))
  replace HC := Lib.hid (HC.out.new hcs (by omega))
  replace HR := Lib.hid (HR.out.chg hcs (by omega))
  replace HRD := Lib.hid (HRD.out.chg hcs (by omega) (fun k hk => by have := HS.out k hk; omega))
  replace HX := Lib.hid hset
  clear hset hcs
  have HG := Lib.hid (show Calls _ _ _ _ (fun e w' => e = .returned (.int .i64 (ov st 4)) ∧ Rd 72 false w' p S (os st 5) ∧ Chg (fun k => k = p) _ w') from rcget p 2 S (os st 4) _ HRD.out)
  go_wp2_with fail
  refine HG.out.mono ?_
  rintro e w4 ⟨rfl, hrd, hc'⟩
  replace HC := Lib.hid (HC.out.past hc')
  replace HR := Lib.hid (HR.out.chg hc' (by omega))
  replace HX := Lib.hid (HX.out.chg hc' (by omega))
  replace HRD := Lib.hid hrd
  clear HG hrd hc'
  clear y0 y1 y2 y3 y4 y5 u0 u1 u2 u3 u4 u5
  obtain ⟨y0, y1, y2, y3, y4, y5⟩ := rc_cells HX.out
  obtain ⟨u0, u1, u2, u3, u4, u5⟩ := rc_free HX.out
  have hset := HX.out.set 4 (.int .i64 (ov st 4))
  simp only [rcC, List.setIfInBounds_toArray, List.set_cons_succ, List.set_cons_zero] at hset
  have hset : Blk _ _ 46 (rcC (ov st 0) (ov st 1) (ov st 2) (ov st 3) (ov st 4) 0) := hset
  have hcs := (Chg.refl (fun k => k = w.heap.size + 1) w4).put (w.heap.size + 1) 4 (fun _ => rfl) (.int .i64 (ov st 4))
  replace HC := Lib.hid (HC.out.new hcs (by omega))
  replace HR := Lib.hid (HR.out.chg hcs (by omega))
  replace HRD := Lib.hid (HRD.out.chg hcs (by omega) (fun k hk => by have := HS.out k hk; omega))
  replace HX := Lib.hid hset
  clear hset hcs
  have HG := Lib.hid (show Calls _ _ _ _ (fun e w' => e = .returned (.int .i64 (ov st 5)) ∧ Rd 72 false w' p S (os st 6) ∧ Chg (fun k => k = p) _ w') from rcget p 6 S (os st 5) _ HRD.out)
  go_wp2_with fail
  refine HG.out.mono ?_
  rintro e w5 ⟨rfl, hrd, hc'⟩
  replace HC := Lib.hid (HC.out.past hc')
  replace HR := Lib.hid (HR.out.chg hc' (by omega))
  replace HX := Lib.hid (HX.out.chg hc' (by omega))
  replace HRD := Lib.hid hrd
  clear HG hrd hc'
  clear y0 y1 y2 y3 y4 y5 u0 u1 u2 u3 u4 u5
  obtain ⟨y0, y1, y2, y3, y4, y5⟩ := rc_cells HX.out
  obtain ⟨u0, u1, u2, u3, u4, u5⟩ := rc_free HX.out
  have hset := HX.out.set 5 (.int .i64 (ov st 5))
  simp only [rcC, List.setIfInBounds_toArray, List.set_cons_succ, List.set_cons_zero] at hset
  have hset : Blk _ _ 46 (rcC (ov st 0) (ov st 1) (ov st 2) (ov st 3) (ov st 4) (ov st 5)) := hset
  have hcs := (Chg.refl (fun k => k = w.heap.size + 1) w5).put (w.heap.size + 1) 5 (fun _ => rfl) (.int .i64 (ov st 5))
  replace HC := Lib.hid (HC.out.new hcs (by omega))
  replace HR := Lib.hid (HR.out.chg hcs (by omega))
  replace HRD := Lib.hid (HRD.out.chg hcs (by omega) (fun k hk => by have := HS.out k hk; omega))
  replace HX := Lib.hid hset
  clear hset hcs
  obtain ⟨z0, z1, z2, z3, z4, z5⟩ := rc_cells HX.out
  obtain ⟨x0, x1, x2, x3, x4, x5⟩ := rc_cells HR.out
  obtain ⟨f0, f1, f2, f3, f4, f5⟩ := rc_free HR.out
  obtain ⟨r0, r1, r2, r3, r4, r5, _, hcs⟩ := rc_put HR.out (ov st 0) (ov st 1) (ov st 2) (ov st 3) (ov st 4) (ov st 5)
  replace HC := Lib.hid (HC.out.new hcs (Nat.le_refl _))
  replace HRD := Lib.hid (HRD.out.chg hcs (by omega) (fun k hk => by have := HS.out k hk; omega))
  have RR := Lib.hid (And.intro r0 (And.intro r1 (And.intro r2 (And.intro r3 (And.intro r4 (r5))))))
  clear r0 r1 r2 r3 r4 r5 hcs
  go_wp2_with fail
  obtain ⟨r0, r1, r2, r3, r4, r5⟩ := RR.out
  exact bodyPost_ret (v := .agg (rcC (ov st 0) (ov st 1) (ov st 2) (ov st 3) (ov st 4) (ov st 5))) (by simp [results, Try.results38, go_sem, rcC, r0, r1, r2, r3, r4, r5]) rfl ⟨rfl, HRD.out, HC.out⟩

end Go.Proofs.Ytalfbijcjghemaa
