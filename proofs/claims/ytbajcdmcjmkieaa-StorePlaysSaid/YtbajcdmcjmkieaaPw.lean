/-
  Walk: rutterlaw10.StorePlays. Conditions: the acts lie in memory; the first number to look at is an int.
-/
import Derived.Test.YtbajcdmcjmkieaaPv
import Derived.Test.YtbajcdmcjmkieaaPu
import Derived.Test.YtbajcdmcjmkieaaPt
namespace Go.Proofs.Ytbajcdmcjmkieaa
open Go.RowKit
set_option linter.unusedVariables false
set_option linter.unusedSimpArgs false

theorem wpList_build0 {P : Program} {w : World} {ops : Array Oper} {rest : List Oper} {o : Oper} {a : Act} {Q : Exit → Act → World → Prop} (hg : o.guard = none) (t : TypeId) (hop : o.op = .build t #[]) (cells : Array Value) (hb : P.built t [] = some cells)
    (hK : wpList P ops Q rest (a.put o.dst (.agg cells)) w) : wpList P ops Q (o :: rest) a w := by
  refine wpList_plain hg fun K' hK' => ?_
  unfold Oper.wp execOp
  simp only [hop, List.map_toArray, List.map_nil, Sem.run_bind, run_build w t #[] cells hb, Result.andThen_ok]
  exact hK' _ _ hK
theorem built0 : Try.prog.built 36 [] = some (dsB (fun _ => false) ++ dsR (fun _ => none)).toArray := by
  rw [built_fill]
  rfl
set_option maxRecDepth 20000 in
set_option maxHeartbeats 4000000 in
theorem plays10_any (L : Option Addr) (m lc : Nat) (l : List At10) (k0 k1 mac : Int) (w : World) (h : AR10 w (fun k => k < w.heap.size) L m l) (hmc : m ≤ 9223372036854775807) (hk : -9223372036854775808 ≤ k0 ∧ k0 ≤ 9223372036854775807) : Calls Try.prog 3 #[.slice L m lc, .agg #[.int .i64 k0, .int .i64 k1], .int .u64 mac] w fun e w' => e = .returned (.bool true) ∧ Chg (fun _ => False) w w' := by
  have HX0 := Lib.hid ((Chg.refl (fun _ => False) w).alloc (.cells #[.int .i64 k0, .int .i64 k1] 23))
  have HQ : Blk (w.alloc (.cells #[.int .i64 k0, .int .i64 k1] 23)) w.heap.size 23 #[.int .i64 k0, .int .i64 k1] := blk_new rfl
  replace HQ := Lib.hid HQ
  have HSZ := Lib.hid (show (w.alloc (.cells #[.int .i64 k0, .int .i64 k1] 23)).heap.size = w.heap.size + 1 by simp)
  have HL := Lib.hid (h.chg HX0.out (fun _ _ => id))
  have HLN := Lib.hid h.1
  clear h
  have HCEL : Hid (∀ W, Blk W w.heap.size 23 #[.int .i64 k0, .int .i64 k1] → (W.cell? ⟨w.heap.size, 0, none⟩ = some (.int .i64 k0) ∧ W.cell? ⟨w.heap.size, 1, none⟩ = some (.int .i64 k1))) := Lib.hid (fun W hW => by
    have x0 := hW.cell 0
    have x1 := hW.cell 1
    simp only [List.getElem?_toArray, List.getElem?_cons_zero, List.getElem?_cons_succ] at x0 x1
    exact ⟨x0, x1⟩)
  go_enter Try.func3, Try.ntmps3
  go_upto_region 1 with fail
  generalize (w.alloc (.cells #[.int .i64 k0, .int .i64 k1] 23)) = w1 at *
  go_wp2_with fail
  refine (fits10_any L m lc l w1 _ HL.out hmc).mono ?_
  rintro e w1' ⟨b, rfl, hfit, rfl⟩
  have HFI := Lib.hid hfit
  clear hfit
  cases b with
  | false =>
    go_wp2_with fail
    refine (alive10_any w1).mono ?_
    rintro e w2 ⟨rfl, hc⟩
    have HX2 := Lib.hid (HX0.out.trans hc (fun _ _ e => e))
    clear hc
    go_wp2_with fail
    go_ret
    exact ⟨rfl, HX2.out⟩
  | true =>
    replace HFI := Lib.hid (HFI.out rfl)
    go_wp2_with fail
    refine (snew_any w1).mono ?_
    rintro e w2 ⟨rfl, hcs, hc⟩
    have HS : Hid (CS w1.heap.size w2 (w1.heap.size + 1 + 1) w1.heap.size (w1.heap.size + 1) (fun _ => false) (fun _ => none)) := Lib.hid hcs
    replace HX0 := Lib.hid (HX0.out.trans hc (fun _ _ e => e))
    replace HQ := Lib.hid (HQ.out.chg hc id)
    replace HL := Lib.hid (HL.out.chg hc (fun _ _ => id))
    have HB := Lib.hid (show w.heap.size < w1.heap.size ∧ w1.heap.size ≤ w2.heap.size by have h1 := HSZ.out; have h2 := hc.size; omega)
    clear hc hcs HSZ
    generalize w1.heap.size + 1 + 1 = p at *
    go_wp2_with (refine wpList_build0 rfl 36 rfl _ built0 ?_)
    have HD : DS (w2.alloc (.cells (dsB (fun _ => false) ++ dsR (fun _ => none)).toArray 36)) w2.heap.size (fun _ => false) (fun _ => none) := DS.new w2
    replace HD := Lib.hid HD
    have hca := (Chg.refl (fun _ => False) w2).alloc (.cells (dsB (fun _ => false) ++ dsR (fun _ => none)).toArray 36)
    replace HX0 := Lib.hid (HX0.out.trans hca (fun _ _ e => e))
    replace HQ := Lib.hid (HQ.out.chg hca id)
    replace HL := Lib.hid (HL.out.chg hca (fun _ _ => id))
    replace HS := Lib.hid (HS.out.keep hca)
    clear hca
    generalize (w2.alloc (.cells (dsB (fun _ => false) ++ dsR (fun _ => none)).toArray 36)) = w3 at *
    generalize w2.heap.size = q at *
    have HX3 := HX0
    have HL3 := HL
    clear HX0 HL
    go_loopg [10, 11, 12] m (fun g i s11 s12 wr => ∃ (j br : Nat) (C : Int → Bool) (R : Int → Option RV), g = m - j ∧ j ≤ m ∧ i = .int .i64 (j : Int) ∧ Hid (CS w1.heap.size wr p w1.heap.size br C R) ∧ Hid (DS wr q C R) ∧ Hid (WF C R) ∧ Hid (Blk wr w.heap.size 23 #[.int .i64 k0, .int .i64 k1]) ∧ Hid (Chg (fun k => w1.heap.size ≤ k) w3 wr))
    case atStart => exact ⟨0, _, _, _, rfl, Nat.zero_le _, rfl, HS, HD, Lib.hid WF.start, HQ, Lib.hid (Chg.refl _ _)⟩
    case round =>
      clear HS HD HQ
      obtain ⟨j, br, C, R, rfl, hj, rfl, HS, HD, HW, HQ, HX0⟩ := hrel
      have hbb := HB.out
      by_cases hlt : j < m
      · have hh := HL3.out.chg HX0.out (fun k hk => by omega)
        obtain ⟨ad, rfl, -⟩ := hh.2 (by omega)
        have hjl : j < l.length := by have := HLN.out; omega
        have hx : l[j]? = some l[j] := List.getElem?_eq_getElem hjl
        generalize l[j] = x at *
        obtain ⟨z0, z1, z2, hkk, hnn, hsr⟩ := hh.at hx
        have hn60 := HFI.out.2 j x hx
        have HST := Lib.hid (step10_any HS.out HD.out HW.out hbb.2 x hkk (hsr.mono (fun k hk => by omega)) hn60)
        clear hx hh hjl hsr hnn hn60
        go_wp2_with fail
        refine HST.out.mono ?_
        rintro e w4 ⟨br2, rfl, hcs, hds, hc⟩
        have hbq : ¬ w1.heap.size ≤ w.heap.size := by omega
        replace HX0 := Lib.hid (HX0.out.trans hc (fun _ _ e => e))
        replace HS := Lib.hid hcs
        replace HD := Lib.hid hds
        replace HQ := Lib.hid (HQ.out.chg hc hbq)
        replace HW := Lib.hid (HW.out.st x)
        clear hc hcs hds z0 z1 z2 HST hbq hkk
        generalize stC10 C R x = C2 at *
        generalize stR10 C R x = R2 at *
        obtain ⟨l0, l1⟩ := HCEL.out _ HQ.out
        have HSM := Lib.hid (same_law10 HS.out HD.out HW.out k0 k1 mac hk)
        go_wp2_with fail
        refine HSM.out.mono ?_
        rintro e w5 ⟨rfl, hc⟩
        replace HX0 := Lib.hid (HX0.out.trans hc (fun _ _ e => e.elim))
        replace HS := Lib.hid (HS.out.keep hc)
        replace HD := Lib.hid (HD.out.keep hc)
        replace HQ := Lib.hid (HQ.out.chg hc id)
        clear hc l0 l1 HSM
        go_wp2_with fail
        go_roundg (m - (j + 1))
        case measure => omega
        case rel => exact ⟨j + 1, br2, C2, R2, rfl, by omega, by go_num, HS, HD, HW, HQ, HX0⟩
      · have : j = m := by omega
        subst this
        have hcb := HX3.out.size
        replace HX0 := Lib.hid (HX3.out.trans HX0.out (fun k hk e => by omega))
        clear hcb
        have hnr : Calls Try.prog 10 #[.pointer none, .int .i64 0] wr (HB9 0 0 0 0 0 0 0 0 0 false wr) := srow_nil 0 wr
        go_wp2_with fail
        refine hnr.mono ?_
        clear hnr
        rintro e w6 ⟨rfl, hc⟩
        replace HX0 := Lib.hid (HX0.out.trans hc (fun _ _ e => e))
        clear hc
        go_upto_region 15 with fail
        replace HX0 := Lib.hid (HX0.out.alloc (.cells #[.int .i64 0, .int .u64 0, .int .i64 0, .int .i64 0, .int .i64 0, .int .i64 0, .int .i64 0, .int .i64 0, .int .i64 0] 33))
        generalize (w6.alloc (.cells #[.int .i64 0, .int .u64 0, .int .i64 0, .int .i64 0, .int .i64 0, .int .i64 0, .int .i64 0, .int .i64 0, .int .i64 0] 33)) = w7 at *
        have hnr : Calls Try.prog 11 #[.pointer none, .int .u64 0] w7 (HB9 0 0 0 0 0 0 0 0 0 false w7) := sfind_nil 0 w7
        go_wp2_with fail
        refine hnr.mono ?_
        clear hnr
        rintro e w8 ⟨rfl, hc⟩
        replace HX0 := Lib.hid (HX0.out.trans hc (fun _ _ e => e))
        clear hc
        go_upto_region 16 with fail
        replace HX0 := Lib.hid (HX0.out.alloc (.cells #[.int .i64 0, .int .u64 0, .int .i64 0, .int .i64 0, .int .i64 0, .int .i64 0, .int .i64 0, .int .i64 0, .int .i64 0] 33))
        generalize (w8.alloc (.cells #[.int .i64 0, .int .u64 0, .int .i64 0, .int .i64 0, .int .i64 0, .int .i64 0, .int .i64 0, .int .i64 0, .int .i64 0] 33)) = w9 at *
        go_wp2_with fail
        refine (alive10_any w9).mono ?_
        rintro e w10 ⟨rfl, hc⟩
        replace HX0 := Lib.hid (HX0.out.trans hc (fun _ _ e => e))
        clear hc
        go_wp2_with fail
        refine (sadd_nil 0 w10).mono ?_
        rintro e w11 ⟨rfl, rfl⟩
        go_wp2_with fail
        refine (srem_nil 0 w10).mono ?_
        rintro e w11 ⟨rfl, rfl⟩
        go_wp2_with fail
        refine (sapply_nil none 0 0 w10).mono ?_
        rintro e w11 ⟨rfl, rfl⟩
        go_wp2_with fail
        refine (shas_nil 0 w10).mono ?_
        rintro e w11 ⟨rfl, rfl⟩
        go_wp2_with fail
        refine (schas_nil w10).mono ?_
        rintro e w11 ⟨N1, n1, cc1, rfl, hn1, -, hc⟩
        replace HX0 := Lib.hid (HX0.out.trans hc (fun _ _ e => e))
        have hz1 : n1 = 0 := hn1
        subst hz1
        clear hc hn1
        go_wp2_with fail
        refine (srows_nil w11).mono ?_
        rintro e w12 ⟨N2, n2, cc2, rfl, hn2, -, hc⟩
        replace HX0 := Lib.hid (HX0.out.trans hc (fun _ _ e => e))
        have hz2 : n2 = 0 := hn2
        subst hz2
        clear hc hn2
        go_wp2_with fail
        refine (slate_nil 0 0 w12).mono ?_
        rintro e w13 ⟨N3, n3, cc3, rfl, hn3, -, hc⟩
        replace HX0 := Lib.hid (HX0.out.trans hc (fun _ _ e => e))
        have hz3 : n3 = 0 := hn3
        subst hz3
        clear hc hn3
        go_wp2_with fail
        go_ret
        exact ⟨rfl, HX0.out⟩


end Go.Proofs.Ytbajcdmcjmkieaa
