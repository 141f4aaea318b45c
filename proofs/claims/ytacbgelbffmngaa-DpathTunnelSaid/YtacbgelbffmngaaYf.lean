/-
  Walk: the document's Look. Condition: the entries are read in memory.
-/
import Derived.Test.YtacbgelbffmngaaYc
import Derived.Test.YtacbgelbffmngaaYe
import Derived.Deep.RegionHeld3
import Derived.BigQuiet
namespace Go.Proofs.Ytacbgelbffmngaa
open Go.RowKit
set_option linter.unusedVariables false
set_option linter.unusedSimpArgs false

set_option maxRecDepth 100000 in
set_option maxHeartbeats 8000000 in
theorem rlook13_any {w : World} {L : Option Addr} {m lc : Nat} {l : List En} (h : EnR w L m l) (hmc : m ≤ 9223372036854775807) (ki km kp ks ko : Int) : Calls Try.prog 25 #[.slice L m lc, .agg (kyC ki km kp ks ko)] w (LkP13 (lk13 ⟨ki, km, kp, ks, ko⟩ l) w) := by
  have HL := Lib.hid h.1
  have HRD := Lib.hid h
  have HX0 := Lib.hid (((Chg.refl (fun _ => False) w).alloc (.cells #[.int .i64 ki, .int .u64 km, .int .i64 kp, .int .i64 ks, .int .i64 ko] 85)).alloc (.cells #[.int .i64 0, .int .i64 0, .int .i64 0, .int .i64 0] 82))
  have HK0 : Hid (Blk ((w.alloc (.cells #[.int .i64 ki, .int .u64 km, .int .i64 kp, .int .i64 ks, .int .i64 ko] 85)).alloc (.cells #[.int .i64 0, .int .i64 0, .int .i64 0, .int .i64 0] 82)) w.heap.size 85 (kyC ki km kp ks ko)) := Lib.hid (Blk.alloc (blk_new rfl) _)
  have HR0 : Hid (Blk ((w.alloc (.cells #[.int .i64 ki, .int .u64 km, .int .i64 kp, .int .i64 ks, .int .i64 ko] 85)).alloc (.cells #[.int .i64 0, .int .i64 0, .int .i64 0, .int .i64 0] 82)) (w.heap.size + 1) 82 (acC 0 0 0 0)) := Lib.hid (blk_new (by simp))
  clear h
  unfold kyC
  go_enter Try.func25, Try.ntmps25
  go_upto_region 1 with fail
  generalize (w.alloc (.cells #[.int .i64 ki, .int .u64 km, .int .i64 kp, .int .i64 ks, .int .i64 ko] 85)).alloc (.cells #[.int .i64 0, .int .i64 0, .int .i64 0, .int .i64 0] 82) = w1 at *
  have HQ : Hid (w.heap.size ≠ w.heap.size + 1) := Lib.hid (by omega)
  generalize hq1 : w.heap.size + 1 = Q1 at *
  generalize hq0 : w.heap.size = Q0 at HK0 HQ ⊢
  have HQ0 := Lib.hid (And.intro hq0 hq1)
  clear hq1 hq0
  go_wp2_with fail
  go_loopg [6, 7, 8] m (fun g s6 i s8 wr => ∃ (j : Nat), g = m - j ∧ j ≤ m ∧ i = .int .i64 (j : Int) ∧ ((s6 = .int .i64 (-1) ∧ Hid (lk13 ⟨ki, km, kp, ks, ko⟩ (l.take j) = none)) ∨ ∃ (bi : Nat) (y : En), s6 = .int .i64 (bi : Int) ∧ bi < j ∧ Hid (l[bi]? = some y) ∧ Hid (lk13 ⟨ki, km, kp, ks, ko⟩ (l.take j) = some y)) ∧ Hid (Blk wr Q0 85 (kyC ki km kp ks ko)) ∧ Hid (Blk wr Q1 82 (acC 0 0 0 0)) ∧ Hid (Chg (fun _ => False) w wr))
  case atStart => exact ⟨0, rfl, Nat.zero_le _, rfl, .inl ⟨rfl, Lib.hid rfl⟩, HK0, HR0, HX0⟩
  case round =>
    clear HK0 HR0 HX0
    obtain ⟨j, rfl, hj, rfl, hor, HK0, HR0, HX0⟩ := hrel
    by_cases hlt : j < m
    · have hh := HRD.out.chg HX0.out
      obtain ⟨ad, rfl, -⟩ := hh.2 (by omega)
      have hjl : j < l.length := by have := HL.out; omega
      have hx : l[j]? = some l[j] := List.getElem?_eq_getElem hjl
      generalize l[j] = x at *
      obtain ⟨z0, z1, z2, z3, z4, z5, z6, z7, z8, z9, z10⟩ := hh.at hx
      have HJ := Lib.hid (lk13_take (k := ⟨ki, km, kp, ks, ko⟩) hx)
      have HJX := Lib.hid hx
      have HKEEP : Hid (∀ W : World, Chg (fun _ => False) wr W → (W.cell? ⟨Q0, 0, none⟩ = some (.int .i64 ki) ∧ W.cell? ⟨Q0, 1, none⟩ = some (.int .u64 km) ∧ W.cell? ⟨Q0, 2, none⟩ = some (.int .i64 kp) ∧ W.cell? ⟨Q0, 3, none⟩ = some (.int .i64 ks) ∧ W.cell? ⟨Q0, 4, none⟩ = some (.int .i64 ko) ∧ W.cell? (ad.add (j * 11)) = some (.int .i64 x.pr) ∧ W.cell? ⟨(ad.add (j * 11)).block, (ad.add (j * 11)).off + 1, none⟩ = some (.int .i64 x.ins) ∧ W.cell? ⟨(ad.add (j * 11)).block, (ad.add (j * 11)).off + 2, none⟩ = some (.int .u64 x.ma) ∧ W.cell? ⟨(ad.add (j * 11)).block, (ad.add (j * 11)).off + 3, none⟩ = some (.int .i64 x.po) ∧ W.cell? ⟨(ad.add (j * 11)).block, (ad.add (j * 11)).off + 4, none⟩ = some (.int .i64 x.fr) ∧ W.cell? ⟨(ad.add (j * 11)).block, (ad.add (j * 11)).off + 5, none⟩ = some (.int .i64 x.up) ∧ W.cell? ⟨(ad.add (j * 11)).block, (ad.add (j * 11)).off + 6, none⟩ = some (.int .i64 x.no) ∧ W.cell? ⟨(ad.add (j * 11)).block, (ad.add (j * 11)).off + 7, none⟩ = some (.int .i64 x.ak) ∧ W.cell? ⟨(ad.add (j * 11)).block, (ad.add (j * 11)).off + 8, none⟩ = some (.int .i64 x.ap) ∧ W.cell? ⟨(ad.add (j * 11)).block, (ad.add (j * 11)).off + 9, none⟩ = some (.int .i64 x.ao) ∧ W.cell? ⟨(ad.add (j * 11)).block, (ad.add (j * 11)).off + 10, none⟩ = some (.int .i64 x.ag))) := Lib.hid (fun W hw => by
        obtain ⟨u0, u1, u2, u3, u4⟩ := ky_cells13 (HK0.out.chg hw id)
        obtain ⟨z0, z1, z2, z3, z4, z5, z6, z7, z8, z9, z10⟩ := (HRD.out.chg (HX0.out.trans hw (fun _ _ e => e))).at hx
        exact ⟨u0, u1, u2, u3, u4, z0, z1, z2, z3, z4, z5, z6, z7, z8, z9, z10⟩)
      clear hx hh hjl
      have hft := fun W => rfits13_any x.pr x.ins x.ma x.po x.fr x.up x.no x.ak x.ap x.ao x.ag ki km kp ks ko W
      replace hft : ∀ W, Calls _ _ _ W (fun e w' => e = .returned (.bool (fit13 x ⟨ki, km, kp, ks, ko⟩)) ∧ Chg (fun _ => False) W w') := hft
      unfold enC kyC at hft
      rcases hor with ⟨rfl, HLK⟩ | ⟨bi, y, rfl, hbj, HY, HLK⟩
      · skip
        cases hf : fit13 x ⟨ki, km, kp, ks, ko⟩ with
        | false =>
          rw [hf] at hft
          have HFF := Lib.hid hf
          clear hf
          go_wp2_with fail
          have HXA := Lib.hid ((Chg.refl (fun _ => False) wr).drew)
          have HNA := Lib.hid (hft wr.drew)
          clear hft z0 z1 z2 z3 z4 z5 z6 z7 z8 z9 z10
          obtain ⟨u0, u1, u2, u3, u4, z0, z1, z2, z3, z4, z5, z6, z7, z8, z9, z10⟩ := HKEEP.out _ HXA.out
          go_region_held3 (fun w' => w'.cell? ⟨Q0, 0, none⟩ = some (.int .i64 ki) ∧ w'.cell? ⟨Q0, 1, none⟩ = some (.int .u64 km) ∧ w'.cell? ⟨Q0, 2, none⟩ = some (.int .i64 kp) ∧ w'.cell? ⟨Q0, 3, none⟩ = some (.int .i64 ks) ∧ w'.cell? ⟨Q0, 4, none⟩ = some (.int .i64 ko) ∧ w'.cell? (ad.add (j * 11)) = some (.int .i64 x.pr) ∧ w'.cell? ⟨(ad.add (j * 11)).block, (ad.add (j * 11)).off + 1, none⟩ = some (.int .i64 x.ins) ∧ w'.cell? ⟨(ad.add (j * 11)).block, (ad.add (j * 11)).off + 2, none⟩ = some (.int .u64 x.ma) ∧ w'.cell? ⟨(ad.add (j * 11)).block, (ad.add (j * 11)).off + 3, none⟩ = some (.int .i64 x.po) ∧ w'.cell? ⟨(ad.add (j * 11)).block, (ad.add (j * 11)).off + 4, none⟩ = some (.int .i64 x.fr) ∧ w'.cell? ⟨(ad.add (j * 11)).block, (ad.add (j * 11)).off + 5, none⟩ = some (.int .i64 x.up) ∧ w'.cell? ⟨(ad.add (j * 11)).block, (ad.add (j * 11)).off + 6, none⟩ = some (.int .i64 x.no) ∧ w'.cell? ⟨(ad.add (j * 11)).block, (ad.add (j * 11)).off + 7, none⟩ = some (.int .i64 x.ak) ∧ w'.cell? ⟨(ad.add (j * 11)).block, (ad.add (j * 11)).off + 8, none⟩ = some (.int .i64 x.ap) ∧ w'.cell? ⟨(ad.add (j * 11)).block, (ad.add (j * 11)).off + 9, none⟩ = some (.int .i64 x.ao) ∧ w'.cell? ⟨(ad.add (j * 11)).block, (ad.add (j * 11)).off + 10, none⟩ = some (.int .i64 x.ag))
            (first | with_reducible exact HKEEP.out _ HXA.out | with_reducible exact HKEEP.out _ HXB.out | fail)
            (first
              | (go_at_call 46; (with_reducible refine (HNA.out).mono ?_); rintro e wz ⟨rfl, hc⟩; have HXB := Lib.hid (HXA.out.trans hc (fun _ _ e => e)); clear hc)
              | fail)
          all_goals
            clear z0 z1 z2 z3 z4 z5 z6 z7 z8 z9 z10 u0 u1 u2 u3 u4
            have hz := (HRD.out.chg (HX0.out.trans HXB.out (fun _ _ e => e))).at HJX.out
            have z0 := hz.1
            clear hz
            go_wp2_with fail
            go_quiet (fail)
            replace HXB := Lib.hid (HXB.out.drewN nq)
            generalize World.drewN wz nq = wq at *
            go_wp2_with fail
            go_roundg (m - (j + 1))
            case measure => omega
            case rel => exact ⟨j + 1, rfl, by omega, by go_num, .inl ⟨rfl, Lib.hid (by rw [HJ.out, HLK.out]; exact up13_no HFF.out)⟩, Lib.hid (HK0.out.chg HXB.out id), Lib.hid (HR0.out.chg HXB.out id), Lib.hid (HX0.out.trans HXB.out (fun _ _ e => e))⟩
        | true =>
          rw [hf] at hft
          have HFF := Lib.hid hf
          clear hf
          go_wp2_with fail
          have HXA := Lib.hid ((Chg.refl (fun _ => False) wr).drew)
          have HNA := Lib.hid (hft wr.drew)
          clear hft z0 z1 z2 z3 z4 z5 z6 z7 z8 z9 z10
          obtain ⟨u0, u1, u2, u3, u4, z0, z1, z2, z3, z4, z5, z6, z7, z8, z9, z10⟩ := HKEEP.out _ HXA.out
          go_region_held3 (fun w' => w'.cell? ⟨Q0, 0, none⟩ = some (.int .i64 ki) ∧ w'.cell? ⟨Q0, 1, none⟩ = some (.int .u64 km) ∧ w'.cell? ⟨Q0, 2, none⟩ = some (.int .i64 kp) ∧ w'.cell? ⟨Q0, 3, none⟩ = some (.int .i64 ks) ∧ w'.cell? ⟨Q0, 4, none⟩ = some (.int .i64 ko) ∧ w'.cell? (ad.add (j * 11)) = some (.int .i64 x.pr) ∧ w'.cell? ⟨(ad.add (j * 11)).block, (ad.add (j * 11)).off + 1, none⟩ = some (.int .i64 x.ins) ∧ w'.cell? ⟨(ad.add (j * 11)).block, (ad.add (j * 11)).off + 2, none⟩ = some (.int .u64 x.ma) ∧ w'.cell? ⟨(ad.add (j * 11)).block, (ad.add (j * 11)).off + 3, none⟩ = some (.int .i64 x.po) ∧ w'.cell? ⟨(ad.add (j * 11)).block, (ad.add (j * 11)).off + 4, none⟩ = some (.int .i64 x.fr) ∧ w'.cell? ⟨(ad.add (j * 11)).block, (ad.add (j * 11)).off + 5, none⟩ = some (.int .i64 x.up) ∧ w'.cell? ⟨(ad.add (j * 11)).block, (ad.add (j * 11)).off + 6, none⟩ = some (.int .i64 x.no) ∧ w'.cell? ⟨(ad.add (j * 11)).block, (ad.add (j * 11)).off + 7, none⟩ = some (.int .i64 x.ak) ∧ w'.cell? ⟨(ad.add (j * 11)).block, (ad.add (j * 11)).off + 8, none⟩ = some (.int .i64 x.ap) ∧ w'.cell? ⟨(ad.add (j * 11)).block, (ad.add (j * 11)).off + 9, none⟩ = some (.int .i64 x.ao) ∧ w'.cell? ⟨(ad.add (j * 11)).block, (ad.add (j * 11)).off + 10, none⟩ = some (.int .i64 x.ag))
            (first | with_reducible exact HKEEP.out _ HXA.out | with_reducible exact HKEEP.out _ HXB.out | fail)
            (first
              | (go_at_call 46; (with_reducible refine (HNA.out).mono ?_); rintro e wz ⟨rfl, hc⟩; have HXB := Lib.hid (HXA.out.trans hc (fun _ _ e => e)); clear hc)
              | fail)
          all_goals
            clear z0 z1 z2 z3 z4 z5 z6 z7 z8 z9 z10 u0 u1 u2 u3 u4
            have hz := (HRD.out.chg (HX0.out.trans HXB.out (fun _ _ e => e))).at HJX.out
            have z0 := hz.1
            clear hz
            go_wp2_with fail
            go_quiet (fail)
            replace HXB := Lib.hid (HXB.out.drewN nq)
            generalize World.drewN wz nq = wq at *
            go_wp2_with fail
            go_roundg (m - (j + 1))
            case measure => omega
            case rel => exact ⟨j + 1, rfl, by omega, by go_num, .inr ⟨j, x, rfl, by omega, HJX, Lib.hid (by rw [HJ.out, HLK.out]; exact up13_none HFF.out)⟩, Lib.hid (HK0.out.chg HXB.out id), Lib.hid (HR0.out.chg HXB.out id), Lib.hid (HX0.out.trans HXB.out (fun _ _ e => e))⟩
      · skip
        cases hf : fit13 x ⟨ki, km, kp, ks, ko⟩ with
        | false =>
          rw [hf] at hft
          have HFF := Lib.hid hf
          clear hf
          go_wp2_with fail
          have HXA := Lib.hid ((Chg.refl (fun _ => False) wr).drew)
          have HNA := Lib.hid (hft wr.drew)
          clear hft z0 z1 z2 z3 z4 z5 z6 z7 z8 z9 z10
          obtain ⟨u0, u1, u2, u3, u4, z0, z1, z2, z3, z4, z5, z6, z7, z8, z9, z10⟩ := HKEEP.out _ HXA.out
          go_region_held3 (fun w' => w'.cell? ⟨Q0, 0, none⟩ = some (.int .i64 ki) ∧ w'.cell? ⟨Q0, 1, none⟩ = some (.int .u64 km) ∧ w'.cell? ⟨Q0, 2, none⟩ = some (.int .i64 kp) ∧ w'.cell? ⟨Q0, 3, none⟩ = some (.int .i64 ks) ∧ w'.cell? ⟨Q0, 4, none⟩ = some (.int .i64 ko) ∧ w'.cell? (ad.add (j * 11)) = some (.int .i64 x.pr) ∧ w'.cell? ⟨(ad.add (j * 11)).block, (ad.add (j * 11)).off + 1, none⟩ = some (.int .i64 x.ins) ∧ w'.cell? ⟨(ad.add (j * 11)).block, (ad.add (j * 11)).off + 2, none⟩ = some (.int .u64 x.ma) ∧ w'.cell? ⟨(ad.add (j * 11)).block, (ad.add (j * 11)).off + 3, none⟩ = some (.int .i64 x.po) ∧ w'.cell? ⟨(ad.add (j * 11)).block, (ad.add (j * 11)).off + 4, none⟩ = some (.int .i64 x.fr) ∧ w'.cell? ⟨(ad.add (j * 11)).block, (ad.add (j * 11)).off + 5, none⟩ = some (.int .i64 x.up) ∧ w'.cell? ⟨(ad.add (j * 11)).block, (ad.add (j * 11)).off + 6, none⟩ = some (.int .i64 x.no) ∧ w'.cell? ⟨(ad.add (j * 11)).block, (ad.add (j * 11)).off + 7, none⟩ = some (.int .i64 x.ak) ∧ w'.cell? ⟨(ad.add (j * 11)).block, (ad.add (j * 11)).off + 8, none⟩ = some (.int .i64 x.ap) ∧ w'.cell? ⟨(ad.add (j * 11)).block, (ad.add (j * 11)).off + 9, none⟩ = some (.int .i64 x.ao) ∧ w'.cell? ⟨(ad.add (j * 11)).block, (ad.add (j * 11)).off + 10, none⟩ = some (.int .i64 x.ag))
            (first | with_reducible exact HKEEP.out _ HXA.out | with_reducible exact HKEEP.out _ HXB.out | fail)
            (first
              | (go_at_call 46; (with_reducible refine (HNA.out).mono ?_); rintro e wz ⟨rfl, hc⟩; have HXB := Lib.hid (HXA.out.trans hc (fun _ _ e => e)); clear hc)
              | fail)
          all_goals
            clear z0 z1 z2 z3 z4 z5 z6 z7 z8 z9 z10 u0 u1 u2 u3 u4
            have hz := (HRD.out.chg (HX0.out.trans HXB.out (fun _ _ e => e))).at HJX.out
            have z0 := hz.1
            clear hz
            go_wp2_with fail
            go_quiet (fail)
            replace HXB := Lib.hid (HXB.out.drewN nq)
            generalize World.drewN wz nq = wq at *
            go_wp2_with fail
            go_roundg (m - (j + 1))
            case measure => omega
            case rel => exact ⟨j + 1, rfl, by omega, by go_num, .inr ⟨bi, y, rfl, by omega, HY, Lib.hid (by rw [HJ.out, HLK.out]; exact up13_no HFF.out)⟩, Lib.hid (HK0.out.chg HXB.out id), Lib.hid (HR0.out.chg HXB.out id), Lib.hid (HX0.out.trans HXB.out (fun _ _ e => e))⟩
        | true =>
          rw [hf] at hft
          have HFF := Lib.hid hf
          clear hf
          go_wp2_with fail
          have HXA := Lib.hid ((Chg.refl (fun _ => False) wr).drew)
          have HNA := Lib.hid (hft wr.drew)
          clear hft z0 z1 z2 z3 z4 z5 z6 z7 z8 z9 z10
          obtain ⟨u0, u1, u2, u3, u4, z0, z1, z2, z3, z4, z5, z6, z7, z8, z9, z10⟩ := HKEEP.out _ HXA.out
          go_region_held3 (fun w' => w'.cell? ⟨Q0, 0, none⟩ = some (.int .i64 ki) ∧ w'.cell? ⟨Q0, 1, none⟩ = some (.int .u64 km) ∧ w'.cell? ⟨Q0, 2, none⟩ = some (.int .i64 kp) ∧ w'.cell? ⟨Q0, 3, none⟩ = some (.int .i64 ks) ∧ w'.cell? ⟨Q0, 4, none⟩ = some (.int .i64 ko) ∧ w'.cell? (ad.add (j * 11)) = some (.int .i64 x.pr) ∧ w'.cell? ⟨(ad.add (j * 11)).block, (ad.add (j * 11)).off + 1, none⟩ = some (.int .i64 x.ins) ∧ w'.cell? ⟨(ad.add (j * 11)).block, (ad.add (j * 11)).off + 2, none⟩ = some (.int .u64 x.ma) ∧ w'.cell? ⟨(ad.add (j * 11)).block, (ad.add (j * 11)).off + 3, none⟩ = some (.int .i64 x.po) ∧ w'.cell? ⟨(ad.add (j * 11)).block, (ad.add (j * 11)).off + 4, none⟩ = some (.int .i64 x.fr) ∧ w'.cell? ⟨(ad.add (j * 11)).block, (ad.add (j * 11)).off + 5, none⟩ = some (.int .i64 x.up) ∧ w'.cell? ⟨(ad.add (j * 11)).block, (ad.add (j * 11)).off + 6, none⟩ = some (.int .i64 x.no) ∧ w'.cell? ⟨(ad.add (j * 11)).block, (ad.add (j * 11)).off + 7, none⟩ = some (.int .i64 x.ak) ∧ w'.cell? ⟨(ad.add (j * 11)).block, (ad.add (j * 11)).off + 8, none⟩ = some (.int .i64 x.ap) ∧ w'.cell? ⟨(ad.add (j * 11)).block, (ad.add (j * 11)).off + 9, none⟩ = some (.int .i64 x.ao) ∧ w'.cell? ⟨(ad.add (j * 11)).block, (ad.add (j * 11)).off + 10, none⟩ = some (.int .i64 x.ag))
            (first | with_reducible exact HKEEP.out _ HXA.out | with_reducible exact HKEEP.out _ HXB.out | fail)
            (first
              | (go_at_call 46; (with_reducible refine (HNA.out).mono ?_); rintro e wz ⟨rfl, hc⟩; have HXB := Lib.hid (HXA.out.trans hc (fun _ _ e => e)); clear hc)
              | fail)
          all_goals
            clear z0 z1 z2 z3 z4 z5 z6 z7 z8 z9 z10 u0 u1 u2 u3 u4
            have hz := (HRD.out.chg (HX0.out.trans HXB.out (fun _ _ e => e))).at HJX.out
            have z0 := hz.1
            clear hz
            have hy2 := (HRD.out.chg (HX0.out.trans HXB.out (fun _ _ e => e))).at HY.out
            have v0 := hy2.1
            clear hy2
            have hbm : bi < m := by omega
            by_cases hpr : y.pr < x.pr
            · have HPR := Lib.hid hpr
              go_wp2_with fail
              go_quiet (fail)
              replace HXB := Lib.hid (HXB.out.drewN nq)
              generalize World.drewN wz nq = wq at *
              go_wp2_with fail
              go_roundg (m - (j + 1))
              case measure => omega
              case rel => exact ⟨j + 1, rfl, by omega, by go_num, .inr ⟨j, x, rfl, by omega, HJX, Lib.hid (by rw [HJ.out, HLK.out]; exact up13_lt HFF.out HPR.out)⟩, Lib.hid (HK0.out.chg HXB.out id), Lib.hid (HR0.out.chg HXB.out id), Lib.hid (HX0.out.trans HXB.out (fun _ _ e => e))⟩
            · have HPR := Lib.hid hpr
              go_wp2_with fail
              go_quiet (fail)
              replace HXB := Lib.hid (HXB.out.drewN nq)
              generalize World.drewN wz nq = wq at *
              go_wp2_with fail
              go_roundg (m - (j + 1))
              case measure => omega
              case rel => exact ⟨j + 1, rfl, by omega, by go_num, .inr ⟨bi, y, rfl, by omega, HY, Lib.hid (by rw [HJ.out, HLK.out]; exact up13_le (by have := HPR.out; omega))⟩, Lib.hid (HK0.out.chg HXB.out id), Lib.hid (HR0.out.chg HXB.out id), Lib.hid (HX0.out.trans HXB.out (fun _ _ e => e))⟩
    · have hjm : j = m := by omega
      subst hjm
      have HTK := Lib.hid (show l.take j = l from List.take_of_length_le (by have := HL.out; omega))
      obtain ⟨x0, x1, x2, x3⟩ := ac_cells13 HR0.out
      obtain ⟨f0, f1, f2, f3⟩ := ac_free13 HR0.out
      rcases hor with ⟨rfl, HLK⟩ | ⟨bi, y, rfl, hbj, HY, HLK⟩
      · obtain ⟨r0, r1, r2, r3, hcs⟩ := ac_put13 HR0.out 0 0 0 0
        have RR := Lib.hid (And.intro r0 (And.intro r1 (And.intro r2 r3)))
        have HF := Lib.hid (fresh_set HX0.out hcs (by have := HQ.out; have := HQ0.out; omega))
        have HAC := Lib.hid (show lk13 ⟨ki, km, kp, ks, ko⟩ l = none from by rw [← HLK.out, HTK.out])
        clear r0 r1 r2 r3 hcs
        go_wp2_with fail
        obtain ⟨r0, r1, r2, r3⟩ := RR.out
        exact bodyPost_ret (v := .tuple #[.agg (acC 0 0 0 0), .bool false]) (by simp [results, Try.results25, go_sem, acC, r0, r1, r2, r3]) rfl ⟨by rw [HAC.out]; rfl, HF.out⟩
      · obtain ⟨r0, r1, r2, r3, hcs⟩ := ac_put13 HR0.out y.ak y.ap y.ao y.ag
        have RR := Lib.hid (And.intro r0 (And.intro r1 (And.intro r2 r3)))
        have HF := Lib.hid (fresh_set HX0.out hcs (by have := HQ.out; have := HQ0.out; omega))
        have HAC := Lib.hid (show lk13 ⟨ki, km, kp, ks, ko⟩ l = some y from by rw [← HLK.out, HTK.out])
        clear r0 r1 r2 r3 hcs
        have hh := HRD.out.chg HX0.out
        obtain ⟨ad, rfl, -⟩ := hh.2 (by omega)
        obtain ⟨z0, z1, z2, z3, z4, z5, z6, z7, z8, z9, z10⟩ := hh.at HY.out
        clear hh
        go_wp2_with fail
        obtain ⟨r0, r1, r2, r3⟩ := RR.out
        exact bodyPost_ret (v := .tuple #[.agg (acC y.ak y.ap y.ao y.ag), .bool true]) (by simp [results, Try.results25, go_sem, acC, r0, r1, r2, r3]) rfl ⟨by rw [HAC.out]; rfl, HF.out⟩

end Go.Proofs.Ytacbgelbffmngaa
