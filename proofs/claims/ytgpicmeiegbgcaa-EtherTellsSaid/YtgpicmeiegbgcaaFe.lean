/-
  Walk: ether.Decode. Conditions: the bytes are read in memory.
-/
import Derived.Test.YtgpicmeiegbgcaaFd
import Derived.Test.YtgpicmeiegbgcaaRc
namespace Go.Proofs.Ytgpicmeiegbgcaa
open Go.RowKit
set_option linter.unusedVariables false

set_option maxHeartbeats 1000000 in
theorem decode_bad (A : Option Addr) (n c : Nat) (w : World) (hn : n < 14 ∨ 1514 < n) (hn2 : n ≤ 9223372036854775807) :
    Calls Try.prog 14 #[.slice A n c] w fun e w' => e = .returned (.tuple #[zeroF, .int .i64 2]) ∧ Chg (fun _ => False) w w' := by
  have hB : withinB 14 1514 [(n : Int)] = false := within_false 0 (Nat.zero_lt_one) (by simp only [List.getElem_cons_zero]; omega)
  have HB := Lib.hid hB
  clear hn hB
  go_enter Try.func14, Try.ntmps14
  go_wp2_with fail
  refine (within_i 14 1514 [(n : Int)] _ 1 1 _ _ rfl (rds_new1 _ _ _ _ _ (by simp) _ _ rfl rfl) (by decide)).mono ?_
  rw [HB.out]
  rintro e w' ⟨rfl, rfl⟩
  go_wp2_with fail
  trace_state
  exact bodyPost_ret (v := .tuple #[zeroF, .int .i64 2]) (by simp [results, Try.results14, go_sem, zeroF]) rfl ⟨rfl, ((Chg.refl _ w).alloc _).alloc _⟩

set_option maxHeartbeats 2000000 in
theorem decode_ok (A : Option Addr) (n c : Nat) (b : List UInt8) (S : Nat → Prop) (w : World) (hn : n = b.length) (h : Rds w S A n (bcs b)) (h14 : 14 ≤ n) (h15 : n ≤ 1514) :
    Calls Try.prog 14 #[.slice A n c] w (Framed b w) := by
  have hB : withinB 14 1514 [(n : Int)] = true := within_true (fun j hj => by
    have hj0 : j = 0 := by simp at hj; omega
    subst hj0
    simp only [List.getElem_cons_zero]; omega)
  have HB := Lib.hid hB
  have hd := fD_lt b (by omega)
  have hs := fS_lt b (by omega)
  have ht := fT_lt b (by omega)
  have e1 := get_six b (by omega)
  have e2 := get_six (b.drop 6) (by rw [List.length_drop]; omega)
  have e3 := get_two (b.drop 12) (by rw [List.length_drop]; omega)
  rw [List.drop_drop] at e2 e3
  have E1 : Hid (getS 6 (some b) = (fD b, some (b.drop 6))) := e1
  have E2 : Hid (getS 6 (some (b.drop 6)) = (fS b, some (b.drop 12))) := e2
  have E3 : Hid (getS 2 (some (b.drop 12)) = (fT b, some (b.drop 14))) := e3
  have hR0 : Blk (w.alloc (.cells #[.int .u64 0, .int .u64 0, .int .i64 0, .slice none 0 0] 25)) w.heap.size _ _ := Blk.new _ _ _
  have hR1 := hR0.alloc (.cells #[.int .i64 n] 3)
  have hC1 := ((Chg.refl (fun _ => False) w).alloc (.cells #[.int .u64 0, .int .u64 0, .int .i64 0, .slice none 0 0] 25)).alloc (.cells #[.int .i64 n] 3)
  have hrd := read_any A n c b _ _ hn ((h.alloc (.cells #[.int .u64 0, .int .u64 0, .int .i64 0, .slice none 0 0] 25)).alloc (.cells #[.int .i64 n] 3)) (rds_nil_ok h (by omega)) (by omega)
  have hz1 : ((w.alloc (.cells #[.int .u64 0, .int .u64 0, .int .i64 0, .slice none 0 0] 25)).alloc (.cells #[.int .i64 n] 3)).heap.size = w.heap.size + 2 := by simp
  have HRD := Lib.hid hrd
  have HR1 := Lib.hid hR1
  have HC1 := Lib.hid hC1
  have HZ1 := Lib.hid hz1
  clear e1 e2 e3 h hn hB hR0 hR1 hC1 hrd hz1
  generalize hqd : fD b = d at *
  generalize hqs : fS b = s at *
  generalize hqt : fT b = t at *
  have EQD := Lib.hid hqd
  have EQS := Lib.hid hqs
  have EQT := Lib.hid hqt
  clear hqd hqs hqt
  obtain ⟨hd1, hd2⟩ := hd
  obtain ⟨hs1, hs2⟩ := hs
  obtain ⟨ht1, ht2⟩ := ht
  go_enter Try.func14, Try.ntmps14
  go_wp2_with fail
  refine (within_i 14 1514 [(n : Int)] _ 1 1 _ _ rfl (rds_new1 _ _ _ _ _ (by simp) _ _ rfl rfl) (by decide)).mono ?_
  rw [HB.out]
  rintro e w' ⟨rfl, rfl⟩
  go_wp2_with fail
  refine HRD.out.mono ?_
  rintro e w1 ⟨p, rfl, hp, hrd1, hc1⟩
  have hz := HZ1.out
  have hC2 := HC1.out.trans hc1 (fun _ _ e => e)
  have hR2 := HR1.out.chg hc1 id
  have hrd1 := hrd1.mono (S' := fun k => w.heap.size < k ∧ k < p) (fun k hk => by omega) (by omega)
  have hpw : w.heap.size < p := by omega
  have hgt := get_any _ _ _ 6 _ hrd1
  rw [E1.out] at hgt
  have HG := Lib.hid hgt
  have HR2 := Lib.hid hR2
  have HC2 := Lib.hid hC2
  clear HRD HR1 HC1 HZ1 hz hp hrd1 hc1 hC2 hR2 hgt HB
  go_wp2_with fail
  refine HG.out.mono ?_
  rintro e w2 ⟨rfl, hrd2, hc2⟩
  have hC3 := fresh_set HC2.out hc2 (by omega)
  have hR3 := HR2.out.chg hc2 (by omega)
  have hgt := get_any _ _ _ 6 _ hrd2
  rw [E2.out] at hgt
  have HG2 := Lib.hid hgt
  have HR3 := Lib.hid hR3
  have HC3 := Lib.hid hC3
  clear hrd2 hc2 hC3 hR3 hgt HG HR2 HC2
  go_wp2_with fail
  refine HG2.out.mono ?_
  rintro e w3 ⟨rfl, hrd3, hc3⟩
  have hC4 := fresh_set HC3.out hc3 (by omega)
  have hR4 := HR3.out.chg hc3 (by omega)
  have hgt := get_any _ _ _ 2 _ hrd3
  rw [E3.out] at hgt
  have HG3 := Lib.hid hgt
  have HR4 := Lib.hid hR4
  have HC4 := Lib.hid hC4
  clear hrd3 hc3 hC4 hR4 hgt HG2 HR3 HC3
  go_wp2_with fail
  refine HG3.out.mono ?_
  rintro e w4 ⟨rfl, hrd4, hc4⟩
  have hC5 := fresh_set HC4.out hc4 (by omega)
  have hR5 := HR4.out.chg hc4 (by omega)
  have hgt := rest_any _ _ _ _ hrd4
  have HG4 := Lib.hid hgt
  have HR5 := Lib.hid hR5
  have HC5 := Lib.hid hC5
  clear hrd4 hc4 hC5 hR5 hgt HG3 HR4 HC4
  go_wp2_with fail
  refine HG4.out.mono ?_
  rintro e w5 ⟨D, k, dc, rfl, hk, _, _, hr6, _, hc5⟩
  have hC6 := fresh_set HC5.out hc5 (by omega)
  have hR6 := HR5.out.chg hc5 (by omega)
  have x0 := hR6.cell 0
  have x1 := hR6.cell 1
  have x2 := hR6.cell 2
  have x3 := hR6.cell 3
  have u0 := hR6.frozen 0
  have u1 := hR6.frozen 1
  have u2 := hR6.frozen 2
  have u3 := hR6.frozen 3
  simp only [List.getElem?_toArray, List.getElem?_cons_zero, List.getElem?_cons_succ] at x0 x1 x2 x3
  have hd8 := hr6.chg (((((Chg.refl (fun k => k = w.heap.size) _).put w.heap.size 0 (fun _ => rfl) (.int .u64 d)).put w.heap.size 1 (fun _ => rfl) (.int .u64 s)).put w.heap.size 2 (fun _ => rfl) (.int .i64 t)).put w.heap.size 3 (fun _ => rfl) (.slice D k dc)) (fun k hk e => by subst e; omega)
  have hC9 := (((hC6.put w.heap.size 0 (fun h => absurd h (Nat.lt_irrefl _)) (.int .u64 d)).put w.heap.size 1 (fun h => absurd h (Nat.lt_irrefl _)) (.int .u64 s)).put w.heap.size 2 (fun h => absurd h (Nat.lt_irrefl _)) (.int .i64 t)).put w.heap.size 3 (fun h => absurd h (Nat.lt_irrefl _)) (.slice D k dc)
  have hd9 := hd8.mono (S' := fun k => w.heap.size ≤ k) (fun k hk => by omega)
  have r0 := (hR6.set 0 (.int .u64 d)).cell 0
  have r1 := ((hR6.set 0 (.int .u64 d)).set 1 (.int .u64 s)).cell 1
  have r2 := (((hR6.set 0 (.int .u64 d)).set 1 (.int .u64 s)).set 2 (.int .i64 t)).cell 2
  have r3 := ((((hR6.set 0 (.int .u64 d)).set 1 (.int .u64 s)).set 2 (.int .i64 t)).set 3 (.slice D k dc)).cell 3
  simp only [List.setIfInBounds_toArray, List.set_cons_succ, List.set_cons_zero, List.getElem?_toArray, List.getElem?_cons_zero, List.getElem?_cons_succ] at r0 r1 r2 r3
  have RR := Lib.hid (And.intro r0 (And.intro r1 (And.intro r2 r3)))
  have HF : Hid (Framed b w (.returned (.tuple #[.agg #[.int .u64 (fD b), .int .u64 (fS b), .int .i64 (fT b), .slice D k dc], .int .i64 0])) _) := ⟨D, k, dc, rfl, hk, hd9, hC9⟩
  rw [EQD.out, EQS.out, EQT.out] at HF
  clear r0 r1 r2 r3 hC6 hC9 hd8 hd9 hR6 hc5 hr6 hk HG4 HR5 HC5
  go_wp2_with fail
  obtain ⟨r0, r1, r2, r3⟩ := RR.out
  exact bodyPost_ret (v := .tuple #[.agg #[.int .u64 d, .int .u64 s, .int .i64 t, .slice D k dc], .int .i64 0]) (by simp [results, Try.results14, go_sem, r0, r1, r2, r3]) rfl HF.out

end Go.Proofs.Ytgpicmeiegbgcaa
