/-
  Walk: arp.Decode. Conditions: the bytes are read in memory, no more of them than there is room.
-/
import Derived.Test.YtlaekkoegomfjaaJp
import Derived.Test.YtlaekkoegomfjaaRc
namespace Go.Proofs.Ytlaekkoegomfjaa
open Go.RowKit
set_option linter.unusedVariables false

/-- Behind the stores of an arp into block r, cell by cell. -/
theorem arp_put {w : World} {r : Nat} {T : TypeId} {o s t p q : Int} (hb : Blk w r T (arpC o s t p q)) (o' s' t' p' q' : Int) :
    (w.setCell ⟨r, 0, none⟩ (.int .i64 o')).cell? ⟨r, 0, none⟩ = some (.int .i64 o') ∧
    ((w.setCell ⟨r, 0, none⟩ (.int .i64 o')).setCell ⟨r, 1, none⟩ (.int .u64 s')).cell? ⟨r, 1, none⟩ = some (.int .u64 s') ∧
    (((w.setCell ⟨r, 0, none⟩ (.int .i64 o')).setCell ⟨r, 1, none⟩ (.int .u64 s')).setCell ⟨r, 2, none⟩ (.int .u64 t')).cell? ⟨r, 2, none⟩ = some (.int .u64 t') ∧
    ((((w.setCell ⟨r, 0, none⟩ (.int .i64 o')).setCell ⟨r, 1, none⟩ (.int .u64 s')).setCell ⟨r, 2, none⟩ (.int .u64 t')).setCell ⟨r, 3, none⟩ (.int .u32 p')).cell? ⟨r, 3, none⟩ = some (.int .u32 p') ∧
    (((((w.setCell ⟨r, 0, none⟩ (.int .i64 o')).setCell ⟨r, 1, none⟩ (.int .u64 s')).setCell ⟨r, 2, none⟩ (.int .u64 t')).setCell ⟨r, 3, none⟩ (.int .u32 p')).setCell ⟨r, 4, none⟩ (.int .u32 q')).cell? ⟨r, 4, none⟩ = some (.int .u32 q') ∧
    Blk (((((w.setCell ⟨r, 0, none⟩ (.int .i64 o')).setCell ⟨r, 1, none⟩ (.int .u64 s')).setCell ⟨r, 2, none⟩ (.int .u64 t')).setCell ⟨r, 3, none⟩ (.int .u32 p')).setCell ⟨r, 4, none⟩ (.int .u32 q')) r T (arpC o' s' t' p' q') ∧
    Chg (fun k => k = r) w (((((w.setCell ⟨r, 0, none⟩ (.int .i64 o')).setCell ⟨r, 1, none⟩ (.int .u64 s')).setCell ⟨r, 2, none⟩ (.int .u64 t')).setCell ⟨r, 3, none⟩ (.int .u32 p')).setCell ⟨r, 4, none⟩ (.int .u32 q')) := by
  have r0 := (hb.set 0 (.int .i64 o')).cell 0
  have r1 := ((hb.set 0 (.int .i64 o')).set 1 (.int .u64 s')).cell 1
  have r2 := (((hb.set 0 (.int .i64 o')).set 1 (.int .u64 s')).set 2 (.int .u64 t')).cell 2
  have r3 := ((((hb.set 0 (.int .i64 o')).set 1 (.int .u64 s')).set 2 (.int .u64 t')).set 3 (.int .u32 p')).cell 3
  have h5 := (((((hb.set 0 (.int .i64 o')).set 1 (.int .u64 s')).set 2 (.int .u64 t')).set 3 (.int .u32 p')).set 4 (.int .u32 q'))
  have r4 := h5.cell 4
  simp only [arpC, List.setIfInBounds_toArray, List.set_cons_succ, List.set_cons_zero, List.getElem?_toArray, List.getElem?_cons_zero, List.getElem?_cons_succ] at r0 r1 r2 r3 r4 h5
  exact ⟨r0, r1, r2, r3, r4, h5, (((((Chg.refl (fun k => k = r) w).put r 0 (fun _ => rfl) _).put r 1 (fun _ => rfl) _).put r 2 (fun _ => rfl) _).put r 3 (fun _ => rfl) _).put r 4 (fun _ => rfl) _⟩
theorem arp_free {w : World} {r : Nat} {T : TypeId} {cs : Array Value} (hb : Blk w r T cs) : w.frozen? ⟨r, 0, none⟩ = false ∧ w.frozen? ⟨r, 1, none⟩ = false ∧ w.frozen? ⟨r, 2, none⟩ = false ∧ w.frozen? ⟨r, 3, none⟩ = false ∧ w.frozen? ⟨r, 4, none⟩ = false :=
  ⟨hb.frozen 0, hb.frozen 1, hb.frozen 2, hb.frozen 3, hb.frozen 4⟩

/-- One number of the first m bytes. -/
theorem get_step (p : Nat) (S : Nat → Prop) (b : List UInt8) (m i k : Nat) (w : World) (h : Rd 71 true w p S (some ((b.take m).drop i))) (h1 : 1 ≤ k) (h7 : k ≤ 7) (hik : i + k ≤ m) (hm : m ≤ b.length) :
    Calls Try.prog 24 #[.pointer (some ⟨p, 0, none⟩), .int .i64 (k : Int)] w fun e w' => e = .returned (.int .i64 (nAt b i k)) ∧ Rd 71 true w' p S (some ((b.take m).drop (i + k))) ∧ Chg (fun k => k = p) w w' := by
  have hg := get_any p S _ (k : Int) w h
  rw [get_upto b m i k h1 h7 hik hm] at hg
  exact hg

def zeroA : Value := .agg #[.int .i64 0, .int .u64 0, .int .u64 0, .int .u32 0, .int .u32 0]
set_option maxHeartbeats 1000000 in
theorem adec_short (A : Option Addr) (n c : Nat) (w : World) (hn : n < 28) :
    Calls Try.prog 15 #[.slice A n c] w fun e w' => e = .returned (.tuple #[zeroA, .int .i64 2]) ∧ Chg (fun _ => False) w w' := by
  go_enter Try.func15, Try.ntmps15
  go_wp2_with fail
  exact bodyPost_ret (v := .tuple #[zeroA, .int .i64 2]) (by simp [results, Try.results15, go_sem, zeroA]) rfl ⟨rfl, (Chg.refl _ w).alloc _⟩

/-- What Decode hands back of an arp's bytes. -/
def arpV (b : List UInt8) : Value := .agg #[.int .i64 (aO b), .int .u64 (aS b), .int .u64 (aT b), .int .u32 (aP b), .int .u32 (aQ b)]

def decV (b : List UInt8) : Value := if headB b then .tuple #[arpV b, .int .i64 0] else .tuple #[zeroA, .int .i64 2]
theorem decV_no {b : List UInt8} (h : headB b = false) : decV b = .tuple #[zeroA, .int .i64 2] := by unfold decV; rw [h]; rfl
theorem decV_yes {b : List UInt8} (h : headB b = true) : decV b = .tuple #[arpV b, .int .i64 0] := by unfold decV; rw [h]; rfl

set_option maxHeartbeats 2000000 in
theorem adec_long (A : Option Addr) (n c : Nat) (b : List UInt8) (S : Nat → Prop) (w : World) (hn : n = b.length) (h : Rds w S A n (bcs b)) (h28 : 28 ≤ n) (hc : n ≤ c) (hcm : c ≤ maxLen) :
    Calls Try.prog 15 #[.slice A n c] w fun e w' => e = .returned (decV b) ∧ Chg (fun _ => False) w w' := by
  have hlen : 28 ≤ b.length := by omega
  have hR0 : Blk (w.alloc (.cells #[.int .i64 0, .int .u64 0, .int .u64 0, .int .u32 0, .int .u32 0] 25)) w.heap.size 25 (arpC 0 0 0 0 0) := blk_new rfl
  have hC0 := (Chg.refl (fun _ => False) w).alloc (.cells #[.int .i64 0, .int .u64 0, .int .u64 0, .int .u32 0, .int .u32 0] 25)
  have hz0 : (w.alloc (.cells #[.int .i64 0, .int .u64 0, .int .u64 0, .int .u32 0, .int .u32 0] 25)).heap.size = w.heap.size + 1 := by simp
  have h28r := (h.take 28 (by omega)).alloc (.cells #[.int .i64 0, .int .u64 0, .int .u64 0, .int .u32 0, .int .u32 0] 25)
  rw [← bcs_take] at h28r
  have hrd := read_any A 28 c (b.take 28) _ _ (by rw [List.length_take]; omega) h28r (rds_nil_ok h (by omega)) (by decide)
  have hcm' : (c : Int) ≤ 9223372036854775807 := by unfold maxLen at hcm; omega
  have HRD := Lib.hid hrd
  have HR0 := Lib.hid hR0
  have HC0 := Lib.hid hC0
  have HZ0 := Lib.hid hz0
  have HLEN := Lib.hid hlen
  have hHead : Hid (headB b = (nAt b 0 2 == 1 && (nAt b 2 2 == 2048 && (nAt b 4 1 == 6 && nAt b 5 1 == 4)))) := rfl
  have HV : Hid (arpV b = .agg #[.int .i64 (nAt b 6 2), .int .u64 (nAt b 8 6), .int .u64 (nAt b 18 6), .int .u32 (nAt b 14 4), .int .u32 (nAt b 24 4)]) := rfl
  have g1 := nAt_nonneg b 8 6
  have g1' : nAt b 8 6 ≤ 281474976710655 := (aS_lt b).2
  have g2 := nAt_nonneg b 14 4
  have g2' : nAt b 14 4 ≤ 4294967295 := (aP_lt b).2
  have g3 := nAt_nonneg b 18 6
  have g3' : nAt b 18 6 ≤ 281474976710655 := (aT_lt b).2
  have g4 := nAt_nonneg b 24 4
  have g4' : nAt b 24 4 ≤ 4294967295 := (aQ_lt b).2
  clear hrd hR0 hC0 hz0 h28r h hn hlen hcm
  go_enter Try.func15, Try.ntmps15
  go_wp2_with fail
  refine HRD.out.mono ?_
  rintro e w1 ⟨p, rfl, hp, hrd, hc1⟩
  have hz := HZ0.out
  have hrp : w.heap.size < p := by omega
  have hrd := hrd.mono (S' := fun k => w.heap.size < k ∧ k < p) (fun k hk => by omega) (by omega)
  have hR := HR0.out.chg hc1 id
  have hC := HC0.out.trans hc1 (fun _ _ e => e)
  have hlen := HLEN.out
  clear HRD HR0 HC0 HZ0 hz hp hc1
  have HG := Lib.hid (get_step p _ b 28 0 2 _ hrd (by decide) (by decide) (by decide) hlen)
  have HR := Lib.hid hR
  have HC := Lib.hid hC
  have HLEN := Lib.hid hlen
  clear hrd hR hC hlen
  go_wp2_with fail
  refine HG.out.mono ?_
  rintro e w2 ⟨rfl, hrd, hc'⟩
  have hC := fresh_set HC.out hc' (by omega)
  have hR := HR.out.chg hc' (by omega)
  have hlen := HLEN.out
  clear HG HR HC HLEN
  clear hc'
  by_cases q0 : nAt b 0 2 = 1
  case neg =>
    have t0 : (nAt b 0 2 == 1) = false := by simpa using q0
    have s0 : (nAt b 0 2 != 1) = true := by simpa using q0
    have HE : Hid (headB b = false) := by unfold Hid; rw [hHead.out]; simp [t0]
    obtain ⟨x0, x1, x2, x3, x4⟩ := arp_cells hR
    obtain ⟨u0, u1, u2, u3, u4⟩ := arp_free hR
    obtain ⟨r0, r1, r2, r3, r4, hR', hcs⟩ := arp_put hR 0 0 0 0 0
    have HF := Lib.hid (fresh_set hC hcs (Nat.le_refl _))
    have RR := Lib.hid (And.intro r0 (And.intro r1 (And.intro r2 (And.intro r3 r4))))
    clear r0 r1 r2 r3 r4 hR' hcs hR hC hrd hlen
    go_wp2_with fail
    obtain ⟨r0, r1, r2, r3, r4⟩ := RR.out
    exact bodyPost_ret (v := .tuple #[zeroA, .int .i64 2]) (by simp [results, Try.results15, go_sem, zeroA, r0, r1, r2, r3, r4]) rfl ⟨by rw [decV_no HE.out], HF.out⟩
  have Q0 := Lib.hid q0
  have t0 : (nAt b 0 2 == 1) = true := by simpa using q0
  have s0 : (nAt b 0 2 != 1) = false := by simpa using q0
  clear q0
  have HG := Lib.hid (get_step p _ b 28 2 2 _ hrd (by decide) (by decide) (by decide) hlen)
  have HR := Lib.hid hR
  have HC := Lib.hid hC
  have HLEN := Lib.hid hlen
  clear hrd hR hC hlen
  go_wp2_with fail
  refine HG.out.mono ?_
  rintro e w3 ⟨rfl, hrd, hc'⟩
  have hC := fresh_set HC.out hc' (by omega)
  have hR := HR.out.chg hc' (by omega)
  have hlen := HLEN.out
  clear HG HR HC HLEN
  clear hc'
  by_cases q2 : nAt b 2 2 = 2048
  case neg =>
    have t2 : (nAt b 2 2 == 2048) = false := by simpa using q2
    have s2 : (nAt b 2 2 != 2048) = true := by simpa using q2
    have HE : Hid (headB b = false) := by unfold Hid; rw [hHead.out]; simp [t2]
    obtain ⟨x0, x1, x2, x3, x4⟩ := arp_cells hR
    obtain ⟨u0, u1, u2, u3, u4⟩ := arp_free hR
    obtain ⟨r0, r1, r2, r3, r4, hR', hcs⟩ := arp_put hR 0 0 0 0 0
    have HF := Lib.hid (fresh_set hC hcs (Nat.le_refl _))
    have RR := Lib.hid (And.intro r0 (And.intro r1 (And.intro r2 (And.intro r3 r4))))
    clear r0 r1 r2 r3 r4 hR' hcs hR hC hrd hlen
    go_wp2_with fail
    obtain ⟨r0, r1, r2, r3, r4⟩ := RR.out
    exact bodyPost_ret (v := .tuple #[zeroA, .int .i64 2]) (by simp [results, Try.results15, go_sem, zeroA, r0, r1, r2, r3, r4]) rfl ⟨by rw [decV_no HE.out], HF.out⟩
  have Q2 := Lib.hid q2
  have t2 : (nAt b 2 2 == 2048) = true := by simpa using q2
  have s2 : (nAt b 2 2 != 2048) = false := by simpa using q2
  clear q2
  have HG := Lib.hid (get_step p _ b 28 4 1 _ hrd (by decide) (by decide) (by decide) hlen)
  have HR := Lib.hid hR
  have HC := Lib.hid hC
  have HLEN := Lib.hid hlen
  clear hrd hR hC hlen
  go_wp2_with fail
  refine HG.out.mono ?_
  rintro e w4 ⟨rfl, hrd, hc'⟩
  have hC := fresh_set HC.out hc' (by omega)
  have hR := HR.out.chg hc' (by omega)
  have hlen := HLEN.out
  clear HG HR HC HLEN
  clear hc'
  by_cases q4 : nAt b 4 1 = 6
  case neg =>
    have t4 : (nAt b 4 1 == 6) = false := by simpa using q4
    have s4 : (nAt b 4 1 != 6) = true := by simpa using q4
    have HE : Hid (headB b = false) := by unfold Hid; rw [hHead.out]; simp [t4]
    obtain ⟨x0, x1, x2, x3, x4⟩ := arp_cells hR
    obtain ⟨u0, u1, u2, u3, u4⟩ := arp_free hR
    obtain ⟨r0, r1, r2, r3, r4, hR', hcs⟩ := arp_put hR 0 0 0 0 0
    have HF := Lib.hid (fresh_set hC hcs (Nat.le_refl _))
    have RR := Lib.hid (And.intro r0 (And.intro r1 (And.intro r2 (And.intro r3 r4))))
    clear r0 r1 r2 r3 r4 hR' hcs hR hC hrd hlen
    go_wp2_with fail
    obtain ⟨r0, r1, r2, r3, r4⟩ := RR.out
    exact bodyPost_ret (v := .tuple #[zeroA, .int .i64 2]) (by simp [results, Try.results15, go_sem, zeroA, r0, r1, r2, r3, r4]) rfl ⟨by rw [decV_no HE.out], HF.out⟩
  have Q4 := Lib.hid q4
  have t4 : (nAt b 4 1 == 6) = true := by simpa using q4
  have s4 : (nAt b 4 1 != 6) = false := by simpa using q4
  clear q4
  have HG := Lib.hid (get_step p _ b 28 5 1 _ hrd (by decide) (by decide) (by decide) hlen)
  have HR := Lib.hid hR
  have HC := Lib.hid hC
  have HLEN := Lib.hid hlen
  clear hrd hR hC hlen
  go_wp2_with fail
  refine HG.out.mono ?_
  rintro e w5 ⟨rfl, hrd, hc'⟩
  have hC := fresh_set HC.out hc' (by omega)
  have hR := HR.out.chg hc' (by omega)
  have hlen := HLEN.out
  clear HG HR HC HLEN
  clear hc'
  by_cases q5 : nAt b 5 1 = 4
  case neg =>
    have t5 : (nAt b 5 1 == 4) = false := by simpa using q5
    have s5 : (nAt b 5 1 != 4) = true := by simpa using q5
    have HE : Hid (headB b = false) := by unfold Hid; rw [hHead.out]; simp [t5]
    obtain ⟨x0, x1, x2, x3, x4⟩ := arp_cells hR
    obtain ⟨u0, u1, u2, u3, u4⟩ := arp_free hR
    obtain ⟨r0, r1, r2, r3, r4, hR', hcs⟩ := arp_put hR 0 0 0 0 0
    have HF := Lib.hid (fresh_set hC hcs (Nat.le_refl _))
    have RR := Lib.hid (And.intro r0 (And.intro r1 (And.intro r2 (And.intro r3 r4))))
    clear r0 r1 r2 r3 r4 hR' hcs hR hC hrd hlen
    go_wp2_with fail
    obtain ⟨r0, r1, r2, r3, r4⟩ := RR.out
    exact bodyPost_ret (v := .tuple #[zeroA, .int .i64 2]) (by simp [results, Try.results15, go_sem, zeroA, r0, r1, r2, r3, r4]) rfl ⟨by rw [decV_no HE.out], HF.out⟩
  have Q5 := Lib.hid q5
  have t5 : (nAt b 5 1 == 4) = true := by simpa using q5
  have s5 : (nAt b 5 1 != 4) = false := by simpa using q5
  clear q5
  have HE : Hid (headB b = true) := by unfold Hid; rw [hHead.out, t0, t2, t4, t5]; rfl
  have HG := Lib.hid (get_step p _ b 28 6 2 _ hrd (by decide) (by decide) (by decide) hlen)
  have HR := Lib.hid hR
  have HC := Lib.hid hC
  have HLEN := Lib.hid hlen
  clear hrd hR hC hlen
  go_wp2_with fail
  refine HG.out.mono ?_
  rintro e w6 ⟨rfl, hrd, hc'⟩
  have hC := fresh_set HC.out hc' (by omega)
  have hR := HR.out.chg hc' (by omega)
  have hlen := HLEN.out
  clear HG HR HC HLEN
  clear hc'
  have hA : Blk (w6.alloc (.cells #[.int .i64 (nAt b 6 2), .int .u64 0, .int .u64 0, .int .u32 0, .int .u32 0] 25)) w6.heap.size 25 (arpC (nAt b 6 2) 0 0 0 0) := blk_new rfl
  have hpq := hrd.lt
  have hR := hR.alloc (.cells #[.int .i64 (nAt b 6 2), .int .u64 0, .int .u64 0, .int .u32 0, .int .u32 0] 25)
  have hC := hC.alloc (.cells #[.int .i64 (nAt b 6 2), .int .u64 0, .int .u64 0, .int .u32 0, .int .u32 0] 25)
  have hrd := hrd.chg ((Chg.refl (fun _ => False) w6).alloc (.cells #[.int .i64 (nAt b 6 2), .int .u64 0, .int .u64 0, .int .u32 0, .int .u32 0] 25)) id (fun _ _ => id)
  have HG := Lib.hid (get_step p _ b 28 8 6 _ hrd (by decide) (by decide) (by decide) hlen)
  have HR := Lib.hid hR
  have HA := Lib.hid hA
  have HC := Lib.hid hC
  have HLEN := Lib.hid hlen
  clear hrd hR hC hlen hA
  go_wp2_with fail
  refine HG.out.mono ?_
  rintro e w7 ⟨rfl, hrd, hc'⟩
  have hC := fresh_set HC.out hc' (by omega)
  have hR := HR.out.chg hc' (by omega)
  have hlen := HLEN.out
  have hA := HA.out.chg hc' (by omega)
  clear HG HR HC HLEN HA hc'
  have HG := Lib.hid (get_step p _ b 28 14 4 _ hrd (by decide) (by decide) (by decide) hlen)
  have HR := Lib.hid hR
  have HA := Lib.hid hA
  have HC := Lib.hid hC
  have HLEN := Lib.hid hlen
  clear hrd hR hC hlen hA
  go_wp2_with fail
  refine HG.out.mono ?_
  rintro e w8 ⟨rfl, hrd, hc'⟩
  have hC := fresh_set HC.out hc' (by omega)
  have hR := HR.out.chg hc' (by omega)
  have hlen := HLEN.out
  have hA := HA.out.chg hc' (by omega)
  clear HG HR HC HLEN HA hc'
  have hz6 : w.heap.size < w6.heap.size := by omega
  obtain ⟨y0, y1, y2, y3, y4⟩ := arp_cells hA
  obtain ⟨f0, f1, f2, f3, f4⟩ := arp_free hA
  have hcs := ((Chg.refl (fun k => k = w6.heap.size) w8).put w6.heap.size 1 (fun _ => rfl) (.int .u64 (nAt b 8 6))).put w6.heap.size 3 (fun _ => rfl) (.int .u32 (nAt b 14 4))
  have hC := fresh_set hC hcs (by omega)
  have hR := hR.chg hcs (by omega)
  have hA := (hA.set 1 (.int .u64 (nAt b 8 6))).set 3 (.int .u32 (nAt b 14 4))
  have hrd := hrd.chg hcs (by omega) (fun k hk => by have := hk.2; omega)
  simp only [arpC, List.setIfInBounds_toArray, List.set_cons_succ, List.set_cons_zero] at hA
  have hA : Blk _ _ 25 (arpC (nAt b 6 2) (nAt b 8 6) 0 (nAt b 14 4) 0) := hA
  clear hcs
  have HG := Lib.hid (get_step p _ b 28 18 6 _ hrd (by decide) (by decide) (by decide) hlen)
  have HR := Lib.hid hR
  have HA := Lib.hid hA
  have HC := Lib.hid hC
  have HLEN := Lib.hid hlen
  clear hrd hR hC hlen hA
  go_wp2_with fail
  clear y0 y1 y2 y3 y4 f0 f1 f2 f3 f4
  refine HG.out.mono ?_
  rintro e w9 ⟨rfl, hrd, hc'⟩
  have hC := fresh_set HC.out hc' (by omega)
  have hR := HR.out.chg hc' (by omega)
  have hlen := HLEN.out
  have hA := HA.out.chg hc' (by omega)
  clear HG HR HC HLEN HA hc'
  have HG := Lib.hid (get_step p _ b 28 24 4 _ hrd (by decide) (by decide) (by decide) hlen)
  have HR := Lib.hid hR
  have HA := Lib.hid hA
  have HC := Lib.hid hC
  have HLEN := Lib.hid hlen
  clear hrd hR hC hlen hA
  go_wp2_with fail
  refine HG.out.mono ?_
  rintro e w10 ⟨rfl, hrd, hc'⟩
  have hC := fresh_set HC.out hc' (by omega)
  have hR := HR.out.chg hc' (by omega)
  have hlen := HLEN.out
  have hA := HA.out.chg hc' (by omega)
  clear HG HR HC HLEN HA hc'
  obtain ⟨y0, y1, y2, y3, y4⟩ := arp_cells hA
  obtain ⟨f0, f1, f2, f3, f4⟩ := arp_free hA
  have hcs := ((Chg.refl (fun k => k = w6.heap.size) w10).put w6.heap.size 2 (fun _ => rfl) (.int .u64 (nAt b 18 6))).put w6.heap.size 4 (fun _ => rfl) (.int .u32 (nAt b 24 4))
  have hC := fresh_set hC hcs (by omega)
  have hR := hR.chg hcs (by omega)
  have hA := (hA.set 2 (.int .u64 (nAt b 18 6))).set 4 (.int .u32 (nAt b 24 4))
  have hrd := hrd.chg hcs (by omega) (fun k hk => by have := hk.2; omega)
  simp only [arpC, List.setIfInBounds_toArray, List.set_cons_succ, List.set_cons_zero] at hA
  have hA : Blk _ _ 25 (arpC (nAt b 6 2) (nAt b 8 6) (nAt b 18 6) (nAt b 14 4) (nAt b 24 4)) := hA
  clear hcs
  obtain ⟨z0, z1, z2, z3, z4⟩ := arp_cells hA
  obtain ⟨x0, x1, x2, x3, x4⟩ := arp_cells hR
  obtain ⟨u0, u1, u2, u3, u4⟩ := arp_free hR
  obtain ⟨r0, r1, r2, r3, r4, hR', hcs⟩ := arp_put hR (nAt b 6 2) (nAt b 8 6) (nAt b 18 6) (nAt b 14 4) (nAt b 24 4)
  have HF := Lib.hid (fresh_set hC hcs (Nat.le_refl _))
  have RR := Lib.hid (And.intro r0 (And.intro r1 (And.intro r2 (And.intro r3 r4))))
  clear r0 r1 r2 r3 r4 hR' hcs hR hC hrd hlen hA
  go_wp2_with fail
  obtain ⟨r0, r1, r2, r3, r4⟩ := RR.out
  exact bodyPost_ret (v := .tuple #[.agg #[.int .i64 (nAt b 6 2), .int .u64 (nAt b 8 6), .int .u64 (nAt b 18 6), .int .u32 (nAt b 14 4), .int .u32 (nAt b 24 4)], .int .i64 0]) (by simp [results, Try.results15, go_sem, r0, r1, r2, r3, r4]) rfl ⟨by rw [decV_yes HE.out, HV.out], HF.out⟩
end Go.Proofs.Ytlaekkoegomfjaa
