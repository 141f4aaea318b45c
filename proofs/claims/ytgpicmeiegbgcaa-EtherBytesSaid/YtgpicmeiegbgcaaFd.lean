/-
  Walks: rutterref02.Bytes, Parse. Conditions: the frame may be; the bytes are read in memory.
-/
import Derived.Test.YtgpicmeiegbgcaaFc
import Derived.Test.YtgpicmeiegbgcaaVa
import Derived.Test.YtgpicmeiegbgcaaRs
namespace Go.Proofs.Ytgpicmeiegbgcaa
open Go.RowKit
set_option linter.unusedVariables false

/-- A frame's bytes. -/
def frameB (d s t : Int) (l : List UInt8) : List UInt8 := be 6 d.toNat ++ (be 6 s.toNat ++ (be 2 t.toNat ++ l))

set_option maxHeartbeats 1000000 in
theorem rbytes2_any (d s t : Int) (A : Option Addr) (n c : Nat) (l : List UInt8) (S : Nat → Prop) (w : World) (hn : n = l.length) (h : Rds w S A n (bcs l)) (hd : 0 ≤ d) (hd2 : d ≤ 281474976710655) (hs : 0 ≤ s) (hs2 : s ≤ 281474976710655)
    (ht : 0 ≤ t) (ht2 : t ≤ 65535) (hn2 : n ≤ 1500) :
    Calls Try.prog 15 #[.agg #[.int .u64 d, .int .u64 s, .int .i64 t, .slice A n c]] w fun e w' => ∃ A' k c', e = .returned (.slice A' k c') ∧
      Rds w' (fun k => w.heap.size ≤ k) A' k (bcs (frameB d s t l)) ∧ Chg (fun _ => False) w w' := by
  obtain ⟨i0, hi0, hz0, hz1, hz2⟩ := info_parts infoByte
  have HN := Lib.hid hn
  clear hn
  have hC0 := (Chg.refl (fun _ => False) w).alloc (.cells #[.int .u64 d, .int .u64 s, .int .i64 t, .slice A n c] 25)
  have hb0 : Blk (w.alloc (.cells #[.int .u64 d, .int .u64 s, .int .i64 t, .slice A n c] 25)) w.heap.size _ _ := Blk.new _ _ _
  have h0 := h.alloc (.cells #[.int .u64 d, .int .u64 s, .int .i64 t, .slice A n c] 25)
  have hz0 : (w.alloc (.cells #[.int .u64 d, .int .u64 s, .int .i64 t, .slice A n c] 25)).heap.size = w.heap.size + 1 := by simp
  have HC0 := Lib.hid hC0
  have HB0 := Lib.hid hb0
  have H0 := Lib.hid h0
  have HZ0 := Lib.hid hz0
  clear hC0 hb0 h0 hz0 h
  go_enter Try.func15, Try.ntmps15
  go_wp2_with fail
  refine (one_any 6 d _ (by decide) (by decide) hd).mono ?_
  rintro e w1 ⟨A1, k1, c1, rfl, rfl, hown1, hc1⟩
  have y1 := (HB0.out.chg hc1 id).cell 1
  simp only [List.getElem?_toArray, List.getElem?_cons_zero, List.getElem?_cons_succ] at y1
  have HO1 := Lib.hid hown1
  have HC1 := Lib.hid hc1
  clear hown1 hc1
  go_wp2_with fail
  refine (one_any 6 s _ (by decide) (by decide) hs).mono ?_
  rintro e w2 ⟨A2, k2, c2, rfl, rfl, hown2, hc2⟩
  have hC2 := HC1.out.trans hc2 (fun _ _ e => e)
  have hown1 := own_chg HO1.out hc2 (fun _ _ => id)
  have s2 := hC2.size
  have hr2 := own_rds2 hown2
  clear y1 hc2 hown2 HC1 HO1
  go_wp2_with (at_builtin; refine wpList_own_append _ rfl (.tmp 8) (.tmp 12) 23 rfl _ 5 i0 (.int .u8 0) 1 Try.underlying23 hi0 hz0 hz1 hz2 rfl (.slice A1 6 c1) 6 _ rfl hown1 _ A2 6 c2 _ rfl hr2 (bcs_one _) (by decide) (by decide) s2 ?_; intro v3 w3 hown3 hg3 hat3; obtain ⟨D3, dc3, rfl, _, _⟩ := own_form hown3; have hC3 := grown_fresh hC2 hg3 hown1 (Nat.le_refl _); have HO3 := Lib.hid hown3; have HC3 := Lib.hid hC3; have y2 := (HB0.out.chg hC3 id).cell 2; simp only [List.getElem?_toArray, List.getElem?_cons_zero, List.getElem?_cons_succ] at y2; clear hown3 hC3 hg3 hat3 hown1 hr2 hC2 s2)
  refine (one_any 2 t _ (by decide) (by decide) ht).mono ?_
  rintro e w4 ⟨A4, k4, c4, rfl, rfl, hown4, hc4⟩
  have hC4 := HC3.out.trans hc4 (fun _ _ e => e)
  have hown3 := own_chg HO3.out hc4 (fun _ _ => id)
  have s4 := hC4.size
  have hr4 := own_rds2 hown4
  clear y2 hc4 hown4 HC3 HO3
  go_wp2_with (first
    | (at_builtin; refine wpList_own_append _ rfl (.tmp 14) (.tmp 17) 23 rfl _ 5 i0 (.int .u8 0) 1 Try.underlying23 hi0 hz0 hz1 hz2 rfl (.slice D3 12 dc3) 12 _ rfl hown3 _ A4 2 c4 _ rfl hr4 (bcs_one _) (by decide) (by decide) s4 ?_; intro v5 w5 hown5 hg5 hat5; obtain ⟨D5, dc5, rfl, _, _⟩ := own_form hown5; have hC5 := grown_fresh hC4 hg5 hown3 (Nat.le_refl _); have s5 := hC5.size; have h5 := H0.out.chg hC5 (fun _ _ => id); have y3 := (HB0.out.chg hC5 id).cell 3; simp only [List.getElem?_toArray, List.getElem?_cons_zero, List.getElem?_cons_succ] at y3; clear hg5 hat5 hown3 hr4 hC4 s4)
    | (at_builtin; refine wpList_own_append _ rfl (.tmp 19) (.tmp 21) 23 rfl _ 5 i0 (.int .u8 0) 1 Try.underlying23 hi0 hz0 hz1 hz2 rfl (.slice D5 14 dc5) 14 _ rfl hown5 _ A n c _ rfl h5 (bcs_one _) (by unfold maxLen; omega) (by omega) s5 ?_; intro v6 w6 hown6 hg6 hat6; obtain ⟨D6, dc6, rfl, _, _⟩ := own_form hown6; have hC6 := grown_fresh hC5 hg6 hown5 (Nat.le_refl _); have HO6 := Lib.hid hown6; have HC6 := Lib.hid hC6; clear hown6 hC6 hg6 hat6 hown5 hC5 s5 h5 y3))
  go_ret
  refine ⟨D6, _, dc6, rfl, ?_, HC0.out.trans HC6.out (fun _ _ e => e)⟩
  have hz := HZ0.out
  have e : bcs (frameB d s t l) = bcs (be 6 d.toNat) ++ bcs (be 6 s.toNat) ++ bcs (be 2 t.toNat) ++ bcs l := by
    unfold frameB
    simp only [bcs_app, List.append_assoc]
  rw [e]
  exact (own_rds2 HO6.out).mono (fun k hk => by omega)

/-- The numbers of a frame's bytes. -/
def fD (b : List UInt8) : Int := (num (b.take 6) : Int)
def fS (b : List UInt8) : Int := (num ((b.drop 6).take 6) : Int)
def fT (b : List UInt8) : Int := (num ((b.drop 12).take 2) : Int)
theorem num_take_lt (b : List UInt8) (n : Nat) (h : n ≤ b.length) : num (b.take n) < 256 ^ n := by
  have := num_lt (b.take n)
  rwa [List.length_take, Nat.min_eq_left h] at this
theorem get_six (b : List UInt8) (h : 6 ≤ b.length) : getS 6 (some b) = ((num (b.take 6) : Int), some (b.drop 6)) := by
  have h2 := num_take_lt b 6 h
  exact if_pos ⟨by omega, by omega, h, by show num (b.take 6) < _; omega⟩
theorem get_two (b : List UInt8) (h : 2 ≤ b.length) : getS 2 (some b) = ((num (b.take 2) : Int), some (b.drop 2)) := by
  have h2 := num_take_lt b 2 h
  exact if_pos ⟨by omega, by omega, h, by show num (b.take 2) < _; omega⟩
theorem fD_lt (b : List UInt8) (h : 14 ≤ b.length) : 0 ≤ fD b ∧ fD b ≤ 281474976710655 := by
  have := num_take_lt b 6 (by omega)
  unfold fD
  omega
theorem fS_lt (b : List UInt8) (h : 14 ≤ b.length) : 0 ≤ fS b ∧ fS b ≤ 281474976710655 := by
  have := num_take_lt (b.drop 6) 6 (by rw [List.length_drop]; omega)
  unfold fS
  omega
theorem fT_lt (b : List UInt8) (h : 14 ≤ b.length) : 0 ≤ fT b ∧ fT b ≤ 65535 := by
  have := num_take_lt (b.drop 12) 2 (by rw [List.length_drop]; omega)
  unfold fT
  omega

def zeroF : Value := .agg #[.int .u64 0, .int .u64 0, .int .i64 0, .slice none 0 0]
set_option maxHeartbeats 1000000 in
theorem parse_bad (A : Option Addr) (n c : Nat) (w : World) (hn : n < 14 ∨ 1514 < n) (hn2 : n ≤ 9223372036854775807) :
    Calls Try.prog 16 #[.slice A n c] w fun e w' => e = .returned (.tuple #[zeroF, .int .i64 2]) ∧ Chg (fun _ => False) w w' := by
  by_cases h : n < 14
  · go_enter Try.func16, Try.ntmps16
    go_wp2_with fail
    exact bodyPost_ret (v := .tuple #[zeroF, .int .i64 2]) (by simp [results, Try.results16, go_sem, zeroF]) rfl ⟨rfl, (Chg.refl _ w).alloc _⟩
  · have h2 : 1514 < n := by omega
    go_enter Try.func16, Try.ntmps16
    go_wp2_with fail
    exact bodyPost_ret (v := .tuple #[zeroF, .int .i64 2]) (by simp [results, Try.results16, go_sem, zeroF]) rfl ⟨rfl, (Chg.refl _ w).alloc _⟩

/-- What a call that makes a frame of bytes hands back. -/
def Framed (b : List UInt8) (w : World) (e : Ending) (w' : World) : Prop :=
  ∃ D k dc, e = .returned (.tuple #[.agg #[.int .u64 (fD b), .int .u64 (fS b), .int .i64 (fT b), .slice D k dc], .int .i64 0]) ∧ k = (b.drop 14).length ∧ Rds w' (fun k => w.heap.size ≤ k) D k (bcs (b.drop 14)) ∧ Chg (fun _ => False) w w'

set_option maxHeartbeats 2000000 in
theorem parse_ok (A : Option Addr) (n c : Nat) (b : List UInt8) (S : Nat → Prop) (w : World) (hn : n = b.length) (h : Rds w S A n (bcs b)) (h14 : 14 ≤ n) (h15 : n ≤ 1514) (hc : n ≤ c) (hcm : c ≤ maxLen) :
    Calls Try.prog 16 #[.slice A n c] w (Framed b w) := by
  have hold := h.old
  have hd := fD_lt b (by omega)
  have hs := fS_lt b (by omega)
  have ht := fT_lt b (by omega)
  have e1 := get_six b (by omega)
  have e2 := get_six (b.drop 6) (by rw [List.length_drop]; omega)
  have e3 := get_two (b.drop 12) (by rw [List.length_drop]; omega)
  rw [List.drop_drop] at e2 e3
  have E1 : Hid (getS 6 (some b) = (fD b, some (b.drop 6))) := e1
  have E2 : Hid (getS 6 (some (b.drop 6)) = (fS b, some (b.drop 12))) := e2
  have E3 : Hid (getS 2 (some (b.drop 12)) = (fT b, some (b.drop 14))) := e3
  have hl14 : (b.drop 14).length ≤ 1500 := by rw [List.length_drop]; omega
  have HL := Lib.hid hl14
  have HN := Lib.hid hn
  have HCM := Lib.hid hcm
  clear e1 e2 e3 h hn hl14 hcm
  generalize hqd : fD b = d at *
  generalize hqs : fS b = s at *
  generalize hqt : fT b = t at *
  have EQD := Lib.hid hqd
  have EQS := Lib.hid hqs
  have EQT := Lib.hid hqt
  clear hqd hqs hqt
  obtain ⟨hd1, hd2⟩ := hd
  obtain ⟨hs1, hs2⟩ := hs
  obtain ⟨ht1, ht2⟩ := ht
  go_enter Try.func16, Try.ntmps16
  have hR0 : Blk (w.alloc (.cells #[.int .u64 0, .int .u64 0, .int .i64 0, .slice none 0 0] 25)) w.heap.size _ _ := Blk.new _ _ _
  have hR1 := hR0.alloc (.cells #[.slice A n c, .bool false] 54)
  have hrd1 : Rd 54 false ((w.alloc (.cells #[.int .u64 0, .int .u64 0, .int .i64 0, .slice none 0 0] 25)).alloc (.cells #[.slice A n c, .bool false] 54)) (w.heap.size + 1) (fun k => S k ∧ k < w.heap.size) (some b) :=
    ⟨fun h => by have := h.2; omega, A, n, c, false, b, by simpa using heap_alloc_new (w.alloc (.cells #[.int .u64 0, .int .u64 0, .int .i64 0, .slice none 0 0] 25)) (.cells #[.slice A n c, .bool false] 54), hc, HCM.out, HN.out, (hold.alloc _).alloc _, rfl, rfl⟩
  have hC1 := ((Chg.refl (fun _ => False) w).alloc (.cells #[.int .u64 0, .int .u64 0, .int .i64 0, .slice none 0 0] 25)).alloc (.cells #[.slice A n c, .bool false] 54)
  have hg := rget_any _ _ _ 6 _ hrd1
  rw [E1.out] at hg
  have HG := Lib.hid hg
  have HR1 := Lib.hid hR1
  have HC1 := Lib.hid hC1
  clear hR0 hR1 hrd1 hC1 hg hold
  go_wp2_with fail
  refine HG.out.mono ?_
  rintro e w2 ⟨rfl, hrd2, hc2⟩
  have hC2 := fresh_set HC1.out hc2 (Nat.le_succ _)
  have hR2 := (HR1.out.chg hc2 (by omega)).alloc (.cells #[.int .u64 d, .int .u64 0, .int .i64 0, .slice none 0 0] 25)
  have hp2 := hrd2.lt
  have hz2 := hC2.size
  have hg2 : Blk (w2.alloc (.cells #[.int .u64 d, .int .u64 0, .int .i64 0, .slice none 0 0] 25)) w2.heap.size _ _ := Blk.new _ _ _
  have hrd2 := hrd2.chg ((Chg.refl (fun _ => False) w2).alloc (.cells #[.int .u64 d, .int .u64 0, .int .i64 0, .slice none 0 0] 25)) id (fun _ _ => id)
  have hC2 := hC2.alloc (.cells #[.int .u64 d, .int .u64 0, .int .i64 0, .slice none 0 0] 25)
  have hgt := rget_any _ _ _ 6 _ hrd2
  rw [E2.out] at hgt
  have HG := Lib.hid hgt
  have HR2 := Lib.hid hR2
  have HC2 := Lib.hid hC2
  have HG2 := Lib.hid hg2
  clear hrd2 hC2 hR2 hgt hc2 HC1 HR1 hg2
  go_wp2_with fail
  refine HG.out.mono ?_
  rintro e w3 ⟨rfl, hrd3, hc3⟩
  have hC3 := fresh_set HC2.out hc3 (Nat.le_succ _)
  have hR3 := HR2.out.chg hc3 (by omega)
  have hg3 := HG2.out.chg hc3 (by omega)
  have y1 := hg3.cell 1
  have f1 := hg3.frozen 1
  simp only [List.getElem?_toArray, List.getElem?_cons_zero, List.getElem?_cons_succ] at y1
  generalize hgq : w2.heap.size = q at *
  have hcs := (Chg.refl (fun k => k = q) w3).put q 1 (fun _ => rfl) (.int .u64 s)
  have hC4 := fresh_set hC3 hcs (by omega)
  have hR4 := hR3.chg hcs (by omega)
  have hg4 := hg3.set 1 (.int .u64 s)
  have hrd4 := hrd3.chg hcs (by omega) (fun k hk => by have := hk.2; omega)
  simp only [List.setIfInBounds_toArray, List.set_cons_succ, List.set_cons_zero] at hg4
  have hgt := rget_any _ _ _ 2 _ hrd4
  rw [E3.out] at hgt
  have HG4 := Lib.hid hgt
  have HR4 := Lib.hid hR4
  have HC4 := Lib.hid hC4
  have HGG := Lib.hid hg4
  clear hrd3 hrd4 hC3 hC4 hR3 hR4 hgt hc3 hcs hg3 hg4 HG HR2 HC2 HG2 hgq
  go_wp2_with fail
  refine HG4.out.mono ?_
  rintro e w5 ⟨rfl, hrd5, hc5⟩
  have hC5 := fresh_set HC4.out hc5 (Nat.le_succ _)
  have hR5 := HR4.out.chg hc5 (by omega)
  have hg5 := HGG.out.chg hc5 (by omega)
  clear y1 f1
  have y1 := hg5.cell 2
  have f1 := hg5.frozen 2
  simp only [List.getElem?_toArray, List.getElem?_cons_zero, List.getElem?_cons_succ] at y1
  have hcs := (Chg.refl (fun k => k = q) w5).put q 2 (fun _ => rfl) (.int .i64 t)
  have hC6 := fresh_set hC5 hcs (by omega)
  have hR6 := hR5.chg hcs (by omega)
  have hg6 := hg5.set 2 (.int .i64 t)
  have hrd6 := hrd5.chg hcs (by omega) (fun k hk => by have := hk.2; omega)
  simp only [List.setIfInBounds_toArray, List.set_cons_succ, List.set_cons_zero] at hg6
  have hgt := rrest_any _ _ _ _ hrd6 (fun b' hb' => by injection hb' with hb'; subst hb'; have := HL.out; omega)
  have HG6 := Lib.hid hgt
  have HR6 := Lib.hid hR6
  have HC6 := Lib.hid hC6
  have HGG6 := Lib.hid hg6
  have hq6 := hg6.lt
  have hw6 := hR6.lt
  clear hrd5 hrd6 hC5 hC6 hR5 hR6 hgt hc5 hcs hg5 hg6 HG4 HR4 HC4 HGG
  go_wp2_with fail
  refine HG6.out.mono ?_
  rintro e w7 ⟨D, k, dc, rfl, hk, hr7, hrd7, hc7⟩
  have hC7 := fresh_set HC6.out hc7 (Nat.le_succ _)
  have hR7 := HR6.out.chg hc7 (by omega)
  have hg7 := HGG6.out.chg hc7 (by omega)
  clear y1 f1
  have y1 := hg7.cell 3
  have f1 := hg7.frozen 3
  simp only [List.getElem?_toArray, List.getElem?_cons_zero, List.getElem?_cons_succ] at y1
  have hcs := (Chg.refl (fun k => k = q) w7).put q 3 (fun _ => rfl) (.slice D k dc)
  have hC8 := fresh_set hC7 hcs (by omega)
  have hR8 := hR7.chg hcs (by omega)
  have hg8 := hg7.set 3 (.slice D k dc)
  simp only [List.setIfInBounds_toArray, List.set_cons_succ, List.set_cons_zero] at hg8
  have z0 := hg8.cell 0
  have z1 := hg8.cell 1
  have z2 := hg8.cell 2
  have z3 := hg8.cell 3
  have x0 := hR8.cell 0
  have x1 := hR8.cell 1
  have x2 := hR8.cell 2
  have x3 := hR8.cell 3
  have u0 := hR8.frozen 0
  have u1 := hR8.frozen 1
  have u2 := hR8.frozen 2
  have u3 := hR8.frozen 3
  simp only [List.getElem?_toArray, List.getElem?_cons_zero, List.getElem?_cons_succ] at z0 z1 z2 z3 x0 x1 x2 x3
  have hd8 := (hr7.chg hcs (fun k hk e => by subst e; omega)).chg (((((Chg.refl (fun k => k = w.heap.size) _).put w.heap.size 0 (fun _ => rfl) (.int .u64 d)).put w.heap.size 1 (fun _ => rfl) (.int .u64 s)).put w.heap.size 2 (fun _ => rfl) (.int .i64 t)).put w.heap.size 3 (fun _ => rfl) (.slice D k dc)) (fun k hk e => by subst e; omega)
  have hC9 := (((hC8.put w.heap.size 0 (fun h => absurd h (Nat.lt_irrefl _)) (.int .u64 d)).put w.heap.size 1 (fun h => absurd h (Nat.lt_irrefl _)) (.int .u64 s)).put w.heap.size 2 (fun h => absurd h (Nat.lt_irrefl _)) (.int .i64 t)).put w.heap.size 3 (fun h => absurd h (Nat.lt_irrefl _)) (.slice D k dc)
  have hd9 := hd8.mono (S' := fun k => w.heap.size ≤ k) (fun k hk => by omega)
  have r0 := (hR8.set 0 (.int .u64 d)).cell 0
  have r1 := ((hR8.set 0 (.int .u64 d)).set 1 (.int .u64 s)).cell 1
  have r2 := (((hR8.set 0 (.int .u64 d)).set 1 (.int .u64 s)).set 2 (.int .i64 t)).cell 2
  have r3 := ((((hR8.set 0 (.int .u64 d)).set 1 (.int .u64 s)).set 2 (.int .i64 t)).set 3 (.slice D k dc)).cell 3
  simp only [List.setIfInBounds_toArray, List.set_cons_succ, List.set_cons_zero, List.getElem?_toArray, List.getElem?_cons_zero, List.getElem?_cons_succ] at r0 r1 r2 r3
  have RR := Lib.hid (And.intro r0 (And.intro r1 (And.intro r2 r3)))
  have HF : Hid (Framed b w (.returned (.tuple #[.agg #[.int .u64 (fD b), .int .u64 (fS b), .int .i64 (fT b), .slice D k dc], .int .i64 0])) _) := ⟨D, k, dc, rfl, hk, hd9, hC9⟩
  rw [EQD.out, EQS.out, EQT.out] at HF
  clear r0 r1 r2 r3 hC7 hC8 hC9 hd8 hd9 hR7 hR8 hc7 hcs hg7 hg8 hrd7 hr7 hk HG6 HR6 HC6 HGG6 hq6 hw6
  go_wp2_with fail
  obtain ⟨r0, r1, r2, r3⟩ := RR.out
  exact bodyPost_ret (v := .tuple #[.agg #[.int .u64 d, .int .u64 s, .int .i64 t, .slice D k dc], .int .i64 0]) (by simp [results, Try.results16, go_sem, r0, r1, r2, r3]) rfl HF.out

end Go.Proofs.Ytgpicmeiegbgcaa
