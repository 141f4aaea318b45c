/-
  Walks: arp.Encode by what an arp may be; arp.RARP. Conditions: the numbers are of their types.
-/
import Derived.Test.YtlaekkoegomfjaaJc
import Derived.Test.YtlaekkoegomfjaaJp
namespace Go.Proofs.Ytlaekkoegomfjaa
open Go.RowKit
set_option linter.unusedVariables false

theorem putS_one (k : Nat) (x : Int) (st : Option (List UInt8)) (h1 : 1 ≤ k) (h8 : k ≤ 8) : putS (k : Int) [x] st = st.bind fun b => if fits k x then some (b ++ be k x.toNat) else none := by
  unfold putS
  rw [if_pos ⟨by omega, by omega⟩, Int.toNat_natCast]
  rfl
theorem fits_wrap6 (x : Int) (h : 0 ≤ x ∧ x ≤ 18446744073709551615) : fits 6 (IntKind.i64.wrap x) = decide (x ≤ 281474976710655) := by
  have hw := IntKind.wrap_i64 x
  rw [Bool.eq_iff_iff, fits_iff, decide_eq_true_eq]
  omega
theorem wrap_small (x : Int) (h : 0 ≤ x ∧ x ≤ 281474976710655) : IntKind.i64.wrap x = x := IntWalk.i64_in _ (by omega)
theorem fits_two (x : Int) : fits 2 x = (decide (0 ≤ x) && decide (x ≤ 65535)) := by
  rw [Bool.eq_iff_iff, fits_iff, Bool.and_eq_true, decide_eq_true_eq, decide_eq_true_eq]
  omega
theorem fits_four (x : Int) (h : 0 ≤ x ∧ x ≤ 4294967295) : fits 4 x = true := by
  rw [fits_iff]
  omega
theorem arpW1_eq (op : Int) : arpW1 op = if fits 2 op then some (head6 ++ be 2 op.toNat) else none := by
  have e : putS 1 [6, 4] (putS 2 [1, 2048] (some [])) = some head6 := by decide
  unfold arpW1
  rw [e]
  exact putS_one 2 op _ (by decide) (by decide)
theorem arpW_eq (op sha tha spa tpa : Int) (hs : 0 ≤ sha ∧ sha ≤ 18446744073709551615) (ht : 0 ≤ tha ∧ tha ≤ 18446744073709551615) (hp : 0 ≤ spa ∧ spa ≤ 4294967295) (hq : 0 ≤ tpa ∧ tpa ≤ 4294967295) :
    arpW op sha tha spa tpa = if arpR op sha tha then some (arpB op sha tha spa tpa) else none := by
  have s6 : ∀ x st, putS 6 [x] st = _ := fun x st => putS_one 6 x st (by decide) (by decide)
  have s4 : ∀ x st, putS 4 [x] st = _ := fun x st => putS_one 4 x st (by decide) (by decide)
  unfold arpW arpW2
  rw [arpW1_eq, s4, s6, s4, s6, fits_wrap6 sha hs, fits_wrap6 tha ht, wrap_small spa (by omega), wrap_small tpa (by omega), fits_four spa hp, fits_four tpa hq, fits_two]
  unfold arpR
  by_cases h1 : 0 ≤ op
  · by_cases h2 : op ≤ 65535
    · by_cases h3 : sha ≤ 281474976710655
      · by_cases h4 : tha ≤ 281474976710655
        · simp [h1, h2, h3, h4, wrap_small sha ⟨hs.1, h3⟩, wrap_small tha ⟨ht.1, h4⟩, arpB]
        · simp [h1, h2, h3, h4]
      · simp [h1, h2, h3]
    · simp [h1, h2]
  · simp [h1]

theorem aenc_yes (op sha tha spa tpa : Int) (w : World) (ho : -9223372036854775808 ≤ op ∧ op ≤ 9223372036854775807) (hs : 0 ≤ sha ∧ sha ≤ 18446744073709551615) (ht : 0 ≤ tha ∧ tha ≤ 18446744073709551615) (hp : 0 ≤ spa ∧ spa ≤ 4294967295) (hq : 0 ≤ tpa ∧ tpa ≤ 4294967295) (hr : arpR op sha tha = true) :
    Calls Try.prog 12 #[.agg (arpC op sha tha spa tpa)] w fun e w' => ∃ A k c, e = .returned (.tuple #[.slice A k c, .int .i64 0]) ∧ k = 28 ∧ w'.ownsRow w.heap.size 5 1 (.slice A k c) k (bcs (arpB op sha tha spa tpa)) ∧ Chg (fun _ => False) w w' := by
  refine (aenc_any op sha tha spa tpa w ho hs ht hp hq).mono ?_
  rw [arpW_eq op sha tha spa tpa hs ht hp hq, hr]
  rintro e w' ⟨A, k, c, x, rfl, ⟨rfl, hk, hown⟩, hc⟩
  exact ⟨A, k, c, rfl, by rw [hk, arpB_len], hown, hc⟩
theorem aenc_no (op sha tha spa tpa : Int) (w : World) (ho : -9223372036854775808 ≤ op ∧ op ≤ 9223372036854775807) (hs : 0 ≤ sha ∧ sha ≤ 18446744073709551615) (ht : 0 ≤ tha ∧ tha ≤ 18446744073709551615) (hp : 0 ≤ spa ∧ spa ≤ 4294967295) (hq : 0 ≤ tpa ∧ tpa ≤ 4294967295) (hr : arpR op sha tha = false) :
    Calls Try.prog 12 #[.agg (arpC op sha tha spa tpa)] w fun e w' => e = .returned (.tuple #[.slice none 0 0, .int .i64 1]) ∧ Chg (fun _ => False) w w' := by
  refine (aenc_any op sha tha spa tpa w ho hs ht hp hq).mono ?_
  rw [arpW_eq op sha tha spa tpa hs ht hp hq, hr]
  rintro e w' ⟨A, k, c, x, rfl, ⟨rfl, rfl, rfl, rfl⟩, hc⟩
  exact ⟨rfl, hc⟩

/-- Behind the stores of a frame into block r, cell by cell. -/
theorem fr_put {w : World} {r : Nat} {T : TypeId} {d s t : Int} {v : Value} (hb : Blk w r T #[.int .u64 d, .int .u64 s, .int .i64 t, v]) (d' s' t' : Int) (v' : Value) :
    (w.setCell ⟨r, 0, none⟩ (.int .u64 d')).cell? ⟨r, 0, none⟩ = some (.int .u64 d') ∧
    ((w.setCell ⟨r, 0, none⟩ (.int .u64 d')).setCell ⟨r, 1, none⟩ (.int .u64 s')).cell? ⟨r, 1, none⟩ = some (.int .u64 s') ∧
    (((w.setCell ⟨r, 0, none⟩ (.int .u64 d')).setCell ⟨r, 1, none⟩ (.int .u64 s')).setCell ⟨r, 2, none⟩ (.int .i64 t')).cell? ⟨r, 2, none⟩ = some (.int .i64 t') ∧
    ((((w.setCell ⟨r, 0, none⟩ (.int .u64 d')).setCell ⟨r, 1, none⟩ (.int .u64 s')).setCell ⟨r, 2, none⟩ (.int .i64 t')).setCell ⟨r, 3, none⟩ v').cell? ⟨r, 3, none⟩ = some v' ∧
    Blk ((((w.setCell ⟨r, 0, none⟩ (.int .u64 d')).setCell ⟨r, 1, none⟩ (.int .u64 s')).setCell ⟨r, 2, none⟩ (.int .i64 t')).setCell ⟨r, 3, none⟩ v') r T #[.int .u64 d', .int .u64 s', .int .i64 t', v'] ∧
    Chg (fun k => k = r) w ((((w.setCell ⟨r, 0, none⟩ (.int .u64 d')).setCell ⟨r, 1, none⟩ (.int .u64 s')).setCell ⟨r, 2, none⟩ (.int .i64 t')).setCell ⟨r, 3, none⟩ v') := by
  have r0 := (hb.set 0 (.int .u64 d')).cell 0
  have r1 := ((hb.set 0 (.int .u64 d')).set 1 (.int .u64 s')).cell 1
  have r2 := (((hb.set 0 (.int .u64 d')).set 1 (.int .u64 s')).set 2 (.int .i64 t')).cell 2
  have h4 := ((((hb.set 0 (.int .u64 d')).set 1 (.int .u64 s')).set 2 (.int .i64 t')).set 3 v')
  have r3 := h4.cell 3
  simp only [List.setIfInBounds_toArray, List.set_cons_succ, List.set_cons_zero, List.getElem?_toArray, List.getElem?_cons_zero, List.getElem?_cons_succ] at r0 r1 r2 r3 h4
  exact ⟨r0, r1, r2, r3, h4, ((((Chg.refl (fun k => k = r) w).put r 0 (fun _ => rfl) _).put r 1 (fun _ => rfl) _).put r 2 (fun _ => rfl) _).put r 3 (fun _ => rfl) _⟩
theorem fr_cells {w : World} {r : Nat} {T : TypeId} {d s t : Int} {v : Value} (hb : Blk w r T #[.int .u64 d, .int .u64 s, .int .i64 t, v]) :
    (w.cell? ⟨r, 0, none⟩ = some (.int .u64 d) ∧ w.cell? ⟨r, 1, none⟩ = some (.int .u64 s) ∧ w.cell? ⟨r, 2, none⟩ = some (.int .i64 t) ∧ w.cell? ⟨r, 3, none⟩ = some v) ∧
    w.frozen? ⟨r, 0, none⟩ = false ∧ w.frozen? ⟨r, 1, none⟩ = false ∧ w.frozen? ⟨r, 2, none⟩ = false ∧ w.frozen? ⟨r, 3, none⟩ = false := by
  have x0 := hb.cell 0
  have x1 := hb.cell 1
  have x2 := hb.cell 2
  have x3 := hb.cell 3
  simp only [List.getElem?_toArray, List.getElem?_cons_zero, List.getElem?_cons_succ] at x0 x1 x2 x3
  exact ⟨⟨x0, x1, x2, x3⟩, hb.frozen 0, hb.frozen 1, hb.frozen 2, hb.frozen 3⟩

/-- What a call that makes RARP's frame hands back. -/
def Rarped (mac : Int) (w : World) (e : Ending) (w' : World) : Prop :=
  ∃ A c, e = .returned (.tuple #[.agg #[.int .u64 281474976710655, .int .u64 mac, .int .i64 32821, .slice A 28 c], .int .i64 0]) ∧ w'.ownsRow w.heap.size 5 1 (.slice A 28 c) 28 (bcs (arpB 3 mac mac 0 0)) ∧ Chg (fun _ => False) w w'

set_option maxHeartbeats 1000000 in
theorem rarp_no (mac : Int) (w : World) (hm : 281474976710655 < mac) (hm2 : mac ≤ 18446744073709551615) :
    Calls Try.prog 9 #[.int .u64 mac] w fun e w' => e = .returned (.tuple #[zeroF, .int .i64 1]) ∧ Chg (fun _ => False) w w' := by
  have hE := fun W => aenc_no 3 mac mac 0 0 W (by omega) (by omega) (by omega) (by omega) (by omega) (by unfold arpR; simp; omega)
  have HE := Lib.hid hE
  have hR0 : Blk (w.alloc (.cells #[.int .u64 0, .int .u64 0, .int .i64 0, .slice none 0 0] 28)) w.heap.size _ _ := Blk.new _ _ _
  have HR0 := Lib.hid hR0
  clear hE hR0
  go_enter Try.func9, Try.ntmps9
  go_wp2_with fail
  refine (HE.out _).mono ?_
  rintro e w1 ⟨rfl, hc1⟩
  have hC := ((Chg.refl (fun _ => False) w).alloc (.cells #[.int .u64 0, .int .u64 0, .int .i64 0, .slice none 0 0] 28)).trans hc1 (fun _ _ e => e)
  have hR := HR0.out.chg hc1 id
  obtain ⟨⟨x0, x1, x2, x3⟩, u0, u1, u2, u3⟩ := fr_cells hR
  obtain ⟨r0, r1, r2, r3, _, hcs⟩ := fr_put hR 0 0 0 (.slice none 0 0)
  have HF := Lib.hid (fresh_set hC hcs (Nat.le_refl _))
  have RR := Lib.hid (And.intro r0 (And.intro r1 (And.intro r2 r3)))
  clear r0 r1 r2 r3 hcs hC hR hc1 HE HR0
  go_wp2_with fail
  obtain ⟨r0, r1, r2, r3⟩ := RR.out
  exact bodyPost_ret (v := .tuple #[zeroF, .int .i64 1]) (by simp [results, Try.results9, go_sem, zeroF, r0, r1, r2, r3]) rfl ⟨rfl, HF.out⟩

set_option maxHeartbeats 1000000 in
theorem rarp_yes (mac : Int) (w : World) (h0 : 0 ≤ mac) (hm : mac ≤ 281474976710655) :
    Calls Try.prog 9 #[.int .u64 mac] w (Rarped mac w) := by
  have hE := fun W => aenc_yes 3 mac mac 0 0 W (by omega) (by omega) (by omega) (by omega) (by omega) (by unfold arpR; simp; omega)
  have HE := Lib.hid hE
  have hR0 : Blk (w.alloc (.cells #[.int .u64 0, .int .u64 0, .int .i64 0, .slice none 0 0] 28)) w.heap.size _ _ := Blk.new _ _ _
  have HR0 := Lib.hid hR0
  have hz : (w.alloc (.cells #[.int .u64 0, .int .u64 0, .int .i64 0, .slice none 0 0] 28)).heap.size = w.heap.size + 1 := by simp
  have HZ := Lib.hid hz
  clear hE hR0 hz
  go_enter Try.func9, Try.ntmps9
  go_wp2_with fail
  refine (HE.out _).mono ?_
  rintro e w1 ⟨A, k, c, rfl, rfl, hown, hc1⟩
  have hC := ((Chg.refl (fun _ => False) w).alloc (.cells #[.int .u64 0, .int .u64 0, .int .i64 0, .slice none 0 0] 28)).trans hc1 (fun _ _ e => e)
  have hR := HR0.out.chg hc1 id
  obtain ⟨⟨x0, x1, x2, x3⟩, u0, u1, u2, u3⟩ := fr_cells hR
  obtain ⟨r0, r1, r2, r3, _, hcs⟩ := fr_put hR 281474976710655 mac 32821 (.slice A 28 c)
  have hz := HZ.out
  have hown2 := own_base (own_chg hown hcs (fun k hk e => by have := (hown.lt k (by rw [own_block]; exact hk)).1; omega)) (b' := w.heap.size) (by omega)
  have HF := Lib.hid (And.intro hown2 (fresh_set hC hcs (Nat.le_refl _)))
  have RR := Lib.hid (And.intro r0 (And.intro r1 (And.intro r2 r3)))
  clear r0 r1 r2 r3 hcs hC hR hc1 HE HR0 hown hown2 hz HZ
  go_wp2_with fail
  obtain ⟨r0, r1, r2, r3⟩ := RR.out
  exact bodyPost_ret (v := .tuple #[.agg #[.int .u64 281474976710655, .int .u64 mac, .int .i64 32821, .slice A 28 c], .int .i64 0]) (by simp [results, Try.results9, go_sem, r0, r1, r2, r3]) rfl ⟨A, c, rfl, HF.out.1, HF.out.2⟩

end Go.Proofs.Ytlaekkoegomfjaa
