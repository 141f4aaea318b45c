/-
  Walk: rutterref05.Bytes. Conditions: the packet may be; its frame is read in memory.
-/
import Derived.Test.YtnboilombfnpkaaQe
import Derived.Test.YtnboilombfnpkaaVa
namespace Go.Proofs.Ytnboilombfnpkaa
open Go.RowKit
set_option linter.unusedVariables false

def pk6 (k o f t p : Int) : List UInt8 := be 1 1 ++ (be 1 k.toNat ++ (be 1 o.toNat ++ (be 1 f.toNat ++ (be 1 t.toNat ++ be 1 p.toNat))))
theorem bcs_be1 {x : Int} (h : 0 ≤ x) (h2 : x ≤ 255) : bcs (be 1 x.toNat) = [.int .u8 x] := by
  have e : be 1 x.toNat = [UInt8.ofNat (x.toNat / 1)] := rfl
  rw [e, Nat.div_one]
  unfold bcs
  simp only [List.map_cons, List.map_nil]
  rw [UInt8.toNat_ofNat', Nat.mod_eq_of_lt (by omega)]
  have e2 : (x.toNat : Int) = x := by omega
  rw [e2]
theorem bcs_pk6 {k o f t p : Int} (hk : 0 ≤ k ∧ k ≤ 255) (ho : 0 ≤ o ∧ o ≤ 255) (hf : 0 ≤ f ∧ f ≤ 255) (ht : 0 ≤ t ∧ t ≤ 255) (hp : 0 ≤ p ∧ p ≤ 255) :
    bcs (pk6 k o f t p) = [.int .u8 1, .int .u8 k, .int .u8 o, .int .u8 f, .int .u8 t, .int .u8 p] := by
  unfold pk6
  simp only [bcs_app]
  rw [bcs_be1 hk.1 hk.2, bcs_be1 ho.1 ho.2, bcs_be1 hf.1 hf.2, bcs_be1 ht.1 ht.2, bcs_be1 hp.1 hp.2]
  rfl
theorem pkB_parts (k o f t p g i : Int) (l : List UInt8) : bcs (pkB k o f t p g i l) = bcs (pk6 k o f t p) ++ bcs (be 5 g.toNat) ++ bcs (be 6 i.toNat) ++ bcs (be 2 ((l.length : Int)).toNat) ++ bcs l := by
  unfold pkB pk6
  simp only [bcs_app, List.append_assoc, Int.toNat_natCast]

set_option maxHeartbeats 4000000 in
theorem rbytes5_any (k o f t p g i : Int) (A : Option Addr) (n c : Nat) (l : List UInt8) (S : Nat → Prop) (w : World) (hl : n = l.length) (h : Rds w S A n (bcs l)) (hr : pkR k o f t p g i n = true) :
    Calls Try.prog 16 #[.agg (pkC k o f t p g i A n c)] w fun e w' => ∃ E m d, e = .returned (.slice E m d) ∧ m = (pkB k o f t p g i l).length ∧ w'.ownsRow w.heap.size 5 1 (.slice E m d) m (bcs (pkB k o f t p g i l)) ∧ Chg (fun _ => False) w w' := by
  obtain ⟨i0, hi0, hz0, hz1, hz2⟩ := info_parts infoByte
  obtain ⟨hk, ho, hf, ht, hp, hg, hi, hn, _⟩ := pkR_parts hr
  have u1 : IntKind.u8.wrap k = k := by rw [IntKind.wrap_u8']; omega
  have u2 : IntKind.u8.wrap o = o := by rw [IntKind.wrap_u8']; omega
  have u3 : IntKind.u8.wrap f = f := by rw [IntKind.wrap_u8']; omega
  have u4 : IntKind.u8.wrap t = t := by rw [IntKind.wrap_u8']; omega
  have u5 : IntKind.u8.wrap p = p := by rw [IntKind.wrap_u8']; omega
  have hpk := bcs_pk6 (k := k) (o := o) (f := f) (t := t) (p := p) (by omega) (by omega) (by omega) (by omega) (by omega)
  have hb0 : Blk (w.alloc (.cells #[.int .i64 k, .int .i64 o, .int .i64 f, .int .i64 t, .int .i64 p, .int .i64 g, .int .i64 i, .slice A n c] 25)) w.heap.size 25 (pkC k o f t p g i A n c) := blk_new rfl
  have hC := ((Chg.refl (fun _ => False) w).alloc (.cells #[.int .i64 k, .int .i64 o, .int .i64 f, .int .i64 t, .int .i64 p, .int .i64 g, .int .i64 i, .slice A n c] 25)).alloc (.cells #[.int .u8 1, .int .u8 k, .int .u8 o, .int .u8 f, .int .u8 t, .int .u8 p] 5)
  have hCb := (Chg.refl (fun _ => False) (w.alloc (.cells #[.int .i64 k, .int .i64 o, .int .i64 f, .int .i64 t, .int .i64 p, .int .i64 g, .int .i64 i, .slice A n c] 25))).alloc (.cells #[.int .u8 1, .int .u8 k, .int .u8 o, .int .u8 f, .int .u8 t, .int .u8 p] 5)
  have hown : ((w.alloc (.cells #[.int .i64 k, .int .i64 o, .int .i64 f, .int .i64 t, .int .i64 p, .int .i64 g, .int .i64 i, .slice A n c] 25)).alloc (.cells #[.int .u8 1, .int .u8 k, .int .u8 o, .int .u8 f, .int .u8 t, .int .u8 p] 5)).ownsRow (w.heap.size + 1) 5 1 (.slice (some ⟨w.heap.size + 1, 0, none⟩) 6 6) 6 (bcs (pk6 k o f t p)) := by
    rw [hpk]
    exact ⟨rfl, .inr ⟨w.heap.size + 1, 6, #[.int .u8 1, .int .u8 k, .int .u8 o, .int .u8 f, .int .u8 t, .int .u8 p], rfl, Nat.le_refl _, by simpa using heap_alloc_new (w.alloc (.cells #[.int .i64 k, .int .i64 o, .int .i64 f, .int .i64 t, .int .i64 p, .int .i64 g, .int .i64 i, .slice A n c] 25)) (.cells #[.int .u8 1, .int .u8 k, .int .u8 o, .int .u8 f, .int .u8 t, .int .u8 p] 5), by decide, by decide, rfl, rfl⟩⟩
  have hz : (w.alloc (.cells #[.int .i64 k, .int .i64 o, .int .i64 f, .int .i64 t, .int .i64 p, .int .i64 g, .int .i64 i, .slice A n c] 25)).heap.size = w.heap.size + 1 := by simp
  have HB := Lib.hid hb0
  obtain ⟨y0, y1, y2, y3, y4, y5, y6, y7⟩ := pk_kept hb0 hCb
  have HC := Lib.hid hC
  have HCb := Lib.hid hCb
  have HO := Lib.hid hown
  have HL := Lib.hid hl
  have HH := Lib.hid h
  have HR := Lib.hid (And.intro hg (And.intro hi hn))
  clear hb0 hC hCb hown hpk hl h hk ho hf ht hp hg hi hn hr
  unfold pkC
  go_enter Try.func16, Try.ntmps16
  go_wp2_with fail
  refine (one_any 5 g _ (by decide) (by decide) (by have := HR.out; omega)).mono ?_
  rintro e v0 ⟨A0, k0, c0, rfl, rfl, hown0, hc0⟩
  have hC := HC.out.trans hc0 (fun _ _ e => e)
  have hCb := HCb.out.trans hc0 (fun _ _ e => e)
  have hown := own_chg HO.out hc0 (fun _ _ => id)
  have hsz := hCb.size
  rw [hz] at hsz
  have hr := own_rds2 hown0
  clear hc0 hown0 HC HCb HO
  clear y0 y1 y2 y3 y4 y5 y6 y7
  go_wp2_with (at_builtin; refine wpList_own_append _ rfl (.tmp 20) (.tmp 23) 23 rfl _ 5 i0 (.int .u8 0) 1 Try.underlying23 hi0 hz0 hz1 hz2 rfl (.slice (some ⟨w.heap.size + 1, 0, none⟩) 6 6) 6 _ rfl hown _ A0 5 c0 _ rfl hr (bcs_one _) (by decide) (by decide) hsz ?_; intro vv u0 hown' hg hat; obtain ⟨D0, dc0, rfl, _, _⟩ := own_form hown'; have hC' := grown_fresh hC hg hown (Nat.le_succ _); have hCb' := grown_fresh hCb hg hown (by rw [hz]; exact Nat.le_refl _); have HO := Lib.hid hown'; have HC := Lib.hid hC'; have HCb := Lib.hid hCb'; obtain ⟨y0, y1, y2, y3, y4, y5, y6, y7⟩ := pk_kept HB.out hCb'; clear hown' hC' hCb' hg hat hown hr hC hCb hsz)
  refine (one_any 6 i _ (by decide) (by decide) (by have := HR.out; omega)).mono ?_
  rintro e v1 ⟨A1, k1, c1, rfl, rfl, hown1, hc1⟩
  have hC := HC.out.trans hc1 (fun _ _ e => e)
  have hCb := HCb.out.trans hc1 (fun _ _ e => e)
  have hown := own_chg HO.out hc1 (fun _ _ => id)
  have hsz := hCb.size
  rw [hz] at hsz
  have hr := own_rds2 hown1
  clear hc1 hown1 HC HCb HO
  clear y0 y1 y2 y3 y4 y5 y6 y7
  go_wp2_with (at_builtin; refine wpList_own_append _ rfl (.tmp 25) (.tmp 28) 23 rfl _ 5 i0 (.int .u8 0) 1 Try.underlying23 hi0 hz0 hz1 hz2 rfl (.slice D0 11 dc0) 11 _ rfl hown _ A1 6 c1 _ rfl hr (bcs_one _) (by decide) (by decide) hsz ?_; intro vv u1 hown' hg hat; obtain ⟨D1, dc1, rfl, _, _⟩ := own_form hown'; have hC' := grown_fresh hC hg hown (Nat.le_succ _); have hCb' := grown_fresh hCb hg hown (by rw [hz]; exact Nat.le_refl _); have HO := Lib.hid hown'; have HC := Lib.hid hC'; have HCb := Lib.hid hCb'; obtain ⟨y0, y1, y2, y3, y4, y5, y6, y7⟩ := pk_kept HB.out hCb'; clear hown' hC' hCb' hg hat hown hr hC hCb hsz)
  refine (one_any 2 (n : Int) _ (by decide) (by decide) (by have := HR.out; omega)).mono ?_
  rintro e v2 ⟨A2, k2, c2, rfl, rfl, hown2, hc2⟩
  have hC := HC.out.trans hc2 (fun _ _ e => e)
  have hCb := HCb.out.trans hc2 (fun _ _ e => e)
  have hown := own_chg HO.out hc2 (fun _ _ => id)
  have hsz := hCb.size
  rw [hz] at hsz
  have hr := own_rds2 hown2
  clear hc2 hown2 HC HCb HO
  clear y0 y1 y2 y3 y4 y5 y6 y7
  go_wp2_with (first
      | (at_builtin; refine wpList_own_append _ rfl (.tmp 30) (.tmp 34) 23 rfl _ 5 i0 (.int .u8 0) 1 Try.underlying23 hi0 hz0 hz1 hz2 rfl (.slice D1 17 dc1) 17 _ rfl hown _ A2 2 c2 _ rfl hr (bcs_one _) (by decide) (by decide) hsz ?_; intro vv u2 hown' hg hat; obtain ⟨D2, dc2, rfl, _, _⟩ := own_form hown'; have hC' := grown_fresh hC hg hown (Nat.le_succ _); have hCb' := grown_fresh hCb hg hown (by rw [hz]; exact Nat.le_refl _); have HO := Lib.hid hown'; have HC := Lib.hid hC'; have HCb := Lib.hid hCb'; obtain ⟨y0, y1, y2, y3, y4, y5, y6, y7⟩ := pk_kept HB.out hCb'; have hsz2 := hCb'.size; rw [hz] at hsz2; have hfr := HH.out.chg hC' (fun _ _ => id); have hnm := HR.out.2.2; clear hown' hC' hCb' hg hat hown hr hC hCb hsz)
      | (at_builtin; refine wpList_own_append _ rfl (.tmp 36) (.tmp 38) 23 rfl _ 5 i0 (.int .u8 0) 1 Try.underlying23 hi0 hz0 hz1 hz2 rfl (.slice D2 19 dc2) 19 _ rfl HO.out _ A n c _ rfl hfr (bcs_one _) (by unfold maxLen; omega) (by omega) hsz2 ?_; intro vv u3 hown' hg hat; obtain ⟨D3, dc3, rfl, _, _⟩ := own_form hown'; have hC' := grown_fresh HC.out hg HO.out (Nat.le_succ _); have HO3 := Lib.hid hown'; have HC3 := Lib.hid hC'; clear hown' hC' hg hat hfr hsz2 y0 y1 y2 y3 y4 y5 y6 y7))
  go_ret
  refine ⟨D3, _, dc3, rfl, ?_, ?_, HC3.out⟩
  · rw [pkB_len, HL.out]
  · rw [pkB_parts, ← HL.out]
    exact own_base HO3.out (Nat.le_succ _)

end Go.Proofs.Ytnboilombfnpkaa
