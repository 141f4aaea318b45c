/-
  Walks: (*buf.Writer).Put. Conditions: the receiver is a writer in memory, its bytes and what is written are bounded.
-/
import Derived.Test.YtbbjecjhkjjbkaaWa
import Derived.Test.YtbbjecjhkjjbkaaSpec
import Derived.Deep.RegionHeld3
import Derived.Deep.RegionLaw
import Derived.Deep.RegionWith
import Derived.Deep.LoopGhost
import Derived.Outline
import Derived.IntWalk
namespace Go.Proofs.Ytbbjecjhkjjbkaa
open Go.RowKit

theorem infoByte : (Try.prog.info? 5).map (fun i => (i.zero, i.size, i.bytes)) = some (some (.int .u8 0), 1, 1) := by kernel_rfl

set_option maxHeartbeats 400000 in
theorem put_bad (p : Nat) (o : Option Nat) (bs : List UInt8) (A : Option Addr) (c : Nat) (n : Int) (L : Option Addr) (m k : Nat) (w : World)
    (h : Ob 75 5 w p o bs true A c) :
    Calls Try.prog 27 #[.pointer (some ⟨p, 0, none⟩), .int .i64 n, .slice L m k] w fun e w' => e = .returned (.pointer (some ⟨p, 0, none⟩)) ∧ w = w' := by
  have hb : Blk w p _ _ := h.blk
  have c1 := hb.cell 1
  simp only [List.getElem?_toArray, List.getElem?_cons_zero, List.getElem?_cons_succ] at c1
  go_enter Try.func27, Try.ntmps27
  go_wp2
  go_ret
  exact ⟨rfl, rfl⟩

theorem own_any {w : World} {o : Obj} {base : Nat} {e : TypeId} {size : Nat} {v : Value} {n : Nat} {xs : List Value} (h : w.ownsRow base e size v n xs) : (w.alloc o).drew.ownsRow base e size v n xs := h.alloc o
theorem rds_new (w : World) (t : TypeId) (u : Value) : Rds (w.alloc (.cells #[u] t)).drew (fun k => k = w.heap.size) (some ⟨w.heap.size, 0, none⟩) 1 [u] := (Blk.new w t #[u]).rds
theorem wr_none {T e : TypeId} {w : World} {p : Nat} (h : Blk w p T #[.slice none 0 0, .bool true]) (N : Nat) : Wr T e w p none none N :=
  ⟨[], true, none, 0, ⟨h, World.ownsRow_nil w 0 e 1, rfl, by simp⟩, Nat.zero_le _, rfl⟩
theorem wfail_mvd {p : Nat} {w w' : World} (h : Chg (fun k => k = p) w w') (o : Option Nat) : Mvd p o none w w' := ⟨h.mono fun _ _ e => .inl e, .inr (.inl rfl)⟩

set_option maxRecDepth 100000 in
set_option maxHeartbeats 400000 in
theorem put_ok (p : Nat) (o : Option Nat) (bs : List UInt8) (A : Option Addr) (c N : Nat) (n : Nat) (l : List Int) (L : Option Addr) (k : Nat) (w : World) (S : Nat → Prop)
    (h : Ob 75 5 w p o bs false A c) (hl : Rds w S L l.length (ics l)) (hS : ∀ k, S k → k ≠ p ∧ o ≠ some k) (hw : ∀ x ∈ l, -9223372036854775808 ≤ x ∧ x ≤ 9223372036854775807)
    (h1 : 1 ≤ n) (h8 : n ≤ 8) (hN : bs.length ≤ N) (hbig : N + 8 * l.length ≤ 1000000000000) :
    Calls Try.prog 27 #[.pointer (some ⟨p, 0, none⟩), .int .i64 n, .slice L l.length k] w fun e w' => e = .returned (.pointer (some ⟨p, 0, none⟩)) ∧
      ∃ o', Wr 75 5 w' p o' (puts n l (some bs)) (N + 8 * l.length) ∧ Mvd p o o' w w' := by
  obtain ⟨i0, hi0, hz0, hz1, hz2⟩ := info_parts infoByte
  have hb : Blk w p _ _ := h.blk
  have c1 := hb.cell 1
  simp only [List.getElem?_toArray, List.getElem?_cons_zero, List.getElem?_cons_succ] at c1
  go_enter Try.func27, Try.ntmps27
  go_wp2_with (go_at_call 49; refine (wide_yes _ _ (by omega) (by omega)).mono ?_; rintro e w' ⟨rfl, rfl⟩)
  go_loopg [26] l.length (fun q i wr => ∃ (j : Nat) (b1 : List UInt8) (o1 : Option Nat) (A1 : Option Addr) (c1 : Nat), q = l.length - j ∧ j ≤ l.length ∧ i = .int .i64 (j : Int) ∧
    puts n (l.take j) (some bs) = some b1 ∧ Ob 75 5 wr p o1 b1 false A1 c1 ∧ Mvd p o o1 w wr)
  case atStart => exact ⟨0, bs, o, A, c, by omega, by omega, rfl, rfl, h, Mvd.refl _ _ _⟩
  case round =>
    obtain ⟨j, b1, o1, A1, c1, rfl, hj, rfl, hp1, hob, hm⟩ := hrel
    have hl1 : Rds wr S L l.length (ics l) := hl.chg hm.1 (fun k hk => by have := hS k hk; rintro (h | h); exact this.1 h; exact this.2 h)
    by_cases hlt : j < l.length
    · obtain ⟨ad, rfl, hs, hbk, hc⟩ := hl1.cellAt hlt
      rw [ics_at l j hlt] at hc
      obtain ⟨hx1, hx2⟩ := hw l[j] (List.getElem_mem hlt)
      have HP := Lib.hid (puts_take n l (some bs) j hlt)
      have HF := Lib.hid (puts_fail n l (some bs) j hlt)
      have hlen := puts_len n (l.take j) bs b1 hp1
      have hb1le : b1.length ≤ N + 8 * j := by
        rw [List.length_take, Nat.min_eq_left hj] at hlen
        have : n * j ≤ 8 * j := Nat.mul_le_mul_right _ h8
        omega
      clear hlen
      have HP1 := Lib.hid hp1
      clear hp1
      generalize hx : l[j] = x at *
      have HX := Lib.hid hx
      clear hx
      have hb1 : Blk wr p _ _ := hob.blk
      have d0 := hb1.cell 0
      have d1 := hb1.cell 1
      have e0 := hb1.frozen 0
      have e1 := hb1.frozen 1
      simp only [List.getElem?_toArray, List.getElem?_cons_zero, List.getElem?_cons_succ] at d0 d1
      by_cases hneg : x < 0
      · go_wp2_with fail
        refine (wfail _ p _ _ _ hb1).mono ?_
        rintro e w' ⟨rfl, hb', hc'⟩
        go_wp2_with fail
        go_ret
        refine ⟨rfl, none, ?_, hm.trans (wfail_mvd hc' o1)⟩
        rw [HF.out (by simp only [fits, Bool.and_eq_false_iff, decide_eq_false_iff_not]; exact Or.inl (by omega))]
        exact wr_none hb' _
      · have hs1 := shr_fits n x h8 (by omega)
        have e8 : min (8 * (n : Int)).toNat 64 = 8 * n := by omega
        rw [e8] at hs1
        by_cases hf : fits n x = true
        · have t1 : (x / 2 ^ (8 * n) == 0) = true := by rw [← hs1]; exact hf
          have t2 : (x / 2 ^ (8 * n) != 0) = false := by simpa using t1
          clear hs1 e8 t1
          have HFT := Lib.hid hf
          clear hf
          go_wp2_with fail
          obtain ⟨wo, rfl⟩ : ∃ wo : World, wo = wr := ⟨_, rfl⟩
          go_loopg [9] n (fun q i wi => ∃ (t : Nat) (y : Int) (b2 : List UInt8) (o2 : Option Nat) (A2 : Option Addr) (c2 : Nat), q = n - t ∧ t ≤ n ∧ i = .int .i64 y ∧ y ≤ (n : Int) - 1 - t ∧ (n : Int) - 1 - t ≤ y ∧
            b2 = b1 ++ (be n x.toNat).take t ∧ Ob 75 5 wi p o2 b2 false A2 c2 ∧ Mvd p o1 o2 wo wi)
          case atStart => exact ⟨0, (n : Int) - 1, b1, o1, A1, c1, by omega, by omega, rfl, by omega, by omega, by simp, hob, Mvd.refl _ _ _⟩
          case round =>
            obtain ⟨t, y, b2, o2, A2, c2, rfl, ht, rfl, hy1, hy2, hb2, hob2, hm2⟩ := hrel
            have HB2 := Lib.hid hb2
            have hlen2 : b2.length = b1.length + t := by rw [hb2, List.length_append, List.length_take, be_len]; omega
            clear hb2
            by_cases htn : t < n
            · obtain ⟨s, rfl⟩ := Int.eq_ofNat_of_zero_le (show 0 ≤ y by omega)
              have hb2le : b2.length ≤ 1000000000008 := by omega
              clear hlen2
              have hb2 : Blk wr p _ _ := hob2.blk
              have g0 := hb2.cell 0
              have g1 := hb2.cell 1
              have f0 := hb2.frozen 0
              simp only [List.getElem?_toArray, List.getElem?_cons_zero, List.getElem?_cons_succ] at g0 g1
              go_wp2_with fail
              have hplt := hb2.lt
              have hne2 : (Value.slice A2 b2.length c2).ownBlock ≠ some p := by rw [own_block, hob2.at_]; exact hob2.ne
              have w8 : IntKind.i64.wrap (8 * (s : Int)) = 8 * (s : Int) := IntWalk.i64_in _ (by omega)
              have n8 : (0 : Int) ≤ 8 * (s : Int) := by omega
              have m8 : (8 * (s : Int)).toNat = 8 * s := by omega
              have k8 : min (8 * s) 64 = 8 * s := by omega
              go_region_law (refine step_own_append _ rfl (.tmp 51) (.tmp 57) 22 rfl 0 5 i0 (.int .u8 0) 1 Try.underlying22 hi0 hz0 hz1 hz2 rfl _ b2.length (bcs b2) rfl (own_any hob2.own) (fun k => k = wr.heap.size) (some ⟨wr.heap.size, 0, none⟩) 1 1 [.int .u8 (IntKind.u8.wrap (x / 2 ^ (8 * s)))] rfl (rds_new wr _ _) (by simp [Value.oneCell']) (by unfold maxLen; omega) (by omega) (Nat.zero_le _) ?_; intro v' w' hown' hgrow hat; obtain ⟨A3, c3, rfl, _, _⟩ := own_form hown'; have hb3 := blk_grown (hb2.alloc _).drew hgrow hne2; have z0 := hb3.cell 0; have z1 := hb3.frozen 0; simp only [List.getElem?_toArray, List.getElem?_cons_zero] at z0)
              all_goals
                go_wp2_with fail
                go_roundg (n - (t + 1))
                case measure => omega
                case rel =>
                  obtain ⟨hob3, hm3⟩ := ob_grown hob2 (((Chg.refl _ wr).alloc (.cells #[.int .u8 (IntKind.u8.wrap (x / 2 ^ (8 * s)))] 5)).drew) [UInt8.ofNat (x.toNat / 2 ^ (8 * s))]
                    (by simp only [bcs, List.map_cons, List.map_nil]; rw [byte_of x s (by omega)]) rfl hown' hgrow hat
                  exact ⟨t + 1, (s : Int) - 1, _, _, A3, c3, rfl, by omega, rfl, by omega, by omega, by rw [be_take _ _ _ htn, HB2.out, List.append_assoc, show n - 1 - t = s by omega], hob3, hm2.trans hm3⟩
            · obtain rfl : t = n := by omega
              clear hlen2
              have hyn : y < 0 := by omega
              go_wp2_with fail
              go_roundg (l.length - (j + 1))
              case measure => omega
              case rel =>
                refine ⟨j + 1, b2, o2, A2, c2, rfl, by omega, by go_num, ?_, hob2, hm.trans hm2⟩
                rw [HP.out, HP1.out]
                simp only [put1, Option.bind_some]
                rw [if_pos HFT.out, HB2.out, List.take_of_length_le (by rw [be_len]; omega)]
        · have t1 : (x / 2 ^ (8 * n) == 0) = false := by rw [← hs1]; simpa using hf
          have t2 : (x / 2 ^ (8 * n) != 0) = true := by simpa using t1
          have hff : fits n x = false := by simpa using hf
          have HFF := Lib.hid hff
          clear hs1 e8 t1 hff hf
          go_wp2_with fail
          refine (wfail _ p _ _ _ hb1).mono ?_
          rintro e w' ⟨rfl, hb', hc'⟩
          go_wp2_with fail
          go_ret
          refine ⟨rfl, none, ?_, hm.trans (wfail_mvd hc' o1)⟩
          rw [HF.out HFF.out]
          exact wr_none hb' _
    · obtain rfl : j = l.length := by omega
      rw [List.take_length] at hp1
      have hlen := puts_len n l bs b1 hp1
      have HP1 := Lib.hid hp1
      clear hp1
      go_wp2_with fail
      go_ret
      refine ⟨rfl, o1, ?_, hm⟩
      rw [HP1.out]
      exact ⟨b1, false, A1, c1, hob, by have : n * l.length ≤ 8 * l.length := Nat.mul_le_mul_right _ h8; omega, rfl, rfl⟩

end Go.Proofs.Ytbbjecjhkjjbkaa
