/-
  Walk: rutterlaw18.NetPlays. Conditions: the arguments are read in memory.
-/
import Derived.Test.YthajmplheecepaaSq
import Derived.Test.YthajmplheecepaaSr
namespace Go.Proofs.Ythajmplheecepaa
open Go.RowKit
set_option linter.unusedVariables false
set_option linter.unusedSimpArgs false
attribute [local go_sem] Oper.semAt_some

set_option maxRecDepth 100000 in
set_option maxHeartbeats 16000000 in
theorem plays18_any (room : Int) (L : Option Addr) (m lc : Nat) (l : List At18) (W : World) (hl : AR18 W (fun k => k < W.heap.size) L m l) (hmc : m ≤ 9223372036854775807) : Calls Try.prog 3 #[.int .i64 room, .slice L m lc] W fun e w' => e = .returned (.bool true) ∧ Chg (fun _ => False) W w' := by
  have HF := Lib.hid (fits18_any L m lc l W _ hl hmc)
  have HAL := Lib.hid alive18_any
  go_enter Try.func3, Try.ntmps3
  go_wp2_with fail
  refine HF.out.mono ?_
  rintro e w0 ⟨b, rfl, hb, rfl⟩
  clear HF
  cases b with
  | false =>
    clear hb
    go_wp2_with fail
    refine (HAL.out _).mono ?_
    rintro e w1 ⟨rfl, hc⟩
    go_wp2_with fail
    go_ret
    exact ⟨rfl, hc⟩
  | true =>
    obtain ⟨hm100, hit⟩ := hb rfl
    have HS := Lib.hid hit
    clear hb hit
    have hroom : room < 0 ∨ (¬ room < 0 ∧ 4096 < room) ∨ (0 ≤ room ∧ room ≤ 4096) := by omega
    rcases hroom with h1 | ⟨h1, h2⟩ | ⟨h1, h2⟩
    · have HN := Lib.hid (nnew18_bad room W (.inl h1))
      go_wp2_with fail
      refine HN.out.mono ?_
      rintro e w1 ⟨rfl, rfl⟩
      go_wp2_with fail
      refine (HAL.out _).mono ?_
      rintro e w1 ⟨rfl, hc⟩
      go_wp2_with fail
      go_ret
      exact ⟨rfl, hc⟩
    · have HN := Lib.hid (nnew18_bad room W (.inr h2))
      go_wp2_with fail
      refine HN.out.mono ?_
      rintro e w1 ⟨rfl, rfl⟩
      go_wp2_with fail
      refine (HAL.out _).mono ?_
      rintro e w1 ⟨rfl, hc⟩
      go_wp2_with fail
      go_ret
      exact ⟨rfl, hc⟩
    · have HN := Lib.hid (nnew18_ok room W W.heap.size (Nat.le_refl _) ⟨h1, h2⟩)
      go_wp2_with fail
      refine HN.out.mono ?_
      rintro e w1 ⟨rfl, hn1, hc1⟩
      have ha := (Chg.refl (fun _ => False) w1).alloc (.cells #[.slice none 0 0, .int .i64 room, .int .i64 0] 32)
      have HT0 : Hid (TN18 W W.heap.size w1.heap.size ⟨room, 0, []⟩ ⟨room, 0, []⟩ (w1.alloc (.cells #[.slice none 0 0, .int .i64 room, .int .i64 0] 32))) := Lib.hid ⟨hc1.trans ha (fun _ _ e => e), none, none, hn1.new ha, none, 0, 0, blk_new rfl, World.ownsRow_nil _ _ _ _, rfl, rfl, hc1.size⟩
      have HG0 : Hid (GN18 room 0 ⟨room, 0, []⟩) := Lib.hid ⟨rfl, ⟨Int.le_refl _, Int.le_refl _⟩, h1, fun t ht => by cases ht⟩
      clear HN hn1 hc1 ha
      have HL := Lib.hid hl
      clear hl
      go_upto_region 10 with fail
      generalize w1.alloc (.cells #[.slice none 0 0, .int .i64 room, .int .i64 0] 32) = w2 at *
      generalize hp : W.heap.size = p at HT0 ⊢
      have HP := Lib.hid hp
      clear hp
      generalize w1.heap.size = q at *
      go_wp2_with fail
      go_loopg [9, 10] m (fun g i s10 wr => ∃ (j : Nat) (x : NV18), g = m - j ∧ j ≤ m ∧ i = .int .i64 (j : Int) ∧ Hid (TN18 W p q x x wr) ∧ Hid (GN18 room (100 * (j : Int)) x))
      case atStart => exact ⟨0, _, rfl, Nat.zero_le _, rfl, HT0, HG0⟩
      case round =>
        obtain ⟨j, x, rfl, hj, rfl, HT, HG⟩ := hrel
        by_cases hlt : j < m
        · have hll := HL.out.1
          obtain ⟨ad, rfl, -⟩ := HL.out.2 (by omega)
          have hx : l[j]? = some (l[j]'(by omega)) := List.getElem?_eq_getElem (by omega)
          have hq3 := HS.out j _ hx
          generalize l[j]'(by omega) = y at *
          obtain ⟨-, -, -, hk, -, -, hir⟩ := HL.out.at hx
          obtain ⟨z0, z1, z2, -⟩ := (HL.out.chg HT.out.1 (S' := fun _ => False) (fun _ _ => id)).at hx
          have HST := Lib.hid (step18_any y.k y.n y.L y.m y.c y.l p q room (100 * (j : Int)) x W wr HT.out HG.out h2 (by omega) hk hq3 hir)
          unfold StP18 at HST
          clear hx hk hir hq3 hll
          go_wp2_with fail
          refine HST.out.mono ?_
          rintro e w3 ⟨rfl, x3, ht3, hg3⟩
          have HT3 := Lib.hid ht3
          have HG3 := Lib.hid hg3
          obtain ⟨-, o1, o2, hn3, hd3⟩ := ht3
          obtain ⟨A3, n3, c3, hb3, ho3, hl3, -, -⟩ := hd3
          obtain ⟨c0, c1, c2, f0, f2⟩ := rn_cells hb3
          have hle1 : ∀ n, Calls Try.prog 9 #[.pointer (some ⟨p, 0, none⟩)] (w3.drewN n) (fun e w'' => e = .returned (.int .i64 (n3 : Int)) ∧ w'' = w3.drewN n) := fun n => (nlen18 (hn3.new ((Chg.refl (fun _ => False) w3).drewN n))).mono (fun e w'' h => ⟨by rw [h.1, hl3], h.2.symm⟩)
          have hlo1 : ∀ n, Calls Try.prog 10 #[.pointer (some ⟨p, 0, none⟩)] (w3.drewN n) (fun e w'' => e = .returned (.int .i64 x3.lost) ∧ w'' = w3.drewN n) := fun n => (nlost18 (hn3.new ((Chg.refl (fun _ => False) w3).drewN n))).mono (fun e w'' h => ⟨h.1, h.2.symm⟩)
          generalize x3.lost = lo at *
          have hnn : ((n3 : Int) != (n3 : Int)) = false := by simp
          have hpp : (lo != lo) = false := by simp
          clear hg3 hn3 hb3 ho3 hl3 HST HT HG z0 z1 z2
          go_wp2_with fail
          go_quiet (first | (go_at_call 9; refine Calls.quiet_of_same (hle1 _)) | (go_at_call 10; refine Calls.quiet_of_same (hlo1 _)))
          have HT4 := Lib.hid (HT3.out.new ((Chg.refl (fun _ => False) w3).drewN nq))
          clear c0 c1 c2 f0 f2 hle1 hlo1 hnn hpp HT3
          go_wp2_with fail
          go_roundg (m - (j + 1))
          case measure => omega
          case rel => exact ⟨j + 1, x3, rfl, by omega, by go_num, HT4, Lib.hid (HG3.out.more (by omega))⟩
        · have HC := Lib.hid HT.out.1
          clear HS HL HT HG HT0 HG0
          go_wp2_with fail
          refine (nat18_nil _ _).mono ?_
          rintro e w4 ⟨rfl, hc⟩
          replace HC := Lib.hid (HC.out.trans (hc.alloc (.cells #[.int .i64 0, .int .i64 0, .slice none 0 0] 40)) (fun _ _ e => e))
          clear hc
          go_upto_region 18 with fail
          generalize w4.alloc (.cells #[.int .i64 0, .int .i64 0, .slice none 0 0] 40) = w5 at *
          go_wp2_with fail
          refine (ntake18_nil _ _).mono ?_
          rintro e w6 ⟨rfl, hc⟩
          replace HC := Lib.hid (HC.out.trans (hc.alloc (.cells #[.int .i64 0, .int .i64 0, .slice none 0 0] 40)) (fun _ _ e => e))
          clear hc
          go_upto_region 19 with fail
          generalize w6.alloc (.cells #[.int .i64 0, .int .i64 0, .slice none 0 0] 40) = w7 at *
          go_wp2_with fail
          refine (HAL.out _).mono ?_
          rintro e w8 ⟨rfl, hc⟩
          replace HC := Lib.hid (HC.out.trans hc (fun _ _ e => e))
          clear hc
          go_wp2_with fail
          refine (ndouble18_nil _ _).mono ?_
          rintro e w9 ⟨rfl, rfl⟩
          go_wp2_with fail
          refine (nfind18_nil _ _ _).mono ?_
          rintro e w9 ⟨rfl, hc⟩
          replace HC := Lib.hid (HC.out.trans (hc.alloc (.cells #[.int .i64 0, .int .i64 0, .slice none 0 0] 40)) (fun _ _ e => e))
          clear hc
          go_wp2_with fail
          refine (nput18_nil _ _ _ _).mono ?_
          rintro e _ ⟨rfl, rfl⟩
          go_wp2_with fail
          refine (nlen18_nil _).mono ?_
          rintro e _ ⟨rfl, rfl⟩
          go_wp2_with fail
          refine (nlost18_nil _).mono ?_
          rintro e _ ⟨rfl, rfl⟩
          go_wp2_with fail
          go_ret
          exact ⟨rfl, HC.out⟩

end Go.Proofs.Ythajmplheecepaa
