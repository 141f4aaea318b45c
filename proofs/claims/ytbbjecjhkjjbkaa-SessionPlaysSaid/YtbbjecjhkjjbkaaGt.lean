/-
  Walk: rutterlaw11.SessionPlays. Conditions: the acts lie in memory.
-/
import Derived.Test.YtbbjecjhkjjbkaaGs
import Derived.Test.YtbbjecjhkjjbkaaGr
import Derived.Test.YtbbjecjhkjjbkaaGf
import Derived.Deep.QuietTactic
import Derived.BigQuiet
namespace Go.Proofs.Ytbbjecjhkjjbkaa
open Go.RowKit
set_option linter.unusedVariables false
set_option linter.unusedSimpArgs false

/-- What always holds of a session that did at most j acts. -/
structure In11 (j : Nat) (x : SV) : Prop where
  len : x.q.length ≤ 64
  bod : ∀ b ∈ x.q, 1 ≤ b.length ∧ b.length ≤ 1000
  nx1 : 1 ≤ x.nx
  n : x.nx + (x.q.length : Int) ≤ 1 + (j : Int)
  go0 : 0 ≤ x.go ∧ x.go ≤ 1099511627776
section
variable {j : Nat} {x : SV}
theorem In11.ok (h : In11 j x) (hj : j ≤ 1000) : SOk x := ⟨h.len, h.bod, by have := h.nx1; have := h.n; omega, h.go0⟩
theorem In11.le (h : In11 j x) {k : Nat} (hk : j ≤ k) : In11 k x := ⟨h.len, h.bod, h.nx1, by have := h.n; omega, h.go0⟩
theorem In11.push (h : In11 j x) (b : List UInt8) : In11 (j + 1) (pushS x b) := by
  unfold pushS
  split
  case isFalse => exact h.le (by omega)
  case isTrue he =>
    unfold pushE at he
    split at he
    case isFalse => omega
    case isTrue hb =>
      split at he
      case isTrue => omega
      case isFalse h64 =>
        have hb2 : 1 ≤ b.length ∧ b.length ≤ 1000 := by
          unfold withinB at hb
          simp at hb
          omega
        refine ⟨by have := h.len; simp; omega, fun c hc => ?_, h.nx1, by have := h.n; simp; omega, h.go0⟩
        rcases List.mem_append.1 hc with hc | hc
        · exact h.bod c hc
        · rw [List.mem_singleton.1 hc]; exact hb2
theorem In11.ack (h : In11 j x) (a : Int) : In11 j (ackS x a) := by
  have hk : ackK x.nx a x.q.length ≤ x.q.length := Nat.min_le_left _ _
  refine ⟨?_, fun b hb => h.bod b (List.mem_of_mem_drop hb), ?_, ?_, h.go0⟩
  · show (x.q.drop _).length ≤ 64
    rw [List.length_drop]
    have := h.len
    omega
  · show 1 ≤ x.nx + _
    have := h.nx1
    omega
  · show x.nx + _ + (((x.q.drop _).length : Nat) : Int) ≤ _
    rw [List.length_drop]
    have := h.n
    omega
theorem In11.new (m p : Int) : In11 0 ⟨m, p, 1, 0, []⟩ := ⟨by simp, fun b hb => by simp at hb, by show (1 : Int) ≤ 1; omega, by show (1 : Int) + ((0 : Nat) : Int) ≤ 1 + ((0 : Nat) : Int); omega, by show (0 : Int) ≤ 0 ∧ (0 : Int) ≤ 1099511627776; omega⟩
theorem In11.s1 (h : In11 j x) (l : LV) : In11 j (tkS1 x l) := by
  unfold tkS1
  split
  · exact (In11.new _ _).le (by omega)
  · exact h
theorem In11.s2 (h : In11 j x) (l : LV) : In11 j (tkS2 x l) := by
  unfold tkS2
  split
  · exact (h.s1 l).ack _
  · exact h.s1 l
theorem In11.take (h : In11 j x) (l : LV) : In11 j (tkS x l) := by
  unfold tkS
  split
  case isFalse => exact h
  case isTrue hok =>
    split
    · unfold tkOk at hok
      rw [Bool.and_eq_true] at hok
      have hs := (ltR_parts hok.1).2.2.2.1
      have h2 := h.s2 l
      exact ⟨h2.len, h2.bod, h2.nx1, h2.n, hs⟩
    · exact h.s2 l
theorem In11.next (h : In11 j x) (a : At11) : In11 (j + 1) (stS x a) := by
  unfold stS
  split
  · exact h.push _
  · split
    · exact h.le (by omega)
    · exact (h.take _).le (by omega)
end
/-- Both at the beginning. -/
theorem tw_new {w w1 w2 : World} {p q : Nat} {mi : Int} (hp : w.heap.size ≤ p) (hb : Blk w1 p 92 (snC mi 0 none 0 0 1 0)) (hc : Chg (fun _ => False) w w1) (hq : w1.heap.size ≤ q) (hr : RN w2 q none ⟨mi, 0, 1, 0, []⟩) (hc2 : Chg (fun _ => False) w1 w2) :
    TW2 w.heap.size w2 p q none none ⟨mi, 0, 1, 0, []⟩ ⟨mi, 0, 1, 0, []⟩ :=
  ⟨sn_new (hb.chg hc2 id) (fun e => e.2.1 rfl), hr, hp, (by have := hc.size; omega), (fun k hk => nomatch hk), (fun k hk => nomatch hk), (by have := hb.lt; omega), (by simp), (by simp), (fun k hk => nomatch hk)⟩

set_option maxRecDepth 100000 in
set_option maxHeartbeats 4000000 in
theorem plays11_any (mi : Int) (L : Option Addr) (m lc : Nat) (l : List At11) (w : World) (h : AR11 w (fun k => k < w.heap.size) L m l) (hmc : m ≤ 9223372036854775807) : Calls Try.prog 4 #[.int .i64 mi, .slice L m lc] w fun e w' => e = .returned (.bool true) ∧ Chg (fun _ => False) w w' := by
  have HX := Lib.hid (Chg.refl (fun _ => False) w)
  have HL := Lib.hid h
  have HLN := Lib.hid h.1
  have HFC := Lib.hid (fits11_any L m lc l w _ h hmc)
  clear h
  go_enter Try.func4, Try.ntmps4
  go_wp2_with fail
  refine HFC.out.mono ?_
  rintro e w1 ⟨b, rfl, hfit, rfl⟩
  have HFI := Lib.hid hfit
  clear hfit HFC
  cases b with
  | false =>
    go_wp2_with fail
    refine (alive11_any w).mono ?_
    rintro e w2 ⟨rfl, hc⟩
    replace HX := Lib.hid (HX.out.trans hc (fun _ _ e => e))
    clear hc
    go_wp2_with fail
    go_ret
    exact ⟨rfl, HX.out⟩
  | true =>
    replace HFI := Lib.hid (HFI.out rfl)
    go_wp2_with fail
    refine (snew11_any mi w).mono ?_
    rintro e w2 hnp
    unfold NewSP at hnp
    by_cases hw : withinB 1 4294967296 [mi] = true
    case neg =>
      rw [if_neg hw] at hnp
      obtain ⟨rfl, hc⟩ := hnp
      replace HX := Lib.hid (HX.out.trans hc (fun _ _ e => e))
      have hmi : mi < 1 ∨ 4294967296 < mi := by
        unfold withinB at hw
        simp at hw
        omega
      clear hc hw
      have HAL := Lib.hid (alive11_any w2)
      rcases hmi with h1 | h1
      · go_wp2_with fail
        refine HAL.out.mono ?_
        rintro e w3 ⟨rfl, hc⟩
        replace HX := Lib.hid (HX.out.trans hc (fun _ _ e => e))
        clear hc
        go_wp2_with fail
        go_ret
        exact ⟨rfl, HX.out⟩
      · have h2 : ¬ mi < 1 := by omega
        go_wp2_with fail
        refine HAL.out.mono ?_
        rintro e w3 ⟨rfl, hc⟩
        replace HX := Lib.hid (HX.out.trans hc (fun _ _ e => e))
        clear hc
        go_wp2_with fail
        go_ret
        exact ⟨rfl, HX.out⟩
    case pos =>
      rw [if_pos hw] at hnp
      obtain ⟨p, rfl, hp, hb, hc⟩ := hnp
      have h1 : ¬ mi < 1 ∧ ¬ 4294967296 < mi := by
        unfold withinB at hw
        simp at hw
        omega
      obtain ⟨h1, h2⟩ := h1
      have HP := Lib.hid hp
      have HB := Lib.hid hb
      have HC2 := Lib.hid hc
      clear hw hp hb hc
      go_wp2_with fail
      refine (rbegin_any mi w2).mono ?_
      rintro e w3 ⟨q, rfl, hq, hrn, hc⟩
      have HT := Lib.hid (tw_new HP.out HB.out HC2.out hq hrn hc)
      have HX3 := Lib.hid ((HC2.out.trans hc (fun _ _ e => e)).mono (S' := fun k => w.heap.size ≤ k) (fun _ _ e => e.elim))
      have HI := Lib.hid (In11.new mi 0)
      clear hq hrn hc HP HB HC2 h1 h2 HX
      generalize hy0 : SV.mk mi 0 1 0 [] = y0 at *
      clear hy0
      go_wp2_with fail
      go_loopg [9, 10] m (fun g i s10 wr => ∃ (j : Nat) (o o2 : Option Nat) (y : SV), g = m - j ∧ j ≤ m ∧ i = .int .i64 (j : Int) ∧ Hid (TW2 w.heap.size wr p q o o2 y y) ∧ Hid (In11 j y) ∧ Hid (Chg (fun k => w.heap.size ≤ k) w wr))
      case atStart => exact ⟨0, none, none, y0, rfl, Nat.zero_le _, rfl, HT, HI, HX3⟩
      case round =>
        clear HT HI HX3
        obtain ⟨j, o, o2, y, rfl, hj, rfl, HT, HI, HX⟩ := hrel
        by_cases hlt : j < m
        · have hh := HL.out.chg HX.out (fun k hk => by omega)
          obtain ⟨ad, rfl, -⟩ := hh.2 (by omega)
          have hjl : j < l.length := by have := HLN.out; omega
          have hx : l[j]? = some l[j] := List.getElem?_eq_getElem hjl
          generalize l[j] = x at *
          obtain ⟨⟨z0, z1, z2, z3, z4, z5, z6⟩, hi⟩ := hh.at hx
          have hn := HFI.out.2 j x hx
          have hm120 := HFI.out.1
          have HST := Lib.hid (step11_any w.heap.size p q o o2 y x wr HT.out (HI.out.ok (by omega)) hi hn.1 hn.2)
          replace HI := Lib.hid (HI.out.next x)
          unfold At11.cs at HST
          clear hx hh hjl hi hn
          go_wp2_with fail
          refine HST.out.mono ?_
          rintro e w4 ⟨rfl, o3, o4, ht, hc⟩
          replace HX := Lib.hid (HX.out.trans hc (fun _ _ e => e))
          replace HT := Lib.hid ht
          clear hc ht z0 z1 z2 z3 z4 z5 z6 HST
          generalize stS y x = y2 at *
          go_upto_region 14 with fail
          obtain ⟨A, c, hrb, hown, -⟩ := HT.out.rn
          obtain ⟨r0, r1, r2, r3, r4⟩ := rs_cells hrb
          have hnn : ((y2.q.length : Int) != (y2.q.length : Int)) = false := by simp
          have hpp : (y2.pe != y2.pe) = false := by simp
          clear hrb hown r0 r2 r3
          have hle1 : ∀ n, Calls Try.prog 18 #[.pointer (some ⟨p, 0, none⟩)] (w4.drewN n) (fun e w'' => e = .returned (.int .i64 (y2.q.length : Int)) ∧ w'' = w4.drewN n) := fun n => (slen_any p o3 _ y2 (w4.drewN n) (HT.out.sn.new ((Chg.refl _ _).drewN n))).mono (fun e w' h => ⟨h.1, h.2.symm⟩)
          have hpe1 : ∀ n, Calls Try.prog 19 #[.pointer (some ⟨p, 0, none⟩)] (w4.drewN n) (fun e w'' => e = .returned (.int .i64 y2.pe) ∧ w'' = w4.drewN n) := fun n => (speer_any p o3 _ y2 (w4.drewN n) (HT.out.sn.new ((Chg.refl _ _).drewN n))).mono (fun e w' h => ⟨h.1, h.2.symm⟩)
          go_quiet (first | (go_at_call 18; refine Calls.quiet_of_same (hle1 _)) | (go_at_call 19; refine Calls.quiet_of_same (hpe1 _)))
          replace HX := Lib.hid (HX.out.drewN nq)
          replace HT : Hid (TW2 w.heap.size (w4.drewN nq) p q o3 o4 y2 y2) := Lib.hid (HT.out.new ((Chg.refl _ _).drewN nq))
          clear r1 r4 hle1 hpe1 hnn hpp
          go_wp2_with fail
          go_roundg (m - (j + 1))
          case measure => omega
          case rel => exact ⟨j + 1, o3, o4, y2, rfl, by omega, by go_num, HT, HI, HX⟩
        · obtain rfl : j = m := by omega
          replace HX : Hid (Chg (fun _ => False) w wr) := Lib.hid (HX.out.mono (fun k hk e => by omega))
          have HTN := Lib.hid (stake_nil 1 0 0 0 none 0 0 wr)
          unfold ltC tkC at HTN
          go_wp2_with fail
          refine HTN.out.mono ?_
          rintro e w5 ⟨rfl, hc⟩
          replace HX := Lib.hid (HX.out.trans hc (fun _ _ e => e))
          clear hc HTN
          go_upto_region 18 with fail
          replace HX := Lib.hid (HX.out.alloc (.cells #[.slice none 0 0, .bool false, .bool false] 55))
          generalize w5.alloc (.cells #[.slice none 0 0, .bool false, .bool false] 55) = w6 at *
          go_wp2_with fail
          refine (alive11_any w6).mono ?_
          rintro e w7 ⟨rfl, hc⟩
          replace HX := Lib.hid (HX.out.trans hc (fun _ _ e => e))
          clear hc
          go_wp2_with fail
          refine (spush_nil _ _ _ _).mono ?_
          rintro e w8 ⟨rfl, rfl⟩
          replace HX := Lib.hid (HX.out.alloc (.cells #[.int .u8 1] 5))
          go_wp2_with fail
          refine (sout_nil _).mono ?_
          rintro e w9 ⟨rfl, hc⟩
          replace HX := Lib.hid (HX.out.trans hc (fun _ _ e => e))
          clear hc
          go_wp2_with fail
          refine (slen_nil _).mono ?_
          rintro e w10 ⟨rfl, rfl⟩
          go_wp2_with fail
          refine (speer_nil _).mono ?_
          rintro e w10 ⟨rfl, rfl⟩
          go_wp2_with fail
          go_ret
          exact ⟨rfl, HX.out⟩

end Go.Proofs.Ytbbjecjhkjjbkaa
