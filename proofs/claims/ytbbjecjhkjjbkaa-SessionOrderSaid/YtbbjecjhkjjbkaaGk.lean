/-
  Walks: rutterlaw11.Of, rutterref11.Right, Begin, Push. Conditions: the letter's body is read in memory; the document's session lies in memory.
-/
import Derived.Test.YtbbjecjhkjjbkaaGi
import Derived.Test.YtbbjecjhkjjbkaaQb
import Derived.Test.YtbbjecjhkjjbkaaFc
namespace Go.Proofs.Ytbbjecjhkjjbkaa
open Go.RowKit
set_option linter.unusedVariables false
set_option linter.unusedSimpArgs false

/-- A letter of the document's, its cells. -/
def rlC (m p a s : Int) (b : ByteArray) : Array Value := #[.int .i64 m, .int .i64 p, .int .i64 a, .int .i64 s, .string b]
theorem rl_cells {w : World} {r : Nat} {T : TypeId} {m p a s : Int} {b : ByteArray} (h : Blk w r T (rlC m p a s b)) :
    w.cell? ⟨r, 0, none⟩ = some (.int .i64 m) ∧ w.cell? ⟨r, 1, none⟩ = some (.int .i64 p) ∧ w.cell? ⟨r, 2, none⟩ = some (.int .i64 a) ∧ w.cell? ⟨r, 3, none⟩ = some (.int .i64 s) ∧ w.cell? ⟨r, 4, none⟩ = some (.string b) := by
  have h0 := h.cell 0
  have h1 := h.cell 1
  have h2 := h.cell 2
  have h3 := h.cell 3
  have h4 := h.cell 4
  simp only [rlC, List.getElem?_toArray, List.getElem?_cons_zero, List.getElem?_cons_succ] at h0 h1 h2 h3 h4
  exact ⟨h0, h1, h2, h3, h4⟩
theorem rl_put {w : World} {r : Nat} {T : TypeId} {m p a s : Int} {b : ByteArray} (hb : Blk w r T (rlC m p a s b)) (m' p' a' s' : Int) (b' : ByteArray) :
    (w.setCell ⟨r, 0, none⟩ (.int .i64 m')).cell? ⟨r, 0, none⟩ = some (.int .i64 m') ∧
    ((w.setCell ⟨r, 0, none⟩ (.int .i64 m')).setCell ⟨r, 1, none⟩ (.int .i64 p')).cell? ⟨r, 1, none⟩ = some (.int .i64 p') ∧
    (((w.setCell ⟨r, 0, none⟩ (.int .i64 m')).setCell ⟨r, 1, none⟩ (.int .i64 p')).setCell ⟨r, 2, none⟩ (.int .i64 a')).cell? ⟨r, 2, none⟩ = some (.int .i64 a') ∧
    ((((w.setCell ⟨r, 0, none⟩ (.int .i64 m')).setCell ⟨r, 1, none⟩ (.int .i64 p')).setCell ⟨r, 2, none⟩ (.int .i64 a')).setCell ⟨r, 3, none⟩ (.int .i64 s')).cell? ⟨r, 3, none⟩ = some (.int .i64 s') ∧
    (((((w.setCell ⟨r, 0, none⟩ (.int .i64 m')).setCell ⟨r, 1, none⟩ (.int .i64 p')).setCell ⟨r, 2, none⟩ (.int .i64 a')).setCell ⟨r, 3, none⟩ (.int .i64 s')).setCell ⟨r, 4, none⟩ (.string b')).cell? ⟨r, 4, none⟩ = some (.string b') ∧
    Blk (((((w.setCell ⟨r, 0, none⟩ (.int .i64 m')).setCell ⟨r, 1, none⟩ (.int .i64 p')).setCell ⟨r, 2, none⟩ (.int .i64 a')).setCell ⟨r, 3, none⟩ (.int .i64 s')).setCell ⟨r, 4, none⟩ (.string b')) r T (rlC m' p' a' s' b') ∧ Chg (fun k => k = r) w (((((w.setCell ⟨r, 0, none⟩ (.int .i64 m')).setCell ⟨r, 1, none⟩ (.int .i64 p')).setCell ⟨r, 2, none⟩ (.int .i64 a')).setCell ⟨r, 3, none⟩ (.int .i64 s')).setCell ⟨r, 4, none⟩ (.string b')) := by
  have h0 := (hb.set 0 (.int .i64 m'))
  have r0 := h0.cell 0
  have h1 := ((hb.set 0 (.int .i64 m')).set 1 (.int .i64 p'))
  have r1 := h1.cell 1
  have h2 := (((hb.set 0 (.int .i64 m')).set 1 (.int .i64 p')).set 2 (.int .i64 a'))
  have r2 := h2.cell 2
  have h3 := ((((hb.set 0 (.int .i64 m')).set 1 (.int .i64 p')).set 2 (.int .i64 a')).set 3 (.int .i64 s'))
  have r3 := h3.cell 3
  have h4 := (((((hb.set 0 (.int .i64 m')).set 1 (.int .i64 p')).set 2 (.int .i64 a')).set 3 (.int .i64 s')).set 4 (.string b'))
  have r4 := h4.cell 4
  simp only [rlC, List.setIfInBounds_toArray, List.set_cons_succ, List.set_cons_zero, List.getElem?_toArray, List.getElem?_cons_zero, List.getElem?_cons_succ] at r0 r1 r2 r3 r4 h4
  exact ⟨r0, r1, r2, r3, r4, h4, ((((((Chg.refl (fun k => k = r) w).put r 0 (fun _ => rfl) _).put r 1 (fun _ => rfl) _).put r 2 (fun _ => rfl) _).put r 3 (fun _ => rfl) _).put r 4 (fun _ => rfl) _)⟩
set_option maxRecDepth 100000 in
set_option maxHeartbeats 2000000 in
theorem of11_any (m p a s : Int) (A : Option Addr) (n c : Nat) (b : List UInt8) (S : Nat → Prop) (w : World) (hn : n = b.length) (hr : Rds w S A n (bcs b)) : Calls Try.prog 8 #[.agg (ltC m p a s A n c)] w fun e w' => e = .returned (.agg (rlC m p a s ⟨b.toArray⟩)) ∧ Chg (fun _ => False) w w' := by
  subst hn
  unfold ltC
  have HC0 := Lib.hid (((Chg.refl (fun _ => False) w).alloc (.cells #[.int .i64 m, .int .i64 p, .int .i64 a, .int .i64 s, .slice A b.length c] 24)).alloc (.cells #[.int .i64 0, .int .i64 0, .int .i64 0, .int .i64 0, .string (⟨#[]⟩)] 28))
  have HQ : Hid (Blk ((w.alloc (.cells #[.int .i64 m, .int .i64 p, .int .i64 a, .int .i64 s, .slice A b.length c] 24)).alloc (.cells #[.int .i64 0, .int .i64 0, .int .i64 0, .int .i64 0, .string (⟨#[]⟩)] 28)) w.heap.size 24 (ltC m p a s A b.length c)) := Lib.hid ((blk_new rfl).alloc _)
  have HR : Hid (Blk ((w.alloc (.cells #[.int .i64 m, .int .i64 p, .int .i64 a, .int .i64 s, .slice A b.length c] 24)).alloc (.cells #[.int .i64 0, .int .i64 0, .int .i64 0, .int .i64 0, .string (⟨#[]⟩)] 28)) (w.heap.size + 1) 28 (rlC 0 0 0 0 ⟨#[]⟩)) := Lib.hid (blk_new (by simp))
  have HBB := Lib.hid (hr.chg HC0.out (fun _ _ => id))
  clear hr
  go_enter Try.func8, Try.ntmps8
  go_upto_region 1 with fail
  generalize (w.alloc (.cells #[.int .i64 m, .int .i64 p, .int .i64 a, .int .i64 s, .slice A b.length c] 24)).alloc (.cells #[.int .i64 0, .int .i64 0, .int .i64 0, .int .i64 0, .string (⟨#[]⟩)] 28) = w1 at *
  obtain ⟨q0, q1, q2, q3, q4⟩ := lt_cells HQ.out
  obtain ⟨x0, x1, x2, x3, x4⟩ := rl_cells HR.out
  obtain ⟨u0, u1, u2, u3, u4⟩ := lt_free HR.out
  obtain ⟨r0, r1, r2, r3, r4, -, hcs⟩ := rl_put HR.out m p a s ⟨b.toArray⟩
  have s1 := conv_any (c := c) HBB.out
  have RR := Lib.hid (And.intro r0 (And.intro r1 (And.intro r2 (And.intro r3 r4))))
  have HF := Lib.hid (fresh_set HC0.out hcs (by omega))
  clear r0 r1 r2 r3 r4 hcs
  go_wp2_with fail
  obtain ⟨r0, r1, r2, r3, r4⟩ := RR.out
  exact bodyPost_ret (v := .agg (rlC m p a s ⟨b.toArray⟩)) (by simp [results, Try.results8, go_sem, rlC, r0, r1, r2, r3, r4]) rfl ⟨rfl, HF.out⟩
def numsB (m p a s : Int) : Bool := inB m 1 4294967296 && (inB p 0 4294967296 && (inB a 0 1099511627776 && inB s 0 1099511627776))
def bodyB (s : Int) (n : Nat) : Bool := (s == 0 && (n : Int) == 0) || (s != 0 && inB (n : Int) 1 1000)
theorem ltR_two (m p a s : Int) (n : Nat) : ltR m p a s n = (numsB m p a s && bodyB s n) := by
  have e1 : withinB 1 4294967296 [m] = (inB m 1 4294967296 && true) := rfl
  have e2 : withinB 0 4294967296 [p] = (inB p 0 4294967296 && true) := rfl
  have e3 : withinB 0 1099511627776 [a, s] = (inB a 0 1099511627776 && (inB s 0 1099511627776 && true)) := rfl
  have e4 : bodB s n = bodyB s n := by
    unfold bodB bodyB
    by_cases hs : s = 0
    · rw [if_pos hs]
      subst hs
      by_cases hn : n = 0 <;> simp [hn]
    · rw [if_neg hs]
      have h1 : (s == 0) = false := by simpa using hs
      have h2 : (s != 0) = true := by simpa using hs
      rw [h1, h2]
      show (inB (n : Int) 1 1000 && true) = _
      simp
  unfold ltR
  rw [e1, e2, e3, e4]
  unfold numsB
  simp only [Bool.and_true]
  generalize inB m 1 4294967296 = x1
  generalize inB p 0 4294967296 = x2
  generalize inB a 0 1099511627776 = x3
  generalize inB s 0 1099511627776 = x4
  generalize bodyB s n = x5
  ac_rfl

set_option maxRecDepth 100000 in
set_option maxHeartbeats 4000000 in
theorem rright11_any (m p a s : Int) (sb : ByteArray) (n : Nat) (w : World) (hsb : sb.size = n) (hn : n ≤ 9223372036854775807) : Calls Try.prog 7 #[.agg (rlC m p a s sb)] w fun e w' => e = .returned (.bool (ltR m p a s n)) ∧ Chg (fun _ => False) w w' := by
  have HQ : Hid (Blk (w.alloc (.cells #[.int .i64 m, .int .i64 p, .int .i64 a, .int .i64 s, .string sb] 28)) w.heap.size 28 (rlC m p a s sb)) := Lib.hid (blk_new rfl)
  have HC0 := Lib.hid ((Chg.refl (fun _ => False) w).alloc (.cells #[.int .i64 m, .int .i64 p, .int .i64 a, .int .i64 s, .string sb] 28))
  have h1 := fun W => in_any m 1 4294967296 W
  have h2 := fun W => in_any p 0 4294967296 W
  have h3 := fun W => in_any a 0 1099511627776 W
  have h4 := fun W => in_any s 0 1099511627776 W
  have h5 := fun W => in_any (n : Int) 1 1000 W
  have hw1 : numsB m p a s = (inB m 1 4294967296 && (inB p 0 4294967296 && (inB a 0 1099511627776 && inB s 0 1099511627776))) := rfl
  have hw2 : bodyB s n = ((s == 0 && (n : Int) == 0) || (s != 0 && inB (n : Int) 1 1000)) := rfl
  generalize inB m 1 4294967296 = b1 at h1 hw1
  generalize inB p 0 4294967296 = b2 at h2 hw1
  generalize inB a 0 1099511627776 = b3 at h3 hw1
  generalize inB s 0 1099511627776 = b4 at h4 hw1
  generalize inB (n : Int) 1 1000 = b5 at h5 hw2
  rw [ltR_two]
  generalize numsB m p a s = v1 at *
  generalize bodyB s n = v2 at *
  have H1 := Lib.hid h1
  have H2 := Lib.hid h2
  have H3 := Lib.hid h3
  have H4 := Lib.hid h4
  have H5 := Lib.hid h5
  have HW1 := Lib.hid hw1
  have HW2 := Lib.hid hw2
  clear h1 h2 h3 h4 h5 hw1 hw2
  unfold rlC
  go_enter Try.func7, Try.ntmps7
  go_upto_region 1 with fail
  generalize w.alloc (.cells #[.int .i64 m, .int .i64 p, .int .i64 a, .int .i64 s, .string sb] 28) = w1 at *
  obtain ⟨q0, q1, q2, q3, q4⟩ := rl_cells HQ.out
  go_cut [3] (fun s3 wx => s3 = .bool v1 ∧ wx = w1)
  case first =>
    cases b1 with
    | false =>
      go_wp2_with fail
      refine (H1.out _).mono ?_
      rintro e _ ⟨rfl, rfl⟩
      go_wp2_with fail
      go_meet
      exact ⟨by rw [HW1.out]; rfl, rfl⟩
    | true =>
      cases b2 with
      | false =>
        go_wp2_with fail
        refine (H1.out _).mono ?_
        rintro e _ ⟨rfl, rfl⟩
        go_wp2_with fail
        refine (H2.out _).mono ?_
        rintro e _ ⟨rfl, rfl⟩
        go_wp2_with fail
        go_meet
        exact ⟨by rw [HW1.out]; rfl, rfl⟩
      | true =>
        cases b3 with
        | false =>
          go_wp2_with fail
          refine (H1.out _).mono ?_
          rintro e _ ⟨rfl, rfl⟩
          go_wp2_with fail
          refine (H2.out _).mono ?_
          rintro e _ ⟨rfl, rfl⟩
          go_wp2_with fail
          refine (H3.out _).mono ?_
          rintro e _ ⟨rfl, rfl⟩
          go_wp2_with fail
          go_meet
          exact ⟨by rw [HW1.out]; rfl, rfl⟩
        | true =>
          cases b4 with
          | false =>
            go_wp2_with fail
            refine (H1.out _).mono ?_
            rintro e _ ⟨rfl, rfl⟩
            go_wp2_with fail
            refine (H2.out _).mono ?_
            rintro e _ ⟨rfl, rfl⟩
            go_wp2_with fail
            refine (H3.out _).mono ?_
            rintro e _ ⟨rfl, rfl⟩
            go_wp2_with fail
            refine (H4.out _).mono ?_
            rintro e _ ⟨rfl, rfl⟩
            go_wp2_with fail
            go_meet
            exact ⟨by rw [HW1.out]; rfl, rfl⟩
          | true =>
            go_wp2_with fail
            refine (H1.out _).mono ?_
            rintro e _ ⟨rfl, rfl⟩
            go_wp2_with fail
            refine (H2.out _).mono ?_
            rintro e _ ⟨rfl, rfl⟩
            go_wp2_with fail
            refine (H3.out _).mono ?_
            rintro e _ ⟨rfl, rfl⟩
            go_wp2_with fail
            refine (H4.out _).mono ?_
            rintro e _ ⟨rfl, rfl⟩
            go_wp2_with fail
            go_meet
            exact ⟨by rw [HW1.out]; rfl, rfl⟩
  obtain ⟨rfl, rfl⟩ := hcut
  clear H1 H2 H3 H4 HW1
  go_upto_region 2 with fail
  go_cut [4] (fun s4 wx => s4 = .bool v2 ∧ wx = wc)
  case first =>
    by_cases hs : s = 0
    · have e1 : (s == 0) = true := by simp [hs]
      have e2 : (s != 0) = false := by simp [hs]
      clear hs
      by_cases hn0 : n = 0
      · have e3 : ((n : Int) == 0) = true := by simp [hn0]
        have HV := Lib.hid (show v2 = true from by rw [HW2.out, e1, e3]; rfl)
        clear hn0
        go_wp2_with fail
        go_meet
        exact ⟨by rw [HV.out], rfl⟩
      · have e3 : ((n : Int) == 0) = false := by simpa using hn0
        have HV := Lib.hid (show v2 = false from by rw [HW2.out, e1, e2, e3]; rfl)
        clear hn0
        go_wp2_with fail
        go_meet
        exact ⟨by rw [HV.out], rfl⟩
    · have e1 : (s == 0) = false := by simpa using hs
      have e2 : (s != 0) = true := by simpa using hs
      have HV := Lib.hid (show v2 = b5 from by rw [HW2.out, e1, e2]; rfl)
      clear hs
      go_wp2_with fail
      refine (H5.out _).mono ?_
      rintro e _ ⟨rfl, rfl⟩
      go_wp2_with fail
      go_meet
      exact ⟨by rw [HV.out], rfl⟩
  obtain ⟨rfl, rfl⟩ := hcut
  cases v1 with
  | false =>
    go_wp2_with fail
    go_ret
    exact ⟨rfl, HC0.out⟩
  | true =>
    go_wp2_with fail
    go_ret
    exact ⟨rfl, HC0.out⟩

/-- A session of the document's, its cells. -/
def rsC (mi pe nx go : Int) (A : Option Addr) (m c : Nat) : Array Value := #[.int .i64 mi, .int .i64 pe, .int .i64 nx, .int .i64 go, .slice A m c]
def strs (q : List (List UInt8)) : List Value := q.map fun b => .string ⟨b.toArray⟩
/-- Block q is a session of the document's; its queue's row lies at o. -/
def RN (w : World) (q : Nat) (o : Option Nat) (x : SV) : Prop :=
  ∃ A c, Blk w q 53 (rsC x.mi x.pe x.nx x.go A x.q.length c) ∧ w.ownsRow 0 9 1 (.slice A x.q.length c) x.q.length (strs x.q) ∧ A.map (·.block) = o ∧ o ≠ some q
def RMv (q : Nat) (o : Option Nat) (x : SV) (w w' : World) : Prop := ∃ o', RN w' q o' x ∧ Mvd q o o' w w'
theorem rs_cells {w : World} {q : Nat} {T : TypeId} {mi pe nx go : Int} {A : Option Addr} {m c : Nat} (h : Blk w q T (rsC mi pe nx go A m c)) :
    w.cell? ⟨q, 0, none⟩ = some (.int .i64 mi) ∧ w.cell? ⟨q, 1, none⟩ = some (.int .i64 pe) ∧ w.cell? ⟨q, 2, none⟩ = some (.int .i64 nx) ∧ w.cell? ⟨q, 3, none⟩ = some (.int .i64 go) ∧ w.cell? ⟨q, 4, none⟩ = some (.slice A m c) := by
  have h0 := h.cell 0
  have h1 := h.cell 1
  have h2 := h.cell 2
  have h3 := h.cell 3
  have h4 := h.cell 4
  simp only [rsC, List.getElem?_toArray, List.getElem?_cons_zero, List.getElem?_cons_succ] at h0 h1 h2 h3 h4
  exact ⟨h0, h1, h2, h3, h4⟩
theorem RN.lt {w : World} {q : Nat} {o : Option Nat} {x : SV} (h : RN w q o x) : q < w.heap.size ∧ ∀ k, o = some k → k < w.heap.size := by
  obtain ⟨A, c, hb, hown, ho, _⟩ := h
  refine ⟨hb.lt, fun k hk => ?_⟩
  rw [hk] at ho
  exact (hown.lt k (by rw [own_block]; exact ho)).2
theorem RN.chg {S : Nat → Prop} {w w' : World} {q : Nat} {o : Option Nat} {x : SV} (h : RN w q o x) (hc : Chg S w w') (hp : ¬ S q) (ho : ∀ k, o = some k → ¬ S k) : RN w' q o x := by
  obtain ⟨A, c, hb, hown, h1, h2⟩ := h
  exact ⟨A, c, hb.chg hc hp, own_chg hown hc (fun k hk => ho k (by rw [← h1]; exact hk)), h1, h2⟩
theorem RN.new {w w' : World} {q : Nat} {o : Option Nat} {x : SV} (h : RN w q o x) (hc : Chg (fun _ => False) w w') : RN w' q o x := h.chg hc id (fun _ _ => id)
theorem RN.drew {w : World} {q : Nat} {o : Option Nat} {x : SV} (h : RN w q o x) : RN w.drew q o x := h
theorem strs_one (q : List (List UInt8)) : ∀ u ∈ strs q, u.oneCell' = true := by
  intro u hu
  obtain ⟨b, _, rfl⟩ := List.mem_map.1 hu
  rfl
theorem infoStr11 : (Try.prog.info? 9).map (fun i => (i.zero, i.size, i.bytes)) = some (some (.string ⟨#[]⟩), 1, 16) := by kernel_rfl

set_option maxRecDepth 100000 in
set_option maxHeartbeats 400000 in
theorem rbegin_any (mi : Int) (w : World) : Calls Try.prog 16 #[.int .i64 mi] w fun e w' => ∃ q, e = .returned (.pointer (some ⟨q, 0, none⟩)) ∧ w.heap.size ≤ q ∧ RN w' q none ⟨mi, 0, 1, 0, []⟩ ∧ Chg (fun _ => False) w w' := by
  go_enter Try.func16, Try.ntmps16
  go_wp2_with fail
  go_ret
  exact ⟨w.heap.size, rfl, Nat.le_refl _, ⟨none, 0, blk_new rfl, World.ownsRow_nil _ _ _ _, rfl, by simp⟩, (Chg.refl _ w).alloc _⟩
set_option maxRecDepth 100000 in
set_option maxHeartbeats 2000000 in
theorem rpush_any (q : Nat) (o : Option Nat) (x : SV) (b : List UInt8) (w : World) (h : RN w q o x) (hq : x.q.length ≤ 64) (hn : b.length ≤ 9223372036854775807) : Calls Try.prog 40 #[.pointer (some ⟨q, 0, none⟩), .string ⟨b.toArray⟩] w fun e w' => e = .returned (.int .i64 (pushE x b)) ∧ RMv q o (pushS x b) w w' := by
  obtain ⟨i0, hi0, hz0, hz1, hz2⟩ := info_parts infoStr11
  have HRN := Lib.hid h
  obtain ⟨A, c, hb, hown, ho, hne⟩ := h
  obtain ⟨mi, pe, nx, go, l⟩ := x
  simp only at hb hown hq
  have hpe : pushE ⟨mi, pe, nx, go, l⟩ b = if withinB 1 1000 [(b.length : Int)] = true then (if l.length = 64 then 3 else 0) else 1 := rfl
  have hps : pushS ⟨mi, pe, nx, go, l⟩ b = if pushE ⟨mi, pe, nx, go, l⟩ b = 0 then ⟨mi, pe, nx, go, l ++ [b]⟩ else ⟨mi, pe, nx, go, l⟩ := rfl
  have hin := fun W => in_any (b.length : Int) 1 1000 W
  rw [show withinB 1 1000 [(b.length : Int)] = inB (b.length : Int) 1 1000 from by unfold withinB inB; simp] at hpe
  obtain ⟨sb, hsbv⟩ : ∃ sb : ByteArray, sb = ⟨b.toArray⟩ := ⟨_, rfl⟩
  have hsb : sb.size = b.length := by rw [hsbv]; simp [ByteArray.size]
  rw [← hsbv]
  have HSB := Lib.hid hsbv
  clear hsbv
  have hss : strs (l ++ [b]) = strs l ++ [.string sb] := by rw [HSB.out]; simp [strs]
  have HSS := Lib.hid hss
  clear hss
  generalize hbn : b.length = n at *
  generalize inB (n : Int) 1 1000 = b1 at *
  have HIN := Lib.hid hin
  have HPE := Lib.hid hpe
  have HPS := Lib.hid hps
  generalize hlm : l.length = m at *
  have HLM := Lib.hid hlm
  obtain ⟨z0, z1, z2, z3, z4⟩ := rs_cells hb
  have g4 := hb.frozen 4
  have HB := Lib.hid hb
  have HOW := Lib.hid hown
  have HO := Lib.hid (And.intro ho hne)
  clear hin hpe hps hlm hb hown ho hne hbn
  go_enter Try.func40, Try.ntmps40
  go_wp2_with fail
  refine (HIN.out _).mono ?_
  rintro e _ ⟨rfl, rfl⟩
  cases b1 with
  | false =>
    have HE := Lib.hid (show pushE ⟨mi, pe, nx, go, l⟩ b = 1 from by rw [HPE.out]; rfl)
    go_wp2_with fail
    go_ret
    refine ⟨ret_i11 HE.out.symm, ?_⟩
    rw [HPS.out, HE.out, if_neg (by decide)]
    exact ⟨o, HRN.out, Mvd.refl _ _ _⟩
  | true =>
    by_cases h64 : m = 64
    · have HE := Lib.hid (show pushE ⟨mi, pe, nx, go, l⟩ b = 3 from by rw [HPE.out, if_pos rfl, if_pos h64])
      go_wp2_with fail
      go_ret
      refine ⟨ret_i11 HE.out.symm, ?_⟩
      rw [HPS.out, HE.out, if_neg (by decide)]
      exact ⟨o, HRN.out, Mvd.refl _ _ _⟩
    · have HE := Lib.hid (show pushE ⟨mi, pe, nx, go, l⟩ b = 0 from by rw [HPE.out, if_pos rfl, if_neg h64])
      have hm63 : m < 64 := by omega
      go_wp2_with (at_builtin; refine wpList_own_append _ rfl (.tmp 21) (.tmp 23) 51 rfl 0 9 i0 _ 16 Try.underlying51 hi0 hz0 hz1 hz2 rfl (.slice A m c) m (strs l) rfl (HOW.out.alloc _) (fun k => k = w.heap.size) (some ⟨w.heap.size, 0, none⟩) 1 1 [.string sb] rfl (rds_alloc w 9 #[.string sb] (0, 0)) (by simp [Value.oneCell']) (by unfold maxLen; omega) (by omega) (Nat.zero_le _) ?_; intro v5 w5 hown5 hg5 hat5; obtain ⟨A5, c5, rfl, _, _⟩ := own_form hown5; have hb5 := blk_grown (HB.out.alloc (.cells #[.string sb] 9)) hg5 (by rw [own_block, HO.out.1]; exact HO.out.2); obtain ⟨-, -, -, -, z4⟩ := rs_cells hb5; have g4 := hb5.frozen 4; have HB5 := Lib.hid hb5; have HO5 := Lib.hid hown5; have HG5 := Lib.hid (And.intro hg5 hat5); clear hb5 hown5 hg5 hat5)
      go_ret
      refine ⟨ret_i11 HE.out.symm, ?_⟩
      rw [HPS.out, HE.out, if_pos rfl]
      obtain ⟨hg5, hat5⟩ := HG5.out
      rw [own_block, own_block, HO.out.1] at hat5
      rw [own_block, HO.out.1] at hg5
      have hq := HB.out.lt
      have hne5 : A5.map (·.block) ≠ some q := by
        rcases hat5 with e | e
        · rw [e]; exact HO.out.2
        · rw [e]
          intro e
          injection e with e
          simp at e
          omega
      have hc5 : Chg (fun k => k = q ∨ o = some k) w (w5.setCell ⟨q, 4, none⟩ (.slice A5 (m + 1) c5)) := ((((Chg.refl (fun _ => False) w).alloc (.cells #[.string sb] 9)).mono (fun _ _ h => h.elim)).grown hg5 (fun k hk _ => .inr hk)).put q 4 (fun _ => .inl rfl) _
      refine ⟨A5.map (·.block), ⟨A5, c5, ?_, ?_, rfl, hne5⟩, hc5, ?_⟩
      · have hs := HB5.out.set 4 (.slice A5 (m + 1) c5)
        show Blk _ _ _ (rsC mi pe nx go A5 (l ++ [b]).length c5)
        rw [List.length_append, HLM.out]
        exact hs
      · show World.ownsRow _ _ _ _ (.slice A5 (l ++ [b]).length c5) (l ++ [b]).length _
        rw [List.length_append, HLM.out, HSS.out]
        exact own_chg HO5.out ((Chg.refl (fun k => k = q) w5).put q 4 (fun _ => rfl) _) (fun k hk e => by subst e; exact hne5 hk)
      · rcases hat5 with e | e
        · exact .inl e
        · exact .inr (.inr ⟨_, e, by simp⟩)

end Go.Proofs.Ytbbjecjhkjjbkaa
