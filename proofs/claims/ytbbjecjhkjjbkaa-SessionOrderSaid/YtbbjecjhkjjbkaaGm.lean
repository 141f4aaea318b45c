/-
  Walk: rutterref11.Session's Take. Conditions: the document's session lies in memory, its numbers are small.
-/
import Derived.Test.YtbbjecjhkjjbkaaGk
import Derived.Test.YtbbjecjhkjjbkaaGj
namespace Go.Proofs.Ytbbjecjhkjjbkaa
open Go.RowKit
set_option linter.unusedVariables false
set_option linter.unusedSimpArgs false

/-- A Taken of the document's, its cells. -/
def rkC (b : ByteArray) (g r : Bool) : Array Value := #[.string b, .bool g, .bool r]
theorem rk_cells {w : World} {v : Nat} {T : TypeId} {b : ByteArray} {g r : Bool} (h : Blk w v T (rkC b g r)) :
    w.cell? ⟨v, 0, none⟩ = some (.string b) ∧ w.cell? ⟨v, 1, none⟩ = some (.bool g) ∧ w.cell? ⟨v, 2, none⟩ = some (.bool r) := by
  have h0 := h.cell 0
  have h1 := h.cell 1
  have h2 := h.cell 2
  simp only [rkC, List.getElem?_toArray, List.getElem?_cons_zero, List.getElem?_cons_succ] at h0 h1 h2
  exact ⟨h0, h1, h2⟩
theorem rk_put {w : World} {v : Nat} {T : TypeId} {b : ByteArray} {g r : Bool} (hb : Blk w v T (rkC b g r)) (b' : ByteArray) (g' r' : Bool) :
    (w.setCell ⟨v, 0, none⟩ (.string b')).cell? ⟨v, 0, none⟩ = some (.string b') ∧
    ((w.setCell ⟨v, 0, none⟩ (.string b')).setCell ⟨v, 1, none⟩ (.bool g')).cell? ⟨v, 1, none⟩ = some (.bool g') ∧
    (((w.setCell ⟨v, 0, none⟩ (.string b')).setCell ⟨v, 1, none⟩ (.bool g')).setCell ⟨v, 2, none⟩ (.bool r')).cell? ⟨v, 2, none⟩ = some (.bool r') ∧
    Blk (((w.setCell ⟨v, 0, none⟩ (.string b')).setCell ⟨v, 1, none⟩ (.bool g')).setCell ⟨v, 2, none⟩ (.bool r')) v T (rkC b' g' r') ∧ Chg (fun k => k = v) w (((w.setCell ⟨v, 0, none⟩ (.string b')).setCell ⟨v, 1, none⟩ (.bool g')).setCell ⟨v, 2, none⟩ (.bool r')) := by
  have h0 := (hb.set 0 (.string b'))
  have r0 := h0.cell 0
  have h1 := ((hb.set 0 (.string b')).set 1 (.bool g'))
  have r1 := h1.cell 1
  have h2 := (((hb.set 0 (.string b')).set 1 (.bool g')).set 2 (.bool r'))
  have r2 := h2.cell 2
  simp only [rkC, List.setIfInBounds_toArray, List.set_cons_succ, List.set_cons_zero, List.getElem?_toArray, List.getElem?_cons_zero, List.getElem?_cons_succ] at r0 r1 r2 h2
  exact ⟨r0, r1, r2, h2, ((((Chg.refl (fun k => k = v) w).put v 0 (fun _ => rfl) _).put v 1 (fun _ => rfl) _).put v 2 (fun _ => rfl) _)⟩

/-- What the document's Take hands back, in letters. -/
def RTkR (q : Nat) (o : Option Nat) (y : SV) (b : List UInt8) (got res : Bool) (er : Int) (w : World) (e : Ending) (w' : World) : Prop :=
  e = .returned (.tuple #[.agg (rkC ⟨b.toArray⟩ got res), .int .i64 er]) ∧ RMv q o y w w'
def RTakeP (q : Nat) (o : Option Nat) (x : SV) (l : LV) (w : World) : Ending → World → Prop := RTkR q o (tkS x l) (tkB x l) (tkGot x l) (tkRes x l) (tkE x l) w
section
variable {p : Nat} {o : Option Nat} {x : SV} {l : LV} {w w' : World} {e : Ending}
theorem rtk_bad (h : ltR l.mi l.pe l.ac l.se l.b.length = false) (hh : RTkR p o x [] false false 1 w e w') : RTakeP p o x l w e w' := by
  have h1 : tkOk x l = false := by unfold tkOk; rw [h]; rfl
  have h2 : tkGot x l = false := by unfold tkGot; rw [h1]; rfl
  unfold RTakeP
  rw [show tkS x l = x from by unfold tkS; rw [h1]; rfl, show tkB x l = [] from by unfold tkB; rw [h2]; rfl, h2, show tkRes x l = false from by unfold tkRes; rw [h1]; rfl, show tkE x l = 1 from by unfold tkE; rw [h]; rfl]
  exact hh
theorem rtk_stale (h : ltR l.mi l.pe l.ac l.se l.b.length = true) (hs : l.mi < x.pe) (hh : RTkR p o x [] false false 7 w e w') : RTakeP p o x l w e w' := by
  have h1 : tkOk x l = false := by unfold tkOk; rw [h]; simp; omega
  have h2 : tkGot x l = false := by unfold tkGot; rw [h1]; rfl
  unfold RTakeP
  rw [show tkS x l = x from by unfold tkS; rw [h1]; rfl, show tkB x l = [] from by unfold tkB; rw [h2]; rfl, h2, show tkRes x l = false from by unfold tkRes; rw [h1]; rfl, show tkE x l = 7 from by unfold tkE; rw [if_pos h, if_pos hs]]
  exact hh
theorem rtk_go (h : ltR l.mi l.pe l.ac l.se l.b.length = true) (hs : ¬ l.mi < x.pe) (y : SV) (b : List UInt8) (got res : Bool) (hy : (if tkHit x l = true then { tkS2 x l with go := l.se } else tkS2 x l) = y) (hb : (if tkHit x l = true then l.b else []) = b) (hg : tkHit x l = got) (hr : decide (x.pe < l.mi) = res)
    (hh : RTkR p o y b got res 0 w e w') : RTakeP p o x l w e w' := by
  have h1 : tkOk x l = true := by unfold tkOk; rw [h]; simp; omega
  have h2 : tkGot x l = tkHit x l := by unfold tkGot; rw [h1]; rfl
  subst hy hb hg hr
  unfold RTakeP
  rw [show tkS x l = _ from if_pos h1, show tkB x l = (if tkHit x l = true then l.b else []) from by unfold tkB; rw [h2], h2, show tkRes x l = decide (x.pe < l.mi) from by unfold tkRes; rw [h1]; rfl, show tkE x l = 0 from by unfold tkE; rw [if_pos h, if_neg hs]]
  exact hh
theorem rtk_other (h : ltR l.mi l.pe l.ac l.se l.b.length = true) (hs : ¬ l.mi < x.pe) (hp : l.pe ≠ x.mi) {res : Bool} (hr : decide (x.pe < l.mi) = res) {y : SV} (hy : tkS1 x l = y) (hh : RTkR p o y [] false res 0 w e w') : RTakeP p o x l w e w' := by
  have h2 : tkHit x l = false := by unfold tkHit; simp [hp]
  exact rtk_go h hs y [] false res (by rw [h2]; simp only [Bool.false_eq_true, if_false]; unfold tkS2; rw [if_neg hp]; exact hy) (by rw [h2]; rfl) h2 hr hh
theorem rtk_miss (h : ltR l.mi l.pe l.ac l.se l.b.length = true) (hs : ¬ l.mi < x.pe) (hp : l.pe = x.mi) {res : Bool} (hr : decide (x.pe < l.mi) = res) {y : SV} (hy : tkS1 x l = y) (hq : l.se ≠ y.go + 1) (hh : RTkR p o (ackS y l.ac) [] false res 0 w e w') : RTakeP p o x l w e w' := by
  subst hy
  have h2 : tkHit x l = false := by unfold tkHit; simp [hq]
  exact rtk_go h hs _ [] false res (by rw [h2]; simp only [Bool.false_eq_true, if_false]; unfold tkS2; rw [if_pos hp]) (by rw [h2]; rfl) h2 hr hh
theorem rtk_hit (h : ltR l.mi l.pe l.ac l.se l.b.length = true) (hs : ¬ l.mi < x.pe) (hp : l.pe = x.mi) {res : Bool} (hr : decide (x.pe < l.mi) = res) {y : SV} (hy : tkS1 x l = y) (hq : l.se = y.go + 1) (hh : RTkR p o { ackS y l.ac with go := l.se } l.b true res 0 w e w') : RTakeP p o x l w e w' := by
  subst hy
  have h2 : tkHit x l = true := by unfold tkHit; simp [hq, hp]
  exact rtk_go h hs _ l.b true res (by rw [h2]; simp only [if_true]; unfold tkS2; rw [if_pos hp]) (by rw [h2]; rfl) h2 hr hh
end

theorem RN.raw {w : World} {q : Nat} {o : Option Nat} {mi pe nx go : Int} {l : List (List UInt8)} (h : RN w q o ⟨mi, pe, nx, go, l⟩) : ∃ A m c, Blk w q 53 (rsC mi pe nx go A m c) := by
  obtain ⟨A, c, hb, _⟩ := h
  exact ⟨A, _, c, hb⟩
theorem RN.got {w : World} {q : Nat} {o : Option Nat} {mi pe nx go : Int} {l : List (List UInt8)} (h : RN w q o ⟨mi, pe, nx, go, l⟩) (v : Int) : RN (w.setCell ⟨q, 3, none⟩ (.int .i64 v)) q o ⟨mi, pe, nx, v, l⟩ := by
  obtain ⟨A, c, hb, hown, h1, h2⟩ := h
  have hc := (Chg.refl (fun k => k = q) w).put q 3 (fun _ => rfl) (.int .i64 v)
  exact ⟨A, c, hb.set 3 (.int .i64 v), own_chg hown hc (fun k hk e => by subst e; exact h2 (by rw [← h1]; exact hk)), h1, h2⟩

set_option maxRecDepth 100000 in
set_option maxHeartbeats 8000000 in
theorem rtake_any (q : Nat) (o : Option Nat) (x : SV) (l2 : LV) (w : World) (h : RN w q o x) (hok : SOk x) (hmax : l2.b.length ≤ 9223372036854775807) : Calls Try.prog 43 #[.pointer (some ⟨q, 0, none⟩), .agg (rlC l2.mi l2.pe l2.ac l2.se ⟨l2.b.toArray⟩)] w (RTakeP q o x l2 w) := by
  obtain ⟨mi, pe, nx, go, l⟩ := x
  obtain ⟨lm, lp, la, ls, b⟩ := l2
  obtain ⟨i0, hi0, hz0, hz1, hz2⟩ := info_parts infoStr11
  simp only at hmax ⊢
  have hplt := h.lt.1
  have HOO := Lib.hid h.lt.2
  have hnx := hok.nx0
  have hgo := hok.go0
  have hq64 := hok.len
  simp only at hnx hgo hq64
  obtain ⟨sb, hsbv⟩ : ∃ sb : ByteArray, sb = ⟨b.toArray⟩ := ⟨_, rfl⟩
  have hsb : sb.size = b.length := by rw [hsbv]; simp [ByteArray.size]
  rw [← hsbv]
  have HSB := Lib.hid hsbv
  clear hsbv
  have HC0 := Lib.hid (((Chg.refl (fun _ => False) w).alloc (.cells #[.int .i64 lm, .int .i64 lp, .int .i64 la, .int .i64 ls, .string sb] 28)).alloc (.cells #[.string ⟨#[]⟩, .bool false, .bool false] 98))
  have HQ : Hid (Blk ((w.alloc (.cells #[.int .i64 lm, .int .i64 lp, .int .i64 la, .int .i64 ls, .string sb] 28)).alloc (.cells #[.string ⟨#[]⟩, .bool false, .bool false] 98)) w.heap.size 28 (rlC lm lp la ls sb)) := Lib.hid ((blk_new rfl).alloc _)
  have HR : Hid (Blk ((w.alloc (.cells #[.int .i64 lm, .int .i64 lp, .int .i64 la, .int .i64 ls, .string sb] 28)).alloc (.cells #[.string ⟨#[]⟩, .bool false, .bool false] 98)) (w.heap.size + 1) 98 (rkC ⟨#[]⟩ false false)) := Lib.hid (blk_new (by simp))
  have HRN := Lib.hid (h.new HC0.out)
  have HM := Lib.hid ((Mvd.refl q o w).post HC0.out)
  have hrt := fun W => rright11_any lm lp la ls sb b.length W hsb hmax
  generalize hlr : ltR lm lp la ls b.length = rb at *
  have HLR : Hid (ltR (LV.mk lm lp la ls b).mi (LV.mk lm lp la ls b).pe (LV.mk lm lp la ls b).ac (LV.mk lm lp la ls b).se (LV.mk lm lp la ls b).b.length = rb) := Lib.hid hlr
  have hls : rb = true → b.length ≤ 1000 ∧ (0 ≤ lm ∧ lm ≤ 4294967296) ∧ (0 ≤ lp ∧ lp ≤ 4294967296) ∧ (0 ≤ la ∧ la ≤ 1099511627776) := fun e => by
    rw [e] at hlr
    have := ltR_parts hlr
    omega
  have HRT := Lib.hid hrt
  clear h hok hrt hlr HC0 hsb
  unfold rlC
  go_enter Try.func43, Try.ntmps43
  go_upto_region 1 with fail
  generalize (w.alloc (.cells #[.int .i64 lm, .int .i64 lp, .int .i64 la, .int .i64 ls, .string sb] 28)).alloc (.cells #[.string ⟨#[]⟩, .bool false, .bool false] 98) = w1 at *
  obtain ⟨q0, q1, q2, q3, q4⟩ := rl_cells HQ.out
  unfold rlC at HRT
  cases rb with
  | false =>
    have HOY := HOO
    go_wp2_with fail
    refine (HRT.out _).mono ?_
    rintro e w2 ⟨rfl, hc⟩
    replace HQ := Lib.hid (HQ.out.chg hc id)
    replace HR := Lib.hid (HR.out.chg hc id)
    replace HRN := Lib.hid (HRN.out.new hc)
    replace HM := Lib.hid (HM.out.post hc)
    clear hc q0 q1 q2 q3 q4
    obtain ⟨u0, u1, u2⟩ := tk_free HR.out
    obtain ⟨x0, x1, x2⟩ := rk_cells HR.out
    obtain ⟨r0, r1, r2, -, hcs⟩ := rk_put HR.out ⟨#[]⟩ false false
    have RR := Lib.hid (And.intro r0 (And.intro r1 r2))
    have HCS := Lib.hid hcs
    clear r0 r1 r2 hcs
    go_wp2_with fail
    obtain ⟨r0, r1, r2⟩ := RR.out
    exact bodyPost_ret (v := .tuple #[.agg (rkC ⟨#[]⟩ false false), .int .i64 1]) (by simp [results, Try.results43, go_sem, rkC, r0, r1, r2]) rfl (rtk_bad HLR.out ⟨rfl, o, (HRN.out.chg HCS.out (by omega) (fun k hk => by have := HOY.out k hk; omega)), (HM.out.put HCS.out (by omega))⟩)
  | true =>
    obtain ⟨hl1, hl2, hl3, hl4⟩ := hls rfl
    go_wp2_with fail
    refine (HRT.out _).mono ?_
    rintro e w2 ⟨rfl, hc⟩
    replace HQ := Lib.hid (HQ.out.chg hc id)
    replace HR := Lib.hid (HR.out.chg hc id)
    replace HRN := Lib.hid (HRN.out.new hc)
    replace HM := Lib.hid (HM.out.post hc)
    clear hc q0 q1 q2 q3 q4
    go_wp2_with fail
    obtain ⟨A9, m9, c9, hbp⟩ := RN.raw HRN.out
    obtain ⟨s0, s1, s2, s3, s4⟩ := rs_cells hbp
    obtain ⟨q0, q1, q2, q3, q4⟩ := rl_cells HQ.out
    clear hbp
    by_cases hst : lm < pe
    · have HOY := HOO
      have HST := Lib.hid hst
      go_region
      clear s0 s1 s2 s3 s4 q0 q1 q2 q3 q4
      replace HQ := Lib.hid HQ.out.drew
      replace HR := Lib.hid HR.out.drew
      replace HRN := Lib.hid HRN.out.drew
      replace HM := Lib.hid (HM.out.post (Chg.refl _ w2).drew)
      generalize w2.drew = w3 at *
      obtain ⟨u0, u1, u2⟩ := tk_free HR.out
      obtain ⟨x0, x1, x2⟩ := rk_cells HR.out
      obtain ⟨r0, r1, r2, -, hcs⟩ := rk_put HR.out ⟨#[]⟩ false false
      have RR := Lib.hid (And.intro r0 (And.intro r1 r2))
      have HCS := Lib.hid hcs
      clear r0 r1 r2 hcs
      go_wp2_with fail
      obtain ⟨r0, r1, r2⟩ := RR.out
      exact bodyPost_ret (v := .tuple #[.agg (rkC ⟨#[]⟩ false false), .int .i64 7]) (by simp [results, Try.results43, go_sem, rkC, r0, r1, r2]) rfl (rtk_stale HLR.out HST.out ⟨rfl, o, (HRN.out.chg HCS.out (by omega) (fun k hk => by have := HOY.out k hk; omega)), (HM.out.put HCS.out (by omega))⟩)
    · have HST := Lib.hid hst
      by_cases hres : pe < lm
      · have HRES := Lib.hid hres
        go_region
        clear s0 s1 s2 s3 s4 q0 q1 q2 q3 q4
        replace HQ := Lib.hid HQ.out.drew
        replace HR := Lib.hid HR.out.drew
        replace HRN := Lib.hid HRN.out.drew
        replace HM := Lib.hid (HM.out.post (Chg.refl _ w2).drew)
        generalize w2.drew = w3 at *
        obtain ⟨A9, m9, c9, hbp⟩ := RN.raw HRN.out
        obtain ⟨s0, s1, s2, s3, s4⟩ := rs_cells hbp
        obtain ⟨q0, q1, q2, q3, q4⟩ := rl_cells HQ.out
        have hba : Blk (w3.alloc (.cells #[.string ⟨#[]⟩, .bool false, .bool false] 98)) q 53 (rsC mi pe nx go A9 m9 c9) := hbp.alloc _
        have hqa : Blk (w3.alloc (.cells #[.string ⟨#[]⟩, .bool false, .bool false] 98)) w.heap.size 28 (rlC lm lp la ls sb) := HQ.out.alloc _
        obtain ⟨-, t1, -, -, -⟩ := rs_cells hba
        obtain ⟨k0, -, -, -, -⟩ := rl_cells hqa
        clear hbp hba hqa
        go_wp2_with fail
        go_region
        clear s0 s1 s2 s3 s4 q0 q1 q2 q3 q4 t1 k0
        have hhv : w.heap.size + 1 < w3.heap.size := HR.out.lt
        have HV : Hid (Blk (w3.alloc (.cells #[.string ⟨#[]⟩, .bool false, .bool true] 98)) w3.heap.size 98 (rkC ⟨#[]⟩ false true)) := Lib.hid (blk_new rfl)
        have hc := (Chg.refl (fun _ => False) w3).alloc (.cells #[.string ⟨#[]⟩, .bool false, .bool true] 98)
        replace HQ := Lib.hid (HQ.out.chg hc id)
        replace HR := Lib.hid (HR.out.chg hc id)
        replace HRN := Lib.hid (HRN.out.new hc)
        replace HM := Lib.hid (HM.out.post hc)
        clear hc
        generalize w3.alloc (.cells #[.string ⟨#[]⟩, .bool false, .bool true] 98) = w34 at *
        generalize w3.heap.size = hv at *
        replace HQ := Lib.hid HQ.out.drew
        replace HR := Lib.hid HR.out.drew
        replace HRN := Lib.hid HRN.out.drew
        replace HV := Lib.hid HV.out.drew
        replace HM := Lib.hid (HM.out.post (Chg.refl _ w34).drew)
        generalize w34.drew = w35 at *
        obtain ⟨A9, m9, c9, hbp⟩ := RN.raw HRN.out
        obtain ⟨s0, s1, s2, s3, s4⟩ := rs_cells hbp
        have g1 := hbp.frozen 1
        have g2 := hbp.frozen 2
        have g3 := hbp.frozen 3
        have g4 := hbp.frozen 4
        obtain ⟨q0, q1, q2, q3, q4⟩ := rl_cells HQ.out
        obtain ⟨v0, v1, v2⟩ := rk_cells HV.out
        have hb5 : Blk ((((w35.setCell ⟨q, 1, none⟩ (.int .i64 lm)).setCell ⟨q, 4, none⟩ (.slice none 0 0)).setCell ⟨q, 2, none⟩ (.int .i64 1)).setCell ⟨q, 3, none⟩ (.int .i64 0)) q 53 (rsC mi lm 1 0 none 0 0) := (((hbp.set 1 (.int .i64 lm)).set 4 (.slice none 0 0)).set 2 (.int .i64 1)).set 3 (.int .i64 0)
        have hc : Chg (fun k => k = q) w35 ((((w35.setCell ⟨q, 1, none⟩ (.int .i64 lm)).setCell ⟨q, 4, none⟩ (.slice none 0 0)).setCell ⟨q, 2, none⟩ (.int .i64 1)).setCell ⟨q, 3, none⟩ (.int .i64 0)) := ((((Chg.refl (fun k => k = q) w35).put q 1 (fun _ => rfl) _).put q 4 (fun _ => rfl) _).put q 2 (fun _ => rfl) _).put q 3 (fun _ => rfl) _
        have HC5 := Lib.hid hc
        have HB5 := Lib.hid hb5
        clear hbp hb5 hc
        go_upto_region 12 with fail
        clear s0 s1 s2 s3 s4 q0 q1 q2 q3 q4 v0 v1 v2 g1 g2 g3 g4
        have hc := HC5.out
        replace HQ := Lib.hid (HQ.out.chg hc (by omega))
        replace HR := Lib.hid (HR.out.chg hc (by omega))
        replace HV := Lib.hid (HV.out.chg hc (by omega))
        replace HM : Hid (Mvd q o none w _) := Lib.hid ⟨HM.out.1.trans hc (fun _ _ e => .inl e), .inr (.inl rfl)⟩
        have hrn5 : RN _ q none ⟨mi, lm, 1, 0, []⟩ := ⟨none, 0, HB5.out, World.ownsRow_nil _ _ _ _, rfl, by simp⟩
        replace HRN := Lib.hid hrn5
        clear HC5 HB5 hc hrn5
        generalize (((w35.setCell ⟨q, 1, none⟩ (.int .i64 lm)).setCell ⟨q, 4, none⟩ (.slice none 0 0)).setCell ⟨q, 2, none⟩ (.int .i64 1)).setCell ⟨q, 3, none⟩ (.int .i64 0) = w4 at *
        have HOY : Hid (∀ k, (none : Option Nat) = some k → k < w.heap.size) := Lib.hid (fun k hk => by cases hk)
        have hnx : (0 : Int) ≤ 1 ∧ (1 : Int) ≤ 1000000000000000 := by decide
        have hgo : (0 : Int) ≤ 0 ∧ (0 : Int) ≤ 1099511627776 := by decide
        have hq64 : ([] : List (List UInt8)).length ≤ 64 := by decide
        obtain ⟨A9, m9, c9, hbp⟩ := RN.raw HRN.out
        obtain ⟨s0, s1, s2, s3, s4⟩ := rs_cells hbp
        obtain ⟨q0, q1, q2, q3, q4⟩ := rl_cells HQ.out
        clear hbp
        by_cases hpm : lp = mi
        case neg =>
          have tp : (lp == mi) = false := by simpa using hpm
          have tp2 : (lp != mi) = true := by simpa using hpm
          have HPM := Lib.hid hpm
          clear hpm
          go_region
          clear s0 s1 s2 s3 s4 q0 q1 q2 q3 q4
          replace HQ := Lib.hid HQ.out.drew
          replace HR := Lib.hid HR.out.drew
          replace HRN := Lib.hid HRN.out.drew
          replace HV := Lib.hid HV.out.drew
          replace HM := Lib.hid (HM.out.post (Chg.refl _ w4).drew)
          generalize w4.drew = w5 at *
          obtain ⟨u0, u1, u2⟩ := tk_free HR.out
          obtain ⟨x0, x1, x2⟩ := rk_cells HR.out
          obtain ⟨v0, v1, v2⟩ := rk_cells HV.out
          obtain ⟨r0, r1, r2, -, hcs⟩ := rk_put HR.out ⟨#[]⟩ false true
          have RR := Lib.hid (And.intro r0 (And.intro r1 r2))
          have HCS := Lib.hid hcs
          clear r0 r1 r2 hcs
          go_wp2_with fail
          obtain ⟨r0, r1, r2⟩ := RR.out
          exact bodyPost_ret (v := .tuple #[.agg (rkC ⟨#[]⟩ false true), .int .i64 0]) (by simp [results, Try.results43, go_sem, rkC, r0, r1, r2]) rfl (rtk_other HLR.out (show ¬ lm < pe from by have := HST.out; omega) HPM.out (decide_eq_true (show pe < lm from HRES.out)) (if_pos (show pe < lm from HRES.out)) ⟨rfl, none, (HRN.out.chg HCS.out (by omega) (fun k hk => by have := HOY.out k hk; omega)), (HM.out.put HCS.out (by omega))⟩)
        have tp : (lp == mi) = true := by simpa using hpm
        have tp2 : (lp != mi) = false := by simpa using hpm
        have HPM := Lib.hid hpm
        clear hpm
        go_region
        clear s0 s1 s2 s3 s4 q0 q1 q2 q3 q4
        replace HQ := Lib.hid HQ.out.drew
        replace HR := Lib.hid HR.out.drew
        replace HRN := Lib.hid HRN.out.drew
        replace HV := Lib.hid HV.out.drew
        replace HM := Lib.hid (HM.out.post (Chg.refl _ w4).drew)
        generalize w4.drew = w5 at *
        go_wp2_with fail
        generalize hlm2 : ([] : List (List UInt8)).length = m at *
        have HLM2 := Lib.hid hlm2
        clear hlm2
        go_loopg [] m (fun g wr => ∃ (k : Nat) (ok : Option Nat), g = m - k ∧ k ≤ m ∧ Hid (∀ j : Nat, j < k → 1 + (j : Int) ≤ la) ∧ Hid (RN wr q ok ⟨mi, lm, 1 + (k : Int), 0, ([] : List (List UInt8)).drop k⟩) ∧ Hid (Mvd q none ok w5 wr))
        case atStart => exact ⟨0, none, rfl, Nat.zero_le _, Lib.hid (fun j hj => absurd hj (Nat.not_lt_zero _)), Lib.hid (by simpa using HRN.out), Lib.hid (Mvd.refl _ _ _)⟩
        case round =>
          obtain ⟨k, ok, rfl, hk, HALL, HRK, HMK⟩ := hrel
          obtain ⟨A', c', hbk, hownk, hof, hnek⟩ := HRK.out
          simp only at hbk hownk
          rw [show (([] : List (List UInt8)).drop k).length = m - k from by rw [List.length_drop]; have := HLM2.out; omega] at hbk hownk
          have HQr := Lib.hid (HQ.out.chg HMK.out.1 (fun e => e.elim (fun e => by omega) (fun e => by have := HOY.out _ e; omega)))
          have HRr := Lib.hid (HR.out.chg HMK.out.1 (fun e => e.elim (fun e => by omega) (fun e => by have := HOY.out _ e; omega)))
          have HVr := Lib.hid (HV.out.chg HMK.out.1 (fun e => e.elim (fun e => by omega) (fun e => by have := HOY.out _ e; omega)))
          have hvlt : hv < w5.heap.size := HV.out.lt
          generalize hr : m - k = r at *
          have HRR := Lib.hid hr
          have hr64 : r ≤ 64 := by omega
          obtain ⟨s0, s1, s2, s3, s4⟩ := rs_cells hbk
          obtain ⟨q0, q1, q2, q3, q4⟩ := rl_cells HQr.out
          have hcap := own_cap hownk
          have hcm : c' ≤ 9223372036854775807 := hcap.2
          have hrc : r ≤ c' := hcap.1
          have HBK := Lib.hid hbk
          have HOW := Lib.hid hownk
          have HOF := Lib.hid (And.intro hof hnek)
          have HOK2 := Lib.hid (show ∀ j, ok = some j → j ≠ w.heap.size ∧ j ≠ w.heap.size + 1 ∧ j ≠ hv from fun j hj => by
            have h5 : w.heap.size + 1 < hv := by omega
            rcases HMK.out.2 with e | e | ⟨j2, e, hj2⟩
            · have := HOY.out j (by rw [← e]; exact hj)
              omega
            · rw [e] at hj; cases hj
            · rw [e] at hj
              injection hj with hj
              omega)
          clear hbk hownk hof hnek hr hcap
          by_cases hr0 : 0 < r
          · by_cases hle : 1 + (k : Int) ≤ la
            · have HLE := Lib.hid hle
              obtain ⟨g, hAg⟩ : ∃ g, A' = some ⟨g, 0, none⟩ := by
                rcases HOW.out.2 with ⟨hv0, h0⟩ | ⟨g, cap, cur, hv0, _⟩
                · omega
                · injection hv0 with hv0
                  exact ⟨g, hv0⟩
              subst hAg
              go_upto_region 14 with fail
              go_region
              clear s0 s1 s2 s3 s4 q0 q1 q2 q3 q4
              replace HBK := Lib.hid HBK.out.drew
              have hoj : ∀ W : World, World.ownsRow W 0 9 1 (.slice (some ⟨g, 0, none⟩) r c') r (strs (([] : List (List UInt8)).drop k)) → World.ownsRow W.drew 0 9 1 (.slice (some ⟨g, 0, none⟩) r c') r (strs (([] : List (List UInt8)).drop k)) := fun W h => h
              replace HOW := Lib.hid (hoj _ HOW.out)
              replace HMK := Lib.hid (HMK.out.post (Chg.refl _ wr).drew)
              clear hoj HRK HQr HRr HVr
              generalize wr.drew = wd at *
              obtain ⟨s0, s1, s2, s3, s4⟩ := rs_cells HBK.out
              have hdr := ((own_rds2 HOW.out).drop 1 c' hr0 hrc).alloc (.cells #[] 9)
              rw [show (some ⟨g, 0, none⟩ : Option Addr).map (·.add 1) = some ⟨g, 1, none⟩ from rfl] at hdr
              have hba : Blk (wd.alloc (.cells #[] 9)) q 53 (rsC mi lm (1 + (k : Int)) 0 (some ⟨g, 0, none⟩) r c') := HBK.out.alloc _
              obtain ⟨-, -, -, -, t4⟩ := rs_cells hba
              have hmade := World.ownsRow_made (e := 9) (size := 1) wd #[] 0 (Nat.le_refl _) (by decide) rfl
              have HDR := Lib.hid hdr
              have HMADE := Lib.hid hmade
              have HBA := Lib.hid hba
              have hgq : ok ≠ some q := HOF.out.2
              clear hdr hmade hba
              go_upto_region 16 with (at_builtin; (refine wpList_own_append _ rfl (.tmp 69) (.tmp 74) 51 rfl wd.heap.size 9 i0 _ 16 Try.underlying51 hi0 hz0 hz1 hz2 rfl (.slice (some ⟨wd.heap.size, 0, none⟩) 0 0) 0 [] rfl HMADE.out _ _ (r - 1) (c' - 1) ((strs (([] : List (List UInt8)).drop k)).drop 1) rfl HDR.out (fun u hu => strs_one _ u (List.mem_of_mem_drop hu)) (by unfold maxLen; omega) (by omega) (by simp) ?_; intro v5 w9 hown5 hg5 hat5; simp only [Nat.zero_add, List.nil_append] at hown5; obtain ⟨A5, c5, rfl, _, _⟩ := own_form hown5; have hb9 := blk_grown HBA.out hg5 (by simp only [Value.ownBlock]; intro e; injection e with e; have := HBK.out.lt; omega); have g4 := hb9.frozen 4; have z4 := (rs_cells hb9).2.2.2.2; have HB9 := Lib.hid hb9; have HO9 := Lib.hid hown5; have HG9 := Lib.hid (And.intro hg5 hat5); clear hown5 hg5 hat5 hb9; generalize (if c' = 1 then (some (⟨g, 0, none⟩ : Addr) : Option Addr) else some ⟨g, 1, none⟩) = A24 at *))
              have hb10 : Blk (w9.setCell ⟨q, 4, none⟩ (.slice A5 (r - 1) c5)) q 53 (rsC mi lm (1 + (k : Int)) 0 A5 (r - 1) c5) := HB9.out.set 4 (.slice A5 (r - 1) c5)
              have hq9 : q < wd.heap.size := HBK.out.lt
              have hA5 : ∀ j, A5.map (·.block) = some j → wd.heap.size ≤ j := fun j hj => (HO9.out.lt j (by rw [own_block]; exact hj)).1
              have hown10 := own_chg HO9.out ((Chg.refl (fun j => j = q) w9).put q 4 (fun _ => rfl) (.slice A5 (r - 1) c5)) (fun j hj e => by have := hA5 j hj; omega)
              have hc10 : Chg (fun j => j = q) wd (w9.setCell ⟨q, 4, none⟩ (.slice A5 (r - 1) c5)) := ((((Chg.refl (fun _ => False) wd).alloc (.cells #[] 9)).mono (S' := fun j => j = q) (fun _ _ h => h.elim)).grown HG9.out.1 (fun j hj hl => by simp only [Value.ownBlock, Option.some.injEq] at hj; omega)).put q 4 (fun _ => rfl) _
              have HB10 := Lib.hid hb10
              have HO10 := Lib.hid hown10
              have HC10 := Lib.hid hc10
              have HA5 := Lib.hid hA5
              clear hb10 hown10 hc10 hA5 HB9 HO9 HG9 HBA HMADE HDR z4 g4 t4 s0 s1 s2 s3 s4
              generalize w9.setCell ⟨q, 4, none⟩ (.slice A5 (r - 1) c5) = w10 at *
              obtain ⟨s0, s1, s2, s3, s4⟩ := rs_cells HB10.out
              have g2 := HB10.out.frozen 2
              have hw1 : IntKind.i64.wrap (1 + (k : Int) + 1) = 1 + (k : Int) + 1 := IntWalk.i64_in _ (by omega)
              go_wp2_with fail
              have hb11 : Blk (w10.setCell ⟨q, 2, none⟩ (.int .i64 (1 + (k : Int) + 1))) q 53 (rsC mi lm (1 + (k : Int) + 1) 0 A5 (r - 1) c5) := HB10.out.set 2 (.int .i64 (1 + (k : Int) + 1))
              have hc11 := (Chg.refl (fun j => j = q) w10).put q 2 (fun _ => rfl) (.int .i64 (1 + (k : Int) + 1))
              have HB11 := Lib.hid hb11
              have HC11 := Lib.hid hc11
              clear hb11 hc11 s0 s1 s2 s3 s4 g2
              generalize w10.setCell ⟨q, 2, none⟩ (.int .i64 (1 + (k : Int) + 1)) = w11 at *
              go_roundg (m - (k + 1))
              case measure => have := HRR.out; omega
              case rel =>
                have hrr := HRR.out
                refine ⟨k + 1, A5.map (·.block), rfl, by omega, Lib.hid (fun j hj => ?_), Lib.hid ?_, Lib.hid ?_⟩
                · rcases Nat.lt_or_ge j k with hjk | hjk
                  · exact HALL.out j hjk
                  · have e : j = k := by omega
                    subst e
                    exact HLE.out
                · have e1 : (([] : List (List UInt8)).drop (k + 1)).length = r - 1 := by rw [List.length_drop]; have := HLM2.out; omega
                  have e2 : strs (([] : List (List UInt8)).drop (k + 1)) = (strs (([] : List (List UInt8)).drop k)).drop 1 := by unfold strs; rw [← List.map_drop, List.drop_drop]
                  refine ⟨A5, c5, ?_, ?_, rfl, ?_⟩
                  · show Blk _ _ _ (rsC mi lm (1 + ((k + 1 : Nat) : Int)) 0 A5 (([] : List (List UInt8)).drop (k + 1)).length c5)
                    rw [e1, show 1 + ((k + 1 : Nat) : Int) = 1 + (k : Int) + 1 from by omega]
                    exact HB11.out
                  · show World.ownsRow _ _ _ _ (.slice A5 (([] : List (List UInt8)).drop (k + 1)).length c5) (([] : List (List UInt8)).drop (k + 1)).length _
                    rw [e1, e2]
                    exact own_chg (own_base HO10.out (Nat.zero_le _)) HC11.out (fun j hj e => by have := HA5.out j hj; omega)
                  · intro e
                    have := HA5.out q e
                    omega
                · refine Mvd.trans HMK.out ⟨(HC10.out.trans HC11.out (fun _ _ e => e)).mono (fun j _ e => .inl e), ?_⟩
                  by_cases hA5n : A5.map (·.block) = none
                  · exact .inr (.inl hA5n)
                  · obtain ⟨j, hj⟩ := Option.ne_none_iff_exists'.1 hA5n
                    exact .inr (.inr ⟨j, hj, HA5.out j hj⟩)
            · have HK := Lib.hid (show ackK 1 la m = k from by
                have h1 := HALL.out
                have h2 := HRR.out
                unfold ackK
                rcases Nat.eq_zero_or_pos k with h0 | h0
                · omega
                · have := h1 (k - 1) (by omega)
                  omega)
              go_upto_region 14 with fail
              go_region
              clear s0 s1 s2 s3 s4 q0 q1 q2 q3 q4
              replace HQ := Lib.hid HQr.out.drew
              replace HR := Lib.hid HRr.out.drew
              replace HV := Lib.hid HVr.out.drew
              have hack : ackS ⟨mi, lm, 1, 0, []⟩ la = ⟨mi, lm, 1 + (k : Int), 0, ([] : List (List UInt8)).drop k⟩ := by
                unfold ackS
                simp only
                rw [HLM2.out, HK.out]
              have HACK := Lib.hid hack
              replace HRN := Lib.hid HRK.out.drew
              replace HM := Lib.hid ((HM.out.trans HMK.out).post (Chg.refl _ wr).drew)
              clear hack HBK HOW HRK HMK HALL HQr HRr HVr HRR HK HLM2
              generalize wr.drew = w6 at *
              generalize hdk : ([] : List (List UInt8)).drop k = l2 at *
              clear hdk
              obtain ⟨A9, m9, c9, hbp⟩ := RN.raw HRN.out
              obtain ⟨s0, s1, s2, s3, s4⟩ := rs_cells hbp
              obtain ⟨q0, q1, q2, q3, q4⟩ := rl_cells HQ.out
              have hw1 : IntKind.i64.wrap (0 + 1) = 0 + 1 := IntWalk.i64_in _ (by omega)
              by_cases hse : ls = 0 + 1
              case neg =>
                have te : (ls == 0 + 1) = false := by simpa using hse
                have HSE := Lib.hid hse
                clear hse hbp
                go_wp2_with fail
                go_region
                clear s0 s1 s2 s3 s4 q0 q1 q2 q3 q4
                replace HQ := Lib.hid HQ.out.drew
                replace HR := Lib.hid HR.out.drew
                replace HRN := Lib.hid HRN.out.drew
                replace HV := Lib.hid HV.out.drew
                replace HM := Lib.hid (HM.out.post (Chg.refl _ w6).drew)
                generalize w6.drew = w7 at *
                obtain ⟨u0, u1, u2⟩ := tk_free HR.out
                obtain ⟨x0, x1, x2⟩ := rk_cells HR.out
                obtain ⟨v0, v1, v2⟩ := rk_cells HV.out
                obtain ⟨r0, r1, r2, -, hcs⟩ := rk_put HR.out ⟨#[]⟩ false true
                have RR := Lib.hid (And.intro r0 (And.intro r1 r2))
                have HCS := Lib.hid hcs
                clear r0 r1 r2 hcs
                go_wp2_with fail
                obtain ⟨r0, r1, r2⟩ := RR.out
                exact bodyPost_ret (v := .tuple #[.agg (rkC ⟨#[]⟩ false true), .int .i64 0]) (by simp [results, Try.results43, go_sem, rkC, r0, r1, r2]) rfl (rtk_miss HLR.out (show ¬ lm < pe from by have := HST.out; omega) HPM.out (decide_eq_true (show pe < lm from HRES.out)) (if_pos (show pe < lm from HRES.out)) HSE.out ⟨rfl, ok, (by rw [HACK.out]; exact (HRN.out.chg HCS.out (by omega) (fun k hk => by have := HOK2.out k hk; omega))), (HM.out.put HCS.out (by omega))⟩)
              have te : (ls == 0 + 1) = true := by simpa using hse
              have HSE := Lib.hid hse
              clear hse hbp
              go_wp2_with fail
              go_region
              clear s0 s1 s2 s3 s4 q0 q1 q2 q3 q4
              replace HQ := Lib.hid HQ.out.drew
              replace HR := Lib.hid HR.out.drew
              replace HRN := Lib.hid HRN.out.drew
              replace HV := Lib.hid HV.out.drew
              replace HM := Lib.hid (HM.out.post (Chg.refl _ w6).drew)
              generalize w6.drew = w7 at *
              obtain ⟨A9, m9, c9, hbp⟩ := RN.raw HRN.out
              obtain ⟨s0, s1, s2, s3, s4⟩ := rs_cells hbp
              have g3 := hbp.frozen 3
              replace HRN := Lib.hid (HRN.out.got 1)
              have hc := (Chg.refl (fun k => k = q) w7).put q 3 (fun _ => rfl) (.int .i64 1)
              replace HQ := Lib.hid (HQ.out.chg hc (by omega))
              replace HR := Lib.hid (HR.out.chg hc (by omega))
              replace HV := Lib.hid (HV.out.chg hc (by omega))
              replace HM := Lib.hid (HM.out.trans ⟨hc.mono (fun k _ e => .inl e), .inl rfl⟩)
              clear hc hbp
              go_upto_region 19 with fail
              generalize w7.setCell ⟨q, 3, none⟩ (.int .i64 1) = w8 at *
              clear s0 s1 s2 s3 s4 g3
              obtain ⟨q0, q1, q2, q3, q4⟩ := rl_cells HQ.out
              obtain ⟨f0, f1, f2⟩ := tk_free HV.out
              obtain ⟨v0, v1, v2⟩ := rk_cells HV.out
              have hv10 : Blk ((w8.setCell ⟨hv, 0, none⟩ (.string sb)).setCell ⟨hv, 1, none⟩ (.bool true)) hv 98 (rkC sb true true) := (HV.out.set 0 (.string sb)).set 1 (.bool true)
              have hc := (((Chg.refl (fun k => k = hv) w8).put hv 0 (fun _ => rfl) (.string sb)).put hv 1 (fun _ => rfl) (.bool true))
              replace HQ := Lib.hid (HQ.out.chg hc (by omega))
              replace HR := Lib.hid (HR.out.chg hc (by omega))
              replace HRN := Lib.hid (HRN.out.chg hc (by omega) (fun k hk => by have := HOK2.out k hk; omega))
              replace HM := Lib.hid (HM.out.put hc (by omega))
              replace HV := Lib.hid hv10
              clear hc hv10
              go_upto_region 21 with fail
              generalize (w8.setCell ⟨hv, 0, none⟩ (.string sb)).setCell ⟨hv, 1, none⟩ (.bool true) = w10 at *
              clear v0 v1 v2 f0 f1 f2 q0 q1 q2 q3 q4
              obtain ⟨u0, u1, u2⟩ := tk_free HR.out
              obtain ⟨x0, x1, x2⟩ := rk_cells HR.out
              obtain ⟨v0, v1, v2⟩ := rk_cells HV.out
              obtain ⟨r0, r1, r2, -, hcs⟩ := rk_put HR.out sb true true
              have RR := Lib.hid (And.intro r0 (And.intro r1 r2))
              have HCS := Lib.hid hcs
              clear r0 r1 r2 hcs
              go_wp2_with fail
              obtain ⟨r0, r1, r2⟩ := RR.out
              exact bodyPost_ret (v := .tuple #[.agg (rkC sb true true), .int .i64 0]) (by simp [results, Try.results43, go_sem, rkC, r0, r1, r2]) rfl (rtk_hit HLR.out (show ¬ lm < pe from by have := HST.out; omega) HPM.out (decide_eq_true (show pe < lm from HRES.out)) (if_pos (show pe < lm from HRES.out)) HSE.out ⟨by rw [HSB.out], ok, (by rw [HACK.out]; simp only [show ls = 1 from by have := HSE.out; omega]; exact (HRN.out.chg HCS.out (by omega) (fun k hk => by have := HOK2.out k hk; omega))), (HM.out.put HCS.out (by omega))⟩)
          · have HK := Lib.hid (show ackK 1 la m = k from by
              have h1 := HALL.out
              have h2 := HRR.out
              unfold ackK
              rcases Nat.eq_zero_or_pos k with h0 | h0
              · omega
              · have := h1 (k - 1) (by omega)
                omega)
            go_upto_region 14 with fail
            go_region
            clear s0 s1 s2 s3 s4 q0 q1 q2 q3 q4
            replace HQ := Lib.hid HQr.out.drew
            replace HR := Lib.hid HRr.out.drew
            replace HV := Lib.hid HVr.out.drew
            have hack : ackS ⟨mi, lm, 1, 0, []⟩ la = ⟨mi, lm, 1 + (k : Int), 0, ([] : List (List UInt8)).drop k⟩ := by
              unfold ackS
              simp only
              rw [HLM2.out, HK.out]
            have HACK := Lib.hid hack
            replace HRN := Lib.hid HRK.out.drew
            replace HM := Lib.hid ((HM.out.trans HMK.out).post (Chg.refl _ wr).drew)
            clear hack HBK HOW HRK HMK HALL HQr HRr HVr HRR HK HLM2
            generalize wr.drew = w6 at *
            generalize hdk : ([] : List (List UInt8)).drop k = l2 at *
            clear hdk
            obtain ⟨A9, m9, c9, hbp⟩ := RN.raw HRN.out
            obtain ⟨s0, s1, s2, s3, s4⟩ := rs_cells hbp
            obtain ⟨q0, q1, q2, q3, q4⟩ := rl_cells HQ.out
            have hw1 : IntKind.i64.wrap (0 + 1) = 0 + 1 := IntWalk.i64_in _ (by omega)
            by_cases hse : ls = 0 + 1
            case neg =>
              have te : (ls == 0 + 1) = false := by simpa using hse
              have HSE := Lib.hid hse
              clear hse hbp
              go_wp2_with fail
              go_region
              clear s0 s1 s2 s3 s4 q0 q1 q2 q3 q4
              replace HQ := Lib.hid HQ.out.drew
              replace HR := Lib.hid HR.out.drew
              replace HRN := Lib.hid HRN.out.drew
              replace HV := Lib.hid HV.out.drew
              replace HM := Lib.hid (HM.out.post (Chg.refl _ w6).drew)
              generalize w6.drew = w7 at *
              obtain ⟨u0, u1, u2⟩ := tk_free HR.out
              obtain ⟨x0, x1, x2⟩ := rk_cells HR.out
              obtain ⟨v0, v1, v2⟩ := rk_cells HV.out
              obtain ⟨r0, r1, r2, -, hcs⟩ := rk_put HR.out ⟨#[]⟩ false true
              have RR := Lib.hid (And.intro r0 (And.intro r1 r2))
              have HCS := Lib.hid hcs
              clear r0 r1 r2 hcs
              go_wp2_with fail
              obtain ⟨r0, r1, r2⟩ := RR.out
              exact bodyPost_ret (v := .tuple #[.agg (rkC ⟨#[]⟩ false true), .int .i64 0]) (by simp [results, Try.results43, go_sem, rkC, r0, r1, r2]) rfl (rtk_miss HLR.out (show ¬ lm < pe from by have := HST.out; omega) HPM.out (decide_eq_true (show pe < lm from HRES.out)) (if_pos (show pe < lm from HRES.out)) HSE.out ⟨rfl, ok, (by rw [HACK.out]; exact (HRN.out.chg HCS.out (by omega) (fun k hk => by have := HOK2.out k hk; omega))), (HM.out.put HCS.out (by omega))⟩)
            have te : (ls == 0 + 1) = true := by simpa using hse
            have HSE := Lib.hid hse
            clear hse hbp
            go_wp2_with fail
            go_region
            clear s0 s1 s2 s3 s4 q0 q1 q2 q3 q4
            replace HQ := Lib.hid HQ.out.drew
            replace HR := Lib.hid HR.out.drew
            replace HRN := Lib.hid HRN.out.drew
            replace HV := Lib.hid HV.out.drew
            replace HM := Lib.hid (HM.out.post (Chg.refl _ w6).drew)
            generalize w6.drew = w7 at *
            obtain ⟨A9, m9, c9, hbp⟩ := RN.raw HRN.out
            obtain ⟨s0, s1, s2, s3, s4⟩ := rs_cells hbp
            have g3 := hbp.frozen 3
            replace HRN := Lib.hid (HRN.out.got 1)
            have hc := (Chg.refl (fun k => k = q) w7).put q 3 (fun _ => rfl) (.int .i64 1)
            replace HQ := Lib.hid (HQ.out.chg hc (by omega))
            replace HR := Lib.hid (HR.out.chg hc (by omega))
            replace HV := Lib.hid (HV.out.chg hc (by omega))
            replace HM := Lib.hid (HM.out.trans ⟨hc.mono (fun k _ e => .inl e), .inl rfl⟩)
            clear hc hbp
            go_upto_region 19 with fail
            generalize w7.setCell ⟨q, 3, none⟩ (.int .i64 1) = w8 at *
            clear s0 s1 s2 s3 s4 g3
            obtain ⟨q0, q1, q2, q3, q4⟩ := rl_cells HQ.out
            obtain ⟨f0, f1, f2⟩ := tk_free HV.out
            obtain ⟨v0, v1, v2⟩ := rk_cells HV.out
            have hv10 : Blk ((w8.setCell ⟨hv, 0, none⟩ (.string sb)).setCell ⟨hv, 1, none⟩ (.bool true)) hv 98 (rkC sb true true) := (HV.out.set 0 (.string sb)).set 1 (.bool true)
            have hc := (((Chg.refl (fun k => k = hv) w8).put hv 0 (fun _ => rfl) (.string sb)).put hv 1 (fun _ => rfl) (.bool true))
            replace HQ := Lib.hid (HQ.out.chg hc (by omega))
            replace HR := Lib.hid (HR.out.chg hc (by omega))
            replace HRN := Lib.hid (HRN.out.chg hc (by omega) (fun k hk => by have := HOK2.out k hk; omega))
            replace HM := Lib.hid (HM.out.put hc (by omega))
            replace HV := Lib.hid hv10
            clear hc hv10
            go_upto_region 21 with fail
            generalize (w8.setCell ⟨hv, 0, none⟩ (.string sb)).setCell ⟨hv, 1, none⟩ (.bool true) = w10 at *
            clear v0 v1 v2 f0 f1 f2 q0 q1 q2 q3 q4
            obtain ⟨u0, u1, u2⟩ := tk_free HR.out
            obtain ⟨x0, x1, x2⟩ := rk_cells HR.out
            obtain ⟨v0, v1, v2⟩ := rk_cells HV.out
            obtain ⟨r0, r1, r2, -, hcs⟩ := rk_put HR.out sb true true
            have RR := Lib.hid (And.intro r0 (And.intro r1 r2))
            have HCS := Lib.hid hcs
            clear r0 r1 r2 hcs
            go_wp2_with fail
            obtain ⟨r0, r1, r2⟩ := RR.out
            exact bodyPost_ret (v := .tuple #[.agg (rkC sb true true), .int .i64 0]) (by simp [results, Try.results43, go_sem, rkC, r0, r1, r2]) rfl (rtk_hit HLR.out (show ¬ lm < pe from by have := HST.out; omega) HPM.out (decide_eq_true (show pe < lm from HRES.out)) (if_pos (show pe < lm from HRES.out)) HSE.out ⟨by rw [HSB.out], ok, (by rw [HACK.out]; simp only [show ls = 1 from by have := HSE.out; omega]; exact (HRN.out.chg HCS.out (by omega) (fun k hk => by have := HOK2.out k hk; omega))), (HM.out.put HCS.out (by omega))⟩)
      · have HRES := Lib.hid hres
        have tres : decide (pe < lm) = false := decide_eq_false hres
        go_region
        clear s0 s1 s2 s3 s4 q0 q1 q2 q3 q4
        replace HQ := Lib.hid HQ.out.drew
        replace HR := Lib.hid HR.out.drew
        replace HRN := Lib.hid HRN.out.drew
        replace HM := Lib.hid (HM.out.post (Chg.refl _ w2).drew)
        generalize w2.drew = w3 at *
        obtain ⟨A9, m9, c9, hbp⟩ := RN.raw HRN.out
        obtain ⟨s0, s1, s2, s3, s4⟩ := rs_cells hbp
        obtain ⟨q0, q1, q2, q3, q4⟩ := rl_cells HQ.out
        have hba : Blk (w3.alloc (.cells #[.string ⟨#[]⟩, .bool false, .bool false] 98)) q 53 (rsC mi pe nx go A9 m9 c9) := hbp.alloc _
        have hqa : Blk (w3.alloc (.cells #[.string ⟨#[]⟩, .bool false, .bool false] 98)) w.heap.size 28 (rlC lm lp la ls sb) := HQ.out.alloc _
        obtain ⟨-, t1, -, -, -⟩ := rs_cells hba
        obtain ⟨k0, -, -, -, -⟩ := rl_cells hqa
        clear hbp hba hqa
        go_wp2_with fail
        go_region
        clear s0 s1 s2 s3 s4 q0 q1 q2 q3 q4 t1 k0
        have hhv : w.heap.size + 1 < w3.heap.size := HR.out.lt
        have HV : Hid (Blk (w3.alloc (.cells #[.string ⟨#[]⟩, .bool false, .bool false] 98)) w3.heap.size 98 (rkC ⟨#[]⟩ false false)) := Lib.hid (blk_new rfl)
        have hc := (Chg.refl (fun _ => False) w3).alloc (.cells #[.string ⟨#[]⟩, .bool false, .bool false] 98)
        replace HQ := Lib.hid (HQ.out.chg hc id)
        replace HR := Lib.hid (HR.out.chg hc id)
        replace HRN := Lib.hid (HRN.out.new hc)
        replace HM := Lib.hid (HM.out.post hc)
        clear hc
        generalize w3.alloc (.cells #[.string ⟨#[]⟩, .bool false, .bool false] 98) = w34 at *
        generalize w3.heap.size = hv at *
        replace HQ := Lib.hid HQ.out.drew
        replace HR := Lib.hid HR.out.drew
        replace HRN := Lib.hid HRN.out.drew
        replace HV := Lib.hid HV.out.drew
        replace HM := Lib.hid (HM.out.post (Chg.refl _ w34).drew)
        generalize w34.drew = w4 at *
        have HOY := HOO
        obtain ⟨v0, v1, v2⟩ := rk_cells HV.out
        go_upto_region 12 with fail
        clear v0 v1 v2
        obtain ⟨A9, m9, c9, hbp⟩ := RN.raw HRN.out
        obtain ⟨s0, s1, s2, s3, s4⟩ := rs_cells hbp
        obtain ⟨q0, q1, q2, q3, q4⟩ := rl_cells HQ.out
        clear hbp
        by_cases hpm : lp = mi
        case neg =>
          have tp : (lp == mi) = false := by simpa using hpm
          have tp2 : (lp != mi) = true := by simpa using hpm
          have HPM := Lib.hid hpm
          clear hpm
          go_region
          clear s0 s1 s2 s3 s4 q0 q1 q2 q3 q4
          replace HQ := Lib.hid HQ.out.drew
          replace HR := Lib.hid HR.out.drew
          replace HRN := Lib.hid HRN.out.drew
          replace HV := Lib.hid HV.out.drew
          replace HM := Lib.hid (HM.out.post (Chg.refl _ w4).drew)
          generalize w4.drew = w5 at *
          obtain ⟨u0, u1, u2⟩ := tk_free HR.out
          obtain ⟨x0, x1, x2⟩ := rk_cells HR.out
          obtain ⟨v0, v1, v2⟩ := rk_cells HV.out
          obtain ⟨r0, r1, r2, -, hcs⟩ := rk_put HR.out ⟨#[]⟩ false false
          have RR := Lib.hid (And.intro r0 (And.intro r1 r2))
          have HCS := Lib.hid hcs
          clear r0 r1 r2 hcs
          go_wp2_with fail
          obtain ⟨r0, r1, r2⟩ := RR.out
          exact bodyPost_ret (v := .tuple #[.agg (rkC ⟨#[]⟩ false false), .int .i64 0]) (by simp [results, Try.results43, go_sem, rkC, r0, r1, r2]) rfl (rtk_other HLR.out (show ¬ lm < pe from by have := HST.out; omega) HPM.out (decide_eq_false (show ¬ pe < lm from by have := HRES.out; omega)) (if_neg (show ¬ pe < lm from by have := HRES.out; omega)) ⟨rfl, o, (HRN.out.chg HCS.out (by omega) (fun k hk => by have := HOY.out k hk; omega)), (HM.out.put HCS.out (by omega))⟩)
        have tp : (lp == mi) = true := by simpa using hpm
        have tp2 : (lp != mi) = false := by simpa using hpm
        have HPM := Lib.hid hpm
        clear hpm
        go_region
        clear s0 s1 s2 s3 s4 q0 q1 q2 q3 q4
        replace HQ := Lib.hid HQ.out.drew
        replace HR := Lib.hid HR.out.drew
        replace HRN := Lib.hid HRN.out.drew
        replace HV := Lib.hid HV.out.drew
        replace HM := Lib.hid (HM.out.post (Chg.refl _ w4).drew)
        generalize w4.drew = w5 at *
        go_wp2_with fail
        generalize hlm2 : (l : List (List UInt8)).length = m at *
        have HLM2 := Lib.hid hlm2
        clear hlm2
        go_loopg [] m (fun g wr => ∃ (k : Nat) (ok : Option Nat), g = m - k ∧ k ≤ m ∧ Hid (∀ j : Nat, j < k → nx + (j : Int) ≤ la) ∧ Hid (RN wr q ok ⟨mi, pe, nx + (k : Int), go, (l : List (List UInt8)).drop k⟩) ∧ Hid (Mvd q o ok w5 wr))
        case atStart => exact ⟨0, o, rfl, Nat.zero_le _, Lib.hid (fun j hj => absurd hj (Nat.not_lt_zero _)), Lib.hid (by simpa using HRN.out), Lib.hid (Mvd.refl _ _ _)⟩
        case round =>
          obtain ⟨k, ok, rfl, hk, HALL, HRK, HMK⟩ := hrel
          obtain ⟨A', c', hbk, hownk, hof, hnek⟩ := HRK.out
          simp only at hbk hownk
          rw [show ((l : List (List UInt8)).drop k).length = m - k from by rw [List.length_drop]; have := HLM2.out; omega] at hbk hownk
          have HQr := Lib.hid (HQ.out.chg HMK.out.1 (fun e => e.elim (fun e => by omega) (fun e => by have := HOY.out _ e; omega)))
          have HRr := Lib.hid (HR.out.chg HMK.out.1 (fun e => e.elim (fun e => by omega) (fun e => by have := HOY.out _ e; omega)))
          have HVr := Lib.hid (HV.out.chg HMK.out.1 (fun e => e.elim (fun e => by omega) (fun e => by have := HOY.out _ e; omega)))
          have hvlt : hv < w5.heap.size := HV.out.lt
          generalize hr : m - k = r at *
          have HRR := Lib.hid hr
          have hr64 : r ≤ 64 := by omega
          obtain ⟨s0, s1, s2, s3, s4⟩ := rs_cells hbk
          obtain ⟨q0, q1, q2, q3, q4⟩ := rl_cells HQr.out
          have hcap := own_cap hownk
          have hcm : c' ≤ 9223372036854775807 := hcap.2
          have hrc : r ≤ c' := hcap.1
          have HBK := Lib.hid hbk
          have HOW := Lib.hid hownk
          have HOF := Lib.hid (And.intro hof hnek)
          have HOK2 := Lib.hid (show ∀ j, ok = some j → j ≠ w.heap.size ∧ j ≠ w.heap.size + 1 ∧ j ≠ hv from fun j hj => by
            have h5 : w.heap.size + 1 < hv := by omega
            rcases HMK.out.2 with e | e | ⟨j2, e, hj2⟩
            · have := HOY.out j (by rw [← e]; exact hj)
              omega
            · rw [e] at hj; cases hj
            · rw [e] at hj
              injection hj with hj
              omega)
          clear hbk hownk hof hnek hr hcap
          by_cases hr0 : 0 < r
          · by_cases hle : nx + (k : Int) ≤ la
            · have HLE := Lib.hid hle
              obtain ⟨g, hAg⟩ : ∃ g, A' = some ⟨g, 0, none⟩ := by
                rcases HOW.out.2 with ⟨hv0, h0⟩ | ⟨g, cap, cur, hv0, _⟩
                · omega
                · injection hv0 with hv0
                  exact ⟨g, hv0⟩
              subst hAg
              go_upto_region 14 with fail
              go_region
              clear s0 s1 s2 s3 s4 q0 q1 q2 q3 q4
              replace HBK := Lib.hid HBK.out.drew
              have hoj : ∀ W : World, World.ownsRow W 0 9 1 (.slice (some ⟨g, 0, none⟩) r c') r (strs ((l : List (List UInt8)).drop k)) → World.ownsRow W.drew 0 9 1 (.slice (some ⟨g, 0, none⟩) r c') r (strs ((l : List (List UInt8)).drop k)) := fun W h => h
              replace HOW := Lib.hid (hoj _ HOW.out)
              replace HMK := Lib.hid (HMK.out.post (Chg.refl _ wr).drew)
              clear hoj HRK HQr HRr HVr
              generalize wr.drew = wd at *
              obtain ⟨s0, s1, s2, s3, s4⟩ := rs_cells HBK.out
              have hdr := ((own_rds2 HOW.out).drop 1 c' hr0 hrc).alloc (.cells #[] 9)
              rw [show (some ⟨g, 0, none⟩ : Option Addr).map (·.add 1) = some ⟨g, 1, none⟩ from rfl] at hdr
              have hba : Blk (wd.alloc (.cells #[] 9)) q 53 (rsC mi pe (nx + (k : Int)) go (some ⟨g, 0, none⟩) r c') := HBK.out.alloc _
              obtain ⟨-, -, -, -, t4⟩ := rs_cells hba
              have hmade := World.ownsRow_made (e := 9) (size := 1) wd #[] 0 (Nat.le_refl _) (by decide) rfl
              have HDR := Lib.hid hdr
              have HMADE := Lib.hid hmade
              have HBA := Lib.hid hba
              have hgq : ok ≠ some q := HOF.out.2
              clear hdr hmade hba
              go_upto_region 16 with (at_builtin; (refine wpList_own_append _ rfl (.tmp 69) (.tmp 74) 51 rfl wd.heap.size 9 i0 _ 16 Try.underlying51 hi0 hz0 hz1 hz2 rfl (.slice (some ⟨wd.heap.size, 0, none⟩) 0 0) 0 [] rfl HMADE.out _ _ (r - 1) (c' - 1) ((strs ((l : List (List UInt8)).drop k)).drop 1) rfl HDR.out (fun u hu => strs_one _ u (List.mem_of_mem_drop hu)) (by unfold maxLen; omega) (by omega) (by simp) ?_; intro v5 w9 hown5 hg5 hat5; simp only [Nat.zero_add, List.nil_append] at hown5; obtain ⟨A5, c5, rfl, _, _⟩ := own_form hown5; have hb9 := blk_grown HBA.out hg5 (by simp only [Value.ownBlock]; intro e; injection e with e; have := HBK.out.lt; omega); have g4 := hb9.frozen 4; have z4 := (rs_cells hb9).2.2.2.2; have HB9 := Lib.hid hb9; have HO9 := Lib.hid hown5; have HG9 := Lib.hid (And.intro hg5 hat5); clear hown5 hg5 hat5 hb9; generalize (if c' = 1 then (some (⟨g, 0, none⟩ : Addr) : Option Addr) else some ⟨g, 1, none⟩) = A24 at *))
              have hb10 : Blk (w9.setCell ⟨q, 4, none⟩ (.slice A5 (r - 1) c5)) q 53 (rsC mi pe (nx + (k : Int)) go A5 (r - 1) c5) := HB9.out.set 4 (.slice A5 (r - 1) c5)
              have hq9 : q < wd.heap.size := HBK.out.lt
              have hA5 : ∀ j, A5.map (·.block) = some j → wd.heap.size ≤ j := fun j hj => (HO9.out.lt j (by rw [own_block]; exact hj)).1
              have hown10 := own_chg HO9.out ((Chg.refl (fun j => j = q) w9).put q 4 (fun _ => rfl) (.slice A5 (r - 1) c5)) (fun j hj e => by have := hA5 j hj; omega)
              have hc10 : Chg (fun j => j = q) wd (w9.setCell ⟨q, 4, none⟩ (.slice A5 (r - 1) c5)) := ((((Chg.refl (fun _ => False) wd).alloc (.cells #[] 9)).mono (S' := fun j => j = q) (fun _ _ h => h.elim)).grown HG9.out.1 (fun j hj hl => by simp only [Value.ownBlock, Option.some.injEq] at hj; omega)).put q 4 (fun _ => rfl) _
              have HB10 := Lib.hid hb10
              have HO10 := Lib.hid hown10
              have HC10 := Lib.hid hc10
              have HA5 := Lib.hid hA5
              clear hb10 hown10 hc10 hA5 HB9 HO9 HG9 HBA HMADE HDR z4 g4 t4 s0 s1 s2 s3 s4
              generalize w9.setCell ⟨q, 4, none⟩ (.slice A5 (r - 1) c5) = w10 at *
              obtain ⟨s0, s1, s2, s3, s4⟩ := rs_cells HB10.out
              have g2 := HB10.out.frozen 2
              have hw1 : IntKind.i64.wrap (nx + (k : Int) + 1) = nx + (k : Int) + 1 := IntWalk.i64_in _ (by omega)
              go_wp2_with fail
              have hb11 : Blk (w10.setCell ⟨q, 2, none⟩ (.int .i64 (nx + (k : Int) + 1))) q 53 (rsC mi pe (nx + (k : Int) + 1) go A5 (r - 1) c5) := HB10.out.set 2 (.int .i64 (nx + (k : Int) + 1))
              have hc11 := (Chg.refl (fun j => j = q) w10).put q 2 (fun _ => rfl) (.int .i64 (nx + (k : Int) + 1))
              have HB11 := Lib.hid hb11
              have HC11 := Lib.hid hc11
              clear hb11 hc11 s0 s1 s2 s3 s4 g2
              generalize w10.setCell ⟨q, 2, none⟩ (.int .i64 (nx + (k : Int) + 1)) = w11 at *
              go_roundg (m - (k + 1))
              case measure => have := HRR.out; omega
              case rel =>
                have hrr := HRR.out
                refine ⟨k + 1, A5.map (·.block), rfl, by omega, Lib.hid (fun j hj => ?_), Lib.hid ?_, Lib.hid ?_⟩
                · rcases Nat.lt_or_ge j k with hjk | hjk
                  · exact HALL.out j hjk
                  · have e : j = k := by omega
                    subst e
                    exact HLE.out
                · have e1 : ((l : List (List UInt8)).drop (k + 1)).length = r - 1 := by rw [List.length_drop]; have := HLM2.out; omega
                  have e2 : strs ((l : List (List UInt8)).drop (k + 1)) = (strs ((l : List (List UInt8)).drop k)).drop 1 := by unfold strs; rw [← List.map_drop, List.drop_drop]
                  refine ⟨A5, c5, ?_, ?_, rfl, ?_⟩
                  · show Blk _ _ _ (rsC mi pe (nx + ((k + 1 : Nat) : Int)) go A5 ((l : List (List UInt8)).drop (k + 1)).length c5)
                    rw [e1, show nx + ((k + 1 : Nat) : Int) = nx + (k : Int) + 1 from by omega]
                    exact HB11.out
                  · show World.ownsRow _ _ _ _ (.slice A5 ((l : List (List UInt8)).drop (k + 1)).length c5) ((l : List (List UInt8)).drop (k + 1)).length _
                    rw [e1, e2]
                    exact own_chg (own_base HO10.out (Nat.zero_le _)) HC11.out (fun j hj e => by have := HA5.out j hj; omega)
                  · intro e
                    have := HA5.out q e
                    omega
                · refine Mvd.trans HMK.out ⟨(HC10.out.trans HC11.out (fun _ _ e => e)).mono (fun j _ e => .inl e), ?_⟩
                  by_cases hA5n : A5.map (·.block) = none
                  · exact .inr (.inl hA5n)
                  · obtain ⟨j, hj⟩ := Option.ne_none_iff_exists'.1 hA5n
                    exact .inr (.inr ⟨j, hj, HA5.out j hj⟩)
            · have HK := Lib.hid (show ackK nx la m = k from by
                have h1 := HALL.out
                have h2 := HRR.out
                unfold ackK
                rcases Nat.eq_zero_or_pos k with h0 | h0
                · omega
                · have := h1 (k - 1) (by omega)
                  omega)
              go_upto_region 14 with fail
              go_region
              clear s0 s1 s2 s3 s4 q0 q1 q2 q3 q4
              replace HQ := Lib.hid HQr.out.drew
              replace HR := Lib.hid HRr.out.drew
              replace HV := Lib.hid HVr.out.drew
              have hack : ackS ⟨mi, pe, nx, go, l⟩ la = ⟨mi, pe, nx + (k : Int), go, (l : List (List UInt8)).drop k⟩ := by
                unfold ackS
                simp only
                rw [HLM2.out, HK.out]
              have HACK := Lib.hid hack
              replace HRN := Lib.hid HRK.out.drew
              replace HM := Lib.hid ((HM.out.trans HMK.out).post (Chg.refl _ wr).drew)
              clear hack HBK HOW HRK HMK HALL HQr HRr HVr HRR HK HLM2
              generalize wr.drew = w6 at *
              generalize hdk : (l : List (List UInt8)).drop k = l2 at *
              clear hdk
              obtain ⟨A9, m9, c9, hbp⟩ := RN.raw HRN.out
              obtain ⟨s0, s1, s2, s3, s4⟩ := rs_cells hbp
              obtain ⟨q0, q1, q2, q3, q4⟩ := rl_cells HQ.out
              have hw1 : IntKind.i64.wrap (go + 1) = go + 1 := IntWalk.i64_in _ (by omega)
              by_cases hse : ls = go + 1
              case neg =>
                have te : (ls == go + 1) = false := by simpa using hse
                have HSE := Lib.hid hse
                clear hse hbp
                go_wp2_with fail
                go_region
                clear s0 s1 s2 s3 s4 q0 q1 q2 q3 q4
                replace HQ := Lib.hid HQ.out.drew
                replace HR := Lib.hid HR.out.drew
                replace HRN := Lib.hid HRN.out.drew
                replace HV := Lib.hid HV.out.drew
                replace HM := Lib.hid (HM.out.post (Chg.refl _ w6).drew)
                generalize w6.drew = w7 at *
                obtain ⟨u0, u1, u2⟩ := tk_free HR.out
                obtain ⟨x0, x1, x2⟩ := rk_cells HR.out
                obtain ⟨v0, v1, v2⟩ := rk_cells HV.out
                obtain ⟨r0, r1, r2, -, hcs⟩ := rk_put HR.out ⟨#[]⟩ false false
                have RR := Lib.hid (And.intro r0 (And.intro r1 r2))
                have HCS := Lib.hid hcs
                clear r0 r1 r2 hcs
                go_wp2_with fail
                obtain ⟨r0, r1, r2⟩ := RR.out
                exact bodyPost_ret (v := .tuple #[.agg (rkC ⟨#[]⟩ false false), .int .i64 0]) (by simp [results, Try.results43, go_sem, rkC, r0, r1, r2]) rfl (rtk_miss HLR.out (show ¬ lm < pe from by have := HST.out; omega) HPM.out (decide_eq_false (show ¬ pe < lm from by have := HRES.out; omega)) (if_neg (show ¬ pe < lm from by have := HRES.out; omega)) HSE.out ⟨rfl, ok, (by rw [HACK.out]; exact (HRN.out.chg HCS.out (by omega) (fun k hk => by have := HOK2.out k hk; omega))), (HM.out.put HCS.out (by omega))⟩)
              have te : (ls == go + 1) = true := by simpa using hse
              have HSE := Lib.hid hse
              clear hse hbp
              go_wp2_with fail
              go_region
              clear s0 s1 s2 s3 s4 q0 q1 q2 q3 q4
              replace HQ := Lib.hid HQ.out.drew
              replace HR := Lib.hid HR.out.drew
              replace HRN := Lib.hid HRN.out.drew
              replace HV := Lib.hid HV.out.drew
              replace HM := Lib.hid (HM.out.post (Chg.refl _ w6).drew)
              generalize w6.drew = w7 at *
              obtain ⟨A9, m9, c9, hbp⟩ := RN.raw HRN.out
              obtain ⟨s0, s1, s2, s3, s4⟩ := rs_cells hbp
              have g3 := hbp.frozen 3
              replace HRN := Lib.hid (HRN.out.got (go + 1))
              have hc := (Chg.refl (fun k => k = q) w7).put q 3 (fun _ => rfl) (.int .i64 (go + 1))
              replace HQ := Lib.hid (HQ.out.chg hc (by omega))
              replace HR := Lib.hid (HR.out.chg hc (by omega))
              replace HV := Lib.hid (HV.out.chg hc (by omega))
              replace HM := Lib.hid (HM.out.trans ⟨hc.mono (fun k _ e => .inl e), .inl rfl⟩)
              clear hc hbp
              go_upto_region 19 with fail
              generalize w7.setCell ⟨q, 3, none⟩ (.int .i64 (go + 1)) = w8 at *
              clear s0 s1 s2 s3 s4 g3
              obtain ⟨q0, q1, q2, q3, q4⟩ := rl_cells HQ.out
              obtain ⟨f0, f1, f2⟩ := tk_free HV.out
              obtain ⟨v0, v1, v2⟩ := rk_cells HV.out
              have hv10 : Blk ((w8.setCell ⟨hv, 0, none⟩ (.string sb)).setCell ⟨hv, 1, none⟩ (.bool true)) hv 98 (rkC sb true false) := (HV.out.set 0 (.string sb)).set 1 (.bool true)
              have hc := (((Chg.refl (fun k => k = hv) w8).put hv 0 (fun _ => rfl) (.string sb)).put hv 1 (fun _ => rfl) (.bool true))
              replace HQ := Lib.hid (HQ.out.chg hc (by omega))
              replace HR := Lib.hid (HR.out.chg hc (by omega))
              replace HRN := Lib.hid (HRN.out.chg hc (by omega) (fun k hk => by have := HOK2.out k hk; omega))
              replace HM := Lib.hid (HM.out.put hc (by omega))
              replace HV := Lib.hid hv10
              clear hc hv10
              go_upto_region 21 with fail
              generalize (w8.setCell ⟨hv, 0, none⟩ (.string sb)).setCell ⟨hv, 1, none⟩ (.bool true) = w10 at *
              clear v0 v1 v2 f0 f1 f2 q0 q1 q2 q3 q4
              obtain ⟨u0, u1, u2⟩ := tk_free HR.out
              obtain ⟨x0, x1, x2⟩ := rk_cells HR.out
              obtain ⟨v0, v1, v2⟩ := rk_cells HV.out
              obtain ⟨r0, r1, r2, -, hcs⟩ := rk_put HR.out sb true false
              have RR := Lib.hid (And.intro r0 (And.intro r1 r2))
              have HCS := Lib.hid hcs
              clear r0 r1 r2 hcs
              go_wp2_with fail
              obtain ⟨r0, r1, r2⟩ := RR.out
              exact bodyPost_ret (v := .tuple #[.agg (rkC sb true false), .int .i64 0]) (by simp [results, Try.results43, go_sem, rkC, r0, r1, r2]) rfl (rtk_hit HLR.out (show ¬ lm < pe from by have := HST.out; omega) HPM.out (decide_eq_false (show ¬ pe < lm from by have := HRES.out; omega)) (if_neg (show ¬ pe < lm from by have := HRES.out; omega)) HSE.out ⟨by rw [HSB.out], ok, (by rw [HACK.out]; simp only [show ls = (go + 1) from by have := HSE.out; omega]; exact (HRN.out.chg HCS.out (by omega) (fun k hk => by have := HOK2.out k hk; omega))), (HM.out.put HCS.out (by omega))⟩)
          · have HK := Lib.hid (show ackK nx la m = k from by
              have h1 := HALL.out
              have h2 := HRR.out
              unfold ackK
              rcases Nat.eq_zero_or_pos k with h0 | h0
              · omega
              · have := h1 (k - 1) (by omega)
                omega)
            go_upto_region 14 with fail
            go_region
            clear s0 s1 s2 s3 s4 q0 q1 q2 q3 q4
            replace HQ := Lib.hid HQr.out.drew
            replace HR := Lib.hid HRr.out.drew
            replace HV := Lib.hid HVr.out.drew
            have hack : ackS ⟨mi, pe, nx, go, l⟩ la = ⟨mi, pe, nx + (k : Int), go, (l : List (List UInt8)).drop k⟩ := by
              unfold ackS
              simp only
              rw [HLM2.out, HK.out]
            have HACK := Lib.hid hack
            replace HRN := Lib.hid HRK.out.drew
            replace HM := Lib.hid ((HM.out.trans HMK.out).post (Chg.refl _ wr).drew)
            clear hack HBK HOW HRK HMK HALL HQr HRr HVr HRR HK HLM2
            generalize wr.drew = w6 at *
            generalize hdk : (l : List (List UInt8)).drop k = l2 at *
            clear hdk
            obtain ⟨A9, m9, c9, hbp⟩ := RN.raw HRN.out
            obtain ⟨s0, s1, s2, s3, s4⟩ := rs_cells hbp
            obtain ⟨q0, q1, q2, q3, q4⟩ := rl_cells HQ.out
            have hw1 : IntKind.i64.wrap (go + 1) = go + 1 := IntWalk.i64_in _ (by omega)
            by_cases hse : ls = go + 1
            case neg =>
              have te : (ls == go + 1) = false := by simpa using hse
              have HSE := Lib.hid hse
              clear hse hbp
              go_wp2_with fail
              go_region
              clear s0 s1 s2 s3 s4 q0 q1 q2 q3 q4
              replace HQ := Lib.hid HQ.out.drew
              replace HR := Lib.hid HR.out.drew
              replace HRN := Lib.hid HRN.out.drew
              replace HV := Lib.hid HV.out.drew
              replace HM := Lib.hid (HM.out.post (Chg.refl _ w6).drew)
              generalize w6.drew = w7 at *
              obtain ⟨u0, u1, u2⟩ := tk_free HR.out
              obtain ⟨x0, x1, x2⟩ := rk_cells HR.out
              obtain ⟨v0, v1, v2⟩ := rk_cells HV.out
              obtain ⟨r0, r1, r2, -, hcs⟩ := rk_put HR.out ⟨#[]⟩ false false
              have RR := Lib.hid (And.intro r0 (And.intro r1 r2))
              have HCS := Lib.hid hcs
              clear r0 r1 r2 hcs
              go_wp2_with fail
              obtain ⟨r0, r1, r2⟩ := RR.out
              exact bodyPost_ret (v := .tuple #[.agg (rkC ⟨#[]⟩ false false), .int .i64 0]) (by simp [results, Try.results43, go_sem, rkC, r0, r1, r2]) rfl (rtk_miss HLR.out (show ¬ lm < pe from by have := HST.out; omega) HPM.out (decide_eq_false (show ¬ pe < lm from by have := HRES.out; omega)) (if_neg (show ¬ pe < lm from by have := HRES.out; omega)) HSE.out ⟨rfl, ok, (by rw [HACK.out]; exact (HRN.out.chg HCS.out (by omega) (fun k hk => by have := HOK2.out k hk; omega))), (HM.out.put HCS.out (by omega))⟩)
            have te : (ls == go + 1) = true := by simpa using hse
            have HSE := Lib.hid hse
            clear hse hbp
            go_wp2_with fail
            go_region
            clear s0 s1 s2 s3 s4 q0 q1 q2 q3 q4
            replace HQ := Lib.hid HQ.out.drew
            replace HR := Lib.hid HR.out.drew
            replace HRN := Lib.hid HRN.out.drew
            replace HV := Lib.hid HV.out.drew
            replace HM := Lib.hid (HM.out.post (Chg.refl _ w6).drew)
            generalize w6.drew = w7 at *
            obtain ⟨A9, m9, c9, hbp⟩ := RN.raw HRN.out
            obtain ⟨s0, s1, s2, s3, s4⟩ := rs_cells hbp
            have g3 := hbp.frozen 3
            replace HRN := Lib.hid (HRN.out.got (go + 1))
            have hc := (Chg.refl (fun k => k = q) w7).put q 3 (fun _ => rfl) (.int .i64 (go + 1))
            replace HQ := Lib.hid (HQ.out.chg hc (by omega))
            replace HR := Lib.hid (HR.out.chg hc (by omega))
            replace HV := Lib.hid (HV.out.chg hc (by omega))
            replace HM := Lib.hid (HM.out.trans ⟨hc.mono (fun k _ e => .inl e), .inl rfl⟩)
            clear hc hbp
            go_upto_region 19 with fail
            generalize w7.setCell ⟨q, 3, none⟩ (.int .i64 (go + 1)) = w8 at *
            clear s0 s1 s2 s3 s4 g3
            obtain ⟨q0, q1, q2, q3, q4⟩ := rl_cells HQ.out
            obtain ⟨f0, f1, f2⟩ := tk_free HV.out
            obtain ⟨v0, v1, v2⟩ := rk_cells HV.out
            have hv10 : Blk ((w8.setCell ⟨hv, 0, none⟩ (.string sb)).setCell ⟨hv, 1, none⟩ (.bool true)) hv 98 (rkC sb true false) := (HV.out.set 0 (.string sb)).set 1 (.bool true)
            have hc := (((Chg.refl (fun k => k = hv) w8).put hv 0 (fun _ => rfl) (.string sb)).put hv 1 (fun _ => rfl) (.bool true))
            replace HQ := Lib.hid (HQ.out.chg hc (by omega))
            replace HR := Lib.hid (HR.out.chg hc (by omega))
            replace HRN := Lib.hid (HRN.out.chg hc (by omega) (fun k hk => by have := HOK2.out k hk; omega))
            replace HM := Lib.hid (HM.out.put hc (by omega))
            replace HV := Lib.hid hv10
            clear hc hv10
            go_upto_region 21 with fail
            generalize (w8.setCell ⟨hv, 0, none⟩ (.string sb)).setCell ⟨hv, 1, none⟩ (.bool true) = w10 at *
            clear v0 v1 v2 f0 f1 f2 q0 q1 q2 q3 q4
            obtain ⟨u0, u1, u2⟩ := tk_free HR.out
            obtain ⟨x0, x1, x2⟩ := rk_cells HR.out
            obtain ⟨v0, v1, v2⟩ := rk_cells HV.out
            obtain ⟨r0, r1, r2, -, hcs⟩ := rk_put HR.out sb true false
            have RR := Lib.hid (And.intro r0 (And.intro r1 r2))
            have HCS := Lib.hid hcs
            clear r0 r1 r2 hcs
            go_wp2_with fail
            obtain ⟨r0, r1, r2⟩ := RR.out
            exact bodyPost_ret (v := .tuple #[.agg (rkC sb true false), .int .i64 0]) (by simp [results, Try.results43, go_sem, rkC, r0, r1, r2]) rfl (rtk_hit HLR.out (show ¬ lm < pe from by have := HST.out; omega) HPM.out (decide_eq_false (show ¬ pe < lm from by have := HRES.out; omega)) (if_neg (show ¬ pe < lm from by have := HRES.out; omega)) HSE.out ⟨by rw [HSB.out], ok, (by rw [HACK.out]; simp only [show ls = (go + 1) from by have := HSE.out; omega]; exact (HRN.out.chg HCS.out (by omega) (fun k hk => by have := HOK2.out k hk; omega))), (HM.out.put HCS.out (by omega))⟩)

end Go.Proofs.Ytbbjecjhkjjbkaa
