/-
  Walk: session.Session's Take, on nil too. Conditions: the session lies in memory, its queue has at most 64 bodies, of at most 1000 bytes; the letter's body is read in memory, apart from the session.
-/
import Derived.Test.YtbbjecjhkjjbkaaGi
namespace Go.Proofs.Ytbbjecjhkjjbkaa
open Go.RowKit
set_option linter.unusedVariables false
set_option linter.unusedSimpArgs false

/-- A Taken's cells. -/
def tkC (A : Option Addr) (n c : Nat) (g r : Bool) : Array Value := #[.slice A n c, .bool g, .bool r]
theorem tk_cells {w : World} {v : Nat} {T : TypeId} {A : Option Addr} {n c : Nat} {g r : Bool} (h : Blk w v T (tkC A n c g r)) :
    w.cell? ⟨v, 0, none⟩ = some (.slice A n c) ∧ w.cell? ⟨v, 1, none⟩ = some (.bool g) ∧ w.cell? ⟨v, 2, none⟩ = some (.bool r) := by
  have h0 := h.cell 0
  have h1 := h.cell 1
  have h2 := h.cell 2
  simp only [tkC, List.getElem?_toArray, List.getElem?_cons_zero, List.getElem?_cons_succ] at h0 h1 h2
  exact ⟨h0, h1, h2⟩
theorem tk_free {w : World} {v : Nat} {T : TypeId} {cs : Array Value} (hb : Blk w v T cs) : w.frozen? ⟨v, 0, none⟩ = false ∧ w.frozen? ⟨v, 1, none⟩ = false ∧ w.frozen? ⟨v, 2, none⟩ = false := ⟨hb.frozen 0, hb.frozen 1, hb.frozen 2⟩
theorem tk_put {w : World} {v : Nat} {T : TypeId} {A : Option Addr} {n c : Nat} {g r : Bool} (hb : Blk w v T (tkC A n c g r)) (A' : Option Addr) (n' c' : Nat) (g' r' : Bool) :
    (w.setCell ⟨v, 0, none⟩ (.slice A' n' c')).cell? ⟨v, 0, none⟩ = some (.slice A' n' c') ∧
    ((w.setCell ⟨v, 0, none⟩ (.slice A' n' c')).setCell ⟨v, 1, none⟩ (.bool g')).cell? ⟨v, 1, none⟩ = some (.bool g') ∧
    (((w.setCell ⟨v, 0, none⟩ (.slice A' n' c')).setCell ⟨v, 1, none⟩ (.bool g')).setCell ⟨v, 2, none⟩ (.bool r')).cell? ⟨v, 2, none⟩ = some (.bool r') ∧
    Blk (((w.setCell ⟨v, 0, none⟩ (.slice A' n' c')).setCell ⟨v, 1, none⟩ (.bool g')).setCell ⟨v, 2, none⟩ (.bool r')) v T (tkC A' n' c' g' r') ∧ Chg (fun k => k = v) w (((w.setCell ⟨v, 0, none⟩ (.slice A' n' c')).setCell ⟨v, 1, none⟩ (.bool g')).setCell ⟨v, 2, none⟩ (.bool r')) := by
  have h0 := (hb.set 0 (.slice A' n' c'))
  have r0 := h0.cell 0
  have h1 := ((hb.set 0 (.slice A' n' c')).set 1 (.bool g'))
  have r1 := h1.cell 1
  have h2 := (((hb.set 0 (.slice A' n' c')).set 1 (.bool g')).set 2 (.bool r'))
  have r2 := h2.cell 2
  simp only [tkC, List.setIfInBounds_toArray, List.set_cons_succ, List.set_cons_zero, List.getElem?_toArray, List.getElem?_cons_zero, List.getElem?_cons_succ] at r0 r1 r2 h2
  exact ⟨r0, r1, r2, h2, ((((Chg.refl (fun k => k = v) w).put v 0 (fun _ => rfl) _).put v 1 (fun _ => rfl) _).put v 2 (fun _ => rfl) _)⟩

/-- What Take makes of a session, and tells. -/
def tkS1 (x : SV) (l : LV) : SV := if x.pe < l.mi then ⟨x.mi, l.mi, 1, 0, []⟩ else x
def tkS2 (x : SV) (l : LV) : SV := if l.pe = x.mi then ackS (tkS1 x l) l.ac else tkS1 x l
def tkHit (x : SV) (l : LV) : Bool := decide (l.pe = x.mi) && decide (l.se = (tkS1 x l).go + 1)
def tkOk (x : SV) (l : LV) : Bool := ltR l.mi l.pe l.ac l.se l.b.length && decide (x.pe ≤ l.mi)
def tkE (x : SV) (l : LV) : Int := if ltR l.mi l.pe l.ac l.se l.b.length = true then (if l.mi < x.pe then 7 else 0) else 1
def tkS (x : SV) (l : LV) : SV := if tkOk x l = true then (if tkHit x l = true then { tkS2 x l with go := l.se } else tkS2 x l) else x
def tkGot (x : SV) (l : LV) : Bool := tkOk x l && tkHit x l
def tkRes (x : SV) (l : LV) : Bool := tkOk x l && decide (x.pe < l.mi)
def tkB (x : SV) (l : LV) : List UInt8 := if tkGot x l = true then l.b else []
/-- A call leaves the session y; its queue's row lies where it lay, or nowhere. -/
def SMq (p : Nat) (o : Option Nat) (G : Nat → Prop) (y : SV) (w w' : World) : Prop := ∃ o', (o' = o ∨ o' = none) ∧ SN w' p o' (GN G w o') y ∧ Mvd p o o' w w'
theorem SMq.sm {p : Nat} {o : Option Nat} {G : Nat → Prop} {y : SV} {w w' : World} (h : SMq p o G y w w') : SM p o G y w w' := by
  obtain ⟨o', _, h1, h2⟩ := h
  exact ⟨o', h1, h2⟩
/-- What Take hands back, in letters. -/
def TkR (p : Nat) (o : Option Nat) (G : Nat → Prop) (y : SV) (b : List UInt8) (got res : Bool) (er : Int) (w : World) (e : Ending) (w' : World) : Prop :=
  ∃ A c, e = .returned (.tuple #[.agg (tkC A b.length c got res), .int .i64 er]) ∧ (A = none → c = 0) ∧ Rds w' (fun k => w.heap.size ≤ k) A b.length (bcs b) ∧ SMq p o G y w w'
def TakeP (p : Nat) (o : Option Nat) (G : Nat → Prop) (x : SV) (l : LV) (w : World) : Ending → World → Prop := TkR p o G (tkS x l) (tkB x l) (tkGot x l) (tkRes x l) (tkE x l) w
theorem SN.sm2 {w w' : World} {p : Nat} {o oy : Option Nat} {G : Nat → Prop} {x y : SV} (h : SN w p o G x) (h2 : SN w' p oy (fun k => G k ∧ k < w.heap.size) y) (hm : Mvd p o oy w w') (ho : oy = o ∨ oy = none) : SMq p o G y w w' := by
  obtain ⟨g1, g2⟩ := GN.ok h hm
  exact ⟨oy, ho, h2.mono (fun k hk _ => .inl hk) g1 g2, hm⟩
theorem SN.raw {w : World} {p : Nat} {o : Option Nat} {G : Nat → Prop} {mi pe nx go : Int} {q : List (List UInt8)} (h : SN w p o G ⟨mi, pe, nx, go, q⟩) : ∃ A m c, Blk w p 92 (snC mi pe A m c nx go) := by
  obtain ⟨A, c, vs, hb, _⟩ := h
  exact ⟨A, _, c, hb⟩
/-- got is another number. -/
theorem SN.got {w : World} {p : Nat} {o : Option Nat} {G : Nat → Prop} {mi pe nx go : Int} {q : List (List UInt8)} (h : SN w p o G ⟨mi, pe, nx, go, q⟩) (v : Int) : SN (w.setCell ⟨p, 4, none⟩ (.int .i64 v)) p o G ⟨mi, pe, nx, v, q⟩ := by
  obtain ⟨A, c, vs, hb, hown, h1, h2, h3, h4, h5⟩ := h
  have hc := (Chg.refl (fun k => k = p) w).put p 4 (fun _ => rfl) (.int .i64 v)
  exact ⟨A, c, vs, hb.set 4 (.int .i64 v), own_chg hown hc (fun k hk e => by subst e; exact h2 (by rw [← h1]; exact hk)), h1, h2, h3.chg hc (fun k hk e => by subst e; exact h4 hk), h4, h5⟩
/-- A new session in the same block. -/
theorem SN.anew {w w' : World} {p : Nat} {o : Option Nat} {G : Nat → Prop} {x : SV} {mi pe : Int} (h : SN w p o G x) (hb : Blk w' p 92 (snC mi pe none 0 0 1 0)) : SN w' p none G ⟨mi, pe, 1, 0, []⟩ := by
  obtain ⟨A, c, vs, _, _, h1, h2, h3, h4, h5⟩ := h
  exact ⟨none, 0, [], hb, World.ownsRow_nil _ _ _ _, rfl, by simp, BQ.nil _ _, h4, fun k hk => by cases hk⟩
theorem Mvd.put {p v : Nat} {o o1 : Option Nat} {w w1 w2 : World} (h : Mvd p o o1 w w1) (hc : Chg (fun k => k = v) w1 w2) (hv : w.heap.size ≤ v) : Mvd p o o1 w w2 := ⟨h.1.trans hc (fun i hi e => by subst e; omega), h.2⟩
section
variable {p : Nat} {o : Option Nat} {G : Nat → Prop} {x : SV} {l : LV} {w w' : World} {e : Ending}
theorem tk_bad (h : ltR l.mi l.pe l.ac l.se l.b.length = false) (hh : TkR p o G x [] false false 1 w e w') : TakeP p o G x l w e w' := by
  have h1 : tkOk x l = false := by unfold tkOk; rw [h]; rfl
  have h2 : tkGot x l = false := by unfold tkGot; rw [h1]; rfl
  unfold TakeP
  rw [show tkS x l = x from by unfold tkS; rw [h1]; rfl, show tkB x l = [] from by unfold tkB; rw [h2]; rfl, h2, show tkRes x l = false from by unfold tkRes; rw [h1]; rfl, show tkE x l = 1 from by unfold tkE; rw [h]; rfl]
  exact hh
theorem tk_stale (h : ltR l.mi l.pe l.ac l.se l.b.length = true) (hs : l.mi < x.pe) (hh : TkR p o G x [] false false 7 w e w') : TakeP p o G x l w e w' := by
  have h1 : tkOk x l = false := by unfold tkOk; rw [h]; simp; omega
  have h2 : tkGot x l = false := by unfold tkGot; rw [h1]; rfl
  unfold TakeP
  rw [show tkS x l = x from by unfold tkS; rw [h1]; rfl, show tkB x l = [] from by unfold tkB; rw [h2]; rfl, h2, show tkRes x l = false from by unfold tkRes; rw [h1]; rfl, show tkE x l = 7 from by unfold tkE; rw [if_pos h, if_pos hs]]
  exact hh
theorem tk_go (h : ltR l.mi l.pe l.ac l.se l.b.length = true) (hs : ¬ l.mi < x.pe) (y : SV) (b : List UInt8) (got res : Bool) (hy : (if tkHit x l = true then { tkS2 x l with go := l.se } else tkS2 x l) = y) (hb : (if tkHit x l = true then l.b else []) = b) (hg : tkHit x l = got) (hr : decide (x.pe < l.mi) = res)
    (hh : TkR p o G y b got res 0 w e w') : TakeP p o G x l w e w' := by
  have h1 : tkOk x l = true := by unfold tkOk; rw [h]; simp; omega
  have h2 : tkGot x l = tkHit x l := by unfold tkGot; rw [h1]; rfl
  subst hy hb hg hr
  unfold TakeP
  rw [show tkS x l = _ from if_pos h1, show tkB x l = (if tkHit x l = true then l.b else []) from by unfold tkB; rw [h2], h2, show tkRes x l = decide (x.pe < l.mi) from by unfold tkRes; rw [h1]; rfl, show tkE x l = 0 from by unfold tkE; rw [if_pos h, if_neg hs]]
  exact hh
theorem tk_other (h : ltR l.mi l.pe l.ac l.se l.b.length = true) (hs : ¬ l.mi < x.pe) (hp : l.pe ≠ x.mi) {res : Bool} (hr : decide (x.pe < l.mi) = res) {y : SV} (hy : tkS1 x l = y) (hh : TkR p o G y [] false res 0 w e w') : TakeP p o G x l w e w' := by
  have h2 : tkHit x l = false := by unfold tkHit; simp [hp]
  exact tk_go h hs y [] false res (by rw [h2]; simp only [Bool.false_eq_true, if_false]; unfold tkS2; rw [if_neg hp]; exact hy) (by rw [h2]; rfl) h2 hr hh
theorem tk_miss (h : ltR l.mi l.pe l.ac l.se l.b.length = true) (hs : ¬ l.mi < x.pe) (hp : l.pe = x.mi) {res : Bool} (hr : decide (x.pe < l.mi) = res) {y : SV} (hy : tkS1 x l = y) (hq : l.se ≠ y.go + 1) (hh : TkR p o G (ackS y l.ac) [] false res 0 w e w') : TakeP p o G x l w e w' := by
  subst hy
  have h2 : tkHit x l = false := by unfold tkHit; simp [hq]
  exact tk_go h hs _ [] false res (by rw [h2]; simp only [Bool.false_eq_true, if_false]; unfold tkS2; rw [if_pos hp]) (by rw [h2]; rfl) h2 hr hh
theorem tk_hit (h : ltR l.mi l.pe l.ac l.se l.b.length = true) (hs : ¬ l.mi < x.pe) (hp : l.pe = x.mi) {res : Bool} (hr : decide (x.pe < l.mi) = res) {y : SV} (hy : tkS1 x l = y) (hq : l.se = y.go + 1) (hh : TkR p o G { ackS y l.ac with go := l.se } l.b true res 0 w e w') : TakeP p o G x l w e w' := by
  subst hy
  have h2 : tkHit x l = true := by unfold tkHit; simp [hq, hp]
  exact tk_go h hs _ l.b true res (by rw [h2]; simp only [if_true]; unfold tkS2; rw [if_pos hp]) (by rw [h2]; rfl) h2 hr hh
end

set_option maxRecDepth 100000 in
set_option maxHeartbeats 2000000 in
theorem stake_nil (m p a s : Int) (A : Option Addr) (n c : Nat) (w : World) : Calls Try.prog 20 #[.pointer none, .agg (ltC m p a s A n c)] w fun e w' => e = .returned (.tuple #[.agg (tkC none 0 0 false false), .int .i64 1]) ∧ Chg (fun _ => False) w w' := by
  have HR : Hid (Blk ((w.alloc (.cells #[.int .i64 m, .int .i64 p, .int .i64 a, .int .i64 s, .slice A n c] 24)).alloc (.cells #[.slice none 0 0, .bool false, .bool false] 55)) (w.heap.size + 1) 55 (tkC none 0 0 false false)) := Lib.hid (blk_new (by simp))
  have HX0 := Lib.hid (((Chg.refl (fun _ => False) w).alloc (.cells #[.int .i64 m, .int .i64 p, .int .i64 a, .int .i64 s, .slice A n c] 24)).alloc (.cells #[.slice none 0 0, .bool false, .bool false] 55))
  unfold ltC
  go_enter Try.func20, Try.ntmps20
  go_upto_region 1 with fail
  generalize (w.alloc (.cells #[.int .i64 m, .int .i64 p, .int .i64 a, .int .i64 s, .slice A n c] 24)).alloc (.cells #[.slice none 0 0, .bool false, .bool false] 55) = w1 at *
  obtain ⟨u0, u1, u2⟩ := tk_free HR.out
  obtain ⟨x0, x1, x2⟩ := tk_cells HR.out
  obtain ⟨r0, r1, r2, -, hcs⟩ := tk_put HR.out none 0 0 false false
  have RR := Lib.hid (And.intro r0 (And.intro r1 r2))
  have HF := Lib.hid (fresh_set HX0.out hcs (by omega))
  clear r0 r1 r2 hcs
  go_wp2_with fail
  obtain ⟨r0, r1, r2⟩ := RR.out
  exact bodyPost_ret (v := .tuple #[.agg (tkC none 0 0 false false), .int .i64 1]) (by simp [results, Try.results20, go_sem, tkC, r0, r1, r2]) rfl ⟨rfl, HF.out⟩
set_option maxRecDepth 100000 in
set_option maxHeartbeats 8000000 in
theorem stake_any (p : Nat) (o : Option Nat) (G : Nat → Prop) (x : SV) (l : LV) (B : Option Addr) (n d : Nat) (S : Nat → Prop) (w : World) (h : SN w p o G x) (hok : SOk x) (hn : n = l.b.length) (hr : Rds w S B n (bcs l.b)) (hz : B = none → d = 0) (hmax : n ≤ 9223372036854775807) (hSp : ¬ S p) (hSo : ∀ k, o = some k → ¬ S k) : Calls Try.prog 20 #[.pointer (some ⟨p, 0, none⟩), .agg (ltC l.mi l.pe l.ac l.se B n d)] w (TakeP p o G x l w) := by
  obtain ⟨mi, pe, nx, go, q⟩ := x
  obtain ⟨lm, lp, la, ls, b⟩ := l
  simp only at hn hr ⊢
  subst hn
  have hplt := h.lt.1
  have HSN0 := Lib.hid h
  have HOO := Lib.hid h.lt.2
  have HSP := Lib.hid hSp
  have HSO := Lib.hid hSo
  have HOK := Lib.hid hok
  have hgo := hok.go0
  have HC0 := Lib.hid (((Chg.refl (fun _ => False) w).alloc (.cells #[.int .i64 lm, .int .i64 lp, .int .i64 la, .int .i64 ls, .slice B b.length d] 24)).alloc (.cells #[.slice none 0 0, .bool false, .bool false] 55))
  have HQ : Hid (Blk ((w.alloc (.cells #[.int .i64 lm, .int .i64 lp, .int .i64 la, .int .i64 ls, .slice B b.length d] 24)).alloc (.cells #[.slice none 0 0, .bool false, .bool false] 55)) w.heap.size 24 (ltC lm lp la ls B b.length d)) := Lib.hid ((blk_new rfl).alloc _)
  have HR : Hid (Blk ((w.alloc (.cells #[.int .i64 lm, .int .i64 lp, .int .i64 la, .int .i64 ls, .slice B b.length d] 24)).alloc (.cells #[.slice none 0 0, .bool false, .bool false] 55)) (w.heap.size + 1) 55 (tkC none 0 0 false false)) := Lib.hid (blk_new (by simp))
  have HSN := Lib.hid (h.old.new HC0.out)
  have HBB := Lib.hid (hr.old.chg HC0.out (fun _ _ => id))
  have HM := Lib.hid ((Mvd.refl p o w).post HC0.out)
  have hrt := fun W => right11_any lm lp la ls B b.length d W hmax
  generalize hlr : ltR lm lp la ls b.length = rb at *
  have HLR : Hid (ltR (LV.mk lm lp la ls b).mi (LV.mk lm lp la ls b).pe (LV.mk lm lp la ls b).ac (LV.mk lm lp la ls b).se (LV.mk lm lp la ls b).b.length = rb) := Lib.hid hlr
  have hls : rb = true → b.length ≤ 1000 ∧ (0 ≤ lm ∧ lm ≤ 4294967296) ∧ (0 ≤ lp ∧ lp ≤ 4294967296) ∧ (0 ≤ la ∧ la ≤ 1099511627776) := fun e => by
    rw [e] at hlr
    have := ltR_parts hlr
    omega
  have HRT := Lib.hid hrt
  clear h hr hSp hSo hok hrt hlr HC0
  unfold ltC
  go_enter Try.func20, Try.ntmps20
  go_upto_region 1 with fail
  generalize (w.alloc (.cells #[.int .i64 lm, .int .i64 lp, .int .i64 la, .int .i64 ls, .slice B b.length d] 24)).alloc (.cells #[.slice none 0 0, .bool false, .bool false] 55) = w1 at *
  obtain ⟨q0, q1, q2, q3, q4⟩ := lt_cells HQ.out
  unfold ltC at HRT
  cases rb with
  | false =>
    have HOY := HOO
    go_wp2_with fail
    refine (HRT.out _).mono ?_
    rintro e w2 ⟨rfl, hc⟩
    replace HQ := Lib.hid (HQ.out.chg hc id)
    replace HR := Lib.hid (HR.out.chg hc id)
    replace HSN := Lib.hid (HSN.out.new hc)
    replace HBB := Lib.hid (HBB.out.chg hc (fun _ _ => id))
    replace HM := Lib.hid (HM.out.post hc)
    clear hc q0 q1 q2 q3 q4
    obtain ⟨u0, u1, u2⟩ := tk_free HR.out
    obtain ⟨x0, x1, x2⟩ := tk_cells HR.out
    obtain ⟨r0, r1, r2, -, hcs⟩ := tk_put HR.out none 0 0 false false
    have RR := Lib.hid (And.intro r0 (And.intro r1 r2))
    have HCS := Lib.hid hcs
    clear r0 r1 r2 hcs
    go_wp2_with fail
    obtain ⟨r0, r1, r2⟩ := RR.out
    exact bodyPost_ret (v := .tuple #[.agg (tkC none 0 0 false false), .int .i64 1]) (by simp [results, Try.results20, go_sem, tkC, r0, r1, r2]) rfl (tk_bad HLR.out ⟨none, 0, rfl, fun _ => rfl, Rds.nil _ _ _, HSN0.out.sm2 (HSN.out.chg HCS.out (by omega) (fun k hk => by have := HOY.out k hk; omega) (fun k hk => by have := hk.2; omega)) (HM.out.put HCS.out (by omega)) (by first | exact .inl rfl | exact .inr rfl)⟩)
  | true =>
    obtain ⟨hl1, hl2, hl3, hl4⟩ := hls rfl
    go_wp2_with fail
    refine (HRT.out _).mono ?_
    rintro e w2 ⟨rfl, hc⟩
    replace HQ := Lib.hid (HQ.out.chg hc id)
    replace HR := Lib.hid (HR.out.chg hc id)
    replace HSN := Lib.hid (HSN.out.new hc)
    replace HBB := Lib.hid (HBB.out.chg hc (fun _ _ => id))
    replace HM := Lib.hid (HM.out.post hc)
    clear hc q0 q1 q2 q3 q4
    obtain ⟨A9, m9, c9, hbp⟩ := SN.raw HSN.out
    obtain ⟨s0, s1, s2, s3, s4⟩ := sn_cells hbp
    obtain ⟨q0, q1, q2, q3, q4⟩ := lt_cells HQ.out
    clear hbp
    by_cases hst : lm < pe
    · have HOY := HOO
      have HST := Lib.hid hst
      go_wp2_with fail
      go_region
      clear s0 s1 s2 s3 s4 q0 q1 q2 q3 q4
      replace HQ := Lib.hid HQ.out.drew
      replace HR := Lib.hid HR.out.drew
      replace HSN := Lib.hid HSN.out.drew
      replace HBB := Lib.hid HBB.out.drew
      replace HM := Lib.hid (HM.out.post (Chg.refl _ w2).drew)
      generalize w2.drew = w3 at *
      obtain ⟨u0, u1, u2⟩ := tk_free HR.out
      obtain ⟨x0, x1, x2⟩ := tk_cells HR.out
      obtain ⟨r0, r1, r2, -, hcs⟩ := tk_put HR.out none 0 0 false false
      have RR := Lib.hid (And.intro r0 (And.intro r1 r2))
      have HCS := Lib.hid hcs
      clear r0 r1 r2 hcs
      go_wp2_with fail
      obtain ⟨r0, r1, r2⟩ := RR.out
      exact bodyPost_ret (v := .tuple #[.agg (tkC none 0 0 false false), .int .i64 7]) (by simp [results, Try.results20, go_sem, tkC, r0, r1, r2]) rfl (tk_stale HLR.out HST.out ⟨none, 0, rfl, fun _ => rfl, Rds.nil _ _ _, HSN0.out.sm2 (HSN.out.chg HCS.out (by omega) (fun k hk => by have := HOY.out k hk; omega) (fun k hk => by have := hk.2; omega)) (HM.out.put HCS.out (by omega)) (by first | exact .inl rfl | exact .inr rfl)⟩)
    · by_cases hres : pe < lm
      · have HRES := Lib.hid hres
        go_wp2_with fail
        have HST := Lib.hid hst
        go_region
        clear s0 s1 s2 s3 s4 q0 q1 q2 q3 q4
        replace HQ := Lib.hid HQ.out.drew
        replace HR := Lib.hid HR.out.drew
        replace HSN := Lib.hid HSN.out.drew
        replace HBB := Lib.hid HBB.out.drew
        replace HM := Lib.hid (HM.out.post (Chg.refl _ w2).drew)
        generalize w2.drew = w3 at *
        obtain ⟨A9, m9, c9, hbp⟩ := SN.raw HSN.out
        obtain ⟨s0, s1, s2, s3, s4⟩ := sn_cells hbp
        obtain ⟨q0, q1, q2, q3, q4⟩ := lt_cells HQ.out
        have hba : Blk (w3.alloc (.cells #[.slice none 0 0, .bool false, .bool false] 55)) p 92 (snC mi pe A9 m9 c9 nx go) := hbp.alloc _
        have hqa : Blk (w3.alloc (.cells #[.slice none 0 0, .bool false, .bool false] 55)) w.heap.size 24 (ltC lm lp la ls B b.length d) := HQ.out.alloc _
        obtain ⟨-, t1, -, -, -⟩ := sn_cells hba
        obtain ⟨k0, -, -, -, -⟩ := lt_cells hqa
        clear hbp hba hqa
        go_wp2_with fail
        go_region
        clear s0 s1 s2 s3 s4 q0 q1 q2 q3 q4 t1 k0
        have hhv : w.heap.size + 1 < w3.heap.size := HR.out.lt
        have HV : Hid (Blk (w3.alloc (.cells #[.slice none 0 0, .bool false, .bool true] 55)) w3.heap.size 55 (tkC none 0 0 false true)) := Lib.hid (blk_new rfl)
        have hc := (Chg.refl (fun _ => False) w3).alloc (.cells #[.slice none 0 0, .bool false, .bool true] 55)
        replace HQ := Lib.hid (HQ.out.chg hc id)
        replace HR := Lib.hid (HR.out.chg hc id)
        replace HSN := Lib.hid (HSN.out.new hc)
        replace HBB := Lib.hid (HBB.out.chg hc (fun _ _ => id))
        replace HM := Lib.hid (HM.out.post hc)
        clear hc
        generalize w3.alloc (.cells #[.slice none 0 0, .bool false, .bool true] 55) = w34 at *
        generalize w3.heap.size = hv at *
        replace HQ := Lib.hid HQ.out.drew
        replace HR := Lib.hid HR.out.drew
        replace HSN := Lib.hid HSN.out.drew
        replace HBB := Lib.hid HBB.out.drew
        replace HV := Lib.hid HV.out.drew
        replace HM := Lib.hid (HM.out.post (Chg.refl _ w34).drew)
        generalize w34.drew = w35 at *
        obtain ⟨A9, m9, c9, hbp⟩ := SN.raw HSN.out
        obtain ⟨s0, s1, s2, s3, s4⟩ := sn_cells hbp
        have g0 := hbp.frozen 0
        have g1 := hbp.frozen 1
        have g2 := hbp.frozen 2
        have g3 := hbp.frozen 3
        have g4 := hbp.frozen 4
        obtain ⟨q0, q1, q2, q3, q4⟩ := lt_cells HQ.out
        obtain ⟨v0, v1, v2⟩ := tk_cells HV.out
        have hb5 : Blk (((((w35.setCell ⟨p, 0, none⟩ (.int .i64 mi)).setCell ⟨p, 1, none⟩ (.int .i64 lm)).setCell ⟨p, 2, none⟩ (.slice none 0 0)).setCell ⟨p, 3, none⟩ (.int .i64 1)).setCell ⟨p, 4, none⟩ (.int .i64 0)) p 92 (snC mi lm none 0 0 1 0) := ((((hbp.set 0 (.int .i64 mi)).set 1 (.int .i64 lm)).set 2 (.slice none 0 0)).set 3 (.int .i64 1)).set 4 (.int .i64 0)
        have hc : Chg (fun k => k = p) w35 (((((w35.setCell ⟨p, 0, none⟩ (.int .i64 mi)).setCell ⟨p, 1, none⟩ (.int .i64 lm)).setCell ⟨p, 2, none⟩ (.slice none 0 0)).setCell ⟨p, 3, none⟩ (.int .i64 1)).setCell ⟨p, 4, none⟩ (.int .i64 0)) := (((((Chg.refl (fun k => k = p) w35).put p 0 (fun _ => rfl) _).put p 1 (fun _ => rfl) _).put p 2 (fun _ => rfl) _).put p 3 (fun _ => rfl) _).put p 4 (fun _ => rfl) _
        have HC5 := Lib.hid hc
        have HB5 := Lib.hid hb5
        clear hbp hb5 hc
        go_wp2_with fail
        go_region
        clear s0 s1 s2 s3 s4 q0 q1 q2 q3 q4 v0 v1 v2 g0 g1 g2 g3 g4
        have hc := HC5.out
        replace HQ := Lib.hid (HQ.out.chg hc (by omega))
        replace HR := Lib.hid (HR.out.chg hc (by omega))
        replace HV := Lib.hid (HV.out.chg hc (by omega))
        replace HBB := Lib.hid (HBB.out.chg hc (fun k hk e => by subst e; exact HSP.out hk.1))
        replace HM : Hid (Mvd p o none w _) := Lib.hid ⟨HM.out.1.trans hc (fun _ _ e => .inl e), .inr (.inl rfl)⟩
        replace HSN := Lib.hid (HSN.out.anew HB5.out)
        clear HC5 HB5 hc
        generalize ((((w35.setCell ⟨p, 0, none⟩ (.int .i64 mi)).setCell ⟨p, 1, none⟩ (.int .i64 lm)).setCell ⟨p, 2, none⟩ (.slice none 0 0)).setCell ⟨p, 3, none⟩ (.int .i64 1)).setCell ⟨p, 4, none⟩ (.int .i64 0) = w36 at *
        have HOY : Hid (∀ k, (none : Option Nat) = some k → k < w.heap.size) := Lib.hid (fun k hk => by cases hk)
        have HSOK : Hid (SOk ⟨mi, lm, 1, 0, []⟩) := Lib.hid ⟨by simp, by simp, ⟨by simp, by simp⟩, ⟨by simp, by simp⟩⟩
        replace HSO : Hid (∀ k, (none : Option Nat) = some k → ¬ S k) := Lib.hid (fun k hk => by cases hk)
        replace HQ := Lib.hid HQ.out.drew
        replace HR := Lib.hid HR.out.drew
        replace HSN := Lib.hid HSN.out.drew
        replace HBB := Lib.hid HBB.out.drew
        replace HV := Lib.hid HV.out.drew
        replace HM := Lib.hid (HM.out.post (Chg.refl _ w36).drew)
        generalize w36.drew = w4 at *
        go_wp2_with fail
        obtain ⟨A9, m9, c9, hbp⟩ := SN.raw HSN.out
        obtain ⟨s0, s1, s2, s3, s4⟩ := sn_cells hbp
        obtain ⟨q0, q1, q2, q3, q4⟩ := lt_cells HQ.out
        clear hbp
        by_cases hpm : lp = mi
        case neg =>
          have tp : (lp == mi) = false := by simpa using hpm
          have tp2 : (lp != mi) = true := by simpa using hpm
          have HPM := Lib.hid hpm
          clear hpm
          go_region
          clear s0 s1 s2 s3 s4 q0 q1 q2 q3 q4
          replace HQ := Lib.hid HQ.out.drew
          replace HR := Lib.hid HR.out.drew
          replace HSN := Lib.hid HSN.out.drew
          replace HBB := Lib.hid HBB.out.drew
          replace HV := Lib.hid HV.out.drew
          replace HM := Lib.hid (HM.out.post (Chg.refl _ w4).drew)
          generalize w4.drew = w5 at *
          obtain ⟨u0, u1, u2⟩ := tk_free HR.out
          obtain ⟨x0, x1, x2⟩ := tk_cells HR.out
          obtain ⟨v0, v1, v2⟩ := tk_cells HV.out
          obtain ⟨r0, r1, r2, -, hcs⟩ := tk_put HR.out none 0 0 false true
          have RR := Lib.hid (And.intro r0 (And.intro r1 r2))
          have HCS := Lib.hid hcs
          clear r0 r1 r2 hcs
          go_wp2_with fail
          obtain ⟨r0, r1, r2⟩ := RR.out
          exact bodyPost_ret (v := .tuple #[.agg (tkC none 0 0 false true), .int .i64 0]) (by simp [results, Try.results20, go_sem, tkC, r0, r1, r2]) rfl (tk_other HLR.out (show ¬ lm < pe from by have := HST.out; omega) HPM.out (decide_eq_true (show pe < lm from HRES.out)) (if_pos (show pe < lm from HRES.out)) ⟨none, 0, rfl, fun _ => rfl, Rds.nil _ _ _, HSN0.out.sm2 (HSN.out.chg HCS.out (by omega) (fun k hk => by have := HOY.out k hk; omega) (fun k hk => by have := hk.2; omega)) (HM.out.put HCS.out (by omega)) (by first | exact .inl rfl | exact .inr rfl)⟩)
        have tp : (lp == mi) = true := by simpa using hpm
        have tp2 : (lp != mi) = false := by simpa using hpm
        have HPM := Lib.hid hpm
        clear hpm
        go_region
        clear s0 s1 s2 s3 s4 q0 q1 q2 q3 q4
        replace HQ := Lib.hid HQ.out.drew
        replace HR := Lib.hid HR.out.drew
        replace HSN := Lib.hid HSN.out.drew
        replace HBB := Lib.hid HBB.out.drew
        replace HV := Lib.hid HV.out.drew
        replace HM := Lib.hid (HM.out.post (Chg.refl _ w4).drew)
        generalize w4.drew = w5 at *
        have HAC := Lib.hid (sack_any p none _ ⟨mi, lm, 1, 0, []⟩ la w5 HSN.out HSOK.out)
        obtain ⟨q0, q1, q2, q3, q4⟩ := lt_cells HQ.out
        go_wp2_with fail
        refine HAC.out.mono ?_
        rintro e w6 ⟨rfl, hsn6, hc⟩
        replace HSN := Lib.hid hsn6
        clear hsn6 HAC q0 q1 q2 q3 q4
        replace HQ := Lib.hid (HQ.out.chg hc (fun e => e.elim (fun e => by omega) (fun e => by have := HOY.out _ e; omega)))
        replace HR := Lib.hid (HR.out.chg hc (fun e => e.elim (fun e => by omega) (fun e => by have := HOY.out _ e; omega)))
        replace HV := Lib.hid (HV.out.chg hc (fun e => e.elim (fun e => by omega) (fun e => by have := HOY.out _ e; omega)))
        replace HBB := Lib.hid (HBB.out.chg hc (fun k hk e => e.elim (fun e => HSP.out (e ▸ hk.1)) (fun e => HSO.out k e hk.1)))
        replace HM := Lib.hid (HM.out.trans ⟨hc, .inl rfl⟩)
        clear hc
        have hack : ackS ⟨mi, lm, 1, 0, []⟩ la = ⟨mi, lm, (ackS ⟨mi, lm, 1, 0, []⟩ la).nx, 0, (ackS ⟨mi, lm, 1, 0, []⟩ la).q⟩ := rfl
        generalize hnx2 : (ackS ⟨mi, lm, 1, 0, []⟩ la).nx = nx2 at *
        generalize hq2 : (ackS ⟨mi, lm, 1, 0, []⟩ la).q = q2 at *
        have HACK := Lib.hid hack
        rw [hack] at HSN
        clear hack hnx2 hq2
        obtain ⟨A9, m9, c9, hbp⟩ := SN.raw HSN.out
        obtain ⟨s0, s1, s2, s3, s4⟩ := sn_cells hbp
        obtain ⟨q0, q1, q2, q3, q4⟩ := lt_cells HQ.out
        have hw1 : IntKind.i64.wrap (0 + 1) = 0 + 1 := IntWalk.i64_in _ (by omega)
        by_cases hse : ls = 0 + 1
        case neg =>
          have te : (ls == 0 + 1) = false := by simpa using hse
          have HSE := Lib.hid hse
          clear hse hbp
          go_wp2_with fail
          go_region
          clear s0 s1 s2 s3 s4 q0 q1 q2 q3 q4
          replace HQ := Lib.hid HQ.out.drew
          replace HR := Lib.hid HR.out.drew
          replace HSN := Lib.hid HSN.out.drew
          replace HBB := Lib.hid HBB.out.drew
          replace HV := Lib.hid HV.out.drew
          replace HM := Lib.hid (HM.out.post (Chg.refl _ w6).drew)
          generalize w6.drew = w7 at *
          obtain ⟨u0, u1, u2⟩ := tk_free HR.out
          obtain ⟨x0, x1, x2⟩ := tk_cells HR.out
          obtain ⟨v0, v1, v2⟩ := tk_cells HV.out
          obtain ⟨r0, r1, r2, -, hcs⟩ := tk_put HR.out none 0 0 false true
          have RR := Lib.hid (And.intro r0 (And.intro r1 r2))
          have HCS := Lib.hid hcs
          clear r0 r1 r2 hcs
          go_wp2_with fail
          obtain ⟨r0, r1, r2⟩ := RR.out
          exact bodyPost_ret (v := .tuple #[.agg (tkC none 0 0 false true), .int .i64 0]) (by simp [results, Try.results20, go_sem, tkC, r0, r1, r2]) rfl (tk_miss HLR.out (show ¬ lm < pe from by have := HST.out; omega) HPM.out (decide_eq_true (show pe < lm from HRES.out)) (if_pos (show pe < lm from HRES.out)) HSE.out ⟨none, 0, rfl, fun _ => rfl, Rds.nil _ _ _, HSN0.out.sm2 (by rw [HACK.out]; exact (HSN.out.chg HCS.out (by omega) (fun k hk => by have := HOY.out k hk; omega) (fun k hk => by have := hk.2; omega))) (HM.out.put HCS.out (by omega)) (by first | exact .inl rfl | exact .inr rfl)⟩)
        have te : (ls == 0 + 1) = true := by simpa using hse
        have HSE := Lib.hid hse
        clear hse hbp
        go_wp2_with fail
        go_region
        clear s0 s1 s2 s3 s4 q0 q1 q2 q3 q4
        replace HQ := Lib.hid HQ.out.drew
        replace HR := Lib.hid HR.out.drew
        replace HSN := Lib.hid HSN.out.drew
        replace HBB := Lib.hid HBB.out.drew
        replace HV := Lib.hid HV.out.drew
        replace HM := Lib.hid (HM.out.post (Chg.refl _ w6).drew)
        generalize w6.drew = w7 at *
        obtain ⟨A9, m9, c9, hbp⟩ := SN.raw HSN.out
        obtain ⟨s0, s1, s2, s3, s4⟩ := sn_cells hbp
        have g4 := hbp.frozen 4
        obtain ⟨q0, q1, q2, q3, q4⟩ := lt_cells HQ.out
        replace HSN := Lib.hid (HSN.out.got ls)
        have hc := (Chg.refl (fun k => k = p) w7).put p 4 (fun _ => rfl) (.int .i64 ls)
        replace HQ := Lib.hid (HQ.out.chg hc (by omega))
        replace HR := Lib.hid (HR.out.chg hc (by omega))
        replace HV := Lib.hid (HV.out.chg hc (by omega))
        replace HBB := Lib.hid (HBB.out.chg hc (fun k hk e => by subst e; exact HSP.out hk.1))
        replace HM := Lib.hid (HM.out.trans ⟨hc.mono (fun k _ e => .inl e), .inl rfl⟩)
        clear hc hbp
        go_upto_region 13 with fail
        generalize w7.setCell ⟨p, 4, none⟩ (.int .i64 ls) = w8 at *
        clear s0 s1 s2 s3 s4 q0 q1 q2 q3 q4 g4
        obtain ⟨q0, q1, q2, q3, q4⟩ := lt_cells HQ.out
        have HCL := Lib.hid (tclone_any B b.length d b _ w8 rfl HBB.out hz (by omega))
        go_wp2_with fail
        refine HCL.out.mono ?_
        rintro e w9 ⟨E, ed, rfl, hown, hc⟩
        have HNIL := Lib.hid (own_nil hown)
        have HRE := Lib.hid ((own_rds2 hown).mono (S' := fun k => hv + 1 ≤ k) (fun k hk => by have h1 := HV.out.lt; have h2 := hk.1; omega))
        clear hown HCL q0 q1 q2 q3 q4
        replace HQ := Lib.hid (HQ.out.chg hc id)
        replace HR := Lib.hid (HR.out.chg hc id)
        replace HV := Lib.hid (HV.out.chg hc id)
        replace HSN := Lib.hid (HSN.out.new hc)
        replace HBB := Lib.hid (HBB.out.chg hc (fun _ _ => id))
        replace HM := Lib.hid (HM.out.post hc)
        clear hc
        obtain ⟨f0, f1, f2⟩ := tk_free HV.out
        obtain ⟨v0, v1, v2⟩ := tk_cells HV.out
        have hv10 : Blk ((w9.setCell ⟨hv, 0, none⟩ (.slice E b.length ed)).setCell ⟨hv, 1, none⟩ (.bool true)) hv 55 (tkC E b.length ed true true) := (HV.out.set 0 (.slice E b.length ed)).set 1 (.bool true)
        have hc := (((Chg.refl (fun k => k = hv) w9).put hv 0 (fun _ => rfl) (.slice E b.length ed)).put hv 1 (fun _ => rfl) (.bool true))
        replace HQ := Lib.hid (HQ.out.chg hc (by omega))
        replace HR := Lib.hid (HR.out.chg hc (by omega))
        replace HSN := Lib.hid (HSN.out.chg hc (by omega) (fun k hk => by have := HOY.out k hk; omega) (fun k hk => by have := hk.2; omega))
        replace HM := Lib.hid (HM.out.put hc (by omega))
        replace HRE := Lib.hid (HRE.out.chg hc (fun k hk e => by omega))
        replace HV := Lib.hid hv10
        clear hc hv10 HBB
        go_upto_region 14 with fail
        generalize (w9.setCell ⟨hv, 0, none⟩ (.slice E b.length ed)).setCell ⟨hv, 1, none⟩ (.bool true) = w10 at *
        clear v0 v1 v2 f0 f1 f2
        obtain ⟨u0, u1, u2⟩ := tk_free HR.out
        obtain ⟨x0, x1, x2⟩ := tk_cells HR.out
        obtain ⟨v0, v1, v2⟩ := tk_cells HV.out
        obtain ⟨r0, r1, r2, -, hcs⟩ := tk_put HR.out E b.length ed true true
        have RR := Lib.hid (And.intro r0 (And.intro r1 r2))
        have HCS := Lib.hid hcs
        clear r0 r1 r2 hcs
        go_wp2_with fail
        obtain ⟨r0, r1, r2⟩ := RR.out
        exact bodyPost_ret (v := .tuple #[.agg (tkC E b.length ed true true), .int .i64 0]) (by simp [results, Try.results20, go_sem, tkC, r0, r1, r2]) rfl (tk_hit HLR.out (show ¬ lm < pe from by have := HST.out; omega) HPM.out (decide_eq_true (show pe < lm from HRES.out)) (if_pos (show pe < lm from HRES.out)) HSE.out ⟨E, ed, rfl, HNIL.out, (HRE.out.chg HCS.out (fun k hk e => by omega)).mono (fun k hk => by omega), HSN0.out.sm2 (by rw [HACK.out]; exact (HSN.out.chg HCS.out (by omega) (fun k hk => by have := HOY.out k hk; omega) (fun k hk => by have := hk.2; omega))) (HM.out.put HCS.out (by omega)) (by first | exact .inl rfl | exact .inr rfl)⟩)
      · have HRES := Lib.hid hres
        have tres : decide (pe < lm) = false := decide_eq_false hres
        go_wp2_with fail
        have HST := Lib.hid hst
        go_region
        clear s0 s1 s2 s3 s4 q0 q1 q2 q3 q4
        replace HQ := Lib.hid HQ.out.drew
        replace HR := Lib.hid HR.out.drew
        replace HSN := Lib.hid HSN.out.drew
        replace HBB := Lib.hid HBB.out.drew
        replace HM := Lib.hid (HM.out.post (Chg.refl _ w2).drew)
        generalize w2.drew = w3 at *
        obtain ⟨A9, m9, c9, hbp⟩ := SN.raw HSN.out
        obtain ⟨s0, s1, s2, s3, s4⟩ := sn_cells hbp
        obtain ⟨q0, q1, q2, q3, q4⟩ := lt_cells HQ.out
        have hba : Blk (w3.alloc (.cells #[.slice none 0 0, .bool false, .bool false] 55)) p 92 (snC mi pe A9 m9 c9 nx go) := hbp.alloc _
        have hqa : Blk (w3.alloc (.cells #[.slice none 0 0, .bool false, .bool false] 55)) w.heap.size 24 (ltC lm lp la ls B b.length d) := HQ.out.alloc _
        obtain ⟨-, t1, -, -, -⟩ := sn_cells hba
        obtain ⟨k0, -, -, -, -⟩ := lt_cells hqa
        clear hbp hba hqa
        go_wp2_with fail
        go_region
        clear s0 s1 s2 s3 s4 q0 q1 q2 q3 q4 t1 k0
        have hhv : w.heap.size + 1 < w3.heap.size := HR.out.lt
        have HV : Hid (Blk (w3.alloc (.cells #[.slice none 0 0, .bool false, .bool false] 55)) w3.heap.size 55 (tkC none 0 0 false false)) := Lib.hid (blk_new rfl)
        have hc := (Chg.refl (fun _ => False) w3).alloc (.cells #[.slice none 0 0, .bool false, .bool false] 55)
        replace HQ := Lib.hid (HQ.out.chg hc id)
        replace HR := Lib.hid (HR.out.chg hc id)
        replace HSN := Lib.hid (HSN.out.new hc)
        replace HBB := Lib.hid (HBB.out.chg hc (fun _ _ => id))
        replace HM := Lib.hid (HM.out.post hc)
        clear hc
        generalize w3.alloc (.cells #[.slice none 0 0, .bool false, .bool false] 55) = w34 at *
        generalize w3.heap.size = hv at *
        replace HQ := Lib.hid HQ.out.drew
        replace HR := Lib.hid HR.out.drew
        replace HSN := Lib.hid HSN.out.drew
        replace HBB := Lib.hid HBB.out.drew
        replace HV := Lib.hid HV.out.drew
        replace HM := Lib.hid (HM.out.post (Chg.refl _ w34).drew)
        generalize w34.drew = w4 at *
        have HOY := HOO
        have HSOK := HOK
        obtain ⟨v0, v1, v2⟩ := tk_cells HV.out
        go_wp2_with fail
        clear v0 v1 v2
        obtain ⟨A9, m9, c9, hbp⟩ := SN.raw HSN.out
        obtain ⟨s0, s1, s2, s3, s4⟩ := sn_cells hbp
        obtain ⟨q0, q1, q2, q3, q4⟩ := lt_cells HQ.out
        clear hbp
        by_cases hpm : lp = mi
        case neg =>
          have tp : (lp == mi) = false := by simpa using hpm
          have tp2 : (lp != mi) = true := by simpa using hpm
          have HPM := Lib.hid hpm
          clear hpm
          go_region
          clear s0 s1 s2 s3 s4 q0 q1 q2 q3 q4
          replace HQ := Lib.hid HQ.out.drew
          replace HR := Lib.hid HR.out.drew
          replace HSN := Lib.hid HSN.out.drew
          replace HBB := Lib.hid HBB.out.drew
          replace HV := Lib.hid HV.out.drew
          replace HM := Lib.hid (HM.out.post (Chg.refl _ w4).drew)
          generalize w4.drew = w5 at *
          obtain ⟨u0, u1, u2⟩ := tk_free HR.out
          obtain ⟨x0, x1, x2⟩ := tk_cells HR.out
          obtain ⟨v0, v1, v2⟩ := tk_cells HV.out
          obtain ⟨r0, r1, r2, -, hcs⟩ := tk_put HR.out none 0 0 false false
          have RR := Lib.hid (And.intro r0 (And.intro r1 r2))
          have HCS := Lib.hid hcs
          clear r0 r1 r2 hcs
          go_wp2_with fail
          obtain ⟨r0, r1, r2⟩ := RR.out
          exact bodyPost_ret (v := .tuple #[.agg (tkC none 0 0 false false), .int .i64 0]) (by simp [results, Try.results20, go_sem, tkC, r0, r1, r2]) rfl (tk_other HLR.out (show ¬ lm < pe from by have := HST.out; omega) HPM.out (decide_eq_false (show ¬ pe < lm from by have := HRES.out; omega)) (if_neg (show ¬ pe < lm from by have := HRES.out; omega)) ⟨none, 0, rfl, fun _ => rfl, Rds.nil _ _ _, HSN0.out.sm2 (HSN.out.chg HCS.out (by omega) (fun k hk => by have := HOY.out k hk; omega) (fun k hk => by have := hk.2; omega)) (HM.out.put HCS.out (by omega)) (by first | exact .inl rfl | exact .inr rfl)⟩)
        have tp : (lp == mi) = true := by simpa using hpm
        have tp2 : (lp != mi) = false := by simpa using hpm
        have HPM := Lib.hid hpm
        clear hpm
        go_region
        clear s0 s1 s2 s3 s4 q0 q1 q2 q3 q4
        replace HQ := Lib.hid HQ.out.drew
        replace HR := Lib.hid HR.out.drew
        replace HSN := Lib.hid HSN.out.drew
        replace HBB := Lib.hid HBB.out.drew
        replace HV := Lib.hid HV.out.drew
        replace HM := Lib.hid (HM.out.post (Chg.refl _ w4).drew)
        generalize w4.drew = w5 at *
        have HAC := Lib.hid (sack_any p o _ ⟨mi, pe, nx, go, q⟩ la w5 HSN.out HSOK.out)
        obtain ⟨q0, q1, q2, q3, q4⟩ := lt_cells HQ.out
        go_wp2_with fail
        refine HAC.out.mono ?_
        rintro e w6 ⟨rfl, hsn6, hc⟩
        replace HSN := Lib.hid hsn6
        clear hsn6 HAC q0 q1 q2 q3 q4
        replace HQ := Lib.hid (HQ.out.chg hc (fun e => e.elim (fun e => by omega) (fun e => by have := HOY.out _ e; omega)))
        replace HR := Lib.hid (HR.out.chg hc (fun e => e.elim (fun e => by omega) (fun e => by have := HOY.out _ e; omega)))
        replace HV := Lib.hid (HV.out.chg hc (fun e => e.elim (fun e => by omega) (fun e => by have := HOY.out _ e; omega)))
        replace HBB := Lib.hid (HBB.out.chg hc (fun k hk e => e.elim (fun e => HSP.out (e ▸ hk.1)) (fun e => HSO.out k e hk.1)))
        replace HM := Lib.hid (HM.out.trans ⟨hc, .inl rfl⟩)
        clear hc
        have hack : ackS ⟨mi, pe, nx, go, q⟩ la = ⟨mi, pe, (ackS ⟨mi, pe, nx, go, q⟩ la).nx, go, (ackS ⟨mi, pe, nx, go, q⟩ la).q⟩ := rfl
        generalize hnx2 : (ackS ⟨mi, pe, nx, go, q⟩ la).nx = nx2 at *
        generalize hq2 : (ackS ⟨mi, pe, nx, go, q⟩ la).q = q2 at *
        have HACK := Lib.hid hack
        rw [hack] at HSN
        clear hack hnx2 hq2
        obtain ⟨A9, m9, c9, hbp⟩ := SN.raw HSN.out
        obtain ⟨s0, s1, s2, s3, s4⟩ := sn_cells hbp
        obtain ⟨q0, q1, q2, q3, q4⟩ := lt_cells HQ.out
        have hw1 : IntKind.i64.wrap (go + 1) = go + 1 := IntWalk.i64_in _ (by omega)
        by_cases hse : ls = go + 1
        case neg =>
          have te : (ls == go + 1) = false := by simpa using hse
          have HSE := Lib.hid hse
          clear hse hbp
          go_wp2_with fail
          go_region
          clear s0 s1 s2 s3 s4 q0 q1 q2 q3 q4
          replace HQ := Lib.hid HQ.out.drew
          replace HR := Lib.hid HR.out.drew
          replace HSN := Lib.hid HSN.out.drew
          replace HBB := Lib.hid HBB.out.drew
          replace HV := Lib.hid HV.out.drew
          replace HM := Lib.hid (HM.out.post (Chg.refl _ w6).drew)
          generalize w6.drew = w7 at *
          obtain ⟨u0, u1, u2⟩ := tk_free HR.out
          obtain ⟨x0, x1, x2⟩ := tk_cells HR.out
          obtain ⟨v0, v1, v2⟩ := tk_cells HV.out
          obtain ⟨r0, r1, r2, -, hcs⟩ := tk_put HR.out none 0 0 false false
          have RR := Lib.hid (And.intro r0 (And.intro r1 r2))
          have HCS := Lib.hid hcs
          clear r0 r1 r2 hcs
          go_wp2_with fail
          obtain ⟨r0, r1, r2⟩ := RR.out
          exact bodyPost_ret (v := .tuple #[.agg (tkC none 0 0 false false), .int .i64 0]) (by simp [results, Try.results20, go_sem, tkC, r0, r1, r2]) rfl (tk_miss HLR.out (show ¬ lm < pe from by have := HST.out; omega) HPM.out (decide_eq_false (show ¬ pe < lm from by have := HRES.out; omega)) (if_neg (show ¬ pe < lm from by have := HRES.out; omega)) HSE.out ⟨none, 0, rfl, fun _ => rfl, Rds.nil _ _ _, HSN0.out.sm2 (by rw [HACK.out]; exact (HSN.out.chg HCS.out (by omega) (fun k hk => by have := HOY.out k hk; omega) (fun k hk => by have := hk.2; omega))) (HM.out.put HCS.out (by omega)) (by first | exact .inl rfl | exact .inr rfl)⟩)
        have te : (ls == go + 1) = true := by simpa using hse
        have HSE := Lib.hid hse
        clear hse hbp
        go_wp2_with fail
        go_region
        clear s0 s1 s2 s3 s4 q0 q1 q2 q3 q4
        replace HQ := Lib.hid HQ.out.drew
        replace HR := Lib.hid HR.out.drew
        replace HSN := Lib.hid HSN.out.drew
        replace HBB := Lib.hid HBB.out.drew
        replace HV := Lib.hid HV.out.drew
        replace HM := Lib.hid (HM.out.post (Chg.refl _ w6).drew)
        generalize w6.drew = w7 at *
        obtain ⟨A9, m9, c9, hbp⟩ := SN.raw HSN.out
        obtain ⟨s0, s1, s2, s3, s4⟩ := sn_cells hbp
        have g4 := hbp.frozen 4
        obtain ⟨q0, q1, q2, q3, q4⟩ := lt_cells HQ.out
        replace HSN := Lib.hid (HSN.out.got ls)
        have hc := (Chg.refl (fun k => k = p) w7).put p 4 (fun _ => rfl) (.int .i64 ls)
        replace HQ := Lib.hid (HQ.out.chg hc (by omega))
        replace HR := Lib.hid (HR.out.chg hc (by omega))
        replace HV := Lib.hid (HV.out.chg hc (by omega))
        replace HBB := Lib.hid (HBB.out.chg hc (fun k hk e => by subst e; exact HSP.out hk.1))
        replace HM := Lib.hid (HM.out.trans ⟨hc.mono (fun k _ e => .inl e), .inl rfl⟩)
        clear hc hbp
        go_upto_region 13 with fail
        generalize w7.setCell ⟨p, 4, none⟩ (.int .i64 ls) = w8 at *
        clear s0 s1 s2 s3 s4 q0 q1 q2 q3 q4 g4
        obtain ⟨q0, q1, q2, q3, q4⟩ := lt_cells HQ.out
        have HCL := Lib.hid (tclone_any B b.length d b _ w8 rfl HBB.out hz (by omega))
        go_wp2_with fail
        refine HCL.out.mono ?_
        rintro e w9 ⟨E, ed, rfl, hown, hc⟩
        have HNIL := Lib.hid (own_nil hown)
        have HRE := Lib.hid ((own_rds2 hown).mono (S' := fun k => hv + 1 ≤ k) (fun k hk => by have h1 := HV.out.lt; have h2 := hk.1; omega))
        clear hown HCL q0 q1 q2 q3 q4
        replace HQ := Lib.hid (HQ.out.chg hc id)
        replace HR := Lib.hid (HR.out.chg hc id)
        replace HV := Lib.hid (HV.out.chg hc id)
        replace HSN := Lib.hid (HSN.out.new hc)
        replace HBB := Lib.hid (HBB.out.chg hc (fun _ _ => id))
        replace HM := Lib.hid (HM.out.post hc)
        clear hc
        obtain ⟨f0, f1, f2⟩ := tk_free HV.out
        obtain ⟨v0, v1, v2⟩ := tk_cells HV.out
        have hv10 : Blk ((w9.setCell ⟨hv, 0, none⟩ (.slice E b.length ed)).setCell ⟨hv, 1, none⟩ (.bool true)) hv 55 (tkC E b.length ed true false) := (HV.out.set 0 (.slice E b.length ed)).set 1 (.bool true)
        have hc := (((Chg.refl (fun k => k = hv) w9).put hv 0 (fun _ => rfl) (.slice E b.length ed)).put hv 1 (fun _ => rfl) (.bool true))
        replace HQ := Lib.hid (HQ.out.chg hc (by omega))
        replace HR := Lib.hid (HR.out.chg hc (by omega))
        replace HSN := Lib.hid (HSN.out.chg hc (by omega) (fun k hk => by have := HOY.out k hk; omega) (fun k hk => by have := hk.2; omega))
        replace HM := Lib.hid (HM.out.put hc (by omega))
        replace HRE := Lib.hid (HRE.out.chg hc (fun k hk e => by omega))
        replace HV := Lib.hid hv10
        clear hc hv10 HBB
        go_upto_region 14 with fail
        generalize (w9.setCell ⟨hv, 0, none⟩ (.slice E b.length ed)).setCell ⟨hv, 1, none⟩ (.bool true) = w10 at *
        clear v0 v1 v2 f0 f1 f2
        obtain ⟨u0, u1, u2⟩ := tk_free HR.out
        obtain ⟨x0, x1, x2⟩ := tk_cells HR.out
        obtain ⟨v0, v1, v2⟩ := tk_cells HV.out
        obtain ⟨r0, r1, r2, -, hcs⟩ := tk_put HR.out E b.length ed true false
        have RR := Lib.hid (And.intro r0 (And.intro r1 r2))
        have HCS := Lib.hid hcs
        clear r0 r1 r2 hcs
        go_wp2_with fail
        obtain ⟨r0, r1, r2⟩ := RR.out
        exact bodyPost_ret (v := .tuple #[.agg (tkC E b.length ed true false), .int .i64 0]) (by simp [results, Try.results20, go_sem, tkC, r0, r1, r2]) rfl (tk_hit HLR.out (show ¬ lm < pe from by have := HST.out; omega) HPM.out (decide_eq_false (show ¬ pe < lm from by have := HRES.out; omega)) (if_neg (show ¬ pe < lm from by have := HRES.out; omega)) HSE.out ⟨E, ed, rfl, HNIL.out, (HRE.out.chg HCS.out (fun k hk e => by omega)).mono (fun k hk => by omega), HSN0.out.sm2 (by rw [HACK.out]; exact (HSN.out.chg HCS.out (by omega) (fun k hk => by have := HOY.out k hk; omega) (fun k hk => by have := hk.2; omega))) (HM.out.put HCS.out (by omega)) (by first | exact .inl rfl | exact .inr rfl)⟩)

end Go.Proofs.Ytbbjecjhkjjbkaa
