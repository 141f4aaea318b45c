/-
  Moves that came in, opened. Walk: rutterlaw11.SessionOrder. Conditions: the moves lie in memory.
-/
import Derived.Test.YtbbjecjhkjjbkaaHk
import Derived.Test.YtbbjecjhkjjbkaaGs
import Derived.Test.YtbbjecjhkjjbkaaGr
namespace Go.Proofs.Ytbbjecjhkjjbkaa
open Go.RowKit Go.ChangeShapes Go.WideShapes Go.ChangeAt
set_option linter.unusedVariables false
set_option linter.unusedSimpArgs false

theorem n11_cT : Try.prog.cellsOf 4 = 1 := by kernel_rfl
theorem n11_cM : Try.prog.cellsOf 68 = 3 := by kernel_rfl
structure Mv11 where
  sec : Bool
  wh : Int
  at_ : Int
def Mv11.cs (x : Mv11) : Array Value := #[.bool x.sec, .int .u8 x.wh, .int .u8 x.at_]
def Mv11.ok (x : Mv11) : Prop := (0 ≤ x.wh ∧ x.wh ≤ 255) ∧ (0 ≤ x.at_ ∧ x.at_ ≤ 255)
section
variable {H : Type} {enc : TypeId × Value → H} {w : World} {base : Nat} {spare : Nat → Bool} {held : Bool}
set_option maxRecDepth 20000 in
theorem move_trod11 {fuel : Nat} {cs : List Value} {x : DataW H × List MemPlace} (h : DataW.trod enc Try.prog w base spare held fuel 68 cs = some x) : ∃ r : Mv11, cs = r.cs.toList ∧ r.ok := by
  obtain ⟨ys, k, _, _, hl, hyl, hf⟩ := DataW.trod_struct Try.underlying68 h
  rw [n11_cM] at hl
  match cs, hl with
  | [c0, c1, c2], _ =>
    obtain ⟨_, k0⟩ := fld11 (hf 0 _ rfl) hyl (by decide)
    obtain ⟨_, k1⟩ := fld11 (hf 1 _ rfl) hyl (by decide)
    obtain ⟨_, k2⟩ := fld11 (hf 2 _ rfl) hyl (by decide)
    simp only [List.getElem_toArray, List.getElem_cons_zero, List.getElem_cons_succ] at k0 k1 k2
    rw [n11_cT] at k0
    rw [n11_cB] at k1 k2
    simp only [List.drop_zero, List.drop_succ_cons, List.take_succ_cons, List.take_zero] at k0 k1 k2
    obtain ⟨b, e0, _⟩ := DataW.trod_bool Try.underlying4 k0
    obtain ⟨z1, e1, _, w1⟩ := DataW.trod_int Try.underlying5 k1
    obtain ⟨z2, e2, _, w2⟩ := DataW.trod_int Try.underlying5 k2
    simp only [List.cons.injEq, and_true] at e0 e1 e2
    subst e0 e1 e2
    exact ⟨⟨b, z1, z2⟩, rfl, u8_range w1, u8_range w2⟩
end
/-- A slice of m moves, of three cells each. -/
def MR11 (w : World) (S : Nat → Prop) (L : Option Addr) (m : Nat) (l : List Mv11) : Prop :=
  m = l.length ∧ (0 < m → ∃ ad, L = some ad ∧ S ad.block ∧ ad.block < w.heap.size ∧ ∀ (i : Nat) (x : Mv11), l[i]? = some x → (∀ j u, x.cs[j]? = some u → w.cell? (ad.add (i * 3 + j)) = some u) ∧ x.ok)
section
variable {w w' : World} {S S' : Nat → Prop} {L : Option Addr} {m : Nat} {l : List Mv11}
theorem MR11.chg (h : MR11 w S L m l) (hc : Chg S' w w') (hd : ∀ k, S k → ¬ S' k) : MR11 w' S L m l := by
  refine ⟨h.1, fun hm => ?_⟩
  obtain ⟨ad, e, hs, hb, hcell⟩ := h.2 hm
  refine ⟨ad, e, hs, Nat.lt_of_lt_of_le hb hc.size, fun i x hi => ?_⟩
  obtain ⟨h1, h2⟩ := hcell i x hi
  have e1 : ∀ j, w'.cell? (ad.add j) = w.cell? (ad.add j) := fun j => World.cell?_of_block (w := w) (w' := w') (by rw [block_add]; exact hc.block _ hb (hd _ hs))
  exact ⟨fun j u hu => by rw [e1]; exact h1 j u hu, h2⟩
theorem MR11.at {ad : Addr} {i : Nat} {x : Mv11} (h : MR11 w S (some ad) m l) (hi : l[i]? = some x) :
    (w.cell? (ad.add (i * 3)) = some (.bool x.sec) ∧ w.cell? ⟨(ad.add (i * 3)).block, (ad.add (i * 3)).off + 1, none⟩ = some (.int .u8 x.wh) ∧ w.cell? ⟨(ad.add (i * 3)).block, (ad.add (i * 3)).off + 2, none⟩ = some (.int .u8 x.at_)) ∧ x.ok := by
  have hl : i < l.length := (List.getElem?_eq_some_iff.1 hi).1
  obtain ⟨ad', e, _, _, hc⟩ := h.2 (by have := h.1; omega)
  injection e with e
  subst e
  obtain ⟨h1, h2⟩ := hc i x hi
  have h0 := h1 0 _ rfl
  rw [Nat.add_zero] at h0
  refine ⟨⟨h0, ?_, ?_⟩, h2⟩
  · rw [← at_off _ _ _ (by decide)]; exact h1 1 _ rfl
  · rw [← at_off _ _ _ (by decide)]; exact h1 2 _ rfl
end
theorem moves11_open {H : Type} {enc : TypeId × Value → H} {W : World} {v : Value} {d : DataW H} {p : List MemPlace} {base : Nat} {spare : Nat → Bool} {held : Bool}
    (h : DataW.Trod enc Try.prog W base spare held 62 v d p) (hv : ∃ A n c, v = .slice A n c) : ∃ (L : Option Addr) (m c : Nat) (l : List Mv11), v = .slice L m c ∧ m ≤ 9223372036854775807 ∧ MR11 W (fun k => k < W.heap.size) L m l := by
  obtain ⟨A, n, c, rfl⟩ := hv
  obtain ⟨fuel, hf⟩ := h
  have hc0 : (Value.slice A n c).cells.toList = [.slice A n c] := by simp [Value.cells]
  rw [hc0] at hf
  rcases Go.Deep.open_slice Try.underlying62 hf with ⟨hcs, _⟩ | ⟨a, len, cap, m, n2, D, Pl, hcs, _, hl, hm, hmm, _, hi⟩
  · simp only [List.cons.injEq, and_true] at hcs
    exact ⟨none, 0, 0, [], hcs, by decide, ⟨rfl, fun h => absurd h (by omega)⟩⟩
  · simp only [List.cons.injEq, and_true] at hcs
    have hml : len ≤ m := by
      rw [hmm]
      split <;> omega
    obtain ⟨l, hll, hp⟩ := list_of (P := fun i (x : Mv11) => (∀ j u, x.cs[j]? = some u → W.cell? (a.add (i * 3 + j)) = some u) ∧ x.ok) len (fun i hil => by
      obtain ⟨vs, hc, hread⟩ := hi i (by omega)
      rw [n11_cM] at hc
      obtain ⟨_, hvl, hat⟩ := World.cells?_some hc
      obtain ⟨r, hr, hs⟩ := move_trod11 hread
      refine ⟨r, fun j u hu => ?_, hs⟩
      have hj : j < 3 := (Array.getElem?_eq_some_iff.1 hu).1
      have h1 := hat j hj
      rw [off_add] at h1
      rw [h1, hr, ← hu]
      simp)
    refine ⟨some a, len, cap, l, hcs, by unfold maxLen at hm; omega, ⟨hll.symm, fun h0 => ?_⟩⟩
    have hb : a.block < W.heap.size := by
      have hx : l[0]? = some (l[0]'(by omega)) := List.getElem?_eq_getElem (by omega)
      have := World.block_lt_of_cell? W _ ((hp 0 _ hx).1 0 _ rfl)
      rwa [block_add] at this
    exact ⟨a, rfl, hb, hb, fun i x hx => hp i x hx⟩
theorem en_ptr {B : Nat} {w : World} {f : Nat → Option Nat} {L e : Nat} {x : EV} (h : EN11 B w f L e x) : ∃ p T t tc, w.cell? ⟨e, 0, none⟩ = some (.pointer (some ⟨p, 0, none⟩)) ∧ w.cell? ⟨e, 1, none⟩ = some (.int .i64 x.boot) ∧ w.cell? ⟨e, 5, none⟩ = some (.slice T t tc) := by
  obtain ⟨p, I, n, ic, O, m, oc, T, t, tc, ys, h⟩ := h
  obtain ⟨z0, z1, z2, z3, z4, z5⟩ := en_cells h.blk
  exact ⟨p, T, t, tc, z0, z1, z5⟩

set_option maxRecDepth 100000 in
set_option maxHeartbeats 8000000 in
theorem order11_any (L : Option Addr) (m lc : Nat) (l : List Mv11) (w : World) (h : MR11 w (fun k => k < w.heap.size) L m l) (hmc : m ≤ 9223372036854775807) : Calls Try.prog 5 #[.slice L m lc] w fun E w' => E = .returned (.bool true) ∧ Chg (fun _ => False) w w' := by
  have HL := Lib.hid h
  have HLN := Lib.hid h.1
  clear h
  by_cases h120 : 120 < m
  case pos =>
    have HAL := Lib.hid (alive11_any w)
    go_enter Try.func5, Try.ntmps5
    go_wp2_with fail
    refine HAL.out.mono ?_
    rintro E w1 ⟨rfl, hc⟩
    go_wp2_with fail
    go_ret
    exact ⟨rfl, hc⟩
  case neg =>
    go_enter Try.func5, Try.ntmps5
    go_wp2_with fail
    refine (start11_any 1 w (by omega)).mono ?_
    rintro E w1 ⟨p, e, rfl, hp, he, hne, hbp, hbe, hc⟩
    obtain ⟨f1, hx1, hr1⟩ := en_begin (B := w.heap.size) (L := 0) (ls := []) (ys := []) (FR.none (Nat.le_refl _)) hp he hne hbp hbe hc (World.ownsRow_nil _ _ _ _) rfl rfl (LB.nil _ _)
    have h11 : f1 (6 + 5) = none := hr1.eq 11 (by omega)
    have HX1 := Lib.hid hx1
    have HF1 := Lib.hid hr1.fr
    have HC1 := Lib.hid hc
    have H11 := Lib.hid h11
    clear hp he hne hbp hbe hc hx1 hr1 h11
    go_wp2_with fail
    refine (start11_any 1 w1 (by omega)).mono ?_
    rintro E w2 ⟨p2, d, rfl, hp, he, hne, hbp, hbe, hc⟩
    obtain ⟨f2, hy2, hr2⟩ := en_begin (L := 6) (ls := []) (ys := []) HF1.out hp he hne hbp hbe hc (World.ownsRow_nil _ _ _ _) H11.out.symm rfl (LB.nil _ _)
    have HX := Lib.hid (HX1.out.keep HF1.out hr2 (chg_tn hc) (fun a _ _ => by omega))
    have HY := Lib.hid hy2
    have HF := Lib.hid hr2.fr
    have HC := Lib.hid ((HC1.out.trans hc (fun _ _ e => e)).mono (S' := fun k => w.heap.size ≤ k) (fun _ _ h => h.elim))
    have HT := Lib.hid Two11.begin
    generalize hx0 : newV 1 [] = x0 at *
    clear hx0 hp he hne hbp hbe hc hy2 hr2 HX1 HF1 HC1 H11
    go_wp2_with fail
    go_loopg [4, 5, 6, 7, 8, 9] m (fun g s4 i s6 s7 s8 s9 wr => ∃ (j : Nat) (f : Nat → Option Nat) (d : Nat) (x y : EV), g = m - j ∧ j ≤ m ∧ i = .int .i64 (j : Int) ∧ s4 = .pointer (some ⟨d, 0, none⟩) ∧ Hid (EN11 w.heap.size wr f 0 e x) ∧ Hid (EN11 w.heap.size wr f 6 d y) ∧ Hid (FR w.heap.size wr f) ∧ Hid (Two11 j x y) ∧ Hid (Chg (fun k => w.heap.size ≤ k) w wr))
    case atStart => exact ⟨0, f2, d, x0, x0, rfl, Nat.zero_le _, rfl, rfl, HX, HY, HF, HT, HC⟩
    case round =>
      clear HX HY HF HT HC
      obtain ⟨j, f, d, x, y, rfl, hj, rfl, rfl, HX, HY, HF, HT, HC⟩ := hrel
      by_cases hlt : j < m
      · have hh := HL.out.chg HC.out (fun k hk => by omega)
        obtain ⟨ad, rfl, -⟩ := hh.2 (by omega)
        have hjl : j < l.length := by have := HLN.out; omega
        have hmv : l[j]? = some l[j] := List.getElem?_eq_getElem hjl
        generalize l[j] = mv at *
        obtain ⟨sec, wh, at_⟩ := mv
        obtain ⟨⟨z0, z1, z2⟩, hok1, hok2⟩ := hh.at hmv
        simp only at z0 z1 z2 hok1 hok2
        have HO1 := Lib.hid hok1
        have HO2 := Lib.hid hok2
        obtain ⟨pa, Ta, ta, tca, x0, x1, x5⟩ := en_ptr HX.out
        clear hh hjl hmv hok2 x1 x5
        by_cases h9 : wh % 10 = 9
        · have t9 : (wh % 10 == 9) = true := by simpa using h9
          obtain ⟨p, I, ni, ic, O, mo, oc, T, t, tc, ys, hy⟩ := HY.out
          obtain ⟨y0, y1, y2, y3, y4, y5⟩ := en_cells hy.blk
          have HEY := Lib.hid hy
          have HBT := Lib.hid (show y.boot = y.sv.mi ∧ 1 ≤ y.sv.mi ∧ y.sv.mi ≤ 1 + (j : Int) from ⟨HT.out.b.bt, HT.out.b.mi⟩)
          have hbw : IntKind.i64.wrap (y.boot + 1) = y.boot + 1 := IntWalk.i64_in _ (by have := HBT.out; omega)
          have HST := Lib.hid (start11_any (y.boot + 1) wr (by have := HBT.out; omega))
          clear hy h9
          go_wp2_with fail
          refine HST.out.mono ?_
          rintro E w4 ⟨p3, c3, rfl, hp3, hc3, hne3, hbp3, hbe3, hcc⟩
          have hlt3 := HEY.out.blk.lt
          have HEY4 := Lib.hid (HEY.out.new HF.out hcc)
          obtain ⟨v0, v1, v2, v3, v4, v5⟩ := en_cells HEY4.out.blk
          obtain ⟨n0, n1, n2, n3, n4, n5⟩ := en_cells hbe3
          have u5 := hbe3.frozen 5
          have hb5 := hbe3.set 5 (.slice T t tc)
          simp only [endC, List.setIfInBounds_toArray, List.set_cons_succ, List.set_cons_zero] at hb5
          have hcs := (Chg.refl (fun k => k = c3) w4).put c3 5 (fun _ => rfl) (.slice T t tc)
          have hc5 := fresh_set hcc hcs hc3
          obtain ⟨f5, hen5, hr5⟩ := en_begin (L := 6) HF.out hp3 hc3 hne3 (hbp3.chg hcs hne3) hb5 hc5 HEY.out.row HEY.out.rl HEY.out.rno HEY.out.bod
          have HY6 := Lib.hid hen5
          have HX6 := Lib.hid (HX.out.keep HF.out hr5 (chg_tn hc5) (fun a _ _ => by omega))
          have HF6 := Lib.hid hr5.fr
          have HC6 := Lib.hid (HC.out.trans (hc5.mono (S' := fun k => w.heap.size ≤ k) (fun _ _ h => h.elim)) (fun _ _ e => e))
          have HT6 : Hid (Two11 (j + 1) x (newV (y.boot + 1) y.ls)) := Lib.hid (by rw [HBT.out.1]; exact HT.out.boot)
          clear hp3 hc3 hne3 hbp3 hbe3 hcc hlt3 hb5 hcs hc5 hen5 hr5 HST HX HF HC HT HEY
          generalize newV (y.boot + 1) y.ls = y6 at *
          go_upto_region 18 with fail
          clear v0 v1 v2 v3 v4 v5 n0 n1 n2 n3 n4 n5 u5 x0 y0 y1 y2 y3 y4 y5 z0 z1 z2 HY HEY4
          have HB1 := Lib.hid (begins11_any _ f5 0 6 e c3 x y6 _ HX6.out HY6.out (begins11_plain HT6.out.ba HT6.out.a HT6.out.b))
          go_wp2_with fail
          refine HB1.out.mono ?_
          rintro E wb1 ⟨rfl, hcb⟩
          have HX8 := Lib.hid (HX6.out.new HF6.out hcb)
          have HY8 := Lib.hid (HY6.out.new HF6.out hcb)
          have HF8 := Lib.hid (HF6.out.size hcb.size)
          have HC8 := Lib.hid (HC6.out.trans (hcb.mono (S' := fun k => w.heap.size ≤ k) (fun _ _ h => h.elim)) (fun _ _ e => e))
          have HB2 := Lib.hid (begins11_any _ f5 6 0 c3 e y6 x _ HY8.out HX8.out (begins11_plain HT6.out.ab HT6.out.b HT6.out.a))
          clear hcb HB1
          go_wp2_with fail
          refine HB2.out.mono ?_
          rintro E wb2 ⟨rfl, hcb⟩
          have HX9 := Lib.hid (HX8.out.new HF8.out hcb)
          have HY9 := Lib.hid (HY8.out.new HF8.out hcb)
          have HF9 := Lib.hid (HF8.out.size hcb.size)
          have HC9 := Lib.hid (HC8.out.trans (hcb.mono (S' := fun k => w.heap.size ≤ k) (fun _ _ h => h.elim)) (fun _ _ e => e))
          clear hcb HB2
          go_wp2_with fail
          go_roundg (m - (j + 1))
          case measure => omega
          case rel => exact ⟨j + 1, f5, c3, x, y6, rfl, by omega, by go_num, rfl, HX9, HY9, HF9, HT6, HC9⟩
        · have t9 : (wh % 10 == 9) = false := by simpa using h9
          obtain ⟨pb, Tb, tb, tcb, y0, y1, y5⟩ := en_ptr HY.out
          clear h9 y1 y5
          cases sec with
          | true =>
            have HAC := Lib.hid (act11_any w.heap.size j 6 0 d e f y x true wh at_ (j : Int) wr HF.out HY.out HX.out HT.out.swap (by omega) (by omega) (by omega) (by omega) (by omega) HO1.out HO2.out)
            go_wp2_with fail
            refine HAC.out.mono ?_
            rintro E w4 ⟨rfl, f5, y6, x6, hy6, hx6, hf6, ht6, hc6⟩
            have HY6 := Lib.hid hy6
            have HX6 := Lib.hid hx6
            have HF6 := Lib.hid hf6
            have HT6 := Lib.hid ht6.swap
            have HC6 := Lib.hid (HC.out.trans hc6 (fun _ _ e => e))
            clear hy6 hx6 hf6 ht6 hc6 HAC HX HY HF HT HC x0 y0 z0 z1 z2
            have HB1 := Lib.hid (begins11_any _ f5 0 6 e d x6 y6 _ HX6.out HY6.out (begins11_plain HT6.out.ba HT6.out.a HT6.out.b))
            go_wp2_with fail
            refine HB1.out.mono ?_
            rintro E wb1 ⟨rfl, hcb⟩
            have HX8 := Lib.hid (HX6.out.new HF6.out hcb)
            have HY8 := Lib.hid (HY6.out.new HF6.out hcb)
            have HF8 := Lib.hid (HF6.out.size hcb.size)
            have HC8 := Lib.hid (HC6.out.trans (hcb.mono (S' := fun k => w.heap.size ≤ k) (fun _ _ h => h.elim)) (fun _ _ e => e))
            have HB2 := Lib.hid (begins11_any _ f5 6 0 d e y6 x6 _ HY8.out HX8.out (begins11_plain HT6.out.ab HT6.out.b HT6.out.a))
            clear hcb HB1
            go_wp2_with fail
            refine HB2.out.mono ?_
            rintro E wb2 ⟨rfl, hcb⟩
            have HX9 := Lib.hid (HX8.out.new HF8.out hcb)
            have HY9 := Lib.hid (HY8.out.new HF8.out hcb)
            have HF9 := Lib.hid (HF8.out.size hcb.size)
            have HC9 := Lib.hid (HC8.out.trans (hcb.mono (S' := fun k => w.heap.size ≤ k) (fun _ _ h => h.elim)) (fun _ _ e => e))
            clear hcb HB2
            go_wp2_with fail
            go_roundg (m - (j + 1))
            case measure => omega
            case rel => exact ⟨j + 1, f5, d, x6, y6, rfl, by omega, by go_num, rfl, HX9, HY9, HF9, HT6, HC9⟩
          | false =>
            have HAC := Lib.hid (act11_any w.heap.size j 0 6 e d f x y false wh at_ (j : Int) wr HF.out HX.out HY.out HT.out (by omega) (by omega) (by omega) (by omega) (by omega) HO1.out HO2.out)
            go_wp2_with fail
            refine HAC.out.mono ?_
            rintro E w4 ⟨rfl, f5, x6, y6, hx6, hy6, hf6, ht6, hc6⟩
            have HY6 := Lib.hid hy6
            have HX6 := Lib.hid hx6
            have HF6 := Lib.hid hf6
            have HT6 := Lib.hid ht6
            have HC6 := Lib.hid (HC.out.trans hc6 (fun _ _ e => e))
            clear hy6 hx6 hf6 ht6 hc6 HAC HX HY HF HT HC x0 y0 z0 z1 z2
            have HB1 := Lib.hid (begins11_any _ f5 0 6 e d x6 y6 _ HX6.out HY6.out (begins11_plain HT6.out.ba HT6.out.a HT6.out.b))
            go_wp2_with fail
            refine HB1.out.mono ?_
            rintro E wb1 ⟨rfl, hcb⟩
            have HX8 := Lib.hid (HX6.out.new HF6.out hcb)
            have HY8 := Lib.hid (HY6.out.new HF6.out hcb)
            have HF8 := Lib.hid (HF6.out.size hcb.size)
            have HC8 := Lib.hid (HC6.out.trans (hcb.mono (S' := fun k => w.heap.size ≤ k) (fun _ _ h => h.elim)) (fun _ _ e => e))
            have HB2 := Lib.hid (begins11_any _ f5 6 0 d e y6 x6 _ HY8.out HX8.out (begins11_plain HT6.out.ab HT6.out.b HT6.out.a))
            clear hcb HB1
            go_wp2_with fail
            refine HB2.out.mono ?_
            rintro E wb2 ⟨rfl, hcb⟩
            have HX9 := Lib.hid (HX8.out.new HF8.out hcb)
            have HY9 := Lib.hid (HY8.out.new HF8.out hcb)
            have HF9 := Lib.hid (HF8.out.size hcb.size)
            have HC9 := Lib.hid (HC8.out.trans (hcb.mono (S' := fun k => w.heap.size ≤ k) (fun _ _ h => h.elim)) (fun _ _ e => e))
            clear hcb HB2
            go_wp2_with fail
            go_roundg (m - (j + 1))
            case measure => omega
            case rel => exact ⟨j + 1, f5, d, x6, y6, rfl, by omega, by go_num, rfl, HX9, HY9, HF9, HT6, HC9⟩
      · have HCE := Lib.hid (HC.out.mono (S' := fun _ => False) (fun k hk e => by omega))
        have HAL := Lib.hid (alive11_any wr)
        go_wp2_with fail
        refine HAL.out.mono ?_
        rintro E w5 ⟨rfl, hc⟩
        go_wp2_with fail
        go_ret
        exact ⟨rfl, HCE.out.trans hc (fun _ _ e => e)⟩

end Go.Proofs.Ytbbjecjhkjjbkaa
