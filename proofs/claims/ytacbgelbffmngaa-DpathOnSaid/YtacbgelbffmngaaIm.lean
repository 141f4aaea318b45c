/-
  Walk: rutterlaw15.DpathOn. Conditions: the rows, and the load, are read in memory.
-/
import Derived.Test.YtacbgelbffmngaaIl
import Derived.Test.YtacbgelbffmngaaZf
import Derived.Deep.RegionHeld3
import Derived.Deep.LoopGhost
import Derived.Deep.Cut
import Derived.Deep.DeepCutAuto
import Derived.RegionTactic
import Derived.BigQuiet
namespace Go.Proofs.Ytacbgelbffmngaa
open Go.RowKit
set_option linter.unusedVariables false
set_option linter.unusedSimpArgs false

set_option maxRecDepth 100000 in
set_option maxHeartbeats 2000000 in
theorem ou_blk15 {w : World} {r : Nat} {T : TypeId} {kd0 po0 ge0 st0 : Int} {A0 : Option Addr} {n0 c0 : Nat} {k0 o0 f0 t0 p0 g0 i0 : Int} {B0 : Option Addr} {m0 d0 : Nat} (hb : Blk w r T (ouC15 kd0 po0 ge0 st0 A0 n0 c0 k0 o0 f0 t0 p0 g0 i0 B0 m0 d0)) (kd po ge st : Int) (A : Option Addr) (n c : Nat) (k o f t p g i : Int) (A2 : Option Addr) (n2 c2 : Nat) : Blk (((((((((((((w.setCell ⟨r, 0, none⟩ (.int .i64 kd)).setCell ⟨r, 1, none⟩ (.int .i64 po)).setCell ⟨r, 2, none⟩ (.int .i64 ge)).setCell ⟨r, 3, none⟩ (.int .i64 st)).setCell ⟨r, 4, none⟩ (.slice A n c)).setCell ⟨r, 5, none⟩ (.int .i64 k)).setCell ⟨r, 6, none⟩ (.int .i64 o)).setCell ⟨r, 7, none⟩ (.int .i64 f)).setCell ⟨r, 8, none⟩ (.int .i64 t)).setCell ⟨r, 9, none⟩ (.int .i64 p)).setCell ⟨r, 10, none⟩ (.int .i64 g)).setCell ⟨r, 11, none⟩ (.int .i64 i)).setCell ⟨r, 12, none⟩ (.slice A2 n2 c2)) r T (ouC15 kd po ge st A n c k o f t p g i A2 n2 c2) := by
  have h0 := hb.set 0 (.int .i64 kd)
  have h1 := h0.set 1 (.int .i64 po)
  have h2 := h1.set 2 (.int .i64 ge)
  have h3 := h2.set 3 (.int .i64 st)
  have h4 := h3.set 4 (.slice A n c)
  have h5 := h4.set 5 (.int .i64 k)
  have h6 := h5.set 6 (.int .i64 o)
  have h7 := h6.set 7 (.int .i64 f)
  have h8 := h7.set 8 (.int .i64 t)
  have h9 := h8.set 9 (.int .i64 p)
  have h10 := h9.set 10 (.int .i64 g)
  have h11 := h10.set 11 (.int .i64 i)
  have h12 := h11.set 12 (.slice A2 n2 c2)
  simp only [ouC15, List.setIfInBounds_toArray, List.set_cons_succ, List.set_cons_zero] at h12
  exact h12
set_option maxRecDepth 100000 in
set_option maxHeartbeats 8000000 in
theorem rstand15_any {w : World} {L : Option Addr} {m lc : Nat} {l : List RV} (h : RwR w L m l) (hmc : m ≤ 9223372036854775807) : Calls Try.prog 18 #[.slice L m lc] w fun e w' => ∃ b, e = .returned (.bool b) ∧ Chg (fun _ => False) w w' := by
  have HL := Lib.hid h.1
  have HRD := Lib.hid h
  clear h
  go_enter Try.func18, Try.ntmps18
  go_wp2_with fail
  go_loopg [3, 4, 5] m (fun g i s4 s5 wr => ∃ (j : Nat), g = m - j ∧ j ≤ m ∧ i = .int .i64 (j : Int) ∧ Hid (∀ (i : Nat) (x : RV), i < j → l[i]? = some x → x.ok = true ∧ ∀ (k : Nat) (y : RV), k < i → l[k]? = some y → ¬ y.po = x.po) ∧ Hid (Chg (fun _ => False) w wr))
  case atStart => exact ⟨0, rfl, Nat.zero_le _, rfl, Lib.hid (fun i x hi => absurd hi (Nat.not_lt_zero _)), Lib.hid (Chg.refl _ _)⟩
  case round =>
    obtain ⟨j, rfl, hj, rfl, HAL, HX0⟩ := hrel
    by_cases hlt : j < m
    · have hh := HRD.out.chg HX0.out
      obtain ⟨ad, rfl, -⟩ := hh.2 (by omega)
      have hjl : j < l.length := by have := HL.out; omega
      have hx : l[j]? = some l[j] := List.getElem?_eq_getElem hjl
      generalize l[j] = x at *
      obtain ⟨z0, z1, z2, z3, z4, z5, z6, z7, z8⟩ := hh.at hx
      have HJX := Lib.hid hx
      clear hx hh hjl
      have hrow : ∀ W, Calls _ _ _ W (fun e w' => e = .returned (.bool x.ok) ∧ Chg (fun _ => False) W w') := fun W => rrow_any x.po x.ma x.ow x.ta x.ol x.ge x.ph x.ve x.si W
      unfold rvC at hrow
      cases hok : x.ok with
      | false =>
        rw [hok] at hrow
        have HRO := Lib.hid hrow
        clear hrow hok
        go_wp2_with fail
        refine (HRO.out _).mono ?_
        rintro e wz ⟨rfl, hc⟩
        replace HX0 := Lib.hid (HX0.out.trans hc (fun _ _ e => e))
        clear hc
        go_wp2_with fail
        go_ret
        exact ⟨false, rfl, HX0.out⟩
      | true =>
        rw [hok] at hrow
        have HRO := Lib.hid hrow
        have HOK := Lib.hid hok
        clear hrow hok
        go_wp2_with fail
        refine (HRO.out _).mono ?_
        rintro e wz ⟨rfl, hc⟩
        replace HX0 := Lib.hid (HX0.out.trans hc (fun _ _ e => e))
        clear hc z0 z1 z2 z3 z4 z5 z6 z7 z8
        go_wp2_with fail
        go_loopg [5] j (fun g s5 wr => ∃ (i : Nat), g = j - i ∧ i ≤ j ∧ s5 = .int .i64 (i : Int) ∧ Hid (∀ (k : Nat) (y : RV), k < i → l[k]? = some y → ¬ y.po = x.po) ∧ Hid (Chg (fun _ => False) w wr))
        case atStart => exact ⟨0, rfl, Nat.zero_le _, rfl, Lib.hid (fun i x hi => absurd hi (Nat.not_lt_zero _)), HX0⟩
        case round =>
          clear HX0
          obtain ⟨i, rfl, hi, rfl, HAI, HX0⟩ := hrel
          by_cases hlt2 : i < j
          · have him : i < m := by omega
            have hil : i < l.length := by have := HL.out; omega
            have hy : l[i]? = some l[i] := List.getElem?_eq_getElem hil
            generalize l[i] = y at *
            have hh := HRD.out.chg HX0.out
            obtain ⟨y0, y1, y2, y3, y4, y5, y6, y7, y8⟩ := hh.at hy
            obtain ⟨z0, z1, z2, z3, z4, z5, z6, z7, z8⟩ := hh.at HJX.out
            have HIY := Lib.hid hy
            clear hy hh hil y1 y2 y3 y4 y5 y6 y7 y8 z1 z2 z3 z4 z5 z6 z7 z8
            by_cases hp : y.po = x.po
            · have tp : (y.po == x.po) = true := by simp [hp]
              clear hp
              go_wp2_with fail
              go_quiet (fail)
              replace HX0 := Lib.hid (HX0.out.drewN nq)
              generalize World.drewN wr nq = wq at *
              go_wp2_with fail
              go_ret
              exact ⟨false, rfl, HX0.out⟩
            · have tp : (y.po == x.po) = false := by simp [hp]
              have HPP := Lib.hid hp
              clear hp
              go_wp2_with fail
              go_quiet (fail)
              replace HX0 := Lib.hid (HX0.out.drewN nq)
              generalize World.drewN wr nq = wq at *
              go_wp2_with fail
              go_roundg (j - (i + 1))
              case measure => omega
              case rel => exact ⟨i + 1, rfl, by omega, by go_num, Lib.hid (fun k y2 hk hy2 => by
                by_cases e : k < i
                · exact HAI.out k y2 e hy2
                · have : k = i := by omega
                  subst this
                  rw [HIY.out] at hy2
                  injection hy2 with hy2
                  subst hy2
                  exact HPP.out), HX0⟩
          · have hij : i = j := by omega
            subst hij
            go_wp2_with fail
            go_roundg (m - (i + 1))
            case measure => omega
            case rel => exact ⟨i + 1, rfl, by omega, by go_num, Lib.hid (fun k y2 hk hy2 => by
              by_cases e : k < i
              · exact HAL.out k y2 e hy2
              · have : k = i := by omega
                subst this
                rw [HJX.out] at hy2
                injection hy2 with hy2
                subst hy2
                exact ⟨HOK.out, HAI.out⟩), HX0⟩
    · have hjm : j = m := by omega
      subst hjm
      have HST := Lib.hid (show std14 l from ⟨fun r hr => by
        obtain ⟨i, hi, he⟩ := List.getElem_of_mem hr
        exact (HAL.out i r (by have := HL.out; omega) (by rw [List.getElem?_eq_getElem hi, he])).1, fun i k x y hk hx hy => (HAL.out i x (by have := HL.out; have := (List.getElem?_eq_some_iff.1 hx).1; omega) hx).2 k y hk hy⟩)
      go_wp2_with fail
      go_ret
      exact ⟨true, rfl, HX0.out⟩
/-- The visits ahead of round z. -/
def V15 (w : World) (X base : Nat) (c z : Int) (E : Option Addr) (n d : Nat) (vs : List Int) : Prop :=
  (z = 1 ∧ E = some ⟨X, 0, none⟩ ∧ n = 1 ∧ d = 1 ∧ vs = [c] ∧ Blk w X 3 #[.int .i64 c]) ∨ (z = 2 ∧ n = 2 ∧ vs.length = 2 ∧ Vs15 w base E n d vs True) ∨ (z = 3 ∧ n = 3 ∧ vs.length = 3 ∧ Vs15 w base E n d vs False)
theorem V15.rds {w : World} {X base : Nat} {c z : Int} {E : Option Addr} {n d : Nat} {vs : List Int} (h : V15 w X base c z E n d vs) : Rds w (fun _ => True) E n (ics vs) ∧ n = vs.length ∧ n ≤ 3 := by
  rcases h with ⟨-, rfl, rfl, -, rfl, hb⟩ | ⟨-, rfl, hl, hv, -⟩ | ⟨-, rfl, hl, hv, -⟩
  · exact ⟨hb.rds.mono (fun _ _ => trivial), rfl, by decide⟩
  · exact ⟨(own_rds hv).mono (fun _ _ => trivial), hl.symm, by decide⟩
  · exact ⟨(own_rds hv).mono (fun _ _ => trivial), hl.symm, by decide⟩
theorem V15.pos {w : World} {X base : Nat} {c z : Int} {E : Option Addr} {n d : Nat} {vs : List Int} (h : V15 w X base c z E n d vs) : 0 < n := by
  rcases h with ⟨-, -, rfl, -⟩ | ⟨-, rfl, -⟩ | ⟨-, rfl, -⟩ <;> decide
theorem V15.ex {w : World} {X base : Nat} {c z : Int} {E : Option Addr} {n d : Nat} {vs : List Int} (h : V15 w X base c z E n d vs) : ∃ ad, E = some ad := by
  obtain ⟨ad, e, -⟩ := h.rds.1.2 h.pos
  exact ⟨ad, e⟩
theorem V15.one {w : World} {X base : Nat} {c : Int} {E : Option Addr} {n d : Nat} {vs : List Int} (h : V15 w X base c 1 E n d vs) : E = some ⟨X, 0, none⟩ ∧ n = 1 ∧ d = 1 ∧ vs = [c] ∧ Blk w X 3 #[.int .i64 c] := by
  rcases h with ⟨-, h⟩ | ⟨h, -⟩ | ⟨h, -⟩
  · exact h
  · exact absurd h (by decide)
  · exact absurd h (by decide)
theorem V15.two {w : World} {X base : Nat} {c : Int} {E : Option Addr} {n d : Nat} {vs : List Int} (h : V15 w X base c 2 E n d vs) : n = 2 ∧ vs.length = 2 ∧ Vs15 w base E n d vs True := by
  rcases h with ⟨h, -⟩ | ⟨-, h⟩ | ⟨h, -⟩
  · exact absurd h (by decide)
  · exact h
  · exact absurd h (by decide)
theorem rd15 {w : World} {S : Nat → Prop} {ad : Addr} {n : Nat} {vs : List Int} (h : Rds w S (some ad) n (ics vs)) {j : Nat} (hj : j < vs.length) : w.cell? (ad.add j) = some (.int .i64 vs[j]) := by
  have hn : 0 < n := by
    have := h.1
    rw [ics_len] at this
    omega
  obtain ⟨ad', e, -, -, hc⟩ := h.2 hn
  injection e with e
  subst e
  exact hc j _ (ics_at vs j hj)
theorem v15_holds {w : World} {X : Nat} {c : Int} {T : TypeId} (h : Blk w X T #[.int .i64 c]) : ∀ (j : Nat) (u : Value), (ics [c])[j]? = some u → w.cell? ((⟨X, 0, none⟩ : Addr).add j) = some u := by
  intro j u hu
  obtain ⟨ad, e, -, -, hc⟩ := h.rds.2 Nat.zero_lt_one
  injection e with e
  subst e
  exact hc j u hu
theorem Vs15.base {w : World} {b b' n d : Nat} {E : Option Addr} {vs : List Int} {two : Prop} (h : Vs15 w b E n d vs two) (hb : b' ≤ b) : Vs15 w b' E n d vs two := ⟨own_base h.1 hb, h.2⟩
theorem wpList_more15 (w : World) {ops : Array Oper} {rest : List Oper} {o : Oper} {a : Act} {Q : Exit → Act → World → Prop} (hgd : o.guard = none) (s x : Operand)
    (ho : o.op = .call { callee := .builtin .append, args := #[s, x], argTypes := #[60, 60] })
    (base : Nat) (E : Option Addr) (n d : Nat) (vs : List Int) (hs : a.eval s = .slice E n d) (hv : Vs15 w base E n d vs True)
    (X : Nat) (t : Int) (hx : a.eval x = .slice (some ⟨X, 0, none⟩) 1 1) (hr : Blk w X 3 #[.int .i64 t]) (b1 : n + 1 ≤ 1000) (hbase : base ≤ w.heap.size)
    (hK : ∀ (E' : Option Addr) (d' g : Nat) (cur : Array Value) (w' : World), Vs15 w' base E' (n + 1) d' (vs ++ [t]) False → Blk w g 3 cur → noU8 cur → base ≤ g → Chg (fun k => k = g) w w' → wpList Try.prog ops Q rest (a.put o.dst (.slice E' (n + 1) d')) w') : wpList Try.prog ops Q (o :: rest) a w := by
  obtain ⟨i, hi, hz, h4, h5⟩ := info_parts infoInt15
  obtain ⟨hown, h2⟩ := hv
  obtain ⟨g, cur, rfl, hb, hu⟩ := h2 trivial
  refine wpList_own_append w hgd s x 60 ho base 3 i (.int .i64 0) 8 Try.underlying60 hi hz h4 h5 rfl _ n (ics vs) hs hown _ _ 1 1 (ics [t]) hx hr.rds (by simp [ics, Value.oneCell']) (by unfold maxLen; omega) (by omega) hbase ?_
  intro v' w' hown' hg hat
  obtain ⟨E', d', rfl, -, -⟩ := own_form hown'
  rw [show ics vs ++ ics [t] = ics (vs ++ [t]) from by simp [ics]] at hown'
  exact hK E' d' g cur w' ⟨hown', False.elim⟩ hb hu (hown.lt g (by rw [own_block]; rfl)).1 ((Chg.refl (fun k => k = g) w).grown hg (fun k hk _ => by rw [own_block, Option.map_some, Option.some.injEq] at hk; exact hk.symm))
set_option maxRecDepth 100000 in
set_option maxHeartbeats 8000000 in
theorem don15_any {w : World} {A0 A1 A2 : Option Addr} {n0 n1 n2 c0 c1 c2 : Nat} {l0 l1 l2 : List RV} (h0 : RwR w A0 n0 l0) (h1 : RwR w A1 n1 l1) (h2 : RwR w A2 n2 l2) (hm0 : n0 ≤ 9223372036854775807) (hm1 : n1 ≤ 9223372036854775807) (hm2 : n2 ≤ 9223372036854775807) (d s t ch nu : Int) (A : Option Addr) (n c : Nat) (l : List UInt8) (hb : BsM15 w A n c l) (hd : 0 ≤ d) (hs : 0 ≤ s) (hn : n ≤ 9223372036854775807) : Calls Try.prog 5 #[.agg #[.slice A0 n0 c0, .slice A1 n1 c1, .slice A2 n2 c2], .agg #[.int .u64 d, .int .u64 s, .int .i64 t, .slice A n c], .agg #[.int .i64 ch, .int .i64 nu]] w fun e w2 => e = .returned (.bool true) ∧ Chg (fun _ => False) w w2 := by
  have HW1 := Lib.hid h1
  have HW2 := Lib.hid h2
  have HFI := Lib.hid (fun W => ffits_any d s t A n c W hn)
  have HRI := Lib.hid (fun W => rright_any d s t A n c W hd hs hn)
  have HAL := Lib.hid (fun W => alive15_any W)
  have HR0 := Lib.hid h0
  have HR1 := Lib.hid h1
  have HR2 := Lib.hid h2
  have HN0 := Lib.hid hm0
  have HN1 := Lib.hid hm1
  have HN2 := Lib.hid hm2
  have HM := Lib.hid hb
  have HD := Lib.hid hd
  have HS := Lib.hid hs
  have HN := Lib.hid hn
  clear h0 h1 h2 hm0 hm1 hm2 hb hd hs hn
  have HBL : Hid (Blk (((w.alloc (.cells #[.slice A0 n0 c0, .slice A1 n1 c1, .slice A2 n2 c2] 57)).alloc (.cells #[.int .u64 d, .int .u64 s, .int .i64 t, .slice A n c] 26)).alloc (.cells #[.int .i64 ch, .int .i64 nu] 28)) (w.heap.size) 57 (#[.slice A0 n0 c0, .slice A1 n1 c1, .slice A2 n2 c2])) := Lib.hid (Blk.alloc (Blk.alloc (blk_new rfl) _) _)
  have HB0 : Hid (Blk (((w.alloc (.cells #[.slice A0 n0 c0, .slice A1 n1 c1, .slice A2 n2 c2] 57)).alloc (.cells #[.int .u64 d, .int .u64 s, .int .i64 t, .slice A n c] 26)).alloc (.cells #[.int .i64 ch, .int .i64 nu] 28)) (w.heap.size + 1) 26 (#[.int .u64 d, .int .u64 s, .int .i64 t, .slice A n c])) := Lib.hid (Blk.alloc (blk_new (by simp)) _)
  have HB1 : Hid (Blk (((w.alloc (.cells #[.slice A0 n0 c0, .slice A1 n1 c1, .slice A2 n2 c2] 57)).alloc (.cells #[.int .u64 d, .int .u64 s, .int .i64 t, .slice A n c] 26)).alloc (.cells #[.int .i64 ch, .int .i64 nu] 28)) (w.heap.size + 1 + 1) 28 (#[.int .i64 ch, .int .i64 nu])) := Lib.hid (blk_new (by simp))
  have HX := Lib.hid ((((Chg.refl (fun _ => False) w).alloc (.cells #[.slice A0 n0 c0, .slice A1 n1 c1, .slice A2 n2 c2] 57)).alloc (.cells #[.int .u64 d, .int .u64 s, .int .i64 t, .slice A n c] 26)).alloc (.cells #[.int .i64 ch, .int .i64 nu] 28))
  have HQ : Hid (w.heap.size ≤ w.heap.size + 1 + 1) := Lib.hid (by omega)
  go_enter Try.func5, Try.ntmps5
  go_upto_region 1 with fail
  generalize ((w.alloc (.cells #[.slice A0 n0 c0, .slice A1 n1 c1, .slice A2 n2 c2] 57)).alloc (.cells #[.int .u64 d, .int .u64 s, .int .i64 t, .slice A n c] 26)).alloc (.cells #[.int .i64 ch, .int .i64 nu] 28) = w1 at *
  generalize w.heap.size + 1 + 1 = Q2 at *
  generalize w.heap.size + 1 = Q1 at *
  generalize w.heap.size = Q0 at HBL ⊢
  replace HR0 := Lib.hid (HR0.out.chg HX.out)
  replace HR1 := Lib.hid (HR1.out.chg HX.out)
  replace HR2 := Lib.hid (HR2.out.chg HX.out)
  replace HM := Lib.hid (HM.out.chg HX.out)
  have y0 := HB0.out.cell 0
  have y1 := HB0.out.cell 1
  have y2 := HB0.out.cell 2
  have y3 := HB0.out.cell 3
  simp only [List.getElem?_toArray, List.getElem?_cons_zero, List.getElem?_cons_succ] at y0 y1 y2 y3
  go_wp2_with fail
  refine (HFI.out _).mono ?_
  rintro e w2 ⟨rfl, hc⟩
  replace HBL := Lib.hid (HBL.out.chg hc id)
  replace HB0 := Lib.hid (HB0.out.chg hc id)
  replace HB1 := Lib.hid (HB1.out.chg hc id)
  replace HX := Lib.hid (HX.out.trans hc (fun _ _ e => e))
  replace HR0 := Lib.hid (HR0.out.chg hc)
  replace HR1 := Lib.hid (HR1.out.chg hc)
  replace HR2 := Lib.hid (HR2.out.chg hc)
  replace HM := Lib.hid (HM.out.chg hc)
  clear hc y0 y1 y2 y3 HFI
  generalize decide (n ≤ 3000) = bf at *
  have y0 := HB0.out.cell 0
  have y1 := HB0.out.cell 1
  have y2 := HB0.out.cell 2
  have y3 := HB0.out.cell 3
  simp only [List.getElem?_toArray, List.getElem?_cons_zero, List.getElem?_cons_succ] at y0 y1 y2 y3
  go_upto_region 2 with fail
  go_cut [8] (fun s8 wx => ∃ r : Bool, s8 = .bool r ∧ (r = true → rightB d s t n = true) ∧ Chg (fun _ => False) w2 wx)
  case first =>
    cases bf with
    | false =>
      go_wp2_with fail
      go_meet
      exact ⟨false, rfl, (fun e => by cases e), Chg.refl _ _⟩
    | true =>
      go_wp2_with fail
      refine (HRI.out _).mono ?_
      rintro e w3 ⟨rfl, hc⟩
      have HC := Lib.hid hc
      clear hc
      go_wp2_with fail
      go_meet
      exact ⟨_, rfl, fun e => e, HC.out⟩
  case rest =>
    obtain ⟨r, rfl, hr, hc⟩ := hcut
    replace HBL := Lib.hid (HBL.out.chg hc id)
    replace HB0 := Lib.hid (HB0.out.chg hc id)
    replace HB1 := Lib.hid (HB1.out.chg hc id)
    replace HX := Lib.hid (HX.out.trans hc (fun _ _ e => e))
    replace HR0 := Lib.hid (HR0.out.chg hc)
    replace HR1 := Lib.hid (HR1.out.chg hc)
    replace HR2 := Lib.hid (HR2.out.chg hc)
    replace HM := Lib.hid (HM.out.chg hc)
    have HRR := Lib.hid hr
    clear hc hr y0 y1 y2 y3 HRI
    go_wp2_with fail
    go_loopg [8, 9] 3 (fun g s8 s9 wr => ∃ (z : Int) (r : Bool), s9 = .int .i64 z ∧ s8 = .bool r ∧ 0 ≤ z ∧ z ≤ 3 ∧ g = (3 - z).toNat ∧ Hid (r = true → rightB d s t n = true ∧ (0 < z → n0 ≤ 100) ∧ (1 < z → n1 ≤ 100) ∧ (2 < z → n2 ≤ 100)) ∧ Hid (Chg (fun _ => False) wc wr))
    case atStart => exact ⟨0, r, rfl, rfl, by decide, by decide, by decide, Lib.hid (fun e => ⟨HRR.out e, fun e => absurd e (by decide), fun e => absurd e (by decide), fun e => absurd e (by decide)⟩), Lib.hid (Chg.refl _ _)⟩
    case round =>
      clear HRR
      obtain ⟨z, r, rfl, rfl, hz0, hz3, rfl, HRB, HY⟩ := hrel
      rcases (show z = 0 ∨ z = 1 ∨ z = 2 ∨ z = 3 by omega) with rfl | rfl | rfl | rfl
      · clear hz0 hz3
        cases r with
        | false =>
          by_cases hz : n0 ≤ 100
          · have HNZ := Lib.hid hz
            have hz2 : ((n0 : Int) ≤ 100) := by omega
            clear hz
            have HRZ := Lib.hid (rstand15_any (lc := c0) (HR0.out.chg HY.out) HN0.out)
            obtain ⟨y0, y1, y2⟩ : wr.cell? ⟨Q0, 0, none⟩ = some (.slice A0 n0 c0) ∧ wr.cell? ⟨Q0, 1, none⟩ = some (.slice A1 n1 c1) ∧ wr.cell? ⟨Q0, 2, none⟩ = some (.slice A2 n2 c2) := ⟨(HBL.out.chg HY.out id).cell 0, (HBL.out.chg HY.out id).cell 1, (HBL.out.chg HY.out id).cell 2⟩
            go_wp2_with fail
            refine HRZ.out.mono ?_
            rintro e wz ⟨b, rfl, hc⟩
            replace HY := Lib.hid (HY.out.trans hc (fun _ _ e => e))
            clear hc
            go_wp2_with fail
            go_roundg 2
            case measure => decide
            case rel => exact ⟨1, false, rfl, rfl, by decide, by decide, by decide, Lib.hid (fun e => by cases e), HY⟩
          · have hz2 : ¬ ((n0 : Int) ≤ 100) := by omega
            clear hz
            obtain ⟨y0, y1, y2⟩ : wr.cell? ⟨Q0, 0, none⟩ = some (.slice A0 n0 c0) ∧ wr.cell? ⟨Q0, 1, none⟩ = some (.slice A1 n1 c1) ∧ wr.cell? ⟨Q0, 2, none⟩ = some (.slice A2 n2 c2) := ⟨(HBL.out.chg HY.out id).cell 0, (HBL.out.chg HY.out id).cell 1, (HBL.out.chg HY.out id).cell 2⟩
            go_wp2_with fail
            go_roundg 2
            case measure => decide
            case rel => exact ⟨1, false, rfl, rfl, by decide, by decide, by decide, Lib.hid (fun e => by cases e), HY⟩
        | true =>
          by_cases hz : n0 ≤ 100
          · have HNZ := Lib.hid hz
            have hz2 : ((n0 : Int) ≤ 100) := by omega
            clear hz
            have HRZ := Lib.hid (rstand15_any (lc := c0) (HR0.out.chg HY.out) HN0.out)
            obtain ⟨y0, y1, y2⟩ : wr.cell? ⟨Q0, 0, none⟩ = some (.slice A0 n0 c0) ∧ wr.cell? ⟨Q0, 1, none⟩ = some (.slice A1 n1 c1) ∧ wr.cell? ⟨Q0, 2, none⟩ = some (.slice A2 n2 c2) := ⟨(HBL.out.chg HY.out id).cell 0, (HBL.out.chg HY.out id).cell 1, (HBL.out.chg HY.out id).cell 2⟩
            go_wp2_with fail
            refine HRZ.out.mono ?_
            rintro e wz ⟨b, rfl, hc⟩
            replace HY := Lib.hid (HY.out.trans hc (fun _ _ e => e))
            clear hc
            go_wp2_with fail
            go_roundg 2
            case measure => decide
            case rel => exact ⟨1, b, rfl, rfl, by decide, by decide, by decide, Lib.hid (fun _ => ⟨(HRB.out (by first | trivial | rfl)).1, fun _ => HNZ.out, fun e => absurd e (by decide), fun e => absurd e (by decide)⟩), HY⟩
          · have hz2 : ¬ ((n0 : Int) ≤ 100) := by omega
            clear hz
            obtain ⟨y0, y1, y2⟩ : wr.cell? ⟨Q0, 0, none⟩ = some (.slice A0 n0 c0) ∧ wr.cell? ⟨Q0, 1, none⟩ = some (.slice A1 n1 c1) ∧ wr.cell? ⟨Q0, 2, none⟩ = some (.slice A2 n2 c2) := ⟨(HBL.out.chg HY.out id).cell 0, (HBL.out.chg HY.out id).cell 1, (HBL.out.chg HY.out id).cell 2⟩
            go_wp2_with fail
            go_roundg 2
            case measure => decide
            case rel => exact ⟨1, false, rfl, rfl, by decide, by decide, by decide, Lib.hid (fun e => by cases e), HY⟩
      · clear hz0 hz3
        cases r with
        | false =>
          by_cases hz : n1 ≤ 100
          · have HNZ := Lib.hid hz
            have hz2 : ((n1 : Int) ≤ 100) := by omega
            clear hz
            have HRZ := Lib.hid (rstand15_any (lc := c1) (HR1.out.chg HY.out) HN1.out)
            obtain ⟨y0, y1, y2⟩ : wr.cell? ⟨Q0, 0, none⟩ = some (.slice A0 n0 c0) ∧ wr.cell? ⟨Q0, 1, none⟩ = some (.slice A1 n1 c1) ∧ wr.cell? ⟨Q0, 2, none⟩ = some (.slice A2 n2 c2) := ⟨(HBL.out.chg HY.out id).cell 0, (HBL.out.chg HY.out id).cell 1, (HBL.out.chg HY.out id).cell 2⟩
            go_wp2_with fail
            refine HRZ.out.mono ?_
            rintro e wz ⟨b, rfl, hc⟩
            replace HY := Lib.hid (HY.out.trans hc (fun _ _ e => e))
            clear hc
            go_wp2_with fail
            go_roundg 1
            case measure => decide
            case rel => exact ⟨2, false, rfl, rfl, by decide, by decide, by decide, Lib.hid (fun e => by cases e), HY⟩
          · have hz2 : ¬ ((n1 : Int) ≤ 100) := by omega
            clear hz
            obtain ⟨y0, y1, y2⟩ : wr.cell? ⟨Q0, 0, none⟩ = some (.slice A0 n0 c0) ∧ wr.cell? ⟨Q0, 1, none⟩ = some (.slice A1 n1 c1) ∧ wr.cell? ⟨Q0, 2, none⟩ = some (.slice A2 n2 c2) := ⟨(HBL.out.chg HY.out id).cell 0, (HBL.out.chg HY.out id).cell 1, (HBL.out.chg HY.out id).cell 2⟩
            go_wp2_with fail
            go_roundg 1
            case measure => decide
            case rel => exact ⟨2, false, rfl, rfl, by decide, by decide, by decide, Lib.hid (fun e => by cases e), HY⟩
        | true =>
          by_cases hz : n1 ≤ 100
          · have HNZ := Lib.hid hz
            have hz2 : ((n1 : Int) ≤ 100) := by omega
            clear hz
            have HRZ := Lib.hid (rstand15_any (lc := c1) (HR1.out.chg HY.out) HN1.out)
            obtain ⟨y0, y1, y2⟩ : wr.cell? ⟨Q0, 0, none⟩ = some (.slice A0 n0 c0) ∧ wr.cell? ⟨Q0, 1, none⟩ = some (.slice A1 n1 c1) ∧ wr.cell? ⟨Q0, 2, none⟩ = some (.slice A2 n2 c2) := ⟨(HBL.out.chg HY.out id).cell 0, (HBL.out.chg HY.out id).cell 1, (HBL.out.chg HY.out id).cell 2⟩
            go_wp2_with fail
            refine HRZ.out.mono ?_
            rintro e wz ⟨b, rfl, hc⟩
            replace HY := Lib.hid (HY.out.trans hc (fun _ _ e => e))
            clear hc
            go_wp2_with fail
            go_roundg 1
            case measure => decide
            case rel => exact ⟨2, b, rfl, rfl, by decide, by decide, by decide, Lib.hid (fun _ => ⟨(HRB.out (by first | trivial | rfl)).1, fun _ => (HRB.out (by first | trivial | rfl)).2.1 (by decide), fun _ => HNZ.out, fun e => absurd e (by decide)⟩), HY⟩
          · have hz2 : ¬ ((n1 : Int) ≤ 100) := by omega
            clear hz
            obtain ⟨y0, y1, y2⟩ : wr.cell? ⟨Q0, 0, none⟩ = some (.slice A0 n0 c0) ∧ wr.cell? ⟨Q0, 1, none⟩ = some (.slice A1 n1 c1) ∧ wr.cell? ⟨Q0, 2, none⟩ = some (.slice A2 n2 c2) := ⟨(HBL.out.chg HY.out id).cell 0, (HBL.out.chg HY.out id).cell 1, (HBL.out.chg HY.out id).cell 2⟩
            go_wp2_with fail
            go_roundg 1
            case measure => decide
            case rel => exact ⟨2, false, rfl, rfl, by decide, by decide, by decide, Lib.hid (fun e => by cases e), HY⟩
      · clear hz0 hz3
        cases r with
        | false =>
          by_cases hz : n2 ≤ 100
          · have HNZ := Lib.hid hz
            have hz2 : ((n2 : Int) ≤ 100) := by omega
            clear hz
            have HRZ := Lib.hid (rstand15_any (lc := c2) (HR2.out.chg HY.out) HN2.out)
            obtain ⟨y0, y1, y2⟩ : wr.cell? ⟨Q0, 0, none⟩ = some (.slice A0 n0 c0) ∧ wr.cell? ⟨Q0, 1, none⟩ = some (.slice A1 n1 c1) ∧ wr.cell? ⟨Q0, 2, none⟩ = some (.slice A2 n2 c2) := ⟨(HBL.out.chg HY.out id).cell 0, (HBL.out.chg HY.out id).cell 1, (HBL.out.chg HY.out id).cell 2⟩
            go_wp2_with fail
            refine HRZ.out.mono ?_
            rintro e wz ⟨b, rfl, hc⟩
            replace HY := Lib.hid (HY.out.trans hc (fun _ _ e => e))
            clear hc
            go_wp2_with fail
            go_roundg 0
            case measure => decide
            case rel => exact ⟨3, false, rfl, rfl, by decide, by decide, by decide, Lib.hid (fun e => by cases e), HY⟩
          · have hz2 : ¬ ((n2 : Int) ≤ 100) := by omega
            clear hz
            obtain ⟨y0, y1, y2⟩ : wr.cell? ⟨Q0, 0, none⟩ = some (.slice A0 n0 c0) ∧ wr.cell? ⟨Q0, 1, none⟩ = some (.slice A1 n1 c1) ∧ wr.cell? ⟨Q0, 2, none⟩ = some (.slice A2 n2 c2) := ⟨(HBL.out.chg HY.out id).cell 0, (HBL.out.chg HY.out id).cell 1, (HBL.out.chg HY.out id).cell 2⟩
            go_wp2_with fail
            go_roundg 0
            case measure => decide
            case rel => exact ⟨3, false, rfl, rfl, by decide, by decide, by decide, Lib.hid (fun e => by cases e), HY⟩
        | true =>
          by_cases hz : n2 ≤ 100
          · have HNZ := Lib.hid hz
            have hz2 : ((n2 : Int) ≤ 100) := by omega
            clear hz
            have HRZ := Lib.hid (rstand15_any (lc := c2) (HR2.out.chg HY.out) HN2.out)
            obtain ⟨y0, y1, y2⟩ : wr.cell? ⟨Q0, 0, none⟩ = some (.slice A0 n0 c0) ∧ wr.cell? ⟨Q0, 1, none⟩ = some (.slice A1 n1 c1) ∧ wr.cell? ⟨Q0, 2, none⟩ = some (.slice A2 n2 c2) := ⟨(HBL.out.chg HY.out id).cell 0, (HBL.out.chg HY.out id).cell 1, (HBL.out.chg HY.out id).cell 2⟩
            go_wp2_with fail
            refine HRZ.out.mono ?_
            rintro e wz ⟨b, rfl, hc⟩
            replace HY := Lib.hid (HY.out.trans hc (fun _ _ e => e))
            clear hc
            go_wp2_with fail
            go_roundg 0
            case measure => decide
            case rel => exact ⟨3, b, rfl, rfl, by decide, by decide, by decide, Lib.hid (fun _ => ⟨(HRB.out (by first | trivial | rfl)).1, fun _ => (HRB.out (by first | trivial | rfl)).2.1 (by decide), fun _ => (HRB.out (by first | trivial | rfl)).2.2.1 (by decide), fun _ => HNZ.out⟩), HY⟩
          · have hz2 : ¬ ((n2 : Int) ≤ 100) := by omega
            clear hz
            obtain ⟨y0, y1, y2⟩ : wr.cell? ⟨Q0, 0, none⟩ = some (.slice A0 n0 c0) ∧ wr.cell? ⟨Q0, 1, none⟩ = some (.slice A1 n1 c1) ∧ wr.cell? ⟨Q0, 2, none⟩ = some (.slice A2 n2 c2) := ⟨(HBL.out.chg HY.out id).cell 0, (HBL.out.chg HY.out id).cell 1, (HBL.out.chg HY.out id).cell 2⟩
            go_wp2_with fail
            go_roundg 0
            case measure => decide
            case rel => exact ⟨3, false, rfl, rfl, by decide, by decide, by decide, Lib.hid (fun e => by cases e), HY⟩
      · clear hz0 hz3
        replace HBL := Lib.hid (HBL.out.chg HY.out id)
        replace HB0 := Lib.hid (HB0.out.chg HY.out id)
        replace HB1 := Lib.hid (HB1.out.chg HY.out id)
        replace HX := Lib.hid (HX.out.trans HY.out (fun _ _ e => e))
        replace HR0 := Lib.hid (HR0.out.chg HY.out)
        replace HR1 := Lib.hid (HR1.out.chg HY.out)
        replace HR2 := Lib.hid (HR2.out.chg HY.out)
        replace HM := Lib.hid (HM.out.chg HY.out)
        clear HY
        have a0 := HB1.out.cell 0
        have a1 := HB1.out.cell 1
        simp only [List.getElem?_toArray, List.getElem?_cons_zero, List.getElem?_cons_succ] at a0 a1
        cases r with
        | false =>
          go_wp2_with fail
          refine (HAL.out _).mono ?_
          rintro e wd ⟨rfl, hc⟩
          replace HX := Lib.hid (HX.out.trans hc (fun _ _ e => e))
          clear hc
          go_wp2_with fail
          go_ret
          exact ⟨rfl, HX.out⟩
        | true =>
          obtain ⟨hr, hl0, hl1, hl2⟩ := HRB.out rfl
          have HL1 := Lib.hid (And.intro (hl0 (by decide)) (And.intro (hl1 (by decide)) (hl2 (by decide))))
          have HRT := Lib.hid hr
          clear hr hl0 hl1 hl2 HRB
          by_cases h1 : ch < 0
          · skip
            go_wp2_with fail
            refine (HAL.out _).mono ?_
            rintro e wd ⟨rfl, hc⟩
            replace HX := Lib.hid (HX.out.trans hc (fun _ _ e => e))
            clear hc
            go_wp2_with fail
            go_ret
            exact ⟨rfl, HX.out⟩
          by_cases h2 : 15 < ch
          · skip
            go_wp2_with fail
            refine (HAL.out _).mono ?_
            rintro e wd ⟨rfl, hc⟩
            replace HX := Lib.hid (HX.out.trans hc (fun _ _ e => e))
            clear hc
            go_wp2_with fail
            go_ret
            exact ⟨rfl, HX.out⟩
          by_cases h3 : nu < 0
          · skip
            go_wp2_with fail
            refine (HAL.out _).mono ?_
            rintro e wd ⟨rfl, hc⟩
            replace HX := Lib.hid (HX.out.trans hc (fun _ _ e => e))
            clear hc
            go_wp2_with fail
            go_ret
            exact ⟨rfl, HX.out⟩
          by_cases h4 : 1099511627776 < nu
          · skip
            go_wp2_with fail
            refine (HAL.out _).mono ?_
            rintro e wd ⟨rfl, hc⟩
            replace HX := Lib.hid (HX.out.trans hc (fun _ _ e => e))
            clear hc
            go_wp2_with fail
            go_ret
            exact ⟨rfl, HX.out⟩
          have HRG := Lib.hid (show 0 ≤ ch ∧ ch ≤ 15 ∧ 0 ≤ nu ∧ nu ≤ 1099511627776 by omega)
          go_upto_region 10 with fail
          clear h1 h2 h3 h4 a0 a1
          obtain ⟨hd2, hs2, ht, ht2, hn2⟩ : d ≤ 281474976710655 ∧ s ≤ 281474976710655 ∧ 0 ≤ t ∧ t ≤ 65535 ∧ n ≤ 1500 := by
            have hr := HRT.out
            unfold rightB at hr
            simp only [Bool.and_eq_true, decide_eq_true_eq] at hr
            obtain ⟨⟨⟨⟨r1, r2⟩, r3⟩, r4⟩, r5⟩ := hr
            exact ⟨r1, r2, r3, r4, r5⟩
          have HBY := Lib.hid (rbytes2_any d s t A n c l (fun _ => True) wr HM.out.2.1 HM.out.2.2 HD.out hd2 HS.out hs2 ht ht2 hn2)
          clear hd2 hs2 ht ht2 hn2
          generalize hfb : frameB d s t l = fb at HBY
          have HFB := Lib.hid hfb
          clear hfb
          have y0 := HB0.out.cell 0
          have y1 := HB0.out.cell 1
          have y2 := HB0.out.cell 2
          have y3 := HB0.out.cell 3
          simp only [List.getElem?_toArray, List.getElem?_cons_zero, List.getElem?_cons_succ] at y0 y1 y2 y3
          go_wp2_with fail
          refine HBY.out.mono ?_
          rintro e w4 ⟨A', k', c', rfl, hrd, hc⟩
          have HBB : Hid (BsM15 w4 A' k' 0 fb) := Lib.hid ⟨fun _ => rfl, by have := hrd.1; rw [bcs_len] at this; exact this.symm, hrd.mono (fun _ _ => trivial)⟩
          replace HBL := Lib.hid (HBL.out.chg hc id)
          replace HB0 := Lib.hid (HB0.out.chg hc id)
          replace HB1 := Lib.hid (HB1.out.chg hc id)
          replace HX := Lib.hid (HX.out.trans hc (fun _ _ e => e))
          replace HR0 := Lib.hid (HR0.out.chg hc)
          replace HR1 := Lib.hid (HR1.out.chg hc)
          replace HR2 := Lib.hid (HR2.out.chg hc)
          replace HM := Lib.hid (HM.out.chg hc)
          clear hc hrd HBY y0 y1 y2 y3
          have a0 := HB1.out.cell 0
          have a1 := HB1.out.cell 1
          simp only [List.getElem?_toArray, List.getElem?_cons_zero, List.getElem?_cons_succ] at a0 a1
          have HBV : Hid (Blk (w4.alloc (.cells #[.int .i64 ch] 3)) w4.heap.size 3 #[.int .i64 ch]) := Lib.hid (blk_new rfl)
          have hca := (Chg.refl (fun _ => False) w4).alloc (.cells #[.int .i64 ch] 3)
          replace HBL := Lib.hid (HBL.out.chg hca id)
          replace HB0 := Lib.hid (HB0.out.chg hca id)
          replace HB1 := Lib.hid (HB1.out.chg hca id)
          replace HX := Lib.hid (HX.out.trans hca (fun _ _ e => e))
          replace HR0 := Lib.hid (HR0.out.chg hca)
          replace HR1 := Lib.hid (HR1.out.chg hca)
          replace HR2 := Lib.hid (HR2.out.chg hca)
          replace HM := Lib.hid (HM.out.chg hca)
          replace HBB := Lib.hid (HBB.out.chg hca)
          clear hca
          go_upto_region 12 with fail
          generalize w4.alloc (.cells #[.int .i64 ch] 3) = w5 at *
          generalize w4.heap.size = XV at *
          clear a0 a1
          have HTB := Lib.hid (btable14_any (lc := c0) HR0.out HL1.out.1 ch)
          have a0 := HB1.out.cell 0
          have a1 := HB1.out.cell 1
          simp only [List.getElem?_toArray, List.getElem?_cons_zero, List.getElem?_cons_succ] at a0 a1
          have y0 := HBL.out.cell 0
          simp only [List.getElem?_toArray, List.getElem?_cons_zero, List.getElem?_cons_succ] at y0
          go_wp2_with fail
          refine HTB.out.mono ?_
          rintro e w6 ⟨p, rfl, hT, hc⟩
          replace HBL := Lib.hid (HBL.out.chg hc id)
          replace HB0 := Lib.hid (HB0.out.chg hc id)
          replace HB1 := Lib.hid (HB1.out.chg hc id)
          replace HBV := Lib.hid (HBV.out.chg hc id)
          replace HX := Lib.hid (HX.out.trans hc (fun _ _ e => e))
          replace HR0 := Lib.hid (HR0.out.chg hc)
          replace HR1 := Lib.hid (HR1.out.chg hc)
          replace HR2 := Lib.hid (HR2.out.chg hc)
          replace HM := Lib.hid (HM.out.chg hc)
          replace HBB := Lib.hid (HBB.out.chg hc)
          clear hc HTB a0 a1 y0
          obtain ⟨v, hst, hg⟩ := start15 hT (by have := HR0.out.1; have := HL1.out.1; omega) HD.out HS.out HN.out HM.out HRT.out HRG.out.1 HRG.out.2.1 HRG.out.2.2.1 HRG.out.2.2.2
          rw [HFB.out] at hst
          have HST := Lib.hid hst
          have HGU := Lib.hid hg
          clear hst hg hT
          have a0 := HB1.out.cell 0
          have a1 := HB1.out.cell 1
          simp only [List.getElem?_toArray, List.getElem?_cons_zero, List.getElem?_cons_succ] at a0 a1
          have y0 := HB0.out.cell 0
          have y1 := HB0.out.cell 1
          have y2 := HB0.out.cell 2
          have y3 := HB0.out.cell 3
          simp only [List.getElem?_toArray, List.getElem?_cons_zero, List.getElem?_cons_succ] at y0 y1 y2 y3
          go_wp2_with fail
          refine HGU.out.mono ?_
          rintro e w7 ⟨B2, m2, d2, B3, m3, d3, rfl, hm2, hm3, hc⟩
          have hsz := (HX.out.trans hc (fun _ _ e => e)).size
          unfold ouC15
          have hca := hc.alloc (.cells #[.int .i64 v.kd, .int .i64 v.po, .int .i64 v.ge, .int .i64 v.st, .slice B2 m2 d2, .int .i64 v.k, .int .i64 v.o, .int .i64 v.f, .int .i64 v.t, .int .i64 v.p, .int .i64 v.g, .int .i64 v.i, .slice B3 m3 d3] 39)
          have HO : Hid (Blk (w7.alloc (.cells #[.int .i64 v.kd, .int .i64 v.po, .int .i64 v.ge, .int .i64 v.st, .slice B2 m2 d2, .int .i64 v.k, .int .i64 v.o, .int .i64 v.f, .int .i64 v.t, .int .i64 v.p, .int .i64 v.g, .int .i64 v.i, .slice B3 m3 d3] 39)) w7.heap.size 39 (ouC15 v.kd v.po v.ge v.st B2 m2 d2 v.k v.o v.f v.t v.p v.g v.i B3 m3 d3)) := Lib.hid (blk_new rfl)
          have HM2 := Lib.hid (hm2.alloc (.cells #[.int .i64 v.kd, .int .i64 v.po, .int .i64 v.ge, .int .i64 v.st, .slice B2 m2 d2, .int .i64 v.k, .int .i64 v.o, .int .i64 v.f, .int .i64 v.t, .int .i64 v.p, .int .i64 v.g, .int .i64 v.i, .slice B3 m3 d3] 39))
          have HM3 := Lib.hid (hm3.alloc (.cells #[.int .i64 v.kd, .int .i64 v.po, .int .i64 v.ge, .int .i64 v.st, .slice B2 m2 d2, .int .i64 v.k, .int .i64 v.o, .int .i64 v.f, .int .i64 v.t, .int .i64 v.p, .int .i64 v.g, .int .i64 v.i, .slice B3 m3 d3] 39))
          replace HBL := Lib.hid (HBL.out.chg hca id)
          replace HB0 := Lib.hid (HB0.out.chg hca id)
          replace HB1 := Lib.hid (HB1.out.chg hca id)
          replace HBV := Lib.hid (HBV.out.chg hca id)
          replace HX := Lib.hid (HX.out.trans hca (fun _ _ e => e))
          replace HR0 := Lib.hid (HR0.out.chg hca)
          replace HR1 := Lib.hid (HR1.out.chg hca)
          replace HR2 := Lib.hid (HR2.out.chg hca)
          replace HM := Lib.hid (HM.out.chg hca)
          replace HBB := Lib.hid (HBB.out.chg hca)
          clear hm2 hm3 hc hca HGU y0 y1 y2 y3 a0 a1
          go_upto_region 14 with fail
          generalize w7.alloc (.cells #[.int .i64 v.kd, .int .i64 v.po, .int .i64 v.ge, .int .i64 v.st, .slice B2 m2 d2, .int .i64 v.k, .int .i64 v.o, .int .i64 v.f, .int .i64 v.t, .int .i64 v.p, .int .i64 v.g, .int .i64 v.i, .slice B3 m3 d3] 39) = v7 at *
          have HXO := Lib.hid hsz
          clear hsz
          generalize w7.heap.size = XO at *
          go_wp2_with fail
          have HV : Hid (V15 v7 XV w.heap.size ch 1 (some ⟨XV, 0, none⟩) 1 1 [ch]) := Lib.hid (.inl ⟨rfl, rfl, rfl, rfl, rfl, HBV.out⟩)
          clear HBV HB0 HM HR0 HR1 HR2 HRT HFB
          go_loopg [12, 17] 2 (fun g s12 s17 wr => ∃ (z : Int) (E : Option Addr) (nE dE : Nat) (vs : List Int) (v : OV) (B2 : Option Addr) (m2 d2 : Nat) (B3 : Option Addr) (m3 d3 : Nat), g = (3 - z).toNat ∧ 1 ≤ z ∧ z ≤ 3 ∧ s17 = .int .i64 z ∧ s12 = .slice E nE dE ∧ Hid (V15 wr XV w.heap.size ch z E nE dE vs) ∧ Hid (St15 ch nu fb z.toNat vs v) ∧ Hid (Blk wr XO 39 (ouC15 v.kd v.po v.ge v.st B2 m2 d2 v.k v.o v.f v.t v.p v.g v.i B3 m3 d3)) ∧ Hid (BsM15 wr B2 m2 d2 v.fb) ∧ Hid (BsM15 wr B3 m3 d3 v.pb) ∧ Hid (Blk wr Q0 57 #[.slice A0 n0 c0, .slice A1 n1 c1, .slice A2 n2 c2]) ∧ Hid (Blk wr Q2 28 #[.int .i64 ch, .int .i64 nu]) ∧ Hid (BsM15 wr A' k' 0 fb) ∧ Hid (Chg (fun _ => False) w wr))
          case atStart => exact ⟨1, _, _, _, _, v, B2, m2, d2, B3, m3, d3, rfl, by decide, by decide, rfl, rfl, HV, HST, HO, HM2, HM3, HBL, HB1, HBB, HX⟩
          case round =>
            clear HV HST HO HM2 HM3 HBL HB1 HBB HX
            obtain ⟨z, E, nE, dE, vs, v, B2, m2, d2, B3, m3, d3, rfl, hz1, hz3, rfl, rfl, HV, HST, HO, HM2, HM3, HBL, HB1, HBB, HX⟩ := hrel
            rcases (show z = 3 ∨ z < 3 by omega) with rfl | hz
            · have hk : ¬ v.kd = 2 := fun e => by
                obtain ⟨-, -, -, h⟩ := HST.out.1 e
                rcases h with ⟨h, -⟩ | ⟨h, -⟩ <;> exact absurd h (by decide)
              clear hz1 hz3
              obtain ⟨wl, hwl⟩ : ∃ wl, wl = wr := ⟨_, rfl⟩
              subst hwl
              obtain ⟨hrd, hnl, hn3⟩ := HV.out.rds
              obtain ⟨ad, rfl⟩ := HV.out.ex
              have HRV := Lib.hid hrd
              have HNL := Lib.hid hnl
              have HN3 := Lib.hid hn3
              have HDS := Lib.hid HST.out.2.2.1
              have HK2 := Lib.hid (show (v.kd == 2) = false from by simp [hk])
              clear hrd hnl hn3 HV hk HBL HB1 HM3
              go_wp2_with fail
              skip
              go_loopg [23] nE (fun g s23 wq => ∃ j : Nat, g = nE - j ∧ j ≤ nE ∧ s23 = .int .i64 (j : Int) ∧ Hid (Chg (fun _ => False) wl wq))
              case atStart => exact ⟨0, rfl, Nat.zero_le _, rfl, Lib.hid (Chg.refl _ _)⟩
              case round =>
                obtain ⟨j, rfl, hj, rfl, HY⟩ := hrel
                have hn3 := HN3.out
                by_cases hlt : j < nE
                · go_wp2_with fail
                  go_loopg [24] j (fun g s24 wq => ∃ i : Nat, g = j - i ∧ i ≤ j ∧ s24 = .int .i64 (i : Int) ∧ Hid (Chg (fun _ => False) wl wq))
                  case atStart => exact ⟨0, rfl, Nat.zero_le _, rfl, HY⟩
                  case round =>
                    clear HY
                    obtain ⟨i, rfl, hi, rfl, HY⟩ := hrel
                    by_cases hlt2 : i < j
                    · have hin : i < nE := by omega
                      have hjl : j < vs.length := by have := HNL.out; omega
                      have hil : i < vs.length := by omega
                      have hne := HDS.out j i _ _ hlt2 (List.getElem?_eq_getElem hjl) (List.getElem?_eq_getElem hil)
                      have hh := HRV.out.chg HY.out (fun _ _ => id)
                      have zj := rd15 hh hjl
                      have zi := rd15 hh hil
                      generalize vs[j] = p1 at *
                      generalize vs[i] = p2 at *
                      have tp : (p1 == p2) = false := by simp [hne]
                      clear hne hjl hil hh
                      go_wp2_with fail
                      go_quiet (fail)
                      replace HY := Lib.hid (HY.out.drewN nq)
                      generalize World.drewN wr nq = wq at *
                      go_wp2_with fail
                      go_roundg (j - (i + 1))
                      case measure => omega
                      case rel => exact ⟨i + 1, rfl, by omega, by go_num, HY⟩
                    · have hij : i = j := by omega
                      subst hij
                      go_wp2_with fail
                      go_roundg (nE - (i + 1))
                      case measure => omega
                      case rel => exact ⟨i + 1, rfl, by omega, by go_num, HY⟩
                · skip
                  have hjm : j = nE := by omega
                  subst hjm
                  go_wp2_with fail
                  refine (HAL.out _).mono ?_
                  rintro e wd ⟨rfl, hc⟩
                  have hcc := HY.out.trans hc (fun _ _ e => e)
                  replace HO := Lib.hid (HO.out.chg hcc id)
                  replace HM2 := Lib.hid (HM2.out.chg hcc)
                  replace HBB := Lib.hid (HBB.out.chg hcc)
                  replace HX := Lib.hid (HX.out.trans hcc (fun _ _ e => e))
                  clear hc hcc
                  obtain ⟨x0, x1, x2, x3, x4, x5, x6, x7, x8, x9, x10, x11, x12⟩ := ou_cells15 HO.out
                  have tk := HK2.out
                  by_cases hk1 : v.kd = 1
                  · obtain ⟨hge, hfb⟩ := HST.out.2.1 hk1
                    have hc1 := conv_any (c := d2) HM2.out.2.2
                    have hc2 := conv_any (c := c') HBB.out.2.2
                    rw [hfb] at hc1
                    rw [hk1] at x0
                    clear hk1 hfb tk
                    go_wp2_with fail
                    go_ret
                    exact ⟨by simp [hge], HX.out⟩
                  · have tk2 : ¬ v.kd = 2 := by simpa using tk
                    have tk3 : (v.kd != 2) = true := by simpa using tk2
                    have t3 : (v.kd != 1) = true := by simpa using hk1
                    clear tk
                    go_wp2_with fail
                    go_ret
                    exact ⟨rfl, HX.out⟩
            by_cases hk : v.kd = 2
            · have HOR := HO
              rcases (show z = 1 ∨ z = 2 by omega) with rfl | rfl
              · clear hz1 hz3 hz
                obtain ⟨hr, hpb, hnu, -⟩ := HST.out.1 hk
                have HPB := Lib.hid hpb
                have HNU := Lib.hid hnu
                obtain ⟨x, hsn, hnf, hop⟩ := hop15 HST.out hk l1 (by have := HW1.out.1; have := HL1.out; omega)
                have HSN := Lib.hid hsn
                have HNF := Lib.hid hnf
                have HOP := Lib.hid hop
                clear hr hpb hnu hsn hnf hop
                obtain ⟨rfl, rfl, rfl, rfl, hbv⟩ := HV.out.one
                have HBV := Lib.hid hbv
                clear hbv HV
                have HBP : Hid (Blk (wr.alloc (.cells #[.int .i64 v.k, .int .i64 v.o, .int .i64 v.f, .int .i64 v.t, .int .i64 v.p, .int .i64 v.g, .int .i64 v.i, .slice B3 m3 d3] 37)) wr.heap.size 37 (pkC v.k v.o v.f v.t v.p v.g v.i B3 m3 d3)) := Lib.hid (blk_new rfl)
                have hca := (Chg.refl (fun _ => False) wr).alloc (.cells #[.int .i64 v.k, .int .i64 v.o, .int .i64 v.f, .int .i64 v.t, .int .i64 v.p, .int .i64 v.g, .int .i64 v.i, .slice B3 m3 d3] 37)
                replace HBL := Lib.hid (HBL.out.chg hca id)
                replace HB1 := Lib.hid (HB1.out.chg hca id)
                replace HO := Lib.hid (HO.out.chg hca id)
                replace HBV := Lib.hid (HBV.out.chg hca id)
                replace HM2 := Lib.hid (HM2.out.chg hca)
                replace HM3 := Lib.hid (HM3.out.chg hca)
                replace HBB := Lib.hid (HBB.out.chg hca)
                have HXR := Lib.hid HX.out
                replace HX := Lib.hid (HX.out.trans hca (fun _ _ e => e))
                clear hca
                obtain ⟨x0, x1, x2, x3, x4, x5, x6, x7, x8, x9, x10, x11, x12⟩ := ou_cells15 (show Blk wr XO 39 (ouC15 v.kd v.po v.ge v.st B2 m2 d2 v.k v.o v.f v.t v.p v.g v.i B3 m3 d3) from HOR.out)
                rw [hk] at x0
                clear hk HXR
                go_upto_region 18 with fail
                clear x0 x1 x2 x3 x4 x5 x6 x7 x8 x9 x10 x11 x12 HOR
                generalize wr.alloc (.cells #[.int .i64 v.k, .int .i64 v.o, .int .i64 v.f, .int .i64 v.t, .int .i64 v.p, .int .i64 v.g, .int .i64 v.i, .slice B3 m3 d3] 37) = w8 at *
                generalize wr.heap.size = XP at *
                obtain ⟨y0, y1, y2, y3, y4, y5, y6, y7⟩ := pk_cells HBP.out
                have hcb := (Chg.refl (fun _ => False) w8).alloc (.cells #[.int .i64 v.t] 3)
                have HTO : Hid (Blk (w8.alloc (.cells #[.int .i64 v.t] 3)) w8.heap.size 3 #[.int .i64 v.t]) := Lib.hid (blk_new rfl)
                replace HBL := Lib.hid (HBL.out.chg hcb id)
                replace HB1 := Lib.hid (HB1.out.chg hcb id)
                replace HO := Lib.hid (HO.out.chg hcb id)
                replace HBV := Lib.hid (HBV.out.chg hcb id)
                replace HBP := Lib.hid (HBP.out.chg hcb id)
                replace HM2 := Lib.hid (HM2.out.chg hcb)
                replace HM3 := Lib.hid (HM3.out.chg hcb)
                replace HBB := Lib.hid (HBB.out.chg hcb)
                replace HX := Lib.hid (HX.out.trans hcb (fun _ _ e => e))
                clear hcb
                go_wp2_with (at_builtin; go_loud (refine wpList_grow15 _ rfl (.tmp 108) (.tmp 111) rfl XV 1 1 [ch] rfl rfl (v15_holds HBV.out) ⟨w8.heap.size, 0, none⟩ 1 1 [v.t] rfl rfl (v15_holds HTO.out) (by decide) (by decide) ?_); intro E9 d9 w9 hvs hc9; have HVS := Lib.hid hvs; have HC9 := Lib.hid hc9; clear hvs hc9)
                clear y0 y1 y2 y3 y4 y5 y6 y7 HTO HBV
                replace HVS := Lib.hid (HVS.out.base (b' := w.heap.size) HX.out.size)
                replace HBL := Lib.hid (HBL.out.chg HC9.out id)
                replace HB1 := Lib.hid (HB1.out.chg HC9.out id)
                replace HBP := Lib.hid (HBP.out.chg HC9.out id)
                replace HO := Lib.hid (HO.out.chg HC9.out id)
                replace HM2 := Lib.hid (HM2.out.chg HC9.out)
                replace HM3 := Lib.hid (HM3.out.chg HC9.out)
                replace HBB := Lib.hid (HBB.out.chg HC9.out)
                replace HX := Lib.hid (HX.out.trans HC9.out (fun _ _ e => e))
                clear HC9
                have HTB := Lib.hid (fun (W : World) (hW : Chg (fun _ => False) w W) => btable14_any (lc := c1) (HW1.out.chg hW) (by have := HL1.out; omega) v.t)
                have HXW := Lib.hid HX.out.drew
                have HKEEP : Hid (∀ W : World, Chg (fun _ => False) w9 W → (W.cell? ⟨XP, 3, none⟩ = some (.int .i64 v.t) ∧ W.cell? ⟨Q0, 1, none⟩ = some (.slice A1 n1 c1))) := Lib.hid (fun W hw => by
                  have y0 := Blk.cell (HBP.out.chg hw id) 3
                  have y1 := Blk.cell (HBL.out.chg hw id) 1
                  simp only [pkC, List.getElem?_toArray, List.getElem?_cons_zero, List.getElem?_cons_succ] at y0 y1
                  exact ⟨y0, y1⟩)
                have HYA := Lib.hid (Chg.refl (fun _ => False) w9).drew
                obtain ⟨y0, y1⟩ := HKEEP.out _ HYA.out
                go_region_held3 (fun w' => w'.cell? ⟨XP, 3, none⟩ = some (.int .i64 v.t) ∧ w'.cell? ⟨Q0, 1, none⟩ = some (.slice A1 n1 c1))
                  (first | with_reducible exact HKEEP.out _ HYA.out | with_reducible exact HKEEP.out _ HYB.out | fail)
                  (first
                    | (go_at_call 20; (with_reducible refine (HTB.out _ HXW.out).mono ?_); rintro e w10 ⟨p1, rfl, hT, hc⟩; have HYB := Lib.hid (HYA.out.trans hc (fun _ _ e => e)); have HT := Lib.hid hT; clear hT hc)
                    | fail)
                clear y0 y1 HKEEP HYA HTB HXW
                replace HBL := Lib.hid (HBL.out.chg HYB.out id)
                replace HB1 := Lib.hid (HB1.out.chg HYB.out id)
                replace HBP := Lib.hid (HBP.out.chg HYB.out id)
                replace HO := Lib.hid (HO.out.chg HYB.out id)
                replace HM2 := Lib.hid (HM2.out.chg HYB.out)
                replace HM3 := Lib.hid (HM3.out.chg HYB.out)
                replace HBB := Lib.hid (HBB.out.chg HYB.out)
                replace HVS := Lib.hid (HVS.out.chg0 HYB.out)
                replace HX := Lib.hid (HX.out.trans HYB.out (fun _ _ e => e))
                clear HYB
                have HCA := Lib.hid (HOP.out w10 p1 B3 m3 d3 HT.out HM3.out)
                clear HOP
                obtain ⟨y0, y1, y2, y3, y4, y5, y6, y7⟩ := pk_cells HBP.out
                go_wp2_with fail
                refine HCA.out.mono ?_
                rintro e w11 ⟨B4, m4, d4, B5, m5, d5, rfl, hm4, hm5, hc⟩
                unfold ouC15
                have hca := hc.alloc (.cells #[.int .i64 x.kd, .int .i64 x.po, .int .i64 x.ge, .int .i64 x.st, .slice B4 m4 d4, .int .i64 x.k, .int .i64 x.o, .int .i64 x.f, .int .i64 x.t, .int .i64 x.p, .int .i64 x.g, .int .i64 x.i, .slice B5 m5 d5] 39)
                have HO2 : Hid (Blk (w11.alloc (.cells #[.int .i64 x.kd, .int .i64 x.po, .int .i64 x.ge, .int .i64 x.st, .slice B4 m4 d4, .int .i64 x.k, .int .i64 x.o, .int .i64 x.f, .int .i64 x.t, .int .i64 x.p, .int .i64 x.g, .int .i64 x.i, .slice B5 m5 d5] 39)) w11.heap.size 39 (ouC15 x.kd x.po x.ge x.st B4 m4 d4 x.k x.o x.f x.t x.p x.g x.i B5 m5 d5)) := Lib.hid (blk_new rfl)
                have HM4 := Lib.hid (hm4.alloc (.cells #[.int .i64 x.kd, .int .i64 x.po, .int .i64 x.ge, .int .i64 x.st, .slice B4 m4 d4, .int .i64 x.k, .int .i64 x.o, .int .i64 x.f, .int .i64 x.t, .int .i64 x.p, .int .i64 x.g, .int .i64 x.i, .slice B5 m5 d5] 39))
                have HM5 := Lib.hid (hm5.alloc (.cells #[.int .i64 x.kd, .int .i64 x.po, .int .i64 x.ge, .int .i64 x.st, .slice B4 m4 d4, .int .i64 x.k, .int .i64 x.o, .int .i64 x.f, .int .i64 x.t, .int .i64 x.p, .int .i64 x.g, .int .i64 x.i, .slice B5 m5 d5] 39))
                replace HBL := Lib.hid (HBL.out.chg hca id)
                replace HB1 := Lib.hid (HB1.out.chg hca id)
                replace HBP := Lib.hid (HBP.out.chg hca id)
                replace HO := Lib.hid (HO.out.chg hca id)
                replace HM2 := Lib.hid (HM2.out.chg hca)
                replace HM3 := Lib.hid (HM3.out.chg hca)
                replace HBB := Lib.hid (HBB.out.chg hca)
                replace HVS := Lib.hid (HVS.out.chg0 hca)
                replace HX := Lib.hid (HX.out.trans hca (fun _ _ e => e))
                clear hm4 hm5 hc hca HCA HT y0 y1 y2 y3 y4 y5 y6 y7 HM2
                go_upto_region 21 with fail
                generalize w11.alloc (.cells #[.int .i64 x.kd, .int .i64 x.po, .int .i64 x.ge, .int .i64 x.st, .slice B4 m4 d4, .int .i64 x.k, .int .i64 x.o, .int .i64 x.f, .int .i64 x.t, .int .i64 x.p, .int .i64 x.g, .int .i64 x.i, .slice B5 m5 d5] 39) = v11 at *
                generalize w11.heap.size = X2 at *
                have hc1 := conv_any (c := d3) HM3.out.2.2
                have hc2 := conv_any (c := c') HBB.out.2.2
                rw [HPB.out] at hc1
                obtain ⟨y0, y1, y2, y3, y4, y5, y6, y7⟩ := pk_cells HBP.out
                rw [HNU.out] at y6
                obtain ⟨z0, z1, z2, z3, z4, z5, z6, z7, z8, z9, z10, z11, z12⟩ := ou_cells15 HO2.out
                have a0 := HB1.out.cell 0
                have a1 := HB1.out.cell 1
                simp only [List.getElem?_toArray, List.getElem?_cons_zero, List.getElem?_cons_succ] at a0 a1
                go_cut [156] (fun s wx => s = .bool false ∧ wx = v11)
                case first =>
                  by_cases hk2 : v.k = 2
                  · have t1 : (v.k == 2) = true := by simp [hk2]
                    have t2 : (x.kd == 2) = false := by
                      have := HNF.out
                      simp only [hk2, true_and] at this
                      simp [this]
                    clear hk2
                    go_wp2_with fail
                    go_meet
                    exact ⟨rfl, rfl⟩
                  · have t1 : (v.k == 2) = false := by simp [hk2]
                    clear hk2
                    go_wp2_with fail
                    go_meet
                    exact ⟨rfl, rfl⟩
                case rest =>
                  obtain ⟨rfl, rfl⟩ := hcut
                  clear hc1 hc2 y0 y1 y2 y3 y4 y5 y6 y7 a0 a1
                  obtain ⟨x0, x1, x2, x3, x4, x5, x6, x7, x8, x9, x10, x11, x12⟩ := ou_cells15 HO.out
                  obtain ⟨f0, f1, f2, f3, f4, f5, f6, f7, f8, f9, f10, f11, f12⟩ := ou_free15 HO.out
                  have HBO := Lib.hid (ou_blk15 HO.out x.kd x.po x.ge x.st B4 m4 d4 x.k x.o x.f x.t x.p x.g x.i B5 m5 d5)
                  obtain ⟨r0, r1, r2, r3, r4, r5, r6, r7, r8, r9, r10, r11, r12, hcs⟩ := ou_put15 HO.out rfl x.kd x.po x.ge x.st B4 m4 d4 x.k x.o x.f x.t x.p x.g x.i B5 m5 d5
                  clear r0 r1 r2 r3 r4 r5 r6 r7 r8 r9 r10 r11 r12
                  have HF := Lib.hid (fresh_set HX.out hcs HXO.out)
                  replace HM4 := Lib.hid (HM4.out.put HO.out noU8_ou hcs)
                  replace HM5 := Lib.hid (HM5.out.put HO.out noU8_ou hcs)
                  replace HBB := Lib.hid (HBB.out.put HO.out noU8_ou hcs)
                  replace HBL := Lib.hid (HBL.out.chg hcs (blk_apart15 HBL.out HO.out (by decide)))
                  replace HB1 := Lib.hid (HB1.out.chg hcs (blk_apart15 HB1.out HO.out (by decide)))
                  replace HVS := Lib.hid (HVS.out.chg hcs (fun q e => ⟨_, _, e ▸ HO.out, by decide⟩))
                  clear hcs HX
                  go_upto_region 16 with fail
                  clear x0 x1 x2 x3 x4 x5 x6 x7 x8 x9 x10 x11 x12 f0 f1 f2 f3 f4 f5 f6 f7 f8 f9 f10 f11 f12 z0 z1 z2 z3 z4 z5 z6 z7 z8 z9 z10 z11 z12 HO HO2
                  generalize (((((((((((((wc.setCell ⟨XO, 0, none⟩ (.int .i64 x.kd)).setCell ⟨XO, 1, none⟩ (.int .i64 x.po)).setCell ⟨XO, 2, none⟩ (.int .i64 x.ge)).setCell ⟨XO, 3, none⟩ (.int .i64 x.st)).setCell ⟨XO, 4, none⟩ (.slice B4 m4 d4)).setCell ⟨XO, 5, none⟩ (.int .i64 x.k)).setCell ⟨XO, 6, none⟩ (.int .i64 x.o)).setCell ⟨XO, 7, none⟩ (.int .i64 x.f)).setCell ⟨XO, 8, none⟩ (.int .i64 x.t)).setCell ⟨XO, 9, none⟩ (.int .i64 x.p)).setCell ⟨XO, 10, none⟩ (.int .i64 x.g)).setCell ⟨XO, 11, none⟩ (.int .i64 x.i)).setCell ⟨XO, 12, none⟩ (.slice B5 m5 d5)) = w12 at *
                  go_wp2_with fail
                  go_roundg 1
                  case measure => decide
                  case rel => exact ⟨2, _, _, _, _, x, B4, m4, d4, B5, m5, d5, rfl, by decide, by decide, rfl, rfl, Lib.hid (.inr (.inl ⟨rfl, rfl, by rfl, HVS.out⟩)), HSN, HBO, HM4, HM5, HBL, HB1, HBB, HF⟩
              · clear hz1 hz3 hz
                obtain ⟨hr, hpb, hnu, -⟩ := HST.out.1 hk
                have HPB := Lib.hid hpb
                have HNU := Lib.hid hnu
                obtain ⟨x, hsn, hnf, hop⟩ := hop15 HST.out hk l2 (by have := HW2.out.1; have := HL1.out; omega)
                have HSN := Lib.hid hsn
                have HNF := Lib.hid hnf
                have HOP := Lib.hid hop
                clear hr hpb hnu hsn hnf hop
                obtain ⟨rfl, hvl, hvs⟩ := HV.out.two
                have HVL := Lib.hid hvl
                have HVS := Lib.hid hvs
                clear hvl hvs HV
                have HBP : Hid (Blk (wr.alloc (.cells #[.int .i64 v.k, .int .i64 v.o, .int .i64 v.f, .int .i64 v.t, .int .i64 v.p, .int .i64 v.g, .int .i64 v.i, .slice B3 m3 d3] 37)) wr.heap.size 37 (pkC v.k v.o v.f v.t v.p v.g v.i B3 m3 d3)) := Lib.hid (blk_new rfl)
                have hca := (Chg.refl (fun _ => False) wr).alloc (.cells #[.int .i64 v.k, .int .i64 v.o, .int .i64 v.f, .int .i64 v.t, .int .i64 v.p, .int .i64 v.g, .int .i64 v.i, .slice B3 m3 d3] 37)
                replace HBL := Lib.hid (HBL.out.chg hca id)
                replace HB1 := Lib.hid (HB1.out.chg hca id)
                replace HO := Lib.hid (HO.out.chg hca id)
                replace HM2 := Lib.hid (HM2.out.chg hca)
                replace HM3 := Lib.hid (HM3.out.chg hca)
                replace HBB := Lib.hid (HBB.out.chg hca)
                replace HVS := Lib.hid (HVS.out.chg0 hca)
                have HXR := Lib.hid HX.out
                replace HX := Lib.hid (HX.out.trans hca (fun _ _ e => e))
                clear hca
                obtain ⟨x0, x1, x2, x3, x4, x5, x6, x7, x8, x9, x10, x11, x12⟩ := ou_cells15 (show Blk wr XO 39 (ouC15 v.kd v.po v.ge v.st B2 m2 d2 v.k v.o v.f v.t v.p v.g v.i B3 m3 d3) from HOR.out)
                rw [hk] at x0
                clear hk HXR
                go_upto_region 18 with fail
                clear x0 x1 x2 x3 x4 x5 x6 x7 x8 x9 x10 x11 x12 HOR
                generalize wr.alloc (.cells #[.int .i64 v.k, .int .i64 v.o, .int .i64 v.f, .int .i64 v.t, .int .i64 v.p, .int .i64 v.g, .int .i64 v.i, .slice B3 m3 d3] 37) = w8 at *
                generalize wr.heap.size = XP at *
                obtain ⟨y0, y1, y2, y3, y4, y5, y6, y7⟩ := pk_cells HBP.out
                have hcb := (Chg.refl (fun _ => False) w8).alloc (.cells #[.int .i64 v.t] 3)
                have HTO : Hid (Blk (w8.alloc (.cells #[.int .i64 v.t] 3)) w8.heap.size 3 #[.int .i64 v.t]) := Lib.hid (blk_new rfl)
                replace HBL := Lib.hid (HBL.out.chg hcb id)
                replace HB1 := Lib.hid (HB1.out.chg hcb id)
                replace HO := Lib.hid (HO.out.chg hcb id)
                replace HBP := Lib.hid (HBP.out.chg hcb id)
                replace HM2 := Lib.hid (HM2.out.chg hcb)
                replace HM3 := Lib.hid (HM3.out.chg hcb)
                replace HBB := Lib.hid (HBB.out.chg hcb)
                replace HVS := Lib.hid (HVS.out.chg0 hcb)
                replace HX := Lib.hid (HX.out.trans hcb (fun _ _ e => e))
                clear hcb
                go_wp2_with (at_builtin; go_loud (refine wpList_more15 _ rfl (.tmp 108) (.tmp 111) rfl w.heap.size _ 2 _ vs rfl HVS.out w8.heap.size v.t rfl HTO.out (by decide) HX.out.size ?_); intro E9 d9 g9 cur9 w9 hvs hg9 hu9 hb9 hc9; have HVS9 := Lib.hid hvs; have HG9 := Lib.hid hg9; have HU9 := Lib.hid hu9; have HBS9 := Lib.hid hb9; have HC9 := Lib.hid hc9; clear hvs hg9 hu9 hb9 hc9)
                clear y0 y1 y2 y3 y4 y5 y6 y7 HTO HVS
                have HVS := HVS9
                clear HVS9
                replace HBL := Lib.hid (HBL.out.chg HC9.out (blk_apart15 HBL.out HG9.out (by decide)))
                replace HB1 := Lib.hid (HB1.out.chg HC9.out (blk_apart15 HB1.out HG9.out (by decide)))
                replace HBP := Lib.hid (HBP.out.chg HC9.out (blk_apart15 HBP.out HG9.out (by decide)))
                replace HO := Lib.hid (HO.out.chg HC9.out (blk_apart15 HO.out HG9.out (by decide)))
                replace HM2 := Lib.hid (HM2.out.put HG9.out HU9.out HC9.out)
                replace HM3 := Lib.hid (HM3.out.put HG9.out HU9.out HC9.out)
                replace HBB := Lib.hid (HBB.out.put HG9.out HU9.out HC9.out)
                replace HX := Lib.hid (fresh_set HX.out HC9.out HBS9.out)
                clear HC9 HG9 HU9 HBS9
                have HTB := Lib.hid (fun (W : World) (hW : Chg (fun _ => False) w W) => btable14_any (lc := c2) (HW2.out.chg hW) (by have := HL1.out; omega) v.t)
                have HXW := Lib.hid HX.out.drew
                have HKEEP : Hid (∀ W : World, Chg (fun _ => False) w9 W → (W.cell? ⟨XP, 3, none⟩ = some (.int .i64 v.t) ∧ W.cell? ⟨Q0, 2, none⟩ = some (.slice A2 n2 c2))) := Lib.hid (fun W hw => by
                  have y0 := Blk.cell (HBP.out.chg hw id) 3
                  have y1 := Blk.cell (HBL.out.chg hw id) 2
                  simp only [pkC, List.getElem?_toArray, List.getElem?_cons_zero, List.getElem?_cons_succ] at y0 y1
                  exact ⟨y0, y1⟩)
                have HYA := Lib.hid (Chg.refl (fun _ => False) w9).drew
                obtain ⟨y0, y1⟩ := HKEEP.out _ HYA.out
                go_region_held3 (fun w' => w'.cell? ⟨XP, 3, none⟩ = some (.int .i64 v.t) ∧ w'.cell? ⟨Q0, 2, none⟩ = some (.slice A2 n2 c2))
                  (first | with_reducible exact HKEEP.out _ HYA.out | with_reducible exact HKEEP.out _ HYB.out | fail)
                  (first
                    | (go_at_call 20; (with_reducible refine (HTB.out _ HXW.out).mono ?_); rintro e w10 ⟨p1, rfl, hT, hc⟩; have HYB := Lib.hid (HYA.out.trans hc (fun _ _ e => e)); have HT := Lib.hid hT; clear hT hc)
                    | fail)
                clear y0 y1 HKEEP HYA HTB HXW
                replace HBL := Lib.hid (HBL.out.chg HYB.out id)
                replace HB1 := Lib.hid (HB1.out.chg HYB.out id)
                replace HBP := Lib.hid (HBP.out.chg HYB.out id)
                replace HO := Lib.hid (HO.out.chg HYB.out id)
                replace HM2 := Lib.hid (HM2.out.chg HYB.out)
                replace HM3 := Lib.hid (HM3.out.chg HYB.out)
                replace HBB := Lib.hid (HBB.out.chg HYB.out)
                replace HVS := Lib.hid (HVS.out.chg0 HYB.out)
                replace HX := Lib.hid (HX.out.trans HYB.out (fun _ _ e => e))
                clear HYB
                have HCA := Lib.hid (HOP.out w10 p1 B3 m3 d3 HT.out HM3.out)
                clear HOP
                obtain ⟨y0, y1, y2, y3, y4, y5, y6, y7⟩ := pk_cells HBP.out
                go_wp2_with fail
                refine HCA.out.mono ?_
                rintro e w11 ⟨B4, m4, d4, B5, m5, d5, rfl, hm4, hm5, hc⟩
                unfold ouC15
                have hca := hc.alloc (.cells #[.int .i64 x.kd, .int .i64 x.po, .int .i64 x.ge, .int .i64 x.st, .slice B4 m4 d4, .int .i64 x.k, .int .i64 x.o, .int .i64 x.f, .int .i64 x.t, .int .i64 x.p, .int .i64 x.g, .int .i64 x.i, .slice B5 m5 d5] 39)
                have HO2 : Hid (Blk (w11.alloc (.cells #[.int .i64 x.kd, .int .i64 x.po, .int .i64 x.ge, .int .i64 x.st, .slice B4 m4 d4, .int .i64 x.k, .int .i64 x.o, .int .i64 x.f, .int .i64 x.t, .int .i64 x.p, .int .i64 x.g, .int .i64 x.i, .slice B5 m5 d5] 39)) w11.heap.size 39 (ouC15 x.kd x.po x.ge x.st B4 m4 d4 x.k x.o x.f x.t x.p x.g x.i B5 m5 d5)) := Lib.hid (blk_new rfl)
                have HM4 := Lib.hid (hm4.alloc (.cells #[.int .i64 x.kd, .int .i64 x.po, .int .i64 x.ge, .int .i64 x.st, .slice B4 m4 d4, .int .i64 x.k, .int .i64 x.o, .int .i64 x.f, .int .i64 x.t, .int .i64 x.p, .int .i64 x.g, .int .i64 x.i, .slice B5 m5 d5] 39))
                have HM5 := Lib.hid (hm5.alloc (.cells #[.int .i64 x.kd, .int .i64 x.po, .int .i64 x.ge, .int .i64 x.st, .slice B4 m4 d4, .int .i64 x.k, .int .i64 x.o, .int .i64 x.f, .int .i64 x.t, .int .i64 x.p, .int .i64 x.g, .int .i64 x.i, .slice B5 m5 d5] 39))
                replace HBL := Lib.hid (HBL.out.chg hca id)
                replace HB1 := Lib.hid (HB1.out.chg hca id)
                replace HBP := Lib.hid (HBP.out.chg hca id)
                replace HO := Lib.hid (HO.out.chg hca id)
                replace HM2 := Lib.hid (HM2.out.chg hca)
                replace HM3 := Lib.hid (HM3.out.chg hca)
                replace HBB := Lib.hid (HBB.out.chg hca)
                replace HVS := Lib.hid (HVS.out.chg0 hca)
                replace HX := Lib.hid (HX.out.trans hca (fun _ _ e => e))
                clear hm4 hm5 hc hca HCA HT y0 y1 y2 y3 y4 y5 y6 y7 HM2
                go_upto_region 21 with fail
                generalize w11.alloc (.cells #[.int .i64 x.kd, .int .i64 x.po, .int .i64 x.ge, .int .i64 x.st, .slice B4 m4 d4, .int .i64 x.k, .int .i64 x.o, .int .i64 x.f, .int .i64 x.t, .int .i64 x.p, .int .i64 x.g, .int .i64 x.i, .slice B5 m5 d5] 39) = v11 at *
                generalize w11.heap.size = X2 at *
                have hc1 := conv_any (c := d3) HM3.out.2.2
                have hc2 := conv_any (c := c') HBB.out.2.2
                rw [HPB.out] at hc1
                obtain ⟨y0, y1, y2, y3, y4, y5, y6, y7⟩ := pk_cells HBP.out
                rw [HNU.out] at y6
                obtain ⟨z0, z1, z2, z3, z4, z5, z6, z7, z8, z9, z10, z11, z12⟩ := ou_cells15 HO2.out
                have a0 := HB1.out.cell 0
                have a1 := HB1.out.cell 1
                simp only [List.getElem?_toArray, List.getElem?_cons_zero, List.getElem?_cons_succ] at a0 a1
                go_cut [156] (fun s wx => s = .bool false ∧ wx = v11)
                case first =>
                  by_cases hk2 : v.k = 2
                  · have t1 : (v.k == 2) = true := by simp [hk2]
                    have t2 : (x.kd == 2) = false := by
                      have := HNF.out
                      simp only [hk2, true_and] at this
                      simp [this]
                    clear hk2
                    go_wp2_with fail
                    go_meet
                    exact ⟨rfl, rfl⟩
                  · have t1 : (v.k == 2) = false := by simp [hk2]
                    clear hk2
                    go_wp2_with fail
                    go_meet
                    exact ⟨rfl, rfl⟩
                case rest =>
                  obtain ⟨rfl, rfl⟩ := hcut
                  clear hc1 hc2 y0 y1 y2 y3 y4 y5 y6 y7 a0 a1
                  obtain ⟨x0, x1, x2, x3, x4, x5, x6, x7, x8, x9, x10, x11, x12⟩ := ou_cells15 HO.out
                  obtain ⟨f0, f1, f2, f3, f4, f5, f6, f7, f8, f9, f10, f11, f12⟩ := ou_free15 HO.out
                  have HBO := Lib.hid (ou_blk15 HO.out x.kd x.po x.ge x.st B4 m4 d4 x.k x.o x.f x.t x.p x.g x.i B5 m5 d5)
                  obtain ⟨r0, r1, r2, r3, r4, r5, r6, r7, r8, r9, r10, r11, r12, hcs⟩ := ou_put15 HO.out rfl x.kd x.po x.ge x.st B4 m4 d4 x.k x.o x.f x.t x.p x.g x.i B5 m5 d5
                  clear r0 r1 r2 r3 r4 r5 r6 r7 r8 r9 r10 r11 r12
                  have HF := Lib.hid (fresh_set HX.out hcs HXO.out)
                  replace HM4 := Lib.hid (HM4.out.put HO.out noU8_ou hcs)
                  replace HM5 := Lib.hid (HM5.out.put HO.out noU8_ou hcs)
                  replace HBB := Lib.hid (HBB.out.put HO.out noU8_ou hcs)
                  replace HBL := Lib.hid (HBL.out.chg hcs (blk_apart15 HBL.out HO.out (by decide)))
                  replace HB1 := Lib.hid (HB1.out.chg hcs (blk_apart15 HB1.out HO.out (by decide)))
                  replace HVS := Lib.hid (HVS.out.chg hcs (fun q e => ⟨_, _, e ▸ HO.out, by decide⟩))
                  clear hcs HX
                  go_upto_region 16 with fail
                  clear x0 x1 x2 x3 x4 x5 x6 x7 x8 x9 x10 x11 x12 f0 f1 f2 f3 f4 f5 f6 f7 f8 f9 f10 f11 f12 z0 z1 z2 z3 z4 z5 z6 z7 z8 z9 z10 z11 z12 HO HO2
                  generalize (((((((((((((wc.setCell ⟨XO, 0, none⟩ (.int .i64 x.kd)).setCell ⟨XO, 1, none⟩ (.int .i64 x.po)).setCell ⟨XO, 2, none⟩ (.int .i64 x.ge)).setCell ⟨XO, 3, none⟩ (.int .i64 x.st)).setCell ⟨XO, 4, none⟩ (.slice B4 m4 d4)).setCell ⟨XO, 5, none⟩ (.int .i64 x.k)).setCell ⟨XO, 6, none⟩ (.int .i64 x.o)).setCell ⟨XO, 7, none⟩ (.int .i64 x.f)).setCell ⟨XO, 8, none⟩ (.int .i64 x.t)).setCell ⟨XO, 9, none⟩ (.int .i64 x.p)).setCell ⟨XO, 10, none⟩ (.int .i64 x.g)).setCell ⟨XO, 11, none⟩ (.int .i64 x.i)).setCell ⟨XO, 12, none⟩ (.slice B5 m5 d5)) = w12 at *
                  go_wp2_with fail
                  go_roundg 0
                  case measure => decide
                  case rel => exact ⟨3, _, _, _, _, x, B4, m4, d4, B5, m5, d5, rfl, by decide, by decide, rfl, rfl, Lib.hid (.inr (.inr ⟨rfl, rfl, by simp [HVL.out], HVS.out⟩)), HSN, HBO, HM4, HM5, HBL, HB1, HBB, HF⟩
            · obtain ⟨wl, hwl⟩ : ∃ wl, wl = wr := ⟨_, rfl⟩
              subst hwl
              obtain ⟨hrd, hnl, hn3⟩ := HV.out.rds
              obtain ⟨ad, rfl⟩ := HV.out.ex
              have HRV := Lib.hid hrd
              have HNL := Lib.hid hnl
              have HN3 := Lib.hid hn3
              have HDS := Lib.hid HST.out.2.2.1
              have HK2 := Lib.hid (show (v.kd == 2) = false from by simp [hk])
              clear hrd hnl hn3 HV hk HBL HB1 HM3
              obtain ⟨x0, x1, x2, x3, x4, x5, x6, x7, x8, x9, x10, x11, x12⟩ := ou_cells15 HO.out
              have tk := HK2.out
              clear x1 x2 x3 x4 x5 x6 x7 x8 x9 x10 x11 x12
              go_wp2_with fail
              clear x0 tk
              go_loopg [23] nE (fun g s23 wq => ∃ j : Nat, g = nE - j ∧ j ≤ nE ∧ s23 = .int .i64 (j : Int) ∧ Hid (Chg (fun _ => False) wl wq))
              case atStart => exact ⟨0, rfl, Nat.zero_le _, rfl, Lib.hid (Chg.refl _ _)⟩
              case round =>
                obtain ⟨j, rfl, hj, rfl, HY⟩ := hrel
                have hn3 := HN3.out
                by_cases hlt : j < nE
                · go_wp2_with fail
                  go_loopg [24] j (fun g s24 wq => ∃ i : Nat, g = j - i ∧ i ≤ j ∧ s24 = .int .i64 (i : Int) ∧ Hid (Chg (fun _ => False) wl wq))
                  case atStart => exact ⟨0, rfl, Nat.zero_le _, rfl, HY⟩
                  case round =>
                    clear HY
                    obtain ⟨i, rfl, hi, rfl, HY⟩ := hrel
                    by_cases hlt2 : i < j
                    · have hin : i < nE := by omega
                      have hjl : j < vs.length := by have := HNL.out; omega
                      have hil : i < vs.length := by omega
                      have hne := HDS.out j i _ _ hlt2 (List.getElem?_eq_getElem hjl) (List.getElem?_eq_getElem hil)
                      have hh := HRV.out.chg HY.out (fun _ _ => id)
                      have zj := rd15 hh hjl
                      have zi := rd15 hh hil
                      generalize vs[j] = p1 at *
                      generalize vs[i] = p2 at *
                      have tp : (p1 == p2) = false := by simp [hne]
                      clear hne hjl hil hh
                      go_wp2_with fail
                      go_quiet (fail)
                      replace HY := Lib.hid (HY.out.drewN nq)
                      generalize World.drewN wr nq = wq at *
                      go_wp2_with fail
                      go_roundg (j - (i + 1))
                      case measure => omega
                      case rel => exact ⟨i + 1, rfl, by omega, by go_num, HY⟩
                    · have hij : i = j := by omega
                      subst hij
                      go_wp2_with fail
                      go_roundg (nE - (i + 1))
                      case measure => omega
                      case rel => exact ⟨i + 1, rfl, by omega, by go_num, HY⟩
                · skip
                  have hjm : j = nE := by omega
                  subst hjm
                  go_wp2_with fail
                  refine (HAL.out _).mono ?_
                  rintro e wd ⟨rfl, hc⟩
                  have hcc := HY.out.trans hc (fun _ _ e => e)
                  replace HO := Lib.hid (HO.out.chg hcc id)
                  replace HM2 := Lib.hid (HM2.out.chg hcc)
                  replace HBB := Lib.hid (HBB.out.chg hcc)
                  replace HX := Lib.hid (HX.out.trans hcc (fun _ _ e => e))
                  clear hc hcc
                  obtain ⟨x0, x1, x2, x3, x4, x5, x6, x7, x8, x9, x10, x11, x12⟩ := ou_cells15 HO.out
                  have tk := HK2.out
                  by_cases hk1 : v.kd = 1
                  · obtain ⟨hge, hfb⟩ := HST.out.2.1 hk1
                    have hc1 := conv_any (c := d2) HM2.out.2.2
                    have hc2 := conv_any (c := c') HBB.out.2.2
                    rw [hfb] at hc1
                    rw [hk1] at x0
                    clear hk1 hfb tk
                    go_wp2_with fail
                    go_ret
                    exact ⟨by simp [hge], HX.out⟩
                  · have tk2 : ¬ v.kd = 2 := by simpa using tk
                    have tk3 : (v.kd != 2) = true := by simpa using tk2
                    have t3 : (v.kd != 1) = true := by simpa using hk1
                    clear tk
                    go_wp2_with fail
                    go_ret
                    exact ⟨rfl, HX.out⟩

end Go.Proofs.Ytacbgelbffmngaa
