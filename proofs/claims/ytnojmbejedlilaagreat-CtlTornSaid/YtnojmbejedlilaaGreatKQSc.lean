/-
  Walk: rutterlaw17.CtlTorn. Conditions: the acts lie in memory.
-/
import Derived.Test.YtnojmbejedlilaaGreatKQSb
import Derived.Test.YtnojmbejedlilaaGreatKQPr
import Derived.Deep.DeepCutAuto
namespace Go.Proofs.YtnojmbejedlilaaGreat
open _root_.Int renaming lt_of_not_ge→C0,le_refl→CJ
open Go.RowKit
set_option linter.unusedVariables false
set_option linter.unusedSimpArgs false
theorem jn{w:World}{q:Nat}{T:TypeId}{op po ch ma:Int}(h:Blk w q T #[.int .i64 op,.int .i64 po,.int .i64 ch,.int .u64 ma]):w.cell? ⟨q,0,none⟩=some (.int .i64 op)∧w.cell? ⟨q,1,none⟩=some (.int .i64 po)∧w.cell? ⟨q,2,none⟩=some (.int .i64 ch)∧w.cell? ⟨q,3,none⟩=some (.int .u64 ma):=
  ⟨h.cell 0,h.cell 1,h.cell 2,h.cell 3⟩
theorem vd {A B : Prop} {b1 b2 : Bool} {keep : Int} (h1 : A → b1 = true) (h2 : B → b2 = true) (h3 : A ∨ B) (h4 : keep ≤ 0 → A) (h5 : 200 ≤ keep → B) : (b1 = true ∧ b2 = true) ∨ (b1 = true ∧ b2 = false ∧ keep < 200) ∨ (b1 = false ∧ b2 = true ∧ 0 < keep) := by
  cases b1 with
  | true =>
    cases b2 with
    | true => exact .inl ⟨rfl, rfl⟩
    | false => exact .inr (.inl ⟨rfl, rfl, C0 (fun e => by cases h2 (h5 e))⟩)
  | false =>
    have hA : ¬ A := fun e => by cases h1 e
    exact .inr (.inr ⟨rfl, h2 (h3.resolve_left hA), C0 (fun e => hA (h4 e))⟩)
/-- What a comparison of rows and chassis hands back. -/
def tC(R R2:Int→Option RV)(C C2:Int→Bool)(w:World)(s:Value)(wx:World):Prop:=∃b:Bool,s=.bool b∧(C=C2∧R=R2→b=true)∧Chg (fun _=>False) w wx
set_option maxRecDepth 100000 in
set_option maxHeartbeats 32000000 in
theorem om (L : Option Addr) (m lc : Nat) (l : List bR) (op po ch ma keep : Int) (hma : 0 ≤ ma) (W : World) (hl : fm W L m l) (hmc : m ≤ lc) (hlc : lc ≤ 9223372036854775807) : Calls Tryz.prog 4 #[.slice L m lc, .agg #[.int .i64 op, .int .i64 po, .int .i64 ch, .int .u64 ma], .int .i64 keep] W fun e w' => e = .returned (.bool true) ∧ Chg (fun _ => False) W w' := by
  have hx0 := (Chg.refl (fun _ => False) W).alloc (.cells #[.int .i64 op, .int .i64 po, .int .i64 ch, .int .u64 ma] 44)
  have HXB : Hid (Blk (W.alloc (.cells #[.int .i64 op, .int .i64 po, .int .i64 ch, .int .u64 ma] 44)) W.heap.size 44 #[.int .i64 op, .int .i64 po, .int .i64 ch, .int .u64 ma]) := Lib.hid (af rfl)
  have HL := Lib.hid (hl.chg hx0)
  have HX0 := Lib.hid hx0
  have HMA := Lib.hid hma
  have HML := Lib.hid hl.1
  have HMC : Hid (m ≤ 9223372036854775807) := Lib.hid (by omega)
  have HSP : Hid ((1 : Int) ≤ 2147483648 ∧ (2147483648 : Int) ≤ 2147483648) := Lib.hid ⟨by decide, by decide⟩
  have HIN0 := Lib.hid (km HSP.out).2
  clear hl hx0 hma hmc hlc
  go_enter Tryz.func4, Tryz.ntmps4
  go_upto_region 1 with fail
  generalize W.alloc (.cells #[.int .i64 op, .int .i64 po, .int .i64 ch, .int .u64 ma] 44) = w0 at *
  generalize W.heap.size = q at HXB ⊢
  have HFI := Lib.hid (qN L m lc l w0 HL.out HMC.out)
  have HNE := Lib.hid (kX w0)
  go_wp2_with fail
  refine HFI.out.mono ?_
  rintro e w0_ ⟨b, rfl, hb, hw0⟩
  subst hw0
  cases b with
  | false =>
    clear hb HFI HNE
    go_wp2_with fail
    refine (jP _).mono ?_
    rintro e w2 ⟨rfl, hc⟩
    go_wp2_with fail
    go_ret
    exact ⟨rfl, HX0.out.trans hc (fun _ _ e => e)⟩
  | true =>
    have HFT : Hid (1 + 3 * m ≤ 1000 ∧ 1 + 3 * l.length ≤ 1000) := Lib.hid (by have h1 := (hb rfl).1; have h2 := HML.out; omega)
    clear hb HFI
    go_wp2_with fail
    refine HNE.out.mono ?_
    rintro e w1 ⟨pf, rfl, hd⟩
    have HNG := Lib.hid (qX hd)
    clear hd HNE
    go_wp2_with fail
    refine HNG.out.mono ?_
    rintro e w2 ⟨pg, rfl, hd⟩
    have HOP := Lib.hid (qY hd HSP.out)
    clear hd HNG
    go_wp2_with fail
    refine HOP.out.mono ?_
    rintro e w3 ⟨c, rfl, hd⟩
    have HOQ := Lib.hid (qZ hd HSP.out)
    clear hd HOP
    go_wp2_with fail
    refine HOQ.out.mono ?_
    rintro e w4 ⟨d, rfl, hd⟩
    have HTW := Lib.hid hd
    clear hd HOQ
    generalize bz [] 0 65536 2147483648 0 = X0 at *
    have HD1 := Lib.hid (kY HTW.out HIN0.out 2147483648 HSP.out L m lc l HL.out (fun w' e => e.mono (fun k hk e => e hk)) HMC.out HFT.out.1)
    have HDI := Lib.hid (ny HSP.out l (p := (X0, 0)) HIN0.out HFT.out.2 ⟨CJ 0, by show (0 : Int) ≤ 1099511627776; decide⟩ (fun a ha => by
      obtain ⟨i, hi⟩ := List.mem_iff_getElem?.1 ha
      have h1 := (List.getElem?_eq_some_iff.1 hi).1
      obtain ⟨ad, e, -, hc⟩ := HL.out.2 (by have := HL.out.1; omega)
      exact (hc i a hi).2.2.1))
    have HDE : Hid (List.foldl (cj 2147483648) (X0, 0) l = fV 2147483648 X0 l) := Lib.hid rfl
    rw [HDE.out] at HDI
    clear HDE
    have HDR : Hid (∀ {w : World} {c' pf' d' pg' : Nat} {y : KV}, ca (fun k => k < w0.heap.size) w0 w c' pf' X0 d' pg' y → Calls Tryz.prog 20 #[.pointer (some ⟨pf', 0, none⟩), .pointer (some ⟨c', 0, none⟩), .slice L m lc, .int .i64 2147483648] w fun e w' => ∃ c2, e = .returned (.pointer (some ⟨c2, 0, none⟩)) ∧ ca (fun k => k < w0.heap.size) w0 w' c2 pf' (fV 2147483648 X0 l).1 d' pg' y) := Lib.hid (fun h => kY h HIN0.out 2147483648 HSP.out L m lc l HL.out (fun w' e => e.mono (fun k hk e => e hk)) HMC.out HFT.out.1)
    generalize fV 2147483648 X0 l = Y2 at *
    obtain ⟨Y, no⟩ := Y2
    dsimp only at HDR HDI
    have HOK : Hid (KOk (1 + 3 * l.length) Y) := Lib.hid HDI.out.1.ok
    have HHF : Hid (_ ∧ _) := Lib.hid (jj (sp := 2147483648) (no := 0) HDI.out.1 HFT.out.2 op po ch HMA.out keep HSP.out ⟨CJ 0, by decide⟩)
    have HHI : Hid ((aB Y op po ch ma).1 = (aP Y op po ch ma).2.1) := Lib.hid (l8 HDI.out.1.ok HDI.out.1.st op po ch HMA.out).1
    have HD1 := Lib.hid (HDR.out HTW.out)
    clear HTW HDI
    go_wp2_with fail
    refine HD1.out.mono ?_
    rintro e w5 ⟨c5, rfl, hd⟩
    have HD2 := Lib.hid (HDR.out hd.swap)
    clear hd HD1
    go_wp2_with fail
    refine HD2.out.mono ?_
    rintro e w6 ⟨d6, rfl, hd⟩
    have HTW := Lib.hid hd.swap
    clear hd HD2 HDR
    have HRW := Lib.hid (gT HTW.out.lv)
    go_wp2_with fail
    refine HRW.out.mono ?_
    rintro e w7 ⟨E7, k7, e7, rfl, hk7, hr7, hc7⟩
    have HK7 := Lib.hid hk7
    have HR7 := Lib.hid hr7
    have HC7 := Lib.hid hc7
    clear hk7 hr7 hc7 HRW
    have HCH := Lib.hid (fw (HTW.out.new HC7.out).lv)
    go_wp2_with fail
    refine HCH.out.mono ?_
    rintro e w8 ⟨E8, k8, e8, rfl, hk8, hr8, hc8⟩
    have HC8 := Lib.hid (HC7.out.trans hc8 (fun _ _ e => e))
    have hs7 := HC7.out.size
    have hs8 := hc8.size
    have HR8 : Hid (SR 9 RV.cs w8 (fun k => w6.heap.size ≤ k ∧ k < w8.heap.size) E7 k7 (aO Y.t.R)) := Lib.hid ((HR7.out.chg hc8 (fun _ _ => id)).mono (fun k hk => ⟨hk.1, by have := hk.2; omega⟩))
    have HN8 : Hid (Rds w8 (fun k => w6.heap.size ≤ k ∧ k < w8.heap.size) E8 k8 (ics (bw Y.t.C))) := Lib.hid (hr8.old.mono (fun k hk => ⟨by have := hk.1; omega, hk.2⟩))
    have HK8 := Lib.hid hk8
    have HB8 : Hid (Blk w8 q 44 #[.int .i64 op, .int .i64 po, .int .i64 ch, .int .u64 ma]) := Lib.hid ((eY HXB.out HTW.out.was HXB.out.lt).chg HC8.out id)
    have HX8 : Hid (Chg (fun _ => False) W w8) := Lib.hid ((HX0.out.trans (HTW.out.was.mono (S' := fun _ => False) (fun k hk e => e hk)) (fun _ _ e => e)).trans HC8.out (fun _ _ e => e))
    have HLQ : Hid (q < w0.heap.size) := Lib.hid HXB.out.lt
    have HT8 := Lib.hid (HTW.out.more (fun k => w6.heap.size ≤ k ∧ k < w8.heap.size) HC8.out (fun k hk => hk))
    have HXW : Hid (∀ w', Chg (fun k => ¬ (k < w0.heap.size ∨ (w6.heap.size ≤ k ∧ k < w8.heap.size))) w8 w' → Chg (fun _ => False) W w') := Lib.hid (fun w' e => HX8.out.trans e (fun i hi e2 => e2 (.inl (by have := HX0.out.size; omega))))
    generalize hQQ : (fun k => k < w0.heap.size ∨ (w6.heap.size ≤ k ∧ k < w8.heap.size)) = Q at HT8
    have HQ1 : Hid (Q q) := Lib.hid (by rw [← hQQ]; exact .inl HLQ.out)
    have HQ2 : Hid (∀ k, w6.heap.size ≤ k ∧ k < w8.heap.size → Q k) := Lib.hid (fun k hk => by rw [← hQQ]; exact .inr hk)
    have HXQ : Hid (∀ w', Chg (fun k => ¬ Q k) w8 w' → Chg (fun _ => False) W w') := Lib.hid (fun w' e => HXW.out w' (by rw [← hQQ] at e; exact e))
    clear hk8 hr8 hc8 hs7 hs8 hQQ HCH HTW HC7 HR7 HC8 HXW HX8 HX0 HXB HLQ
    have HDO := Lib.hid (xd HT8.out.swap HOK.out op po ch ma HMA.out)
    have HHK : Hid (KOk (1 + 3 * l.length) (aB Y op po ch ma).2) := Lib.hid (HOK.out.half op po ch ma)
    have HHA : Hid (∀ {w : World} {y : KV}, ca Q w8 w c5 pf Y d6 pg y → Calls Tryz.prog 24 #[.pointer (some ⟨c5, 0, none⟩), .agg #[.int .i64 op, .int .i64 po, .int .i64 ch, .int .u64 ma]] w fun e w' => e = .returned (.int .i64 (aB Y op po ch ma).1) ∧ ca Q w8 w' c5 pf (aB Y op po ch ma).2 d6 pg y) := Lib.hid (fun h => tA h HOK.out op po ch ma HMA.out)
    rw [HHI.out] at HHA
    generalize aB Y op po ch ma = H2 at *
    generalize aP Y op po ch ma = D2 at *
    obtain ⟨⟨p0, p1, p2, p3, p4, p5, p6, p7, p8⟩, er, Z⟩ := D2
    obtain ⟨h1, H⟩ := H2
    unfold RV.cs rvC at HDO
    dsimp only at HDO HHA HHK HHF
    clear HHI
    obtain ⟨x0_, x1_, x2_, x3_⟩ := jn HB8.out
    go_wp2_with fail
    refine HDO.out.mono ?_
    rintro e w9 ⟨rfl, hd⟩
    have HT9 := Lib.hid hd.swap
    have hc9 := (Chg.refl (fun _ => False) w9).alloc (.cells #[.int .i64 p0, .int .u64 p1, .int .i64 p2, .int .i64 p3, .int .i64 p4, .int .i64 p5, .int .i64 p6, .int .i64 p7, .int .i64 p8] 60)
    replace HT9 := Lib.hid (HT9.out.new hc9)
    clear hd hc9 HDO x0_ x1_ x2_ x3_
    go_upto_region 17 with fail
    generalize w9.alloc (.cells #[.int .i64 p0, .int .u64 p1, .int .i64 p2, .int .i64 p3, .int .i64 p4, .int .i64 p5, .int .i64 p6, .int .i64 p7, .int .i64 p8] 60) = w10 at *
    generalize w9.heap.size = q9 at *
    obtain ⟨x0_, x1_, x2_, x3_⟩ := jn (eY HB8.out HT9.out.was HQ1.out)
    have HHB := Lib.hid (HHA.out HT9.out)
    go_wp2_with fail
    refine HHB.out.mono ?_
    rintro e w11 ⟨rfl, hd⟩
    have HCR := Lib.hid (qW hd HHK.out keep)
    clear hd HHB HHA HT9 x0_ x1_ x2_ x3_
    go_wp2_with fail
    refine HCR.out.mono ?_
    rintro e w12 ⟨⟨n12, rfl⟩, hd⟩
    have HOP := Lib.hid (tB hd HHK.out HHF.out.1)
    clear hd HCR
    go_wp2_with fail
    refine HOP.out.mono ?_
    rintro e w13 ⟨c13, rfl, hd⟩
    have HT := Lib.hid hd
    have HTR := Lib.hid (HHF.out.2.2.2 (by first | trivial | rfl))
    clear hd HOP HHF HHK
    generalize bQ H keep 2147483648 0 = U at *
    have HR13 : Hid (SR 9 RV.cs w13 (fun k => w6.heap.size ≤ k ∧ k < w8.heap.size) E7 k7 (aO Y.t.R)) := Lib.hid (HR8.out.chg HT.out.was (fun k hk e => e (HQ2.out k hk)))
    have HN13 : Hid (Rds w13 (fun k => w6.heap.size ≤ k ∧ k < w8.heap.size) E8 k8 (ics (bw Y.t.C))) := Lib.hid (HN8.out.chg HT.out.was (fun k hk e => e (HQ2.out k hk)))
    clear HR8 HN8 HB8
    go_upto_region 22 with fail
    go_cut [23] (fun s wx => tC U.t.R Y.t.R U.t.C Y.t.C w13 s wx)
    case first =>
      have HRW := Lib.hid (gT HT.out.lv)
      go_wp2_with fail
      refine HRW.out.mono ?_
      rintro e w14 ⟨E14, k14, e14, rfl, hk14, hr14, hc14⟩
      have HC14 := Lib.hid hc14
      have HSA := Lib.hid (kW E14 E7 k14 k7 e14 e7 _ _ _ _ w14 hr14 (HR13.out.chg hc14 (fun _ _ => id)) (by have := dH U.t.R; omega))
      clear hk14 hr14 hc14 HRW
      go_wp2_with fail
      refine HSA.out.mono ?_
      rintro e w15 ⟨b, rfl, hb, hc15⟩
      have HC15 := Lib.hid (HC14.out.trans hc15 (fun _ _ e => e))
      clear hc15 HSA HC14
      cases b with
      | false =>
        have HBB := Lib.hid hb
        clear hb
        go_wp2_with fail
        go_meet
        exact ⟨false, rfl, (fun e => by have := HBB.out (by rw [e.2]); cases this), HC15.out⟩
      | true =>
        clear hb
        have HCH := Lib.hid (fw (HT.out.new HC15.out).lv)
        go_wp2_with fail
        refine HCH.out.mono ?_
        rintro e w16 ⟨E16, k16, e16, rfl, hk16, hr16, hc16⟩
        have HC16 := Lib.hid (HC15.out.trans hc16 (fun _ _ e => e))
        have HIN := Lib.hid (iL E16 E8 k16 k8 e16 e8 _ _ _ _ w16 hr16 (HN13.out.chg HC16.out (fun _ _ => id)) (by have := iq U.t.C; omega))
        clear hk16 hr16 hc16 HCH HC15
        go_wp2_with fail
        refine HIN.out.mono ?_
        rintro e w17 ⟨b, rfl, hb, hc17⟩
        have HBB := Lib.hid hb
        have HC17 := Lib.hid (HC16.out.trans hc17 (fun _ _ e => e))
        clear hb hc17 HIN HC16
        go_wp2_with fail
        go_meet
        exact ⟨b, rfl, (fun e => HBB.out (by rw [e.1])), HC17.out⟩
    case rest =>
      obtain ⟨b1, rfl, hb1, hcw⟩ := hcut
      have HB1 := Lib.hid hb1
      have HTC := Lib.hid (HT.out.new hcw)
      clear hb1 hcw HT HR13 HN13
      go_upto_region 23 with fail
      go_cut [24] (fun s wx => tC U.t.R Z.t.R U.t.C Z.t.C wc s wx)
      case first =>
        have HRW := Lib.hid (gT HTC.out.lv)
        go_wp2_with fail
        refine HRW.out.mono ?_
        rintro e w14 ⟨E14, k14, e14, rfl, hk14, hr14, hc14⟩
        have HC14 := Lib.hid hc14
        have HR14 := Lib.hid hr14
        have HK14 := Lib.hid hk14
        have HRX := Lib.hid (gT (HTC.out.swap.new hc14).lv)
        clear hk14 hr14 hc14 HRW
        go_wp2_with fail
        refine HRX.out.mono ?_
        rintro e w15 ⟨E15, k15, e15, rfl, hk15, hr15, hc15⟩
        have HC15 := Lib.hid (HC14.out.trans hc15 (fun _ _ e => e))
        have HSA := Lib.hid (kW E14 E15 k14 k15 e14 e15 _ _ _ _ w15 (HR14.out.chg hc15 (fun _ _ => id)) hr15 (by have := dH U.t.R; have := HK14.out; omega))
        clear hk15 hr15 hc15 HRX HC14 HR14 HK14
        go_wp2_with fail
        refine HSA.out.mono ?_
        rintro e w16 ⟨b, rfl, hb, hc16⟩
        have HC16 := Lib.hid (HC15.out.trans hc16 (fun _ _ e => e))
        clear hc16 HSA HC15
        cases b with
        | false =>
          have HBB := Lib.hid hb
          clear hb
          go_wp2_with fail
          go_meet
          exact ⟨false, rfl, (fun e => by have := HBB.out (by rw [e.2]); cases this), HC16.out⟩
        | true =>
          clear hb
          have HCH := Lib.hid (fw (HTC.out.new HC16.out).lv)
          go_wp2_with fail
          refine HCH.out.mono ?_
          rintro e w17 ⟨E17, k17, e17, rfl, hk17, hr17, hc17⟩
          have HC17 := Lib.hid (HC16.out.trans hc17 (fun _ _ e => e))
          have HR17 := Lib.hid hr17
          have HK17 := Lib.hid hk17
          have HCX := Lib.hid (fw (HTC.out.swap.new HC17.out).lv)
          clear hk17 hr17 hc17 HCH HC16
          go_wp2_with fail
          refine HCX.out.mono ?_
          rintro e w18 ⟨E18, k18, e18, rfl, hk18, hr18, hc18⟩
          have HC18 := Lib.hid (HC17.out.trans hc18 (fun _ _ e => e))
          have HIN := Lib.hid (iL E17 E18 k17 k18 e17 e18 _ _ _ _ w18 (HR17.out.chg hc18 (fun _ _ => id)) hr18 (by have := iq U.t.C; have := HK17.out; omega))
          clear hk18 hr18 hc18 HCX HC17 HR17 HK17
          go_wp2_with fail
          refine HIN.out.mono ?_
          rintro e w19 ⟨b, rfl, hb, hc19⟩
          have HBB := Lib.hid hb
          have HC19 := Lib.hid (HC18.out.trans hc19 (fun _ _ e => e))
          clear hb hc19 HIN HC18
          go_wp2_with fail
          go_meet
          exact ⟨b, rfl, (fun e => HBB.out (by rw [e.1])), HC19.out⟩
      case rest =>
        obtain ⟨b2, rfl, hb2, hcw⟩ := hcut
        have HXF := Lib.hid (HXQ.out _ (HTC.out.was.trans hcw (fun _ _ e => False.elim e)))
        have HTRI := Lib.hid (vd HB1.out hb2 HTR.out.1 HTR.out.2.1 HTR.out.2.2)
        clear hb2 hcw HTC HB1 HTR HXQ
        go_wp2_with fail
        refine (jP _).mono ?_
        rintro e w20 ⟨rfl, hc20⟩
        have HXG := Lib.hid (HXF.out.trans hc20 (fun _ _ e => e))
        clear hc20 HXF
        rcases HTRI.out with ⟨rfl, rfl⟩ | ⟨rfl, rfl, hk⟩ | ⟨rfl, rfl, hk⟩
        · by_cases h0 : 0 < keep
          · by_cases h2 : keep < 200
            · go_wp2_with fail
              go_ret
              exact ⟨rfl, HXG.out⟩
            · go_wp2_with fail
              go_ret
              exact ⟨rfl, HXG.out⟩
          · have h2 : keep < 200 := by omega
            go_wp2_with fail
            go_ret
            exact ⟨rfl, HXG.out⟩
        · by_cases h0 : 0 < keep
          · go_wp2_with fail
            go_ret
            exact ⟨rfl, HXG.out⟩
          · go_wp2_with fail
            go_ret
            exact ⟨rfl, HXG.out⟩
        · by_cases h2 : keep < 200
          · go_wp2_with fail
            go_ret
            exact ⟨rfl, HXG.out⟩
          · go_wp2_with fail
            go_ret
            exact ⟨rfl, HXG.out⟩
section
open Go.ChangeShapes Go.WideShapes Go.ChangeAt
set_option maxRecDepth 100000 in
/-- A call that came in by value. -/
theorem oo {H : Type} {enc : TypeId × Value → H} {W : World} {base : Nat} {r : Reach} {b0 : Nat} {v : Value} {d : DataW H} {p : List MemPlace} {spare : Nat → Bool} {held : Bool}
    (hv : Value.okWide Tryz.prog W r b0 44 v) (h : DataW.Trod enc Tryz.prog W base spare held 44 v d p) : ∃ op po ch ma : Int, v = .agg #[.int .i64 op, .int .i64 po, .int .i64 ch, .int .u64 ma] ∧ 0 ≤ ma := by
  obtain ⟨cs, rfl, hsz⟩ := okWide_struct Tryz.underlying44 hv
  obtain ⟨fuel, hf⟩ := h
  have hc : (Value.agg cs).cells.toList = cs.toList := by simp [Value.cells]
  rw [hc] at hf
  obtain ⟨op, po, ch, ma, e, hm⟩ := jN hf
  refine ⟨op, po, ch, ma, ?_, hm⟩
  cases cs with
  | mk l =>
    replace e : l = _ := e
    subst e
    rfl
end
end Go.Proofs.YtnojmbejedlilaaGreat
