/-
  Walks: ctl.start, Open, Rows, Chassis, Boot. Conditions: the file lies in memory, apart from what was there ahead of it.
-/
import Derived.Test.YtnojmbejedlilaaGreatKQCs
import Derived.Test.YtnojmbejedlilaaGreatKQCt
import Derived.Test.YtnojmbejedlilaaGreatKQLg
set_option maxRecDepth 100000
set_option maxHeartbeats 40000000
set_option linter.unusedVariables false
set_option linter.unusedSimpArgs false
namespace Go.Proofs.YtnojmbejedlilaaGreat
open Go.Value renaming pointer→CN
open List renaming flatMap_cons→Bb
open Go.Value renaming int→U
open Go.IntKind renaming i64→Z
open Go.RowKit
def nh(i:Nat)(P:Nat→Nat):Nat→Value:=fun k=>if k<i then .pointer (some ⟨P k,0,none⟩)else .pointer none
theorem sL(i:Nat)(P:Nat→Nat)(p:Nat):aF (nh i P) i (.pointer (some ⟨p,0,none⟩))=nh (i+1) (aF P i p):=by
 funext k;unfold aF nh;by_cases h:k=i
 ·rw[if_pos h,if_pos (by omega)];show _=CN (some ⟨if k=i then p else P k,0,none⟩);rw[if_pos h]
 ·rw[if_neg h];by_cases h2:k<i
  ·rw[if_pos h2,if_pos (by omega)];show _=CN (some ⟨if k=i then p else P k,0,none⟩);rw[if_neg h]
  ·rw[if_neg h2,if_neg (by omega)]
theorem List.flatMap_congr_left17{α β:Type}{f g:α→List β}:∀{l:List α},(∀x∈l,f x=g x)→l.flatMap f=l.flatMap g
 |[],_=>rfl
 |x::l,h=>by rw[Bb,Bb,h x (by simp),List.flatMap_congr_left17 (fun y hy=>h y (by simp[hy]))]
theorem aX.lines{w:World}{c ps:Nat}{bt:Int}{pj:Nat}{sp no:Int}{V V':Nat→Value}{B:Nat→Bool}{st:Bool}(h:aX w c ps bt pj sp no V B st)(hv:∀i,i<16→V i=V' i):aX w c ps bt pj sp no V' B st:=by
 have e:dK V B=dK V' B:=by
  unfold dK;apply List.flatMap_congr_left17;intro i hi;rw[hv i (List.mem_range.1 hi)]
 unfold aX kO at h⊢;rw[←e];exact h
theorem uR{w:World}{p:Nat}{mi:Int}(h:Blk w p 207 (snC mi 0 none 0 0 1 0)):SN w p none (fun _=>False) (i4 mi):=
 ⟨none,0,[],h,il,rfl,(by intro e;cases e),BQ.nil _ _,id,fun _ e=>by cases e⟩
def vu(lab:Nat→Nat)(c pj pf:Nat)(x:KV)(w:World)(e:Ending)(w':World):Prop:=
 ∃(ps':Nat) (lab':Nat→Nat),e=.returned (U Z (dX x))∧am (fun n=>1≤n∧n≤4) lab lab' w w'∧
  (dX x=0→∃P,KP w' lab' c ps' pj pf P (cG x))∧(dX x≠0→KQ w' lab' c ps' pj pf (fun _=>.pointer none) x)
theorem KQ.relab17{w:World}{lab lab':Nat→Nat}{c ps pj pf:Nat}{V:Nat→Value}{x:KV}(h:KQ w lab c ps pj pf V x)(hl:∀k,lab k≠0→lab' k=lab k)(hlt:ev lab' w):KQ w lab' c ps pj pf V x:=by
 have hh:∀{k n:Nat},lab k=n→n≠0→lab' k=n:=fun{k n} e hn=>(hl k (by rw[e];exact hn)).trans e;obtain⟨B,bc,br,hs,h1,h2,h3⟩:=h.sr;obtain⟨o,hf,g1,g2⟩:=h.fi;exact⟨hlt,h.cb,hh h.lc (by decide),⟨B,bc,br,hs,hh h1 (by decide),hh h2 (by decide),hh h3 (by decide)⟩,h.jb,hh h.lj (by decide),⟨o,hf,hh g1 (by decide),fun k hk=>hh (g2 k hk) (by decide)⟩⟩
theorem n9 {w : World} {lab : Nat → Nat} {c ps pj pf : Nat} {P : Nat → Nat} {x : KV} (h : KQ w lab c ps pj pf (fun _ => .pointer none) x) (hw : WF x.t.C x.t.R) (hb : x.bs.length ≤ x.rm) (hm : x.rm ≤ 16777216) (hbt : 0 ≤ x.t.bt ∧ x.t.bt ≤ 1099511627776) : Calls Tryz.prog 53 #[.pointer (some ⟨c, 0, none⟩)] w (vu lab c pj pf x w) := by
  have HK := Lib.hid h
  have HW := Lib.hid hw
  have HB := Lib.hid hb
  have HM := Lib.hid hm
  have HBT := Lib.hid hbt
  obtain ⟨-, c1, -, -, -⟩ := h.cb.hd
  have HSX : Hid (dX x = if 4294967296 ≤ x.t.bt then 10 else ao x (dd (x.t.bt + 1))) := Lib.hid rfl
  have HSK : Hid (cG x = { aH x (dd (x.t.bt + 1)) with S := fun _ => i4 (x.t.bt + 1) }) := Lib.hid rfl
  clear h hw hb hm hbt
  by_cases hg : 4294967296 ≤ x.t.bt
  · replace HSX := Lib.hid (HSX.out.trans (if_pos hg))
    generalize hbb : x.t.bt = bt at c1 hg
    clear hbb
    go_in
    go_wp2_with fail
    go_ret
    exact ⟨ps, lab, by rw [HSX.out]; rfl, am.refl _ _ _, fun e => absurd (HSX.out.symm.trans e) (by decide), fun _ => HK.out⟩
  · replace HSX := Lib.hid (HSX.out.trans (if_neg hg))
    have HNO := fO HK.out HW.out HB.out HM.out 6 0 0 0 0 0 0 0 0 0 0 (x.t.bt + 1) (fun _ => .inr (.inl ⟨rfl, by have := HBT.out; show 0 ≤ x.t.bt + 1; omega, by show x.t.bt + 1 ≤ 4294967296; omega⟩))
    have HRE : Hid ((⟨6, ⟨0, 0, 0, 0, 0, 0, 0, 0, 0⟩, 0, x.t.bt + 1⟩ : aI) = (dd (x.t.bt + 1))) := Lib.hid rfl
    rw [HRE.out] at HNO
    unfold oZ at HNO
    have hw64 : IntKind.i64.wrap (x.t.bt + 1) = x.t.bt + 1 := IntWalk.i64_in _ (by have := HBT.out; omega)
    have hbt2 : x.t.bt < 4294967296 := by omega
    have HB2 := Lib.hid hbt2
    have hnt : ao x (dd (x.t.bt + 1)) = 0 → (aH x (dd (x.t.bt + 1))).t.bt = x.t.bt + 1 := fun h0 => by
      rw [(cp h0).1]
      show (aA x.t (dd (x.t.bt + 1))).bt = x.t.bt + 1
      unfold aA dd
      simp only
      rw [if_neg (by decide), if_neg (by decide), if_neg (by decide), if_neg (by omega)]
    have hnn : ao x (dd (x.t.bt + 1)) ≠ 0 → aH x (dd (x.t.bt + 1)) = x := fun h0 => (fN h0).1
    have HNT := Lib.hid hnt
    have HNN := Lib.hid hnn
    clear hnt hnn hbt2 hg
    have HBT1 := Lib.hid (show 1 ≤ x.t.bt + 1 ∧ x.t.bt + 1 ≤ 4294967296 from by have h1 := HBT.out; have h2 := HB2.out; omega)
    generalize aH x (dd (x.t.bt + 1)) = y at *
    generalize ao x (dd (x.t.bt + 1)) = px at *
    generalize hbb : x.t.bt = bt at *
    have HN := Lib.hid HNO
    clear HNO
    have hg2 : ¬ (4294967296 : Int) ≤ bt := by have := HB2.out; omega
    go_in
    go_wp2_with fail
    refine HN.out.mono ?_
    rintro e w2 ⟨ps2, lab2, rfl, hk2, hm2⟩
    have HK2 := Lib.hid hk2
    have HM2 := Lib.hid hm2
    clear hk2 hm2 HN c1
    by_cases hp : px = 0
    case neg =>
      have te : (px != 0) = true := by simpa using hp
      have HY := Lib.hid (HNN.out hp)
      have HPN := Lib.hid hp
      clear hp
      go_wp2_with fail
      go_ret
      exact ⟨ps2, lab2, by rw [HSX.out]; rfl, HM2.out, fun e => absurd (HSX.out.symm.trans e) HPN.out, fun _ => by have h := HK2.out; rw [HY.out] at h; exact h⟩
    case pos =>
      subst hp
      have HYB := Lib.hid (HNT.out rfl)
      go_wp2_with fail
      go_loopg [4, 5, 6, 25] 16 (fun g s4 s5 s6 i wr => ∃ (j : Nat) (P : Nat → Nat) (lab' : Nat → Nat), g = 16 - j ∧ j ≤ 16 ∧ i = .int .i64 (j : Int) ∧ Hid (KQ wr lab' c ps2 pj pf (nh j P) y) ∧ Hid (∀ k, k < j → dY wr lab' (5 + k) (P k) (i4 (bt + 1))) ∧ Hid (am (fun n => 1 ≤ n ∧ n ≤ 4) lab lab' w wr))
      case atStart => exact ⟨0, fun _ => 0, lab2, rfl, by omega, rfl, HK2, Lib.hid (fun k hk => absurd hk (by omega)), HM2⟩
      case round =>
        obtain ⟨j, P, lab', rfl, hj, rfl, HKJ, HLJ, HMJ⟩ := hrel
        by_cases hlt : j < 16
        · obtain ⟨-, c1, -, -, -⟩ := HKJ.out.cb.hd
          rw [HYB.out] at c1
          have hlj := (HKJ.out.cb.line hlt).1
          have hj2 : (j : Int) < 16 := by omega
          have hns := pY (bt + 1) wr
          have hwt : ah 1 4294967296 [bt + 1] = true := by have := HBT1.out; simp [ah]; omega
          unfold pX at hns
          simp only [hwt, ↓reduceIte] at hns
          have HNS := Lib.hid hns
          clear hns hwt
          have HLTJ := Lib.hid hlt
          clear hlt
          go_wp2_with fail
          refine HNS.out.mono ?_
          rintro e w3 ⟨p, rfl, hpw, hpb, hc⟩
          have hk3 := HKJ.out.new hc
          have hpl : lab' p = 0 := HKJ.out.lt _ hpw
          have hpc : ¬ p = c := fun e => by have := HKJ.out.cb.lt; omega
          have HK3 := Lib.hid hk3
          have HPB := Lib.hid hpb
          have HPW := Lib.hid hpw
          have HPL := Lib.hid hpl
          have HPC := Lib.hid hpc
          have HC3 := Lib.hid hc
          have l3 := (hk3.cb.line HLTJ.out).1
          have f3 := hk3.cb.free (5 + j * 2)
          clear hpb hpw hpl hpc hc hk3 c1 hlj HNS
          go_wp2_with fail
          go_roundg (16 - (j + 1))
          case measure => omega
          case rel =>
            have hcs := (Chg.refl (fun k => k = c) w3).put c (5 + j * 2) (fun _ => rfl) (.pointer (some ⟨p, 0, none⟩))
            have hk4 := HK3.out.own (y := y) hcs (HK3.out.cb.setV HLTJ.out (.pointer (some ⟨p, 0, none⟩))) ⟨rfl, rfl⟩ ⟨rfl, rfl, rfl⟩
            rw [sL] at hk4
            have hlp := HPB.out.lt
            have hag : ∀ k, lab' k ≠ 0 → (fun k => if k = p then 5 + j else lab' k) k = lab' k := fun k hk => by
              show (if k = p then 5 + j else lab' k) = lab' k
              rw [if_neg (fun e => hk (by rw [e]; exact HPL.out))]
            have hsz : (w3.setCell ⟨c, 5 + j * 2, none⟩ (.pointer (some ⟨p, 0, none⟩))).heap.size = w3.heap.size := by simp [World.setCell]
            refine ⟨j + 1, aF P j p, fun k => if k = p then 5 + j else lab' k, rfl, by have := HLTJ.out; omega, by go_num, Lib.hid ?_, Lib.hid (fun k hk => ?_), Lib.hid ?_⟩
            · exact hk4.relab17 hag (fun k hk => by
                show (if k = p then 5 + j else lab' k) = 0
                rw [if_neg (by omega)]
                exact hk4.lt k hk)
            · by_cases ek : k = j
              · subst ek
                rw [di]
                exact ⟨none, fun _ => False, uR (HPB.out.chg hcs HPC.out), if_pos rfl, (fun _ e => by cases e), (fun _ e => e.elim)⟩
              · rw [fj _ _ ek]
                have hs := HLJ.out k (by omega)
                have m1 : am (fun n => n = 0 ∨ n = 1) lab' (fun k => if k = p then 5 + j else lab' k) wr (w3.setCell ⟨c, 5 + j * 2, none⟩ (.pointer (some ⟨p, 0, none⟩))) :=
                  ⟨(HC3.out.mono (fun _ _ e => e.elim)).trans (hcs.mono (S' := fun k => k = c) (fun _ _ e => e)) (fun q hq e => by rw [e]; exact .inr HK3.out.lc), fun q hq => by
                    show (if q = p then 5 + j else lab' q) = lab' q
                    rw [if_neg (by have := HPW.out; omega)]⟩
                exact hs.mv m1 (by omega) (by decide)
            · have hlc := HK3.out.lc
              refine ((HMJ.out.trans (am.of HC3.out)).put hcs (fun hlt => ?_)).relab (fun k hk => ?_)
              · rw [← HMJ.out.2 _ hlt, hlc]
                decide
              · show (if k = p then 5 + j else lab' k) = lab' k
                rw [if_neg (by have h1 := HPW.out; have h2 := HMJ.out.1.size; omega)]
        · obtain rfl : j = 16 := by omega
          clear hlt
          go_wp2_with fail
          go_ret
          refine ⟨ps2, lab', by rw [HSX.out]; rfl, HMJ.out, fun _ => ⟨P, ?_⟩, fun e => absurd HSX.out e⟩
          rw [HSK.out]
          have hq := HKJ.out
          exact ⟨⟨hq.lt, hq.cb.lines (fun i hi => by unfold nh ql; rw [if_pos hi]), hq.lc, hq.sr, hq.jb, hq.lj, hq.fi⟩, fun i hi => HLJ.out i hi⟩
end Go.Proofs.YtnojmbejedlilaaGreat
