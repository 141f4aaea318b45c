/-
  Walk: rutterlaw17.Drive. Conditions: the controller and the acts lie in memory, apart.
-/
import Derived.Test.YtnojmbejedlilaaGreatKQIo
set_option maxRecDepth 100000
set_option maxHeartbeats 40000000
set_option linter.unusedVariables false
set_option linter.unusedSimpArgs false
namespace Go.Proofs.YtnojmbejedlilaaGreat
open _root_.List renaming length_cons→Ab
open Go.Value renaming int→U
open Go.IntKind renaming i64→Z
open Go.RowKit
theorem jO{w:World}{q:Nat}{T:TypeId}{x:bR}(h:Blk w q T x.cs):w.cell? ⟨q,0,none⟩=some (U .u8 x.k)∧w.cell? ⟨q,1,none⟩=some (U Z x.op)∧w.cell? ⟨q,2,none⟩=some (U Z x.po)∧w.cell? ⟨q,3,none⟩=some (U Z x.ch)∧w.cell? ⟨q,4,none⟩=some (U .u64 x.ma)∧w.cell? ⟨q,5,none⟩=some (U Z x.who)∧w.cell? ⟨q,6,none⟩=some (U Z x.now)∧w.cell? ⟨q,7,none⟩=some (U Z x.keep)∧w.cell? ⟨q,8,none⟩=some (.slice x.BA x.bn x.bc):=
 ⟨h.cell 0,h.cell 1,h.cell 2,h.cell 3,h.cell 4,h.cell 5,h.cell 6,h.cell 7,h.cell 8⟩
theorem bu.more{G:Nat→Prop}{W w w2:World}{c pf:Nat}{x:KV}(Q:Nat→Prop)(h:bu G W w c pf x)(hc:Chg (fun _=>False) w w2)(hQ:∀k,Q k→w.heap.size≤k):bu (fun k=>G k∨Q k) w2 w2 c pf x:=by
 obtain⟨lab,ps,pj,P,h1,h2,h3⟩:=h;refine⟨lab,ps,pj,P,h1.new hc,Chg.refl _ _,fun k hk g=>?_⟩;rcases g with g|g
 ·exact h3 k hk g
 ·exact hk (h1.q.lt k (hQ k g))
theorem bu.back{G G':Nat→Prop}{W W' w:World}{c pf:Nat}{x:KV}(h:bu G' W' w c pf x)(hg:∀k,G k→G' k)(hw:Chg (fun k=>¬G k) W W'):bu G W w c pf x:=by
 obtain⟨lab,ps,pj,P,h1,h2,h3⟩:=h;exact⟨lab,ps,pj,P,h1,hw.trans h2 (fun i _ e g=>e (hg i g)),fun k hk g=>h3 k hk (hg k g)⟩
theorem bu.wide{G G':Nat→Prop}{W w:World}{c pf:Nat}{x:KV}(h:bu G' W w c pf x)(hg:∀k,G k→G' k):bu G W w c pf x:=h.back hg (Chg.refl _ _)
theorem eY{G:Nat→Prop}{W w:World}{q:Nat}{T:TypeId}{cs:Array Value}(h:Blk W q T cs)(hc:Chg (fun k=>¬G k) W w)(hq:G q):Blk w q T cs:=h.chg hc (fun e=>e hq)
def fV(sp:Int)(x:KV)(l:List bR):KV×Int:=l.foldl (cj sp) (x,0)
theorem qP{sp:Int}{x:KV}{l:List bR}{j:Nat}{a:bR}{p:KV×Int}(h:fV sp x (l.take j)=p)(ha:l[j]?=some a):fV sp x (l.take (j+1))=cj sp p a:=by
 have:l.take (j+1)=l.take j++[a]:=by rw[List.take_add_one,ha];rfl
 unfold fV at h⊢;rw[this,List.foldl_append,h];rfl
theorem ny{sp:Int}(hsp:1≤sp∧sp≤2147483648):∀(l:List bR) {n:Nat} {p:KV×Int},cQ n n p.1→n+3*l.length≤1000→(0≤p.2∧p.2≤1099511627776)→(∀a∈l,0≤a.ma)→cQ (n+3*l.length) (n+3*l.length) (l.foldl (cj sp) p).1∧(0≤(l.foldl (cj sp) p).2∧(l.foldl (cj sp) p).2≤1099511627776)∧cF p.1.t (l.foldl (cj sp) p).1.t
 |[],n,p,h,_,hno,_=>⟨h,hno,cF.refl _⟩
 |a::l,n,p,h,hn,hno,hma=>by
  rw[Ab]at hn;obtain⟨h1,h2,h3⟩:=nw h (by omega) hsp hno a (hma a (by simp));obtain⟨g1,g2,g3⟩:=ny hsp l h1 (by omega) h2 (fun b hb=>hma b (by simp[hb]));rw[List.foldl_cons,Ab,show n+3*(l.length+1)=n+3+3*l.length by omega];exact⟨g1,g2,h3.trans g3⟩
theorem oh {G : Nat → Prop} {W0 W w : World} {c0 pf n0 : Nat} {x0 : KV} (hG : ∀ k, G k → k < W.heap.size) (h : bu G W w c0 pf x0) (hi : cQ n0 n0 x0) (sp : Int) (hsp : 1 ≤ sp ∧ sp ≤ 2147483648) (L : Option Addr) (m lc : Nat) (l : List bR) (hl : fm W0 L m l) (hW : ∀ w', Chg (fun k => ¬ G k) W w' → Chg (fun _ => False) W0 w') (hmc : m ≤ 9223372036854775807) (hn : n0 + 3 * m ≤ 1000) : Calls Tryz.prog 20 #[.pointer (some ⟨pf, 0, none⟩), .pointer (some ⟨c0, 0, none⟩), .slice L m lc, .int .i64 sp] w fun e w' => ∃ c, e = .returned (.pointer (some ⟨c, 0, none⟩)) ∧ bu G W w' c pf (fV sp x0 l).1 := by
  have HL := Lib.hid hl
  have HGG := Lib.hid hG
  have HW := Lib.hid hW
  have HSP := Lib.hid hsp
  have HN := Lib.hid hn
  have HLV := Lib.hid h
  have HIN := Lib.hid hi
  have HMM := Lib.hid hl.1
  clear hG h hi hl hW hn hsp
  go_in
  go_wp2_with fail
  go_loopg [1, 9, 10, 11, 12, 13, 14, 15] m (fun g s1 s9 s10 s11 s12 s13 s14 s15 wr => ∃ (j c : Nat) (X : KV) (no : Int), g = m - j ∧ j ≤ m ∧ s1 = .pointer (some ⟨c, 0, none⟩) ∧ s9 = .int .i64 no ∧ s10 = .int .i64 (j : Int) ∧ Hid (bu G W wr c pf X) ∧ Hid (fV sp x0 (l.take j) = (X, no)) ∧ Hid (cQ (n0 + 3 * j) (n0 + 3 * j) X ∧ 0 ≤ no ∧ no ≤ 1099511627776))
  case atStart => exact ⟨0, c0, x0, 0, rfl, Nat.zero_le _, rfl, rfl, rfl, HLV, Lib.hid (by rw [List.take_zero]; rfl), Lib.hid ⟨HIN.out, by decide, by decide⟩⟩
  case round =>
    clear HLV HIN
    obtain ⟨j, c, X, no, rfl, hj, rfl, rfl, rfl, HLV, HDR, HI⟩ := hrel
    by_cases hlt : j < m
    · obtain ⟨ad, rfl, -, -⟩ := HL.out.2 (by omega)
      have hmm := HMM.out
      have hx : l[j]? = some (l[j]'(by omega)) := List.getElem?_eq_getElem (by omega)
      obtain ⟨⟨z0, z1, z2, z3, z4, z5, z6, z7, z8⟩, his⟩ := (HL.out.chg (HW.out _ HLV.out.was)).at hx
      have HXX := Lib.hid hx
      generalize l[j]'(by omega) = x at *
      clear hx hmm
      have HXB : Hid (Blk (wr.alloc (.cells #[.int .u8 x.k, .int .i64 x.op, .int .i64 x.po, .int .i64 x.ch, .int .u64 x.ma, .int .i64 x.who, .int .i64 x.now, .int .i64 x.keep, .slice x.BA x.bn x.bc] 46)) wr.heap.size 46 #[.int .u8 x.k, .int .i64 x.op, .int .i64 x.po, .int .i64 x.ch, .int .u64 x.ma, .int .i64 x.who, .int .i64 x.now, .int .i64 x.keep, .slice x.BA x.bn x.bc]) := Lib.hid (af rfl)
      have hc := (Chg.refl (fun _ => False) wr).alloc (.cells #[.int .u8 x.k, .int .i64 x.op, .int .i64 x.po, .int .i64 x.ch, .int .u64 x.ma, .int .i64 x.who, .int .i64 x.now, .int .i64 x.keep, .slice x.BA x.bn x.bc] 46)
      have HB := Lib.hid (his.2.2.chg hc)
      have HWR := Lib.hid HLV.out.was
      have HLG := Lib.hid (HLV.out.more (fun k => k = wr.heap.size) hc (fun k e => by omega))
      have HG2 : Hid (∀ k, G k ∨ k = wr.heap.size → k < (wr.alloc (.cells #[.int .u8 x.k, .int .i64 x.op, .int .i64 x.po, .int .i64 x.ch, .int .u64 x.ma, .int .i64 x.who, .int .i64 x.now, .int .i64 x.keep, .slice x.BA x.bn x.bc] 46)).heap.size) := Lib.hid (fun k e => by
        have h1 := HWR.out.size
        have h2 : wr.heap.size < (wr.alloc (.cells #[.int .u8 x.k, .int .i64 x.op, .int .i64 x.po, .int .i64 x.ch, .int .u64 x.ma, .int .i64 x.who, .int .i64 x.now, .int .i64 x.keep, .slice x.BA x.bn x.bc] 46)).heap.size := HXB.out.lt
        rcases e with e | e
        · have := HGG.out k e; omega
        · omega)
      have HW2 : Hid (Chg (fun k => ¬ G k) W (wr.alloc (.cells #[.int .u8 x.k, .int .i64 x.op, .int .i64 x.po, .int .i64 x.ch, .int .u64 x.ma, .int .i64 x.who, .int .i64 x.now, .int .i64 x.keep, .slice x.BA x.bn x.bc] 46))) := Lib.hid (HWR.out.trans hc (fun _ _ e => False.elim e))
      clear hc HLV HWR
      go_upto_region 9 with fail
      clear z0 z1 z2 z3 z4 z5 z6 z7 z8
      generalize wr.alloc (.cells #[.int .u8 x.k, .int .i64 x.op, .int .i64 x.po, .int .i64 x.ch, .int .u64 x.ma, .int .i64 x.who, .int .i64 x.now, .int .i64 x.keep, .slice x.BA x.bn x.bc] 46) = w2 at *
      generalize wr.heap.size = q at *
      obtain ⟨hk, hma, hb⟩ := his
      have HMA := Lib.hid hma
      obtain ⟨x0_, x1_, x2_, x3_, x4_, x5_, x6_, x7_, x8_⟩ := jO HXB.out
      have HBK := Lib.hid HXB.out
      have HD := Lib.hid (nw (sp := sp) (p := (X, no)) HI.out.1 (by have := HN.out; omega) HSP.out HI.out.2 x hma)
      have HSN := Lib.hid (qP HDR.out HXX.out)
      have HOK := Lib.hid HI.out.1.ok
      clear hma hb HXB HDR
      by_cases h1 : x.k % 16 < 7
      · have HV : Hid (cj sp (X, no) x = ((aP X x.op x.po x.ch x.ma).2.2, no)) := Lib.hid (by unfold cj; rw [if_pos h1])
        rw [HV.out] at HSN HD
        have HCL := Lib.hid (lE HG2.out HLG.out HOK.out x.op x.po x.ch x.ma HMA.out)
        clear HV HLG
        generalize aP X x.op x.po x.ch x.ma = y at *
        go_wp2_with fail
        refine HCL.out.mono ?_
        rintro e w3 ⟨rfl, hlv⟩
        have HLG := Lib.hid hlv
        clear hlv HCL
        go_wp2_with fail
        go_roundg (m - (j + 1))
        case measure => omega
        case rel =>
          refine ⟨j + 1, _, _, _, rfl, by omega, rfl, rfl, by go_num, Lib.hid ((HLG.out).back (fun k e => Or.inl e) HW2.out), Lib.hid HSN.out, Lib.hid ?_⟩
          rw [show n0 + 3 * (j + 1) = n0 + 3 * j + 3 by omega]
          exact ⟨HD.out.1, HD.out.2.1⟩
      · by_cases h2 : x.k % 16 < 13
        · have HV : Hid (cj sp (X, no) x = ((au X x.who x.b).2.2, no)) := Lib.hid (by unfold cj; rw [if_neg h1, if_pos h2])
          rw [HV.out] at HSN HD
          have HCL := Lib.hid (l9 HG2.out HLG.out HOK.out (by have := HN.out; omega) x.who x.BA x.bn x.bc x.b HB.out)
          clear HV HLG
          generalize au X x.who x.b = y at *
          go_wp2_with fail
          refine HCL.out.mono ?_
          rintro e w3 ⟨⟨A3, rc3, rfl⟩, hlv⟩
          have HLG := Lib.hid hlv
          clear hlv HCL
          go_wp2_with fail
          go_roundg (m - (j + 1))
          case measure => omega
          case rel =>
            refine ⟨j + 1, _, _, _, rfl, by omega, rfl, rfl, by go_num, Lib.hid ((HLG.out).back (fun k e => Or.inl e) HW2.out), Lib.hid HSN.out, Lib.hid ?_⟩
            rw [show n0 + 3 * (j + 1) = n0 + 3 * j + 3 by omega]
            exact ⟨HD.out.1, HD.out.2.1⟩
        · by_cases h3 : x.k % 16 = 13
          · have HV : Hid (cj sp (X, no) x = ((bG X (max no (min x.now 1099511627776))).2, max no (min x.now 1099511627776))) := Lib.hid (by
              unfold cj iK
              simp only [if_neg h1, if_neg h2, if_pos h3])
            rw [HV.out] at HSN HD
            have HCL := Lib.hid (l_ HG2.out HLG.out HOK.out (max no (min x.now 1099511627776)))
            clear HV HLG
            unfold mu at HCL
            generalize bG X (max no (min x.now 1099511627776)) = y at *
            go_wp2_with fail
            refine HCL.out.mono ?_
            rintro e w3 ⟨rfl, hlv⟩
            have HLG := Lib.hid hlv
            clear hlv HCL
            go_wp2_with fail
            go_roundg (m - (j + 1))
            case measure => omega
            case rel =>
              refine ⟨j + 1, _, _, _, rfl, by omega, rfl, rfl, by go_num, Lib.hid ((HLG.out).back (fun k e => Or.inl e) HW2.out), Lib.hid HSN.out, Lib.hid ?_⟩
              rw [show n0 + 3 * (j + 1) = n0 + 3 * j + 3 by omega]
              exact ⟨HD.out.1, HD.out.2.1⟩
          · by_cases h4 : x.k % 16 = 14
            · have HV : Hid (cj sp (X, no) x = (bQ (aB X x.op x.po x.ch x.ma).2 x.keep sp no, no)) := Lib.hid (by unfold cj; simp only [if_neg h1, if_neg h2, if_neg h3, if_pos h4])
              rw [HV.out] at HSN HD
              have HRE := Lib.hid (jj HI.out.1 (by have := HN.out; omega) x.op x.po x.ch HMA.out x.keep HSP.out HI.out.2).1
              have HOY := Lib.hid (HOK.out.half x.op x.po x.ch x.ma)
              have HCL := Lib.hid (jk HG2.out HLG.out HOK.out x.op x.po x.ch x.ma HMA.out)
              clear HV HLG
              unfold mu at HCL
              generalize aB X x.op x.po x.ch x.ma = y at *
              go_wp2_with fail
              refine HCL.out.mono ?_
              rintro e w3 ⟨rfl, hlv⟩
              have HLG := Lib.hid hlv
              have HXB := Lib.hid (eY HBK.out hlv.was (Or.inr rfl))
              clear hlv HCL x0_ x1_ x2_ x3_ x4_ x5_ x6_ x7_ x8_
              obtain ⟨x0_, x1_, x2_, x3_, x4_, x5_, x6_, x7_, x8_⟩ := jO HXB.out
              have HCR := Lib.hid (fU HG2.out HLG.out HOY.out x.keep)
              clear HLG
              go_wp2_with fail
              refine HCR.out.mono ?_
              rintro e w4 ⟨⟨n4, rfl⟩, hdg⟩
              have HOP := Lib.hid (gU HG2.out hdg HOY.out HRE.out)
              clear hdg HCR
              go_wp2_with fail
              refine HOP.out.mono ?_
              rintro e w5 ⟨c5, rfl, hlv⟩
              have HLG := Lib.hid hlv
              clear hlv HOP
              go_wp2_with fail
              go_roundg (m - (j + 1))
              case measure => omega
              case rel =>
                refine ⟨j + 1, _, _, _, rfl, by omega, rfl, rfl, by go_num, Lib.hid ((HLG.out).back (fun k e => Or.inl e) HW2.out), Lib.hid HSN.out, Lib.hid ?_⟩
                rw [show n0 + 3 * (j + 1) = n0 + 3 * j + 3 by omega]
                exact ⟨HD.out.1, HD.out.2.1⟩
            · have HV : Hid (cj sp (X, no) x = (bQ X 0 sp no, no)) := Lib.hid (by unfold cj; simp only [if_neg h1, if_neg h2, if_neg h3, if_neg h4])
              rw [HV.out] at HSN HD
              have HRE := Lib.hid (ji HI.out.1 (by have := HN.out; omega) 0 HSP.out HI.out.2).1
              have HOY := Lib.hid HOK.out
              have HCR := Lib.hid (fU HG2.out HLG.out HOY.out 0)
              clear HV HLG
              go_wp2_with fail
              refine HCR.out.mono ?_
              rintro e w4 ⟨⟨n4, rfl⟩, hdg⟩
              have HOP := Lib.hid (gU HG2.out hdg HOY.out HRE.out)
              clear hdg HCR
              go_wp2_with fail
              refine HOP.out.mono ?_
              rintro e w5 ⟨c5, rfl, hlv⟩
              have HLG := Lib.hid hlv
              clear hlv HOP
              go_wp2_with fail
              go_roundg (m - (j + 1))
              case measure => omega
              case rel =>
                refine ⟨j + 1, _, _, _, rfl, by omega, rfl, rfl, by go_num, Lib.hid ((HLG.out).back (fun k e => Or.inl e) HW2.out), Lib.hid HSN.out, Lib.hid ?_⟩
                rw [show n0 + 3 * (j + 1) = n0 + 3 * j + 3 by omega]
                exact ⟨HD.out.1, HD.out.2.1⟩
    · have hjm : Hid (j = m) := by show j = m; omega
      go_wp2_with fail
      go_ret
      refine ⟨c, rfl, ?_⟩
      have h1 := HDR.out
      rw [List.take_of_length_le (by have h2 := HMM.out; have h3 := hjm.out; omega)] at h1
      rw [h1]
      exact HLV.out
end Go.Proofs.YtnojmbejedlilaaGreat
