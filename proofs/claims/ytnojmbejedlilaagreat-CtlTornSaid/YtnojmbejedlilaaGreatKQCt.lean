/-
  Walks: ctl.fails, slices.IndexFunc and ContainsFunc over it. Conditions: the controller and its store lie in memory, the bodies can be read.
-/
import Derived.Test.YtnojmbejedlilaaGreatKQCb
import Derived.Test.YtnojmbejedlilaaGreatKQCf
import Derived.Test.YtnojmbejedlilaaGreatKQM6
import Derived.Deep.LoopGhost
set_option maxRecDepth 100000
set_option maxHeartbeats 40000000
set_option linter.unusedVariables false
set_option linter.unusedSimpArgs false
namespace Go.Proofs.YtnojmbejedlilaaGreat
open Go renaming wpAnyH_take→AY
open List renaming getElem_toArray→AZ,getElem_cons_succ→A7,getElem_cons_zero→A8,setIfInBounds_toArray→AQ,set_cons_zero→AS,set_cons_succ→AR
open Go.Value renaming int→U
open Go.IntKind renaming i64→Z
open Go.RowKit
def vt(B c ps bc pj:Nat)(sp no:Int)(V:Nat→Value)(Bh:Nat→Bool)(st:Bool)(r:Bool×ba)(w:World)(e:Ending)(w':World):Prop:=
 ∃br',e=.returned (.bool r.1)∧CS B w' ps bc br' r.2.C r.2.R∧aX w' c ps r.2.bt pj sp no V Bh st∧Chg (fun k=>k=c∨k=ps∨k=bc) w w'
theorem nZ{B c ps bc br pj:Nat}{sp no:Int}{V:Nat→Value}{Bh:Nat→Bool}{st:Bool}{t:ba}{w:World}(h:CS B w ps bc br t.C t.R)(hc:aX w c ps t.bt pj sp no V Bh st)(A:Option Addr)(n bc2:Nat)(b:List UInt8)(Sb:Nat→Prop)(hn:n=b.length)(hr:Rds w Sb A n (bcs b))(hz:A=none→bc2=0)(hn2:n≤1000):Calls Tryz.prog 52 #[.pointer (some ⟨c,0,none⟩),.slice A n bc2] w (vt B c ps bc pj sp no V Bh st (bZ t b,bf t b) w):=by
 have HS:=hd_ h;have HC:=hd_ hc;have hrd:=qr A n bc2 b Sb w hn hr hz (by omega);unfold vn at hrd;have HFE:Hid (bZ t b= !((b_ b).2&&bU t (b_ b).1==0)):=hd_ rfl;have HFS:Hid (bf t b=if (b_ b).2=true then aA t (b_ b).1 else t):=hd_ rfl;generalize b_ b=rv at*;obtain⟨⟨k,⟨a0,a1,a2,a3,a4,a5,a6,a7,a8⟩,z,n⟩,ok⟩:=rv;have HRD:Hid (Calls _ _ _ w (fun e w'=>e=.returned (.tuple #[.agg #[U Z k,U Z a0,U .u64 a1,U Z a2,U Z a3,U Z a4,U Z a5,U Z a6,U Z a7,U Z a8,U Z z,U Z n],.bool ok])∧Chg (fun _=>False) w w')):=hd_ hrd;clear h hc hn hr hz hn2 hrd;go_in;go_wp2_with fail;refine HRD.out.mono ?_;rintro e w2 ⟨rfl,hc⟩;replace HS:=hd_ (HS.out.keep hc);replace HC:=hd_ (HC.out.chg hc id);have HX:=hd_ hc;clear hc HRD;go_upto_region 2 with fail;have hc:=(Chg.refl (fun _=>False) w2).alloc (.cells #[U Z k,U Z a0,U .u64 a1,U Z a2,U Z a3,U Z a4,U Z a5,U Z a6,U Z a7,U Z a8,U Z z,U Z n] 110);have HK:Hid (Blk (w2.alloc (.cells #[U Z k,U Z a0,U .u64 a1,U Z a2,U Z a3,U Z a4,U Z a5,U Z a6,U Z a7,U Z a8,U Z z,U Z n] 110)) w2.heap.size 110 #[U Z k,U Z a0,U .u64 a1,U Z a2,U Z a3,U Z a4,U Z a5,U Z a6,U Z a7,U Z a8,U Z z,U Z n]):=hd_ (af rfl);have HQK:Hid (¬w2.heap.size=c∧¬w2.heap.size=ps∧¬w2.heap.size=bc):=hd_ (by have h1:=HS.out.lt3;have h2:=HC.out.lt;omega);replace HS:=hd_ (HS.out.keep hc);replace HC:=hd_ (HC.out.chg hc id);replace HX:=hd_ (HX.out.tr hc);clear hc;generalize w2.alloc (.cells #[U Z k,U Z a0,U .u64 a1,U Z a2,U Z a3,U Z a4,U Z a5,U Z a6,U Z a7,U Z a8,U Z z,U Z n] 110)=w3 at*;generalize w2.heap.size=QK at*;have HKEEP:Hid (∀W:World,Chg (fun k=>k=c∨k=ps∨k=bc) w3 W→(W.cell? ⟨QK,0,none⟩=some (U Z k)∧W.cell? ⟨QK,1,none⟩=some (U Z a0)∧W.cell? ⟨QK,2,none⟩=some (U .u64 a1)∧W.cell? ⟨QK,3,none⟩=some (U Z a2)∧W.cell? ⟨QK,4,none⟩=some (U Z a3)∧W.cell? ⟨QK,5,none⟩=some (U Z a4)∧W.cell? ⟨QK,6,none⟩=some (U Z a5)∧W.cell? ⟨QK,7,none⟩=some (U Z a6)∧W.cell? ⟨QK,8,none⟩=some (U Z a7)∧W.cell? ⟨QK,9,none⟩=some (U Z a8)∧W.cell? ⟨QK,10,none⟩=some (U Z z)∧W.cell? ⟨QK,11,none⟩=some (U Z n))):=hd_ (fun W hw=>ak (HK.out.chg hw (by have h:=HQK.out;omega)));have HYA:=hd_ (Chg.refl (fun k=>k=c∨k=ps∨k=bc) w3).drew
 cases ok with
 |false=>
  replace HFE:Hid (bZ t b=true):=HFE;replace HFS:Hid (bf t b=t):=HFS;go_wp2_with fail;have s2:=HKEEP.out _ HYA.out;refine wp_region_noPanic ?_;refine wp_region_held_drew (S:=fun w'=>w'.cell? ⟨QK,0,none⟩=some (U Z k)∧w'.cell? ⟨QK,1,none⟩=some (U Z a0)∧w'.cell? ⟨QK,2,none⟩=some (U .u64 a1)∧w'.cell? ⟨QK,3,none⟩=some (U Z a2)∧w'.cell? ⟨QK,4,none⟩=some (U Z a3)∧w'.cell? ⟨QK,5,none⟩=some (U Z a4)∧w'.cell? ⟨QK,6,none⟩=some (U Z a5)∧w'.cell? ⟨QK,7,none⟩=some (U Z a6)∧w'.cell? ⟨QK,8,none⟩=some (U Z a7)∧w'.cell? ⟨QK,9,none⟩=some (U Z a8)∧w'.cell? ⟨QK,10,none⟩=some (U Z z)∧w'.cell? ⟨QK,11,none⟩=some (U Z n)) (by kernel_rfl) s2 (fun hHeld=>?_)
  iterate 3
   first
    |refine tk 0 ?_ ?_ ?_
    |refine tk 1 ?_ ?_ ?_
    |refine tk 2 ?_ ?_ ?_
   rotate_left
   ·intro w' hSw;(try dsimp only at hSw);go_simp;first|done|(with_reducible rfl)
   try simp only[AZ,A7,A8,Act.put,AQ,AS,AR]
  refine AY (i:=3) (v:=_) rfl (by kernel_rfl) (by kernel_rfl) (by kernel_rfl) (fun _ _ _ h=>h) (Or.inr ⟨by rfl,rfl⟩) (by assumption) ?_;(try simp only[AZ,A7,A8,Act.put,AQ,AS,AR]);refine AY (i:=4) (v:=_) rfl (by kernel_rfl) (by kernel_rfl) (by kernel_rfl) (fun _ _ _ h=>h) (Or.inr ⟨by rfl,rfl⟩) (by assumption) ?_;(try simp only[AZ,A7,A8,Act.put,AQ,AS,AR]);refine AY (i:=5) (v:=_) rfl (by kernel_rfl) (by kernel_rfl) (by kernel_rfl) (fun _ _ _ h=>h) (Or.inr ⟨by rfl,rfl⟩) (by assumption) ?_;(try simp only[AZ,A7,A8,Act.put,AQ,AS,AR]);refine AY (i:=6) (v:=_) rfl (by kernel_rfl) (by kernel_rfl) (by kernel_rfl) (fun _ _ _ h=>h) (Or.inr ⟨by rfl,rfl⟩) (by assumption) ?_;(try simp only[AZ,A7,A8,Act.put,AQ,AS,AR]);refine AY (i:=7) (v:=_) rfl (by kernel_rfl) (by kernel_rfl) (by kernel_rfl) (fun _ _ _ h=>h) (Or.inr ⟨by rfl,rfl⟩) (by assumption) ?_;(try simp only[AZ,A7,A8,Act.put,AQ,AS,AR]);refine AY (i:=8) (v:=_) rfl (by kernel_rfl) (by kernel_rfl) (by kernel_rfl) (fun _ _ _ h=>h) (Or.inr ⟨by rfl,rfl⟩) (by assumption) ?_;try simp only[AZ,A7,A8,Act.put,AQ,AS,AR]
  iterate 2
   first
    |refine tk 9 ?_ ?_ ?_
    |refine tk 10 ?_ ?_ ?_
   rotate_left
   ·intro w' hSw;(try dsimp only at hSw);go_simp;first|done|(with_reducible rfl)
   try simp only[AZ,A7,A8,Act.put,AQ,AS,AR]
  refine wpAnyH_done (by kernel_rfl) ?_ _;refine NoPanic.normal ?_;go_wp2_with fail;go_ret;exact⟨br,by rw[HFE.out];rfl,by rw[HFS.out];exact HS.out.drew,by rw[HFS.out];exact HC.out.chg (Chg.refl (fun _=>False) w3).drew id,HX.out.drew.mono (fun _ _ e=>e.elim)⟩
 |true=>
  replace HFE:Hid (bZ t b= !(bU t ⟨k,⟨a0,a1,a2,a3,a4,a5,a6,a7,a8⟩,z,n⟩==0)):=HFE;replace HFS:Hid (bf t b=aA t ⟨k,⟨a0,a1,a2,a3,a4,a5,a6,a7,a8⟩,z,n⟩):=HFS;have hbe:=i8 B ps bc br c 105 (kO ps t.bt pj sp no V Bh st).toArray t.C t.R t.bt k a0 a1 a2 a3 a4 a5 a6 a7 a8 z n w3.drew HS.out.drew (HC.out.chg (Chg.refl (fun _=>False) w3).drew id) (by decide) rfl rfl;have HBE:=hd_ hbe;clear hbe;obtain⟨g0,g1,g2,g3,g4,g5,g6,g7,g8,g9,g10,g11⟩:=HKEEP.out _ HYA.out;go_wp2_with fail
  go_region_held3 (fun w'=>w'.cell? ⟨QK,0,none⟩=some (U Z k)∧w'.cell? ⟨QK,1,none⟩=some (U Z a0)∧w'.cell? ⟨QK,2,none⟩=some (U .u64 a1)∧w'.cell? ⟨QK,3,none⟩=some (U Z a2)∧w'.cell? ⟨QK,4,none⟩=some (U Z a3)∧w'.cell? ⟨QK,5,none⟩=some (U Z a4)∧w'.cell? ⟨QK,6,none⟩=some (U Z a5)∧w'.cell? ⟨QK,7,none⟩=some (U Z a6)∧w'.cell? ⟨QK,8,none⟩=some (U Z a7)∧w'.cell? ⟨QK,9,none⟩=some (U Z a8)∧w'.cell? ⟨QK,10,none⟩=some (U Z z)∧w'.cell? ⟨QK,11,none⟩=some (U Z n))
   (first|with_reducible exact HKEEP.out _ HYA.out|with_reducible exact HKEEP.out _ HYB.out|fail)
   (first
    |(go_at_call 101;(with_reducible refine HBE.out.mono ?_);rintro e wz ⟨br',rfl,hs,hb,hc⟩;have HYB:=hd_ (HYA.out.tr hc);have HSZ:=hd_ hs;have HBZ:=hd_ hb;clear hs hb hc)
    |fail)
  all_goals
   have HTT:Hid ((⟨t.C,t.R,t.bt⟩:ba)=t):=hd_ rfl;rw[HTT.out]at HSZ HBZ;go_wp2_with fail;go_ret;refine⟨br',?_,by rw[HFS.out];exact HSZ.out,by rw[HFS.out];exact HBZ.out,HX.out.widen17 HYB.out (fun _ e=>e)⟩;rw[HFE.out];rfl
theorem je(t:ba):bg t []=(false,t):=rfl
theorem fu{t:ba}{b:List UInt8}(l:List (List UInt8))(h:bZ t b=true):bg t (b::l)=(true,bf t b):=by
 show (if bZ t b=true then(true,bf t b)else bg (bf t b) l)=_;rw[if_pos h]
theorem eH{t:ba}{b:List UInt8}(l:List (List UInt8))(h:bZ t b=false):bg t (b::l)=bg (bf t b) l:=by
 show (if bZ t b=true then(true,bf t b)else bg (bf t b) l)=_;rw[if_neg (by rw[h];decide)]
def yV(B c ps bc pj:Nat)(sp no:Int)(V:Nat→Value)(Bh:Nat→Bool)(st:Bool)(r:Bool×ba)(w:World)(e:Ending)(w':World):Prop:=
 ∃(br':Nat) (z:Int),e=.returned (U Z z)∧decide (0≤z)=r.1∧CS B w' ps bc br' r.2.C r.2.R∧aX w' c ps r.2.bt pj sp no V Bh st∧Chg (fun k=>k=c∨k=ps∨k=bc) w w'
theorem n3{B c ps bc br pj:Nat}{sp no:Int}{V:Nat→Value}{Bh:Nat→Bool}{st:Bool}{t:ba}{w:World}(h:CS B w ps bc br t.C t.R)(hc:aX w c ps t.bt pj sp no V Bh st)(L:Option Addr)(m lc:Nat)(ls:List (List UInt8))(Sb:Nat→Prop)(hl:LL w Sb L m ls)(hS:∀k,Sb k→¬(k=c∨k=ps∨k=bc))(hb:∀x∈ls,Bok x)(hm:m≤9223372036854775807):Calls Tryz.prog 99 #[.slice L m lc,.func (.func 52) #[.pointer (some ⟨c,0,none⟩)] #[]] w (yV B c ps bc pj sp no V Bh st (bg t ls) w):=by
 have HL:=hd_ hl;have HLN:Hid (m=ls.length):=hd_ (by obtain⟨vs,h,_⟩:=hl;exact h);have HSB:=hd_ hS;have HBK:=hd_ hb;have HS0:=hd_ h;have HC0:=hd_ hc;clear h hc hl hS hb;go_in;go_wp2_with fail
 go_loopg [5,8] m (fun g s5 i wr=>∃(j br':Nat) (t':ba),g=m-j∧j≤m∧i=U Z (j:Int)∧Hid (bg t ls=bg t' (ls.drop j))∧Hid (CS B wr ps bc br' t'.C t'.R)∧Hid (aX wr c ps t'.bt pj sp no V Bh st)∧Hid (Chg (fun k=>k=c∨k=ps∨k=bc) w wr))
 case atStart=>exact⟨0,br,t,rfl,Nat.zero_le _,rfl,hd_ (by rw[List.drop_zero]),HS0,HC0,hd_ (Chg.refl _ _)⟩
 case round=>
  obtain⟨j,br',t',rfl,hj,rfl,HR,HS,HC,HX⟩:=hrel;by_cases hlt:j<m
  ·have hjl:j<ls.length:=by have:=HLN.out;omega
   have hx:ls[j]?=some ls[j]:=List.getElem?_eq_getElem hjl;have hdr:ls.drop j=ls[j]::ls.drop (j+1):=List.drop_eq_getElem_cons hjl;have hmem:ls[j]∈ls:=List.getElem_mem hjl;generalize ls[j]=b at*;obtain⟨ad,D,dc,rfl,hcell,hrd⟩:=(HL.out.chg HX.out HSB.out).at hx;have hbk:=HBK.out b hmem;have HFA:=nZ HS.out HC.out D b.length dc b _ rfl hrd (eN hrd hbk.1) (by have:=hbk.2;omega)
   cases hf:bZ t' b with
   |true=>
    have HRE:=hd_ ((HR.out.trans (by rw[hdr])).trans (fu _ hf));rw[hf]at HFA;have HF:=hd_ HFA;clear HFA hf hrd hbk hmem hdr hx;generalize b.length=bn at*;go_wp2_with fail;refine HF.out.mono ?_;rintro e w1 ⟨br2,rfl,hs,hc,hcc⟩;go_wp2_with fail;go_ret;refine⟨br2,(j:Int),rfl,?_,?_,?_,HX.out.tr hcc⟩
    ·rw[HRE.out];simp
    ·rw[HRE.out];exact hs
    ·rw[HRE.out];exact hc
   |false=>
    have HRE:=hd_ ((HR.out.trans (by rw[hdr])).trans (eH _ hf));rw[hf]at HFA;have HF:=hd_ HFA;clear HFA hf hrd hbk hmem hdr hx;generalize b.length=bn at*;go_wp2_with fail;refine HF.out.mono ?_;rintro e w1 ⟨br2,rfl,hs,hc,hcc⟩;have HS2:=hd_ hs;have HC2:=hd_ hc;have HX2:=hd_ (HX.out.tr hcc);clear hs hc hcc;go_wp2_with fail;go_roundg (m-(j+1))
    case rel=>exact⟨j+1,br2,bf t' b,rfl,by omega,by go_num,HRE,HS2,HC2,HX2⟩
    case measure=>omega
  ·obtain rfl:j=m:=by omega
   have HRE:=hd_ (HR.out.trans (by rw[List.drop_of_length_le (by have:=HLN.out;omega),je]));go_wp2_with fail;go_ret;refine⟨br',-1,rfl,?_,?_,?_,HX.out⟩
   ·rw[HRE.out];rfl
   ·rw[HRE.out];exact HS.out
   ·rw[HRE.out];exact HC.out
theorem lB{B c ps bc br pj:Nat}{sp no:Int}{V:Nat→Value}{Bh:Nat→Bool}{st:Bool}{t:ba}{w:World}(h:CS B w ps bc br t.C t.R)(hc:aX w c ps t.bt pj sp no V Bh st)(L:Option Addr)(m lc:Nat)(ls:List (List UInt8))(Sb:Nat→Prop)(hl:LL w Sb L m ls)(hS:∀k,Sb k→¬(k=c∨k=ps∨k=bc))(hb:∀x∈ls,Bok x)(hm:m≤9223372036854775807):Calls Tryz.prog 51 #[.slice L m lc,.func (.func 52) #[.pointer (some ⟨c,0,none⟩)] #[]] w (vt B c ps bc pj sp no V Bh st (bg t ls) w):=by
 have HI:=hd_ (n3 h hc L m lc ls Sb hl hS hb hm);clear h hc hl hS hb;generalize bg t ls=r at*;go_in;go_wp2_with fail;refine HI.out.mono ?_;rintro e w1 ⟨br',zz,rfl,hz,hs,hcc,hx⟩;have HZ:=hd_ hz;clear hz;go_wp2_with fail;go_ret;exact⟨br',by rw[←HZ.out];rfl,hs,hcc,hx⟩
end Go.Proofs.YtnojmbejedlilaaGreat
