/-
  Plain lemmas: a letter's bytes, there and back. No condition.
-/
import Derived.Test.YtnojmbejedlilaaGreatKQM9
import Derived.Test.YtnojmbejedlilaaGreatKQM2
import Derived.Test.YtnojmbejedlilaaGreatKQM1
import Derived.Deep.RegionHeld3
set_option maxRecDepth 100000
set_option maxHeartbeats 40000000
set_option linter.unusedVariables false
set_option linter.unusedSimpArgs false
section
namespace Go.Proofs.YtnojmbejedlilaaGreat
open List renaming length_drop→zO
open Go renaming bodyPost_ret→AW
open Nat renaming le_refl→zG
open Go.Value renaming int→U
open Go.IntKind renaming i64→Z
open Go.RowKit
def ltB(m p a s:Int)(l:List UInt8):List UInt8:=be 5 m.toNat++(be 5 p.toNat++(be 6 a.toNat++(be 6 s.toNat++(be 2 l.length++l))))
theorem wC(m p a s:Int)(l:List UInt8):(ltB m p a s l).length=24+l.length:=by
 unfold ltB;simp only[List.length_append,bM];omega
def jW:List Nat:=[5,5,6,6]
def jst(b:List UInt8)(j:Nat):Option (List UInt8):=jY (jW.take j) (some b)
def jvl(b:List UInt8)(j:Nat):Int:=(bk (jW.getD j 0:Nat) (jst b j)).1
def jF(b:List UInt8):List UInt8:=(cu 1000 (jst b 4)).1
def jE(b:List UInt8):Option (List UInt8):=(cu 1000 (jst b 4)).2
def jOK(b:List UInt8):Bool:=bT (jE b)==0&&ltR (jvl b 0) (jvl b 1) (jvl b 2) (jvl b 3) (jF b).length
theorem wD(b:List UInt8)(h:22≤b.length):(jvl b 0=nAt b 0 5∧jvl b 1=nAt b 5 5∧jvl b 2=nAt b 10 6∧jvl b 3=nAt b 16 6)∧jst b 4=some (b.drop 22):=by
 have g:∀j i k:Nat,jst b j=some (b.drop i)→jW.getD j 0=k→1≤k→k≤7→i+k≤b.length→jvl b j=nAt b i k∧(bk (k:Int) (jst b j)).2=some (b.drop (i+k)):=by
  intro j i k hs hw h1 h7 hl;unfold jvl;rw[hw,hs,mG b i k h1 h7 hl];exact⟨rfl,rfl⟩
 have s0:jst b 0=some (b.drop 0):=rfl;obtain⟨v0,s1⟩:=g 0 0 5 s0 rfl (by decide) (by decide) (by omega);have s1:jst b 1=some (b.drop 5):=s1;obtain⟨v1,s2⟩:=g 1 5 5 s1 rfl (by decide) (by decide) (by omega);have s2:jst b 2=some (b.drop 10):=s2;obtain⟨v2,s3⟩:=g 2 10 6 s2 rfl (by decide) (by decide) (by omega);have s3:jst b 3=some (b.drop 16):=s3;obtain⟨v3,s4⟩:=g 3 16 6 s3 rfl (by decide) (by decide) (by omega);have s4:jst b 4=some (b.drop 22):=s4;exact⟨⟨v0,v1,v2,v3⟩,s4⟩
theorem uv(b:List UInt8)(h:b.length<22):jst b 4=none:=kH jW b (by decide) h
theorem wE(b:List UInt8)(h:22≤b.length)(hd:bT (jE b)=0):24≤b.length∧b.length≤1024∧nAt b 22 2=((b.length-24:Nat):Int)∧jF b=b.drop 24:=by
 have hs:=(wD b h).2;have e:cu 1000 (jst b 4)=(jF b,jE b):=rfl;rw[hs]at e;by_cases h2:24≤b.length
 ·have hg:=mG b 22 2 (by decide) (by decide) h2;have hg:bk 2 (some (b.drop 22))=(nAt b 22 2,some (b.drop 24)):=hg;unfold cu at e;rw[hg]at e;simp only at e;have h0:=pm b 22 2;by_cases h3:1000<nAt b 22 2
  ·rw[if_pos h3]at e;injection e with e1 e2;rw[←e2]at hd;cases hd
  ·rw[if_neg h3]at e;unfold bS at e;simp only at e;by_cases h4:(nAt b 22 2).toNat≤(b.drop 24).length
   ·rw[if_pos h4]at e;injection e with e1 e2;rw[←e2]at hd
    have h5:((b.drop 24).drop (nAt b 22 2).toNat)=[]:=by
     cases hh:(b.drop 24).drop (nAt b 22 2).toNat with
     |nil=>rfl
     |cons x r=>rw[hh]at hd;cases hd
    have h6:(b.drop 24).length≤(nAt b 22 2).toNat:=List.drop_eq_nil_iff.1 h5;rw[zO]at h4 h6;refine⟨h2,by omega,by omega,?_⟩;rw[←e1];exact List.take_of_length_le (by rw[zO];omega)
   ·rw[if_neg h4]at e;injection e with e1 e2;rw[←e2]at hd;cases hd
 ·exfalso;have hg:=lO (b.drop 22) 2 (by rw[zO];omega);have hg:bk 2 (some (b.drop 22))=(0,none):=hg;unfold cu at e;rw[hg]at e;rw[if_neg (by decide)]at e;have e:(([]:List UInt8),(none:Option (List UInt8)))=(jF b,jE b):=e;injection e with e1 e2;rw[←e2]at hd;cases hd
theorem xA(b:List UInt8)(hd:bT (jE b)=0):22≤b.length:=by
 by_cases h:22≤b.length
 ·exact h
 ·exfalso;have e:cu 1000 (jst b 4)=(jF b,jE b):=rfl;rw[uv b (by omega),nJ 1000 (by decide)]at e;injection e with e1 e2;rw[←e2]at hd;cases hd
theorem rZ{b:List UInt8}(h:jOK b=true):bT (jE b)=0∧ltR (jvl b 0) (jvl b 1) (jvl b 2) (jvl b 3) (jF b).length=true:=by
 unfold jOK at h;simp only[Bool.and_eq_true,beq_iff_eq]at h;exact h
theorem yL{b:List UInt8}(h:1024<b.length):jOK b=false:=by
 cases e:jOK b
 ·rfl
 ·exfalso;have hd:=(rZ e).1;have:=(wE b (xA b hd) hd).2.1;omega
def jL(b:List UInt8):LV:=if jOK b then⟨jvl b 0,jvl b 1,jvl b 2,jvl b 3,jF b⟩else⟨0,0,0,0,[]⟩
def jX(b:List UInt8):Int:=if jOK b then 0 else 2
theorem xB{b:List UInt8}(h:jOK b=true):jL b=⟨jvl b 0,jvl b 1,jvl b 2,jvl b 3,jF b⟩:=if_pos h
theorem yM{b:List UInt8}(h:jOK b=false):jL b=⟨0,0,0,0,[]⟩:=by unfold jL;rw[h];rfl
theorem xC{b:List UInt8}(h:jOK b=true):jX b=0:=if_pos h
theorem yN{b:List UInt8}(h:jOK b=false):jX b=2:=by unfold jX;rw[h];rfl
theorem r_(b:List UInt8):(jF b).length≤1000:=by
 unfold jF cu;by_cases h:1000<(bk 2 (jst b 4)).1
 ·rw[if_pos h];decide
 ·rw[if_neg h];have:=lG (bk 2 (jst b 4)).1.toNat (bk 2 (jst b 4)).2;omega
theorem xD(b:List UInt8):jOK b=(bT (jE b)==0&&ltR (jvl b 0) (jvl b 1) (jvl b 2) (jvl b 3) (jF b).length):=rfl
theorem xE(b:List UInt8):(jL b).b.length≤1000:=by
 unfold jL
 split
 ·exact r_ b
 ·decide
def iy:Value:=.agg (ltC 0 0 0 0 none 0 0)
def xF(l:LV)(x:Int)(w:World)(e:Ending)(w':World):Prop:=
 ∃A c,e=.returned (.tuple #[.agg (ltC l.mi l.pe l.ac l.se A l.b.length c),U Z x])∧Rds w' (fun k=>w.heap.size≤k) A l.b.length (bcs l.b)∧Chg (fun _=>False) w w'
def fJ(b:List UInt8)(w:World)(e:Ending)(w':World):Prop:=xF (jL b) (jX b) w e w'
theorem jZ{b:List UInt8}(h:jOK b=false){w w':World}{e:Ending}(hh:e=.returned (.tuple #[iy,U Z 2])∧Chg (fun _=>False) w w'):fJ b w e w':=by
 unfold fJ;rw[yM h,yN h];exact⟨none,0,hh.1,Rds.nil _ _ _,hh.2⟩
theorem uw{b:List UInt8}(h:jOK b=true){w w':World}{e:Ending}(hh:xF ⟨jvl b 0,jvl b 1,jvl b 2,jvl b 3,jF b⟩ 0 w e w'):fJ b w e w':=by
 unfold fJ;rw[xB h,xC h];exact hh
theorem kJ(p:Nat)(S:Nat→Prop)(b:List UInt8)(j:Nat)(k:Int)(w:World)(h:Rd 259 true w p S (jst b j))(h1:(bk k (jst b j)).1=jvl b j)(h2:(bk k (jst b j)).2=jst b (j+1)):
  Calls Tryz.prog 119 #[.pointer (some ⟨p,0,none⟩),U Z k] w fun e w'=>e=.returned (U Z (jvl b j))∧Rd 259 true w' p S (jst b (j+1))∧Chg (fun k=>k=p) w w':=by
 have hg:=ia p S _ k w h;rw[h1,h2]at hg;exact hg
theorem p9(A:Option Addr)(n c:Nat)(b:List UInt8)(w:World)(hn:n=b.length)(h15:1024<n)(hn2:n≤9223372036854775807):Calls Tryz.prog 64 #[.slice A n c] w (fJ b w):=by
 have HNO:=hd_ (yL (b:=b) (by omega));clear hn;go_in;go_wp2_with fail;exact AW (v:=.tuple #[iy,U Z 2]) (by simp[results,Tryz.results64,go_sem,iy,ltC]) rfl (jZ HNO.out ⟨rfl,(Chg.refl _ w).alloc _⟩)
theorem nM(A:Option Addr)(n c:Nat)(b:List UInt8)(S:Nat→Prop)(w:World)(hn:n=b.length)(h:Rds w S A n (bcs b))(hz:A=none→c=0)(h15:n≤1024):Calls Tryz.prog 64 #[.slice A n c] w (fJ b w):=by
 have hR0:Blk (w.alloc (.cells #[U Z 0,U Z 0,U Z 0,U Z 0,.slice none 0 0] 122)) w.heap.size 122 (ltC 0 0 0 0 none 0 0):=af rfl;have hC0:=(Chg.refl (fun _=>False) w).alloc (.cells #[U Z 0,U Z 0,U Z 0,U Z 0,.slice none 0 0] 122)
 have hz0:(w.alloc (.cells #[U Z 0,U Z 0,U Z 0,U Z 0,.slice none 0 0] 122)).heap.size=w.heap.size+1:=by simp
 have HRD:=hd_ (eG A n c b _ _ hn (h.alloc (.cells #[U Z 0,U Z 0,U Z 0,U Z 0,.slice none 0 0] 122)) hz (by omega));have HR:=hd_ hR0;have HC:=hd_ hC0;have HZ:=hd_ hz0;have HDOK:=hd_ (xD b);clear hR0 hC0 hz0 h hn hz;go_in;go_wp2_with fail;refine HRD.out.mono ?_;rintro e w0 ⟨p,rfl,hp,hrd,hc1⟩;have hz:=HZ.out
 have hrp:w.heap.size<p:=by omega
 have hrd:Rd _ _ _ _ _ (jst b 0):=hrd.mono (S':=fun k=>w.heap.size<k∧k<p) (fun k hk=>by omega) (by omega);have hR:=HR.out.chg hc1 id;have hC:=HC.out.tr hc1;clear HRD HR HC HZ hz hp hc1;have HG:=hd_ (kJ p _ b 0 5 _ hrd rfl rfl);have HR:=hd_ hR;have HC:=hd_ hC;clear hrd hR hC;go_wp2_with fail;refine HG.out.mono ?_;rintro e w1 ⟨rfl,hrd,hc'⟩;have hC:=ab HC.out hc' (by omega);have hR:=HR.out.chg hc' (by omega);clear HG HR HC hc';have HG:=hd_ (kJ p _ b 1 5 _ hrd rfl rfl);have HR:=hd_ hR;have HC:=hd_ hC;clear hrd hR hC;go_wp2_with fail;refine HG.out.mono ?_;rintro e w2 ⟨rfl,hrd,hc'⟩;have hC:=ab HC.out hc' (by omega);have hR:=HR.out.chg hc' (by omega);clear HG HR HC hc';have HG:=hd_ (kJ p _ b 2 6 _ hrd rfl rfl);have HR:=hd_ hR;have HC:=hd_ hC;clear hrd hR hC;go_wp2_with fail;refine HG.out.mono ?_;rintro e w3 ⟨rfl,hrd,hc'⟩;have hC:=ab HC.out hc' (by omega);have hR:=HR.out.chg hc' (by omega);clear HG HR HC hc';have HG:=hd_ (kJ p _ b 3 6 _ hrd rfl rfl);have HR:=hd_ hR;have HC:=hd_ hC;clear hrd hR hC;go_wp2_with fail;refine HG.out.mono ?_;rintro e w4 ⟨rfl,hrd,hc'⟩;have hC:=ab HC.out hc' (by omega);have hR:=HR.out.chg hc' (by omega);clear HG HR HC hc';have HG:=hd_ (ku p _ _ 1000 _ hrd);have HR:=hd_ hR;have HC:=hd_ hC;clear hrd hR hC;go_wp2_with fail;refine HG.out.mono ?_;rintro e w9 ⟨D,k,dc,rfl,hm,_,_,hfr,hrd,hc'⟩;replace hm:k=(jF b).length:=hm;replace hfr:Rds w9 _ D k (bcs (jF b)):=hfr;replace hrd:Rd _ _ _ _ _ (jE b):=hrd;have hC:=ab HC.out hc' (by omega);have hR:=HR.out.chg hc' (by omega);clear HG HR HC hc';have hQ:Blk (w9.alloc (.cells #[U Z ((jvl b 0)),U Z ((jvl b 1)),U Z ((jvl b 2)),U Z ((jvl b 3)),.slice D k dc] 122)) w9.heap.size 122 (ltC (jvl b 0) (jvl b 1) (jvl b 2) (jvl b 3) D k dc):=af rfl;have hca:=(Chg.refl (fun _=>False) w9).alloc (.cells #[U Z ((jvl b 0)),U Z ((jvl b 1)),U Z ((jvl b 2)),U Z ((jvl b 3)),.slice D k dc] 122);have hrd:=hrd.chg hca id (fun _ _=>id);have hC:=hC.tr hca;have hR:=hR.chg hca id;have hfr:=hfr.chg hca (fun _ _=>id);have HG:=hd_ (dB p _ _ _ hrd);have HR:=hd_ hR;have HC:=hd_ hC;have HQ:=hd_ hQ;have HFR:=hd_ hfr;clear hrd hR hC hQ hca hfr;generalize hdn:bT (jE b)=dn at*;have HM:=hd_ hm;clear hm hdn;go_wp2_with fail;refine HG.out.mono ?_;rintro e w10 ⟨rfl,hw10⟩;rw[hw10]at HR HC HQ HFR;clear hw10 HG;obtain⟨y0,y1,y2,y3,y4⟩:=aW HQ.out;by_cases q0:dn=0
 case neg=>
  have t0:(dn==0)=false:=by simpa using q0
  have s0:(dn !=0)=true:=by simpa using q0
  have HNO:=hd_ (show jOK b=false by rw[HDOK.out,t0];rfl);clear q0;have hR:=HR.out;have hC:=HC.out;obtain⟨x0,x1,x2,x3,x4⟩:=aW hR;obtain⟨u0,u1,u2,u3,u4⟩:=lw hR;obtain⟨r0,r1,r2,r3,r4,_,hcs⟩:=mW hR 0 0 0 0 none 0 0;have HF:=hd_ (ab hC hcs (zG _));have RR:=cj5 r0 r1 r2 r3 r4;clear r0 r1 r2 r3 r4 hcs hR hC;go_wp2_with fail;obtain⟨r0,r1,r2,r3,r4⟩:=RR.out;exact AW (v:=.tuple #[iy,U Z 2]) (by simp[results,Tryz.results64,go_sem,iy,ltC,r0,r1,r2,r3,r4]) rfl (jZ HNO.out ⟨rfl,HF.out⟩)
 subst q0
 have hmx:k≤9223372036854775807:=by have:=r_ b;have:=HM.out;omega
 have hrt:=fun W=>jD (jvl b 0) (jvl b 1) (jvl b 2) (jvl b 3) D k dc W hmx;have HD2:=hd_ (show jOK b=ltR (jvl b 0) (jvl b 1) (jvl b 2) (jvl b 3) k by rw[HDOK.out,HM.out];rfl);generalize hpr:ltR (jvl b 0) (jvl b 1) (jvl b 2) (jvl b 3) k=r at*;have HPR:=hd_ hpr;clear hpr
 cases r with
 |false=>
  have HNO:=hd_ HD2.out;unfold ltC at hrt;have HRT:=hd_ hrt;clear hrt;go_wp2_with fail;refine(HRT.out _).mono ?_;rintro e w11 ⟨rfl,hc'⟩;have HR:=hd_ (HR.out.chg hc' id);have HC:=hd_ (HC.out.tr hc');clear hc' HRT;have hR:=HR.out;have hC:=HC.out;obtain⟨x0,x1,x2,x3,x4⟩:=aW hR;obtain⟨u0,u1,u2,u3,u4⟩:=lw hR;obtain⟨r0,r1,r2,r3,r4,_,hcs⟩:=mW hR 0 0 0 0 none 0 0;have HF:=hd_ (ab hC hcs (zG _));have RR:=cj5 r0 r1 r2 r3 r4;clear r0 r1 r2 r3 r4 hcs hR hC;go_wp2_with fail;obtain⟨r0,r1,r2,r3,r4⟩:=RR.out;exact AW (v:=.tuple #[iy,U Z 2]) (by simp[results,Tryz.results64,go_sem,iy,ltC,r0,r1,r2,r3,r4]) rfl (jZ HNO.out ⟨rfl,HF.out⟩)
 |true=>
  unfold ltC at hrt;have HRT:=hd_ hrt;clear hrt;go_wp2_with fail;refine(HRT.out _).mono ?_;rintro e w11 ⟨rfl,hc'⟩;have hR:=HR.out.chg hc' id;have hC:=HC.out.tr hc';have hQ:=HQ.out.chg hc' id;have hfr:=HFR.out.chg hc' (fun _ _=>id);clear hc' HRT HR HC HQ HFR y0 y1 y2 y3 y4;obtain⟨y0,y1,y2,y3,y4⟩:=aW hQ;obtain⟨x0,x1,x2,x3,x4⟩:=aW hR;obtain⟨u0,u1,u2,u3,u4⟩:=lw hR;obtain⟨r0,r1,r2,r3,r4,_,hcs⟩:=mW hR (jvl b 0) (jvl b 1) (jvl b 2) (jvl b 3) D k dc;have hF:=ab hC hcs (zG _);have hfr:=hfr.chg hcs (fun k hk e=>by have:=hk.1;omega);have HF:Hid (fJ b w (.returned (.tuple #[.agg (ltC (jvl b 0) (jvl b 1) (jvl b 2) (jvl b 3) D k dc),U Z 0])) _):=uw HD2.out ⟨D,dc,by rw[HM.out],by rw[←HM.out];exact hfr.mono (fun k hk=>Nat.le_of_lt hk.1),hF⟩;have RR:=cj5 r0 r1 r2 r3 r4;clear r0 r1 r2 r3 r4 hcs hF hfr hR hC hQ;go_wp2_with fail;obtain⟨r0,r1,r2,r3,r4⟩:=RR.out;exact AW (v:=.tuple #[.agg (ltC (jvl b 0) (jvl b 1) (jvl b 2) (jvl b 3) D k dc),U Z 0]) (by simp[results,Tryz.results64,go_sem,ltC,r0,r1,r2,r3,r4]) rfl HF.out
theorem sc(A:Option Addr)(n c:Nat)(b:List UInt8)(S:Nat→Prop)(w:World)(hn:n=b.length)(h:Rds w S A n (bcs b))(hz:A=none→c=0)(hn2:n≤9223372036854775807):
  Calls Tryz.prog 64 #[.slice A n c] w (fJ b w):=by
 by_cases h15:n≤1024
 ·exact nM A n c b S w hn h hz h15
 ·exact p9 A n c b w hn (by omega) hn2
end Go.Proofs.YtnojmbejedlilaaGreat
end
