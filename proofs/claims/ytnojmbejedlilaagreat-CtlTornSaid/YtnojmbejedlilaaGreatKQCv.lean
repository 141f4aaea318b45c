/-
  Walks: ctl.Open, Rows, Chassis, Boot. Conditions: the file lies in memory, apart from what was there ahead of it.
-/
import Derived.Test.YtnojmbejedlilaaGreatKQCu
set_option maxRecDepth 100000
set_option maxHeartbeats 40000000
set_option linter.unusedVariables false
set_option linter.unusedSimpArgs false
namespace Go.Proofs.YtnojmbejedlilaaGreat
open Int renaming le_refl→CJ
open Nat renaming le_refl→zG,le_trans→zH
open Go.Value renaming int→U
open Go.IntKind renaming i64→Z
open Go.RowKit
theorem LL.old17{w:World}{S:Nat→Prop}{A:Option Addr}{m:Nat}{ls:List (List UInt8)}(h:LL w S A m ls):LL w (fun k=>S k∧k<w.heap.size) A m ls:=by
 obtain⟨vs,h1,h2,h3⟩:=h;exact⟨vs,h1,h2.old,h3.old⟩
def eX(G:Nat→Prop)(W:World)(p:Nat)(bs:List UInt8)(s r:Nat)(w:World):Prop:=
 Chg (fun k=>¬G k) W w∧¬G p∧∃o,Fi 80 w p o bs s r∧∀k,o=some k→¬G k
def bu(G:Nat→Prop)(W w:World)(c pf:Nat)(x:KV):Prop:=∃(lab:Nat→Nat) (ps pj:Nat) (P:Nat→Nat),KP w lab c ps pj pf P x∧Chg (fun k=>¬G k) W w∧∀k,lab k≠0→¬G k
theorem bu.was{G:Nat→Prop}{W w:World}{c pf:Nat}{x:KV}(h:bu G W w c pf x):Chg (fun k=>¬G k) W w:=by
 obtain⟨lab,ps,pj,P,h1,h2,h3⟩:=h;exact h2
theorem bu.new{G:Nat→Prop}{W w w':World}{c pf:Nat}{x:KV}(h:bu G W w c pf x)(hc:Chg (fun _=>False) w w'):bu G W w' c pf x:=by
 obtain⟨lab,ps,pj,P,h1,h2,h3⟩:=h;exact⟨lab,ps,pj,P,h1.new hc,h2.trans hc (fun _ _ e=>False.elim e),h3⟩
theorem eX.new{G:Nat→Prop}{W w w':World}{p:Nat}{bs:List UInt8}{s r:Nat}(h:eX G W p bs s r w)(hc:Chg (fun _=>False) w w'):eX G W p bs s r w':=by
 obtain⟨h1,h2,o,h3,h4⟩:=h;exact⟨h1.trans hc (fun _ _ e=>False.elim e),h2,o,h3.chg hc id (fun _ _=>id),h4⟩
theorem ni{G:Nat→Prop}{W w w':World}{p:Nat}{o o':Option Nat}{bs1:List UInt8}{s1 r:Nat}(hG:∀k,G k→k<W.heap.size)(h1:Chg (fun k=>¬G k) W w)(h2:¬G p)(h4:∀k,o=some k→¬G k)(hf:Fi 80 w' p o' bs1 s1 r)(hm:Mvd p o o' w w'):eX G W p bs1 s1 r w':=by
 refine⟨h1.trans hm.1 (fun i _ e=>?_),h2,o',hf,fun k hk=>?_⟩
 ·rcases e with e|e
  ·rw[e];exact h2
  ·exact h4 i e
 ·rcases hm.2 with e|e|⟨q,e,hq⟩
  ·exact h4 k (by rw[←e];exact hk)
  ·rw[e]at hk;cases hk
  ·rw[e]at hk;injection hk with hk;intro g;have:=hG k g;have:=h1.size;omega
theorem fv{G:Nat→Prop}{W w w':World}{lab lab':Nat→Nat}{c ps pj pf:Nat}{P:Nat→Nat}{y:KV}(hG:∀k,G k→k<W.heap.size)(h2:Chg (fun k=>¬G k) W w)(h3:∀k,lab k≠0→¬G k)(hk:KP w' lab' c ps pj pf P y)(hm:am (fun n=>1≤n∧n≤20) lab lab' w w'):bu G W w' c pf y:=by
 refine⟨lab',ps,pj,P,hk,h2.trans hm.1 (fun i hi e=>h3 i (by omega)),fun k hk g=>?_⟩;have h5:=hG k g;have h6:=h2.size;exact h3 k (by rw[←hm.2 k (by omega)];exact hk) g
theorem bu.file{G:Nat→Prop}{W w:World}{c pf:Nat}{x:KV}(h:bu G W w c pf x):eX G W pf x.bs x.sf x.rm w:=by
 obtain⟨lab,ps,pj,P,h1,h2,h3⟩:=h;obtain⟨o,hf,g1,g2⟩:=h1.q.fi;exact⟨h2,h3 _ (by rw[g1];decide),o,hf,fun k hk=>h3 _ (by rw[g2 k hk];decide)⟩
theorem KQ.file17{G:Nat→Prop}{W w0 w:World}{lab lab':Nat→Nat}{c ps pj pf:Nat}{V:Nat→Value}{x:KV}{N:Nat→Prop}(hG:∀k,G k→k<W.heap.size)(h:KQ w lab' c ps pj pf V x)(h2:Chg (fun k=>¬G k) W w0)(h3:∀k,lab k≠0→¬G k)(hm:am N lab lab' w0 w)(h0:¬N 0):eX G W pf x.bs x.sf x.rm w:=by
 obtain⟨o,hf,g1,g2⟩:=h.fi
 have hnew:∀k,lab' k≠0→¬G k:=fun k hk g=>by
  have h5:=hG k g;have h6:=h2.size;exact h3 k (by rw[←hm.2 k (by omega)];exact hk) g
 exact⟨h2.trans hm.1 (fun i hi e=>h3 i (fun e0=>h0 (by rw[e0]at e;exact e))),hnew _ (by rw[g1];decide),o,hf,fun k hk=>hnew _ (by rw[g2 k hk];decide)⟩
theorem l5{t:ba}(h:WF t.C t.R)(b:List UInt8):WF (bf t b).C (bf t b).R:=by
 unfold bf
 split
 ·exact nd h _
 ·exact h
theorem j_:∀(l:List (List UInt8)) {t:ba},WF t.C t.R→WF (bg t l).2.C (bg t l).2.R
 |[],_,h=>h
 |b::l,t,h=>by
  cases hf:bZ t b with
  |true=>rw[fu _ hf];exact l5 h b
  |false=>rw[eH _ hf];exact j_ l (l5 h b)
theorem wS(b:List UInt8):0≤(b_ b).1.x.ma:=by
 unfold b_
 split
 ·show 0≤(cM b).ma;unfold cM
  split
  ·unfold cV
   split
   ·exact(dq _ _).1
   ·split<;>exact CJ 0
  ·exact CJ 0
 ·split
  ·exact CJ 0
  ·split<;>exact CJ 0
theorem x_(b:List UInt8):0≤(b_ b).1.n∧(b_ b).1.n<1099511627776:=by
 unfold b_
 split
 ·exact⟨CJ 0,by show (0:Int)<1099511627776;decide⟩
 ·split
  ·exact⟨CJ 0,by show (0:Int)<1099511627776;decide⟩
  ·split
   ·exact⟨(dq _ _).1,kK 5 _ (by decide) (by decide)⟩
   ·exact⟨CJ 0,by show (0:Int)<1099511627776;decide⟩
theorem nj:∀(l:List (List UInt8)) {t:ba},(∀z r,t.R z=some r→0≤r.ma)→∀z r,(bg t l).2.R z=some r→0≤r.ma
 |[],_,h=>h
 |b::l,t,h=>by
  have h1:∀z r,(bf t b).R z=some r→0≤r.ma:=by
   unfold bf
   split
   ·exact nf h (fun _=>wS b)
   ·exact h
  cases hf:bZ t b with
  |true=>rw[fu _ hf];exact h1
  |false=>rw[eH _ hf];exact nj l h1
theorem ka:∀(l:List (List UInt8)) {t:ba},(0≤t.bt∧t.bt<1099511627776)→0≤(bg t l).2.bt∧(bg t l).2.bt<1099511627776
 |[],_,h=>h
 |b::l,t,h=>by
  have h1:0≤(bf t b).bt∧(bf t b).bt<1099511627776:=by
   have hn:=x_ b;unfold bf
   split
   ·unfold aA;repeat' (first|exact h|exact hn|split)
   ·exact h
  cases hf:bZ t b with
  |true=>rw[fu _ hf];exact h1
  |false=>rw[eH _ hf];exact ka l h1
theorem nk:WF ts0.C ts0.R:=WF.start
theorem uS{bs:List UInt8}{s:Nat}(h:s≤bs.length):opS bs s≤(an (aq bs)).length:=by
 unfold opS
 split
 ·exact zG _
 ·rename_i hn;have:=ic bs;unfold cI at hn;omega
theorem kb{bs:List UInt8}{sf rm:Nat}{sp no:Int}(hb:bs.length≤rm)(hm:rm≤16777216)(hs:sf≤bs.length)(hsp:1≤sp∧sp≤2147483648)(hno:0≤no∧no≤1099511627776)(h0:dX (aU bs sf rm sp no)=0):KOk 0 (cG (aU bs sf rm sp no)):=by
 have hbt:=ka (aq bs) (t:=ts0) ⟨CJ 0,by show (0:Int)<1099511627776;decide⟩
 have hl:¬4294967296≤(aU bs sf rm sp no).t.bt:=by
  intro e;unfold dX at h0;rw[if_pos e]at h0;exact absurd h0 (by decide)
 have hbt2:0≤(aU bs sf rm sp no).t.bt∧(aU bs sf rm sp no).t.bt≤4294967295:=⟨hbt.1,by omega⟩;have hk:KOk 0 (aU bs sf rm sp no):=⟨j_ _ nk,nj _ (fun z r h=>by cases h),⟨hbt2.1,by omega⟩,hsp,hno,fun i _=>bh.new _ _ (CJ 0),zH (ic bs) hb,hm,uS hs⟩;have hn:=hk.note (dd ((aU bs sf rm sp no).t.bt+1)) (fun e=>absurd e (by show¬(6:Int)=1;decide)) (by show (aU bs sf rm sp no).t.bt+1≤4294967296;omega);exact⟨hn.wf,hn.ma,hn.bt,hn.sp,hn.no,fun i _=>bh.new _ _ (CJ 0),hn.b,hn.m,hn.sf⟩
def yW(G:Nat→Prop)(W:World)(pf:Nat)(bs:List UInt8)(sf rm:Nat)(sp no:Int)(e:Ending)(w':World):Prop:=
 ∃pv:Option Addr,e=.returned (.tuple #[.pointer pv,U Z (ck bs sf rm sp no)])∧
  (ck bs sf rm sp no=0→∃c,pv=some ⟨c,0,none⟩∧bu G W w' c pf (bz bs sf rm sp no)∧KOk 0 (bz bs sf rm sp no))∧
  (ck bs sf rm sp no≠0→pv=none∧eX G W pf (i5 bs sp no) (i6 bs sf sp no) rm w')
def jf(c p bc br j pf:Nat)(o:Option Nat):Nat→Nat:=fun k=>if k=c then 1 else if k=p∨k=bc∨k=br then 2 else if k=j then 3 else if k=pf∨o=some k then 4 else 0
theorem sM{w:World}{B c p bc br j pf:Nat}{o:Option Nat}{x:KV}(hs:CS B w p bc br x.t.C x.t.R)(hc:aX w c p x.t.bt j x.sp x.no (fun _=>.pointer none) x.B x.st)(hj:Blk w j 176 #[.pointer (some ⟨pf,0,none⟩)])(hf:Fi 80 w pf o x.bs x.sf x.rm):KQ w (jf c p bc br j pf o) c p j pf (fun _=>.pointer none) x:=by
 have h1:=hs.apart (show Blk w c _ _ from hc) (by decide);have h2:=hs.apart hj (by decide);have h3:=gh hf (show Blk w c _ _ from hc) (by decide) (by decide);have h4:=gh hf hj (by decide) (by decide);have h5:=gh hf hs.blk (by decide) (by decide);have h6:c≠j:=gR (show Blk w c _ _ from hc) hj (by decide);have hl:=hf.lt;have hsl:=hs.lt3;have hcl:=hc.lt;have hjl:=hj.lt;have hf2:=hf;obtain⟨A,fc,hfl⟩:=hf2;have h7:=hs.apart hfl.blk (by decide)
 have hmap:∀{g:Nat} {f:Int→Option Value},IM w g f→o≠some g:=fun{g f} hg e=>by
  obtain⟨es,clock,hb,_⟩:=hg;have h:=gK hfl.own (k:=g) (by rw[hfl.at_,e]) hb;cases h
 have h8:=hmap hs.ch;have h9:=hmap hs.ro
 have hlo:∀{k n:Nat},(k=c→n=1)→(¬k=c→(k=p∨k=bc∨k=br)→n=2)→(¬k=c→¬(k=p∨k=bc∨k=br)→k=j→n=3)→(¬k=c→¬(k=p∨k=bc∨k=br)→¬k=j→(k=pf∨o=some k)→n=4)→(¬k=c→¬(k=p∨k=bc∨k=br)→¬k=j→¬(k=pf∨o=some k)→n=0)→jf c p bc br j pf o k=n:=by
  intro k n a1 a2 a3 a4 a5;unfold jf
  split
  ·rename_i e;exact(a1 e).symm
  ·rename_i e1
   split
   ·rename_i e;exact(a2 e1 e).symm
   ·rename_i e2
    split
    ·rename_i e;exact(a3 e1 e2 e).symm
    ·rename_i e3
     split
     ·rename_i e;exact(a4 e1 e2 e3 e).symm
     ·rename_i e;exact(a5 e1 e2 e3 e).symm
 have k2:∀{k:Nat},(k=p∨k=bc∨k=br)→¬k=c:=fun{k} e e2=>by
  subst e2;rcases e with e|e|e
  ·exact h1.1 e
  ·exact h1.2.1 e
  ·exact h1.2.2 e
 have k3:∀{k:Nat},k=j→¬(k=p∨k=bc∨k=br):=fun{k} e e2=>by
  subst e;rcases e2 with e|e|e
  ·exact h2.1 e
  ·exact h2.2.1 e
  ·exact h2.2.2 e
 have k4:∀{k:Nat},(k=pf∨o=some k)→¬k=c∧¬(k=p∨k=bc∨k=br)∧¬k=j:=fun{k} e=>by
  rcases e with e|e
  ·subst e;refine⟨fun e=>h3.1 e.symm,?_,fun e=>h4.1 e.symm⟩;rintro(e|e|e)
   ·exact h7.1 e
   ·exact h7.2.1 e
   ·exact h7.2.2 e
  ·refine⟨fun e2=>h3.2 (by rw[←e2];exact e),?_,fun e2=>h4.2 (by rw[←e2];exact e)⟩;rintro(e2|e2|e2)
   ·exact h5.2 (by rw[←e2];exact e)
   ·exact h8 (by rw[←e2];exact e)
   ·exact h9 (by rw[←e2];exact e)
 have l2:∀{k:Nat},(k=p∨k=bc∨k=br)→jf c p bc br j pf o k=2:=fun{k} e=>hlo (fun e2=>absurd e2 (k2 e)) (fun _ _=>rfl) (fun _ n _=>absurd e n) (fun _ n _ _=>absurd e n) (fun _ n _ _=>absurd e n);have l4:∀{k:Nat},(k=pf∨o=some k)→jf c p bc br j pf o k=4:=fun{k} e=>hlo (fun e2=>absurd e2 (k4 e).1) (fun _ e2=>absurd e2 (k4 e).2.1) (fun _ _ e2=>absurd e2 (k4 e).2.2) (fun _ _ _ _=>rfl) (fun _ _ _ n=>absurd e n);refine⟨fun k hk=>?_,hc,hlo (fun _=>rfl) (fun n=>absurd rfl n) (fun n=>absurd rfl n) (fun n=>absurd rfl n) (fun n=>absurd rfl n),⟨B,bc,br,hs,l2 (.inl rfl),l2 (.inr (.inl rfl)),l2 (.inr (.inr rfl))⟩,hj,hlo (fun e=>absurd e.symm h6) (fun _ e=>absurd e (k3 rfl)) (fun _ _ _=>rfl) (fun _ _ n=>absurd rfl n) (fun _ _ n=>absurd rfl n),⟨o,hf,l4 (.inl rfl),fun k hk=>l4 (.inr hk)⟩⟩;refine hlo (fun e=>?_) (fun _ e=>?_) (fun _ _ e=>?_) (fun _ _ _ e=>?_) (fun _ _ _ _=>rfl)
 ·omega
 ·omega
 ·omega
 ·rcases e with e|e
  ·omega
  ·have:=hl.2 k e;omega
theorem uT{G:Nat→Prop}{c p bc br j pf:Nat}{o:Option Nat}{n:Nat}(hG:∀k,G k→k<n)(h1:n≤c)(h2:n≤p)(h3:n≤bc)(h4:n≤br)(h5:n≤j)(h6:¬G pf)(h7:∀k,o=some k→¬G k):∀k,jf c p bc br j pf o k≠0→¬G k:=by
 intro k hk g;have:=hG k g;unfold jf at hk
 split at hk
 ·omega
 ·split at hk
  ·omega
  ·split at hk
   ·omega
   ·split at hk
    ·rename_i e;rcases e with e|e
     ·exact h6 (by rw[←e];exact g)
     ·exact h7 k e g
    ·exact absurd rfl hk
theorem qH(r:List UInt8):(aq r).length≤(an (aq r)).length:=by
 generalize aq r=l
 induction l with
 |nil=>exact zG _
 |cons x l ih=>rw[cR,List.length_append,bO,List.length_cons];omega
theorem sN{sp no:Int}(h:sp<1∨2147483648<sp∨no<0∨1099511627776<no):gp sp no=false:=by
 unfold gp;simp only[Bool.and_eq_false_iff,decide_eq_false_iff_not];omega
theorem iF{sp no:Int}(h:1≤sp∧sp≤2147483648)(h2:0≤no∧no≤1099511627776):gp sp no=true:=by
 unfold gp;simp only[Bool.and_eq_true,decide_eq_true_eq];omega
theorem fS(G:Nat→Prop)(W:World)(hG:∀k,G k→k<W.heap.size)(pf:Nat)(bs:List UInt8)(sf rm:Nat)(sp no:Int)(w:World)(h:eX G W pf bs sf rm w)(hb:bs.length≤rm)(hm:rm≤16777216)(hs:sf≤bs.length):Calls Tryz.prog 18 #[.pointer (some ⟨pf,0,none⟩),U Z sp,U Z no] w (yW G W pf bs sf rm sp no):=by
 have HD:=hd_ h;have HGG:=hd_ hG;clear hG;by_cases h1:sp<1∨2147483648<sp∨no<0∨1099511627776<no
 ·have HA:=sN h1;have HE:Hid (ck bs sf rm sp no=1):=hd_ (by unfold ck;rw[HA];rfl);have HF:Hid (i5 bs sp no=bs):=hd_ (by unfold i5;rw[HA];rfl);have HG:Hid (i6 bs sf sp no=sf):=hd_ (by unfold i6;rw[HA];rfl);clear HA h hb hm hs;by_cases a1:sp<1
  ·clear h1;go_in;go_wp2_with fail;go_ret2;exact⟨none,by rw[HE.out];rfl,fun e=>absurd (HE.out.symm.trans e) (by decide),fun _=>⟨rfl,by rw[HF.out,HG.out];exact HD.out⟩⟩
  ·by_cases a2:2147483648<sp
   ·clear h1;go_in;go_wp2_with fail;go_ret2;exact⟨none,by rw[HE.out];rfl,fun e=>absurd (HE.out.symm.trans e) (by decide),fun _=>⟨rfl,by rw[HF.out,HG.out];exact HD.out⟩⟩
   ·by_cases a3:no<0
    ·clear h1;go_in;go_wp2_with fail;go_ret2;exact⟨none,by rw[HE.out];rfl,fun e=>absurd (HE.out.symm.trans e) (by decide),fun _=>⟨rfl,by rw[HF.out,HG.out];exact HD.out⟩⟩
    ·have a4:1099511627776<no:=by omega
     clear h1;go_in;go_wp2_with fail;go_ret2;exact⟨none,by rw[HE.out];rfl,fun e=>absurd (HE.out.symm.trans e) (by decide),fun _=>⟨rfl,by rw[HF.out,HG.out];exact HD.out⟩⟩
 ·have hsp:1≤sp∧sp≤2147483648:=by omega
  have hno:0≤no∧no≤1099511627776:=by omega
  have a1:¬sp<1:=by omega
  have a2:¬2147483648<sp:=by omega
  have a3:¬no<0:=by omega
  have a4:¬1099511627776<no:=by omega
  have HA:=iF hsp hno;have HE0:Hid (ck bs sf rm sp no=if (bg ts0 (aq bs)).1=true then 2 else dX (aU bs sf rm sp no)):=hd_ (by unfold ck;rw[HA];rfl);have HF:Hid (i5 bs sp no=an (aq bs)):=hd_ (by unfold i5;rw[HA];rfl);have HG:Hid (i6 bs sf sp no=opS bs sf):=hd_ (by unfold i6;rw[HA];rfl);have HSO:=hd_ (fun h0=>kb hb hm hs hsp hno h0);have HB:=hd_ hb;have HM:=hd_ hm;obtain⟨hX,hpw,o,hf,ho⟩:=h;have HX:=hd_ hX;have HPW:=hd_ hpw;have HO:=hd_ ho;have HJ:=hd_ (rN pf o bs sf rm w hf hb hm);clear h1 HA hb hm hs hsp hno hX hpw hf ho;go_in;go_wp2_with fail;refine HJ.out.mono ?_;rintro e w1 ⟨j,LA,lm,lc,rfl,hjw,hjb,hlm,hll,hf1,hmv⟩;have HJB:=hd_ hjb;have HJW:=hd_ hjw;have HLM:=hd_ hlm;have HLL:=hd_ hll.old17;have HF1:=hd_ hf1;have hx1:=(ni HGG.out HX.out HPW.out HO.out hf1 hmv).1;have HX1:=hd_ hx1;have HW01:=hd_ HX.out.size;have hbk:=fun x hx=>oP (r:=bs) (x:=x) hx;have HBK:=hd_ hbk;clear hjb hjw hlm hll hf1 hmv HJ hbk hx1;go_wp2_with fail;refine(jU _).mono ?_;rintro e w2 ⟨rfl,hs,hc⟩;have HS:=hd_ hs;have HW12:=hd_ hc.size;have HW13:Hid (W.heap.size≤w1.heap.size):=hd_ HX1.out.size;replace HJB:=hd_ (HJB.out.chg hc id);replace HLL:=hd_ (HLL.out.chg hc (fun _ _=>id));replace HF1:=hd_ (HF1.out.chg hc id (fun _ _=>id));replace HX1:=hd_ (HX1.out.trans hc (fun _ _ e=>False.elim e));clear hs hc;go_upto_region 7 with fail;have hc:=(Chg.refl (fun _=>False) w2).alloc (.cells #[.pointer (some ⟨w1.heap.size+1+1,0,none⟩),U Z 0,.pointer (some ⟨j,0,none⟩),U Z sp,U Z no,.pointer none,.bool false,.pointer none,.bool false,.pointer none,.bool false,.pointer none,.bool false,.pointer none,.bool false,.pointer none,.bool false,.pointer none,.bool false,.pointer none,.bool false,.pointer none,.bool false,.pointer none,.bool false,.pointer none,.bool false,.pointer none,.bool false,.pointer none,.bool false,.pointer none,.bool false,.pointer none,.bool false,.pointer none,.bool false,.bool false] 105);have HC:Hid (aX (w2.alloc (.cells #[.pointer (some ⟨w1.heap.size+1+1,0,none⟩),U Z 0,.pointer (some ⟨j,0,none⟩),U Z sp,U Z no,.pointer none,.bool false,.pointer none,.bool false,.pointer none,.bool false,.pointer none,.bool false,.pointer none,.bool false,.pointer none,.bool false,.pointer none,.bool false,.pointer none,.bool false,.pointer none,.bool false,.pointer none,.bool false,.pointer none,.bool false,.pointer none,.bool false,.pointer none,.bool false,.pointer none,.bool false,.pointer none,.bool false,.pointer none,.bool false,.bool false] 105)) w2.heap.size (w1.heap.size+1+1) ts0.bt j sp no (fun _=>Value.pointer none) (fun _=>false) false):=hd_ (af rfl);replace HS:=hd_ (HS.out.keep hc);replace HJB:=hd_ (HJB.out.chg hc id);replace HLL:=hd_ (HLL.out.chg hc (fun _ _=>id));replace HF1:=hd_ (HF1.out.chg hc id (fun _ _=>id));replace HX1:=hd_ (HX1.out.trans hc (fun _ _ e=>False.elim e));clear hc;generalize w2.alloc (.cells #[.pointer (some ⟨w1.heap.size+1+1,0,none⟩),U Z 0,.pointer (some ⟨j,0,none⟩),U Z sp,U Z no,.pointer none,.bool false,.pointer none,.bool false,.pointer none,.bool false,.pointer none,.bool false,.pointer none,.bool false,.pointer none,.bool false,.pointer none,.bool false,.pointer none,.bool false,.pointer none,.bool false,.pointer none,.bool false,.pointer none,.bool false,.pointer none,.bool false,.pointer none,.bool false,.pointer none,.bool false,.pointer none,.bool false,.pointer none,.bool false,.bool false] 105)=w3 at*;generalize hcc:w2.heap.size=cq at HC⊢;have HCW:Hid (w1.heap.size≤cq):=hd_ (by have:=HW12.out;omega);clear hcc;have hmf:∀(fn:Fn) (first cap:Array Value) (w:World),(Instr.makeFunc fn first cap).run Tryz.prog w=.ok (.func fn first cap) w:=fun _ _ _ _=>rfl;have HCO:=hd_ (lB (t:=ts0) HS.out HC.out LA lm lc (aq bs) _ HLL.out (fun k hk e=>by have h1:=HCW.out;omega) HBK.out (by have h1:=HLM.out;have h2:=(fI _ bs (zG _)).2.1;have h3:=qH bs;have h4:=HB.out;have h5:=HM.out;omega));go_wp2_with fail;refine HCO.out.mono ?_;rintro e w4 ⟨br4,rfl,hs,hc,hx⟩;have hlt:=HS.out.lt3;have hbp:=HS.out.bp;have hbbc:=HS.out.bbc;have HS4:=hd_ hs;have HC4:=hd_ hc;have hjl:=HJB.out.lt
  have hne:¬(j=cq∨j=w1.heap.size+1+1∨j=w1.heap.size):=by
   rintro(e|e|e)
   ·exact gR (show Blk w3 cq _ _ from HC.out) HJB.out (by decide) e.symm
   ·exact(HS.out.apart HJB.out (by decide)).1 e
   ·exact(HS.out.apart HJB.out (by decide)).2.1 e
  have hfc:=gh HF1.out (show Blk w3 cq _ _ from HC.out) (by decide) (by decide);have hfs:=gh HF1.out HS.out.blk (by decide) (by decide)
  have hfx:¬(pf=cq∨pf=w1.heap.size+1+1∨pf=w1.heap.size)∧∀k,o=some k→¬(k=cq∨k=w1.heap.size+1+1∨k=w1.heap.size):=by
   obtain⟨A,fc,hfl⟩:=HF1.out;have h7:=HS.out.apart hfl.blk (by decide);refine⟨?_,fun k hk=>?_⟩
   ·rintro(e|e|e)
    ·exact hfc.1 e.symm
    ·exact h7.1 e
    ·exact h7.2.1 e
   ·rintro(e|e|e)
    ·exact hfc.2 (by rw[←e];exact hk)
    ·exact hfs.2 (by rw[←e];exact hk)
    ·obtain⟨es,clock,hb,_⟩:=HS.out.ch;have h:=gK hfl.own (k:=w1.heap.size) (by rw[hfl.at_,←e];exact hk) hb;cases h
  replace HJB:=hd_ (HJB.out.chg hx hne);replace HF1:=hd_ (HF1.out.chg hx hfx.1 hfx.2);have hX4:Chg (fun k=>¬G k) W w4:=HX1.out.trans hx (fun i hi e=>by exfalso;have h1:=HCW.out;have h2:=HW13.out;omega);have HX4:=hd_ hX4;have HBR:=hd_ hs.bbr;clear hs hc hx hlt hbp hbbc hjl hne hfc hfs hfx hX4 HCO HS HC HX1 HLL
  cases hrep:(bg ts0 (aq bs)).1 with
  |true=>
   have HE:=hd_ (HE0.out.trans (if_pos hrep));clear hrep;go_wp2_with fail;go_ret2;exact⟨none,by rw[HE.out];rfl,fun e=>absurd (HE.out.symm.trans e) (by decide),fun _=>⟨rfl,by rw[HF.out,HG.out];exact⟨HX4.out,HPW.out,o,HF1.out,HO.out⟩⟩⟩
  |false=>
   have HE:=hd_ (HE0.out.trans (if_neg (by rw[hrep];decide)));clear hrep HE0;have hkq:=sM (x:=aU bs sf rm sp no) HS4.out HC4.out HJB.out HF1.out;have hlab:=uT (c:=cq) (p:=w1.heap.size+1+1) (bc:=w1.heap.size) (br:=br4) (j:=j) (pf:=pf) (o:=o) (n:=W.heap.size) HGG.out (by have h1:=HCW.out;have h2:=HW13.out;omega) (by have h2:=HW13.out;omega) HW13.out (by have h2:=HW13.out;have h3:=HBR.out;omega) (by have h1:=HJW.out;have h2:=HW01.out;omega) HPW.out HO.out;have HLAB:=hd_ hlab;have hbt:=ka (aq bs) (t:=ts0) ⟨CJ 0,by show (0:Int)<1099511627776;decide⟩;have HST:=hd_ (n9 (P:=fun _=>0) hkq (j_ _ nk) (zH (ic bs) HB.out) HM.out ⟨hbt.1,by have h:(aU bs sf rm sp no).t.bt<1099511627776:=hbt.2;omega⟩);generalize jf cq (w1.heap.size+1+1) w1.heap.size br4 j pf o=lab at*;clear hkq hlab hbt HS4 HC4 HJB HF1;have HKE:Hid (bz bs sf rm sp no=cW (cG (aU bs sf rm sp no))):=hd_ rfl;have HOB:Hid ((aU bs sf rm sp no).bs=an (aq bs)∧(aU bs sf rm sp no).sf=opS bs sf∧(aU bs sf rm sp no).rm=rm):=hd_ ⟨rfl,rfl,rfl⟩;unfold vu at HST;generalize aU bs sf rm sp no=x at*;generalize dX x=sx at*;go_wp2_with fail;refine HST.out.mono ?_;rintro e w5 ⟨ps5,lab5,rfl,hm5,hok,hno⟩;have HM5:=hd_ hm5;have HOK:=hd_ hok;have HNO:=hd_ hno;clear hm5 hok hno HST;by_cases hsx:sx=0
   case neg=>
    have te:(sx !=0)=true:=by simpa using hsx
    have HDF:=hd_ (KQ.file17 HGG.out (HNO.out hsx) HX4.out HLAB.out HM5.out (by decide));have HSN:=hd_ hsx;clear hsx;go_wp2_with fail;go_ret2;exact⟨none,by rw[HE.out];rfl,fun e=>absurd (HE.out.symm.trans e) HSN.out,fun _=>⟨rfl,by rw[HF.out,HG.out,←HOB.out.1,←HOB.out.2.1,←HOB.out.2.2];exact HDF.out⟩⟩
   case pos=>
    obtain⟨P,hkp⟩:=HOK.out hsx;have hko:=HSO.out hsx;have HEX:=hd_ (jc hkp hko);have HKO:=hd_ hko.exp;subst hsx;clear hkp hko HOK HNO;go_wp2_with fail;refine HEX.out.mono ?_;rintro e w6 ⟨rfl,ps6,lab6,hk6,hm6⟩;have HLV:=hd_ (fv HGG.out HX4.out HLAB.out hk6 ((HM5.out.mono (fun n e=>by omega)).trans hm6));clear hk6 hm6 HEX;go_wp2_with fail;go_ret2;exact⟨some ⟨cq,0,none⟩,by rw[HE.out];rfl,fun _=>⟨cq,rfl,by rw[HKE.out];exact HLV.out,by rw[HKE.out];exact HKO.out⟩,fun e=>absurd HE.out e⟩
theorem n_{w:World}{lab:Nat→Nat}{c ps pj pf:Nat}{P:Nat→Nat}{x:KV}(h:KP w lab c ps pj pf P x):Calls Tryz.prog 21 #[.pointer (some ⟨c,0,none⟩)] w (t_ 60 9 RV.cs (aO x.t.R) w):=by
 obtain⟨c0,-,-,-,-⟩:=h.q.cb.hd;obtain⟨B,bc,br,hs,-,-,-⟩:=h.q.sr;have HR:=hd_ (eJ hs);clear hs h;go_in;go_wp2_with fail;refine HR.out.mono ?_;rintro e w1 ⟨A,n,lc,rfl,hn,ho,hc⟩;have HN:=hd_ hn;clear hn;go_wp2_with fail;go_ret;exact⟨A,n,lc,rfl,HN.out,ho,hc⟩
theorem oa{w:World}{lab:Nat→Nat}{c ps pj pf:Nat}{P:Nat→Nat}{x:KV}(h:KP w lab c ps pj pf P x):Calls Tryz.prog 22 #[.pointer (some ⟨c,0,none⟩)] w (lh (bw x.t.C) w):=by
 obtain⟨c0,-,-,-,-⟩:=h.q.cb.hd;obtain⟨B,bc,br,hs,-,-,-⟩:=h.q.sr;have HR:=hd_ (iV hs);clear hs h;go_in;go_wp2_with fail;refine HR.out.mono ?_;rintro e w1 ⟨A,n,lc,rfl,hn,ho,hc⟩;have HN:=hd_ hn;clear hn;go_wp2_with fail;go_ret;exact⟨A,n,lc,rfl,HN.out,ho,hc⟩
theorem ob{w:World}{lab:Nat→Nat}{c ps pj pf:Nat}{P:Nat→Nat}{x:KV}(h:KP w lab c ps pj pf P x):Calls Tryz.prog 28 #[.pointer (some ⟨c,0,none⟩)] w fun e w'=>e=.returned (U Z x.t.bt)∧w=w':=by
 obtain⟨-,c1,-,-,-⟩:=h.q.cb.hd;clear h;generalize x.t.bt=bt at*;go_in;go_wp2_with fail;go_ret;exact⟨rfl,rfl⟩
end Go.Proofs.YtnojmbejedlilaaGreat
