/-
  Files that lie in memory: a block of a slice and two numbers. Walks: bytes.Clone, disk.New, (*disk.File).stay, Sync, Safe, Bytes. Conditions: the receiver is a file in memory, its bytes are bounded.
-/
import Derived.Test.YtnojmbejedlilaaGreatRows
import Derived.Test.YtnojmbejedlilaaGreatKQM1
import Derived.WalkKit
import Derived.WalkSpells
import Derived.WalkLawsBesides
import Derived.Lib.Hide
import Derived.Lib.SmallJoins
import Derived.RegionTactic
import Derived.ChangeAlike
import Derived.Deep.RegionHeld3
import Derived.Deep.RegionLaw
import Derived.Deep.RegionWith
import Derived.Deep.LoopGhost
import Derived.Deep.DeepCutAuto
import Derived.BigQuiet
import Derived.Outline
import Derived.IntWalk
set_option maxRecDepth 100000
set_option maxHeartbeats 40000000
set_option linter.unusedVariables false
set_option linter.unusedSimpArgs false
section
namespace Go.Proofs.YtnojmbejedlilaaGreat
open Go.Value renaming ownBlock→zX,slice→zW
open List renaming getElem?_toArray→Ap,getElem?_cons_zero→Aq,length_take→zN,length_append→zY
open Go.World renaming ownsRow_nil→As
open Go.Value renaming int→U
open Go.IntKind renaming i64→Z
open Go.RowKit
theorem lL:(Tryz.prog.info? 5).map (fun i=>(i.zero,i.size,i.bytes))=some (some (U .u8 0),1,1):=by kernel_rfl
structure Fl(T:TypeId)(w:World)(p:Nat)(o:Option Nat)(bs:List UInt8)(s r:Nat)(A:Option Addr)(c:Nat):Prop where
 blk:Blk w p T #[.slice A bs.length c,U Z (s:Int),U Z (r:Int)]
 own:w.ownsRow 0 5 1 (.slice A bs.length c) bs.length (bcs bs)
 at_:A.map (·.block)=o
 ne:o≠some p
def Fi(T:TypeId)(w:World)(p:Nat)(o:Option Nat)(bs:List UInt8)(s r:Nat):Prop:=∃A c,Fl T w p o bs s r A c
section
variable {S : Nat → Prop} {T : TypeId} {w w' : World} {p : Nat} {o : Option Nat} {bs : List UInt8} {s r : Nat} {A : Option Addr} {c : Nat}
theorem Fl.chg(h:Fl T w p o bs s r A c)(hc:Chg S w w')(hp:¬S p)(ho:∀k,o=some k→¬S k):Fl T w' p o bs s r A c:=
 ⟨h.blk.chg hc hp,ay h.own hc (by rw[h.at_];exact ho),h.at_,h.ne⟩
theorem Fi.chg(h:Fi T w p o bs s r)(hc:Chg S w w')(hp:¬S p)(ho:∀k,o=some k→¬S k):Fi T w' p o bs s r:=by
 obtain⟨A,c,h⟩:=h;exact⟨A,c,h.chg hc hp ho⟩
theorem Fi.lt(h:Fi T w p o bs s r):p<w.heap.size∧∀k,o=some k→k<w.heap.size:=by
 obtain⟨A,c,h⟩:=h;refine⟨h.blk.lt,fun k hk=>?_⟩;have ho:=h.at_;rw[hk]at ho;have:=h.own.lt k (by cases A<;>simp_all [zX]);exact this.2
theorem Fl.cells(h:Fl T w p o bs s r A c):w.cell? ⟨p,0,none⟩=some (.slice A bs.length c)∧w.cell? ⟨p,1,none⟩=some (U Z (s:Int))∧w.cell? ⟨p,2,none⟩=some (U Z (r:Int))∧
  w.frozen? ⟨p,0,none⟩=false∧w.frozen? ⟨p,1,none⟩=false∧w.frozen? ⟨p,2,none⟩=false:=by
 have x0:=h.blk.cell 0;have x1:=h.blk.cell 1;have x2:=h.blk.cell 2;simp only[Ap,Aq,List.getElem?_cons_succ]at x0 x1 x2;exact⟨x0,x1,x2,h.blk.frozen 0,h.blk.frozen 1,h.blk.frozen 2⟩
theorem Fl.rds(h:Fl T w p o bs s r A c):Rds w (fun k=>o=some k) A bs.length (bcs bs):=by
 have:=d5 h.own;rw[h.at_]at this;exact this
end
theorem wa{w:World}{base:Nat}{e:TypeId}{n c k:Nat}{A:Option Addr}{xs:List Value}(h:w.ownsRow base e 1 (.slice A n c) n xs)(hk:k≤n):w.ownsRow base e 1 (.slice A k c) k (xs.take k):=by
 have hl:=h.1;refine⟨by rw[zN];omega,?_⟩;rcases h.2 with⟨hv,rfl⟩|⟨g,cap,cur,hv,hg,hh,h1,h2,h3,h4⟩
 ·obtain rfl:k=0:=by omega
  exact .inl ⟨hv,rfl⟩
 ·injection hv with hA hn hc;subst hA;subst hc;refine .inr ⟨g,c,cur,rfl,hg,hh,by omega,h2,h3,?_⟩;rw[←h4,List.take_take];congr 1;omega
theorem rE(l:List UInt8)(k:Nat):bcs (l.take k)=(bcs l).take k:=by simp[bcs]
theorem xp{T:TypeId}{w:World}{p:Nat}{o:Option Nat}{bs:List UInt8}{s r:Nat}{A:Option Addr}{c k:Nat}(h:Fl T w p o bs s r A c)(hk:k≤bs.length):
  Fl T ((w.setCell ⟨p,0,none⟩ (.slice A k c)).setCell ⟨p,1,none⟩ (U Z (k:Int))) p o (bs.take k) k r A c∧
   Chg (fun j=>j=p) w ((w.setCell ⟨p,0,none⟩ (.slice A k c)).setCell ⟨p,1,none⟩ (U Z (k:Int))):=by
 have hc:Chg (fun j=>j=p) w ((w.setCell ⟨p,0,none⟩ (.slice A k c)).setCell ⟨p,1,none⟩ (U Z (k:Int))):=((Chg.refl (fun j=>j=p) w).put p 0 (fun _=>rfl) _).put p 1 (fun _=>rfl) _
 have hlen:(bs.take k).length=k:=by rw[zN];omega
 refine⟨⟨?_,?_,h.at_,h.ne⟩,hc⟩
 ·have:=(h.blk.set 0 (.slice A k c)).set 1 (U Z (k:Int));rw[hlen];exact this
 ·rw[hlen,rE];refine ay (wa h.own hk) hc (fun j hj e=>?_);subst e;rw[h.at_]at hj;exact h.ne hj
theorem we{T:TypeId}{w:World}{p:Nat}{o:Option Nat}{bs:List UInt8}{s r:Nat}{A:Option Addr}{c k:Nat}(h:Fl T w p o bs s r A c):
  Fl T (w.setCell ⟨p,1,none⟩ (U Z (k:Int))) p o bs k r A c∧Chg (fun j=>j=p) w (w.setCell ⟨p,1,none⟩ (U Z (k:Int))):=by
 have hc:Chg (fun j=>j=p) w (w.setCell ⟨p,1,none⟩ (U Z (k:Int))):=(Chg.refl (fun j=>j=p) w).put p 1 (fun _=>rfl) _;refine⟨⟨h.blk.set 1 (U Z (k:Int)),ay h.own hc (fun j hj e=>?_),h.at_,h.ne⟩,hc⟩;subst e;rw[h.at_]at hj;exact h.ne hj
theorem uf{T:TypeId}{w0 w1 w':World}{p:Nat}{o:Option Nat}{bs:List UInt8}{s r:Nat}{A A3:Option Addr}{c c3 k:Nat}{xs:List Value}(hob:Fl T w0 p o bs s r A c)
  (hc:Chg (fun _=>False) w0 w1) (new:List UInt8) (hx:xs=bcs new) (hk:k=new.length) (hown:w'.ownsRow 0 5 1 (.slice A3 (bs.length+k) c3) (bs.length+k) (bcs bs++xs))
  (hg:w1.grownBy w' (zW A bs.length c).ownBlock)
  (hat:(zW A3 (bs.length+k) c3).ownBlock=(zW A bs.length c).ownBlock∨(zW A3 (bs.length+k) c3).ownBlock=some w1.heap.size):
  Fl T (w'.setCell ⟨p,0,none⟩ (.slice A3 (bs.length+k) c3)) p (A3.map (·.block)) (bs++new) s r A3 c3∧Mvd p o (A3.map (·.block)) w0 (w'.setCell ⟨p,0,none⟩ (.slice A3 (bs.length+k) c3)):=by
 subst hx;subst hk;rw[aG,aG,hob.at_]at hat;rw[aG,hob.at_]at hg;have hb1:=hob.blk.chg hc id;have hb2:=ct hb1 hg hob.ne;have hlt:=hob.blk.lt
 have hne:A3.map (·.block)≠some p:=by
  rcases hat with h|h
  ·rw[h];exact hob.ne
  ·rw[h];have:=hc.size;intro e;injection e with e;omega
 have hc2:Chg (fun k=>k=p∨o=some k) w0 (w'.setCell ⟨p,0,none⟩ (.slice A3 (bs.length+new.length) c3)):=
  ((hc.mono (fun _ _ h=>h.elim)).grown hg (fun k hk _=>.inr hk)).put p 0 (fun _=>.inl rfl) _
 refine⟨⟨?_,?_,rfl,hne⟩,hc2,?_⟩
 ·have:=hb2.set 0 (.slice A3 (bs.length+new.length) c3);rw[zY];exact this
 ·rw[zY,jo];exact ay hown ((Chg.refl (fun k=>k=p) w').put p 0 (fun _=>rfl) _) (fun k hk e=>by subst e;exact hne hk)
 ·rcases hat with h|h
  ·exact .inl h
  ·exact .inr (.inr ⟨_,h,hc.size⟩)
theorem li{p:Nat}{o:Option Nat}{w w':World}(h:Chg (fun j=>j=p) w w'):Mvd p o o w w':=⟨h.mono fun _ _ e=>.inl e,.inl rfl⟩
theorem pM(w:World):Calls Tryz.prog 48 #[.slice none 0 0] w fun e w'=>e=.returned (.slice none 0 0)∧w=w':=by
 have he:=fun W:World=>Lib.run_eql_slice_nil (P:=Tryz.prog) W 23 5 none 0 0 0 0 Tryz.underlying23;go_in
 go_wp2
 go_ret;exact⟨rfl,rfl⟩
theorem nH(a:Addr)(n c:Nat)(bs:List UInt8)(S:Nat→Prop)(w:World)(hn:n=bs.length)(h:Rds w S (some a) n (bcs bs))(hbig:n≤140737488355328):
  Calls Tryz.prog 48 #[.slice (some a) n c] w fun e w'=>∃A' c',e=.returned (.slice A' n c')∧
   w'.ownsRow w.heap.size 5 1 (.slice A' n c') n (bcs bs)∧Chg (fun _=>False) w w':=by
 obtain⟨i0,hi0,hz0,hz1,hz2⟩:=info_parts lL;have HN:=hd_ hn;clear hn;have he:=fun W:World=>Lib.run_eql_slice_nil (P:=Tryz.prog) W 23 5 (some a) n c 0 0 Tryz.underlying23;go_in;have hmade:=World.ownsRow_made (e:=5) (size:=1) w #[] 0 (Nat.le_refl _) (by decide) rfl;go_wp2_with (at_builtin;refine aN _ rfl (.tmp 5) (.tmp 6) 23 rfl w.heap.size 5 i0 (U .u8 0) 1 Tryz.underlying23 hi0 hz0 hz1 hz2 rfl (.slice (some ⟨w.heap.size,0,none⟩) 0 0) 0 [] rfl hmade S (some a) n c (bcs bs) rfl (h.alloc _) (dv bs) (by unfold maxLen;omega) (by omega) (by simp) ?_;intro v' w' hown' hg hat;obtain⟨A3,c3,rfl,_,_⟩:=aV hown');go_ret;refine⟨A3,c3,by simp,by simpa using hown',?_⟩;exact((Chg.refl _ w).alloc _).grown hg (fun k hk hlt=>by simp only[zX,Option.some.injEq]at hk;subst hk;exact absurd hlt (Nat.lt_irrefl _))
theorem pN (A : Option Addr) (n c : Nat) (bs : List UInt8) (S : Nat → Prop) (w : World) (hn : n = bs.length) (h : Rds w S A n (bcs bs)) (hz : A = none → c = 0) (hbig : n ≤ 140737488355328) :
    Calls Tryz.prog 48 #[.slice A n c] w fun e w' => ∃ A' c', e = .returned (.slice A' n c') ∧
      w'.ownsRow w.heap.size 5 1 (.slice A' n c') n (bcs bs) ∧ Chg (fun _ => False) w w' := by
  rcases A with _ | a
  · have h0 : n = 0 := by
      rcases Nat.eq_zero_or_pos n with h0 | h0
      · exact h0
      · obtain ⟨ad, e, _⟩ := h.2 h0
        cases e
    have hc := hz rfl
    subst hc
    subst h0
    have hb : bs = [] := List.eq_nil_of_length_eq_zero hn.symm
    subst hb
    refine (pM w).mono ?_
    rintro e w' ⟨rfl, rfl⟩
    exact ⟨none, 0, rfl, As w _ _ _, Chg.refl _ _⟩
  · exact nH a n c bs S w hn h hbig
theorem wg (r : Nat) (w : World) (h : r ≤ 16777216) : Calls Tryz.prog 8 #[.int .i64 (r : Int)] w fun e w' => e = .returned (.tuple #[.pointer (some ⟨w.heap.size, 0, none⟩), .int .i64 0]) ∧
      Fi 80 w' w.heap.size none [] 0 r ∧ w'.heap.size = w.heap.size + 1 ∧ Chg (fun _ => False) w w' := by
  go_in
  go_wp2
  go_ret2
  refine ⟨rfl, ⟨none, 0, ?_, As _ 0 _ 1, rfl, by simp⟩, by simp, (Chg.refl _ w).alloc _⟩
  exact af rfl
theorem vi(p:Nat)(o:Option Nat)(bs:List UInt8)(s r k:Nat)(w:World)(h:Fi 80 w p o bs s r)(hk:k≤bs.length):
  Calls Tryz.prog 62 #[.pointer (some ⟨p,0,none⟩),U Z (k:Int)] w fun e w'=>e=.returned (.tuple #[])∧Fi 80 w' p o (bs.take k) k r∧Mvd p o o w w':=by
 obtain⟨A,c,h⟩:=h;obtain⟨x0,x1,x2,f0,f1,f2⟩:=h.cells;have HH:=hd_ h;have hcap:=oq h.own;have hm:=hcap.2;unfold maxLen at hm;clear h;go_in
 go_wp2
 go_end0
 obtain⟨h1,h2⟩:=xp HH.out hk;exact⟨rfl,⟨A,c,h1⟩,li h2⟩
def ll(r:Nat)(bs b:List UInt8):Int:=if r<bs.length+b.length then 3 else 0
def iW(r:Nat)(bs b:List UInt8):List UInt8:=if r<bs.length+b.length then bs else bs++b
def pO(bs:List UInt8)(n:Int):Int:=if n<0∨(bs.length:Int)<n then 1 else 0
def pP(bs:List UInt8)(n:Int):List UInt8:=if n<0∨(bs.length:Int)<n then bs else bs.take n.toNat
def pQ(bs:List UInt8)(s:Nat)(n:Int):Nat:=if n<0∨(bs.length:Int)<n then s else n.toNat
def crN(bs:List UInt8)(s:Nat)(keep:Int):Nat:=s+min keep.toNat (bs.length-s)
theorem ug(p:Nat)(o:Option Nat)(bs b:List UInt8)(s r q c':Nat)(B:Option Addr)(S:Nat→Prop)(w:World)(h:Fi 80 w p o bs s r)(hq:q=b.length)(hr:Rds w S B q (bcs b))
  (hbr:bs.length≤r) (hr24:r≤16777216) (hqm:q≤9223372036854775807):
  Calls Tryz.prog 9 #[.pointer (some ⟨p,0,none⟩),.slice B q c'] w fun e w'=>e=.returned (U Z (ll r bs b))∧∃o',Fi 80 w' p o' (iW r bs b) s r∧Mvd p o o' w w':=by
 obtain⟨i0,hi0,hz0,hz1,hz2⟩:=info_parts lL;obtain⟨A,c,h⟩:=h;obtain⟨x0,x1,x2,f0,f1,f2⟩:=h.cells;have hown:=h.own
 have hne2:(zW A bs.length c).ownBlock≠some p:=by rw[aG,h.at_];exact h.ne
 have hb1:=h.blk;have HH:=hd_ h;have HN:=hd_ hq;unfold ll iW;by_cases hf:r<bs.length+b.length
 ·rw[if_pos hf,if_pos hf]
  have hf':(r:Int)-(bs.length:Int)<(q:Int):=by omega
  clear h hq hown hne2 hb1 hf;go_in;go_wp2_with fail
  go_region
  all_goals
   go_wp2_with fail;go_ret;exact⟨rfl,o,⟨A,c,HH.out.chg (Chg.refl (fun _=>False) w).drew id (fun _ _=>id)⟩,li ((Chg.refl _ w).drew)⟩
 ·rw[if_neg hf,if_neg hf]
  have hf':¬(r:Int)-(bs.length:Int)<(q:Int):=by omega
  have hq24:q≤16777216:=by omega
  have hownd:w.drew.ownsRow 0 5 1 (.slice A bs.length c) bs.length (bcs bs):=hown;clear h hq hf;go_in;go_wp2_with fail
  go_region
  all_goals
   go_wp2_with (at_builtin;refine aN _ rfl (.tmp 24) (.tmp 25) 23 rfl 0 5 i0 (U .u8 0) 1 Tryz.underlying23 hi0 hz0 hz1 hz2 rfl (.slice A bs.length c) bs.length (bcs bs) rfl hownd S B q c' (bcs b) rfl hr.drew (dv b) (by unfold maxLen;omega) (by omega) (Nat.zero_le _) ?_;intro v' w' hown' hgrow hat;obtain⟨A3,c3,rfl,_,_⟩:=aV hown';have hb3:=ct hb1.drew hgrow hne2;have z0:=hb3.cell 0;have z1:=hb3.frozen 0;simp only[Ap,Aq]at z0);go_ret;obtain⟨h3,m3⟩:=uf HH.out (Chg.refl _ w).drew b rfl HN.out hown' hgrow hat;exact⟨rfl,_,⟨A3,c3,h3⟩,m3⟩
theorem rF(p:Nat)(o:Option Nat)(bs:List UInt8)(s r:Nat)(w:World)(h:Fi 80 w p o bs s r):
  Calls Tryz.prog 11 #[.pointer (some ⟨p,0,none⟩)] w fun e w'=>e=.returned (U Z (bs.length:Int))∧Fi 80 w' p o bs bs.length r∧Mvd p o o w w':=by
 obtain⟨A,c,h⟩:=h;obtain⟨x0,x1,x2,f0,f1,f2⟩:=h.cells;have HH:=hd_ h;clear h;go_in
 go_wp2
 go_ret;obtain⟨h1,h2⟩:=we (k:=bs.length) HH.out;exact⟨rfl,⟨A,c,h1⟩,li h2⟩
theorem pR(p:Nat)(o:Option Nat)(bs:List UInt8)(s r:Nat)(w:World)(h:Fi 80 w p o bs s r)(hbr:bs.length≤r)(hr24:r≤16777216):
  Calls Tryz.prog 16 #[.pointer (some ⟨p,0,none⟩)] w fun e w'=>∃A' c',e=.returned (.slice A' bs.length c')∧
   w'.ownsRow w.heap.size 5 1 (.slice A' bs.length c') bs.length (bcs bs)∧Chg (fun _=>False) w w':=by
 obtain⟨A,c,h⟩:=h;obtain⟨x0,x1,x2,f0,f1,f2⟩:=h.cells;have HC:=hd_ (pN A bs.length c bs _ w rfl h.rds (d7 h.own) (by omega));clear h;go_in;go_wp2_with fail;refine HC.out.mono ?_;rintro e w1 ⟨A1,c1,rfl,hown,hc⟩;go_wp2_with fail;go_ret;exact⟨A1,c1,rfl,hown,hc⟩
theorem uh(p:Nat)(o:Option Nat)(bs:List UInt8)(s r:Nat)(n:Int)(w:World)(h:Fi 80 w p o bs s r)(hbr:bs.length≤r)(hr24:r≤16777216):
  Calls Tryz.prog 98 #[.pointer (some ⟨p,0,none⟩),U Z n] w fun e w'=>e=.returned (U Z (pO bs n))∧Fi 80 w' p o (pP bs n) (pQ bs s n) r∧Mvd p o o w w':=by
 unfold pO pP pQ;by_cases hn:n<0
 ·have hor:n<0∨(bs.length:Int)<n:=.inl hn;rw[if_pos hor,if_pos hor,if_pos hor];have HH:=hd_ h;obtain⟨A,c,h⟩:=h;obtain⟨x0,x1,x2,f0,f1,f2⟩:=h.cells;clear h hor;go_in;go_wp2_with fail;go_ret;exact⟨rfl,HH.out,Mvd.refl _ _ _⟩
 ·by_cases hb:(bs.length:Int)<n
  ·have hor:n<0∨(bs.length:Int)<n:=.inr hb;rw[if_pos hor,if_pos hor,if_pos hor];have HH:=hd_ h;obtain⟨A,c,h⟩:=h;obtain⟨x0,x1,x2,f0,f1,f2⟩:=h.cells;clear h hor;go_in;go_wp2_with fail;go_ret;exact⟨rfl,HH.out,Mvd.refl _ _ _⟩
  ·rw[if_neg (by omega),if_neg (by omega),if_neg (by omega)];obtain⟨k,rfl⟩:=Int.eq_ofNat_of_zero_le (show 0≤n by omega);have HS:=hd_ (vi p o bs s r k w h (by omega));obtain⟨A,c,h⟩:=h;obtain⟨x0,x1,x2,f0,f1,f2⟩:=h.cells;clear h;go_in;go_wp2_with fail;refine HS.out.mono ?_;rintro e w1 ⟨rfl,hf,hm⟩;go_wp2_with fail;go_ret;exact⟨rfl,hf,hm⟩
theorem pS (p : Nat) (o : Option Nat) (bs : List UInt8) (s r : Nat) (keep : Int) (w : World) (h : Fi 80 w p o bs s r) (hs : s ≤ bs.length) (hbr : bs.length ≤ r) (hr24 : r ≤ 16777216) :
    Calls Tryz.prog 25 #[.pointer (some ⟨p, 0, none⟩), .int .i64 keep] w fun e w' => e = .returned (.int .i64 ((bs.length : Int) - (crN bs s keep : Int))) ∧
      Fi 80 w' p o (bs.take (crN bs s keep)) (crN bs s keep) r ∧ Mvd p o o w w' := by
  have hk : ∃ k : Nat, crN bs s keep = s + k ∧ s + k ≤ bs.length ∧ ((keep ≤ 0 ∧ k = 0) ∨ (0 < keep ∧ keep ≤ (bs.length : Int) - s ∧ keep = (k : Int)) ∨ (0 < keep ∧ (bs.length : Int) - s < keep ∧ k = bs.length - s)) :=
    ⟨min keep.toNat (bs.length - s), rfl, by omega, by omega⟩
  obtain ⟨k, hk1, hk2, hk3⟩ := hk
  rw [hk1]
  have HS := Lib.hid (fun (z : Int) (hz : z = ((s + k : Nat) : Int)) (W : World) (hw : Chg (fun _ => False) w W) => (show Calls Tryz.prog 62 #[.pointer (some ⟨p, 0, none⟩), .int .i64 z] W fun e w' => e = .returned (.tuple #[]) ∧ Fi 80 w' p o (bs.take (s + k)) (s + k) r ∧ Mvd p o o W w' from hz ▸ vi p o bs s r (s + k) W (h.chg hw id (fun _ _ => id)) hk2))
  obtain ⟨A, c, h⟩ := h
  obtain ⟨x0, x1, x2, f0, f1, f2⟩ := h.cells
  have e1 : IntKind.i64.wrap ((bs.length : Int) - (s : Int)) = (bs.length : Int) - (s : Int) := IntWalk.i64_in _ (by omega)
  have HX := Lib.hid (Chg.refl (fun _ => False) w).drew
  have hz : ∀ z : Int, z = (bs.length : Int) - ((s + k : Nat) : Int) → Ending.returned (.int .i64 z) = .returned (.int .i64 ((bs.length : Int) - ((s + k : Nat) : Int))) := fun z hz => by rw [hz]
  have HZ := Lib.hid hz
  clear h hk1 hz
  rcases hk3 with ⟨h1, h2⟩ | ⟨h1, h2, h3⟩ | ⟨h1, h2, h3⟩
  all_goals
    go_in
    go_wp2_with fail
    go_region
    all_goals
      go_wp2_with fail
      all_goals first
        | (exfalso; omega)
        | (refine (HS.out _ (by omega) _ HX.out).mono ?_
           rintro e w1 ⟨rfl, hf, hm⟩
           go_wp2_with fail
           go_ret
           exact ⟨HZ.out _ (by omega), hf, Mvd.pre HX.out hm⟩)
structure DF(W:World)(p q:Nat)(bs:List UInt8)(s:Nat)(bs':List UInt8)(s':Nat)(r:Nat)(o1 o2:Option Nat)(w:World):Prop where
 chg:Chg (fun _=>False) W w
 lo1:W.heap.size≤p
 lo2:W.heap.size≤q
 f1:Fi 80 w p o1 bs s r
 f2:Fi 33 w q o2 bs' s' r
 ol1:∀k,o1=some k→W.heap.size≤k∧k≠q
 ol2:∀k,o2=some k→W.heap.size≤k∧k≠p
 ne:p≠q
 neo:∀k,o1=some k→o2≠some k
section
variable {W w w' : World} {p q : Nat} {bs bs' bs1 : List UInt8} {s s' s1 r : Nat} {o1 o2 o' : Option Nat}
theorem DF.new(h:DF W p q bs s bs' s' r o1 o2 w)(hc:Chg (fun _=>False) w w'):DF W p q bs s bs' s' r o1 o2 w':=
 ⟨h.chg.tr hc,h.lo1,h.lo2,h.f1.chg hc id (fun _ _=>id),h.f2.chg hc id (fun _ _=>id),h.ol1,h.ol2,h.ne,h.neo⟩
end
end Go.Proofs.YtnojmbejedlilaaGreat
end
