/-
  Acts on a controller in memory; acts that came in, opened. No condition.
-/
import Derived.Test.YtnojmbejedlilaaGreatQCy
import Derived.Test.YtnojmbejedlilaaGreatQM1
import Derived.ProofKit
import Derived.OpenShut
import Derived.ChangeOld
import Derived.Lib.SmallJoins
set_option maxRecDepth 100000
set_option maxHeartbeats 40000000
set_option linter.unusedVariables false
set_option linter.unusedSimpArgs false
namespace Go.Proofs.YtnojmbejedlilaaGreat
open Go.Value (int)
open Go.IntKind (i64)
open Go.RowKit Go.ChangeShapes
structure At17 where
 k : Int
 op : Int
 po : Int
 ch : Int
 ma : Int
 who : Int
 now : Int
 keep : Int
 BA : Option Addr
 bn : Nat
 bc : Nat
 b : List UInt8
def At17.cs (x : At17) : Array Value:=#[int .u8 x.k,int i64 x.op,int i64 x.po,int i64 x.ch,int .u64 x.ma,int i64 x.who,int i64 x.now,int i64 x.keep, .slice x.BA x.bn x.bc]
def Bs17 (w : World) (A : Option Addr) (n c : Nat) (b : List UInt8) : Prop:=(A = none → c = 0) ∧ n = b.length ∧ n ≤ 9223372036854775807 ∧ Rds w (fun _=>True) A n (bcs b)
theorem Bs17.chg {w w' : World} {A : Option Addr} {n c : Nat} {b : List UInt8} (h : Bs17 w A n c b) (hc : Chg (fun _=>False) w w') : Bs17 w' A n c b:=⟨h.1,h.2.1,h.2.2.1,h.2.2.2.chg hc (fun _ _=>id)⟩
def At17.is (x : At17) (w : World) : Prop:=(0 ≤ x.k ∧ x.k ≤ 255) ∧ 0 ≤ x.ma ∧ Bs17 w x.BA x.bn x.bc x.b
theorem At17.is_chg {w w' : World} {x : At17} (h : x.is w) (hc : Chg (fun _=>False) w w') : x.is w':=⟨h.1,h.2.1,h.2.2.chg hc⟩
def AR17 (w : World) (L : Option Addr) (m : Nat) (l : List At17) : Prop :=
 m = l.length ∧ (0 < m → ∃ ad,L = some ad ∧ ad.block < w.heap.size ∧ ∀ (i : Nat) (x : At17),l[i]? = some x → (∀ (j : Nat) (u : Value),x.cs[j]? = some u → w.cell? (ad.add (i * 9 + j)) = some u) ∧ x.is w)
theorem AR17.chg {w w' : World} {L : Option Addr} {m : Nat} {l : List At17} (h : AR17 w L m l) (hc : Chg (fun _=>False) w w') : AR17 w' L m l:=by
 refine ⟨h.1,fun hm => ?_⟩
 obtain ⟨ad,e,hb,hcell⟩:=h.2 hm
 refine ⟨ad,e,Nat.lt_of_lt_of_le hb hc.size,fun i x hi=>⟨fun j u hu => ?_,At17.is_chg (hcell i x hi).2 hc⟩⟩
 rw [← (hcell i x hi).1 j u hu]
 exact World.cell?_of_block (by rw [block_add]; exact hc.block _ hb id)
theorem AR17.at {w : World} {m : Nat} {l : List At17} {ad : Addr} {i : Nat} {x : At17} (h : AR17 w (some ad) m l) (hi : l[i]? = some x) : (w.cell? (ad.add (i * 9)) = some (int .u8 x.k) ∧ w.cell? ⟨(ad.add (i * 9)).block,(ad.add (i * 9)).off + 1,none⟩ = some (int i64 x.op) ∧ w.cell? ⟨(ad.add (i * 9)).block,(ad.add (i * 9)).off + 2,none⟩ = some (int i64 x.po) ∧ w.cell? ⟨(ad.add (i * 9)).block,(ad.add (i * 9)).off + 3,none⟩ = some (int i64 x.ch) ∧ w.cell? ⟨(ad.add (i * 9)).block,(ad.add (i * 9)).off + 4,none⟩ = some (int .u64 x.ma) ∧ w.cell? ⟨(ad.add (i * 9)).block,(ad.add (i * 9)).off + 5,none⟩ = some (int i64 x.who) ∧ w.cell? ⟨(ad.add (i * 9)).block,(ad.add (i * 9)).off + 6,none⟩ = some (int i64 x.now) ∧ w.cell? ⟨(ad.add (i * 9)).block,(ad.add (i * 9)).off + 7,none⟩ = some (int i64 x.keep) ∧ w.cell? ⟨(ad.add (i * 9)).block,(ad.add (i * 9)).off + 8,none⟩ = some (.slice x.BA x.bn x.bc)) ∧ x.is w:=by
 have hl : i < l.length:=(List.getElem?_eq_some_iff.1 hi).1
 obtain ⟨ad',e,_,hc⟩:=h.2 (by have:=h.1; omega)
 injection e with e
 subst e
 obtain ⟨h1,h2⟩:=hc i x hi
 have k : ∀ j u,x.cs[j]? = some u → w.cell? ((ad.add (i * 9)).add j) = some u:=fun j u hu=>by rw [off_add]; exact h1 j u hu
 exact ⟨⟨k 0 _ rfl,k 1 _ rfl,k 2 _ rfl,k 3 _ rfl,k 4 _ rfl,k 5 _ rfl,k 6 _ rfl,k 7 _ rfl,k 8 _ rfl⟩,h2⟩
theorem AR17.one {w : World} {m : Nat} {l : List At17} {ad : Addr} {i : Nat} {x : At17} (h : AR17 w (some ad) m l) (hi : l[i]? = some x) : AR17 w (some (ad.add (i * 9))) 1 [x]:=by
 have hl : i < l.length:=(List.getElem?_eq_some_iff.1 hi).1
 obtain ⟨ad',e,hb,hc⟩:=h.2 (by have:=h.1; omega)
 injection e with e
 subst e
 obtain ⟨h1,h2⟩:=hc i x hi
 refine ⟨rfl,fun _=>⟨ad.add (i * 9),rfl,by rw [block_add]; exact hb,fun j y hj => ?_⟩⟩
 match j,hj with
 | 0,hj =>
  injection hj with hj
  subst hj
  exact ⟨fun q u hu=>by rw [off_add,show i * 9 + (0 * 9 + q) = i * 9 + q by omega]; exact h1 q u hu,h2⟩
theorem row_caps17 {k : IntKind} {w : World} {a : Option Addr} {len cap : Nat} {zs : List Int} (h : IsRow k w a len cap zs) : len ≤ 9223372036854775807:=by
 rcases h with ⟨_,rfl,_,_⟩ | ⟨x,_,h1,h2,_⟩
 ·omega
 ·unfold maxLen at h2; omega
theorem fld17 {α : Type} {ys : List α} {n j : Nat} {e : Option α} (h : e = ys[j]?) (hl : ys.length = n) (hj : j < n) : ∃ y,e = some y:=⟨_,h.trans (List.getElem?_eq_getElem (by omega))⟩
theorem n17_cB : Tryz.prog.cellsOf 5 = 1:=by kernel_rfl
theorem n17_cS : Tryz.prog.cellsOf 23 = 1:=by kernel_rfl
theorem n17_cC : Tryz.prog.cellsOf 44 = 4:=by kernel_rfl
theorem n17_cA : Tryz.prog.cellsOf 46 = 9:=by kernel_rfl
theorem n17_cO : Tryz.prog.cellsOf 41 = 1:=by kernel_rfl
theorem n17_cI : Tryz.prog.cellsOf 3 = 1:=by kernel_rfl
theorem n17_cU : Tryz.prog.cellsOf 42 = 1:=by kernel_rfl
section
variable {H : Type} {enc : TypeId × Value → H} {w : World} {base : Nat} {spare : Nat → Bool} {held : Bool}
theorem bs_open17 {fuel : Nat} {cs : List Value} {x : DataW H × List MemPlace} (h : DataW.trod enc Tryz.prog w base spare held fuel 23 cs = some x) : ∃ A n c b,cs = [.slice A n c] ∧ Bs17 w A n c b:=by
 obtain ⟨A,n,c,zs,hcs,hw⟩:=ints_open Tryz.underlying23 Tryz.underlying5 (by kernel_rfl) h
 obtain ⟨b,hl,hr⟩:=row_bytes hw
 exact ⟨A,n,c,b,hcs,row_nil hw,hl,row_caps17 hw,hr⟩
theorem call_trod17 {fuel : Nat} {cs : List Value} {x : DataW H × List MemPlace} (h : DataW.trod enc Tryz.prog w base spare held fuel 44 cs = some x) : ∃ (op po ch ma : Int),cs = [int i64 op,int i64 po,int i64 ch,int .u64 ma] ∧ 0 ≤ ma:=by
 obtain ⟨ys,k,_,_,hl,hyl,hf⟩:=DataW.trod_struct Tryz.underlying44 h
 rw [n17_cC] at hl
 match cs,hl with
 | [c0,c1,c2,c3],_ =>
  obtain ⟨_,k0⟩:=fld17 (hf 0 _ rfl) hyl (by decide)
  obtain ⟨_,k1⟩:=fld17 (hf 1 _ rfl) hyl (by decide)
  obtain ⟨_,k2⟩:=fld17 (hf 2 _ rfl) hyl (by decide)
  obtain ⟨_,k3⟩:=fld17 (hf 3 _ rfl) hyl (by decide)
  simp only [List.getElem_toArray,List.getElem_cons_zero,List.getElem_cons_succ] at k0 k1 k2 k3
  rw [n17_cO] at k0
  rw [n17_cI] at k1 k2
  rw [n17_cU] at k3
  simp only [List.drop_zero,List.drop_succ_cons,List.take_succ_cons,List.take_zero] at k0 k1 k2 k3
  obtain ⟨op,e0,_,_⟩:=DataW.trod_int Tryz.underlying41 k0
  obtain ⟨po,e1,_,_⟩:=DataW.trod_int Tryz.underlying3 k1
  obtain ⟨ch,e2,_,_⟩:=DataW.trod_int Tryz.underlying3 k2
  obtain ⟨ma,e3,_,wm⟩:=DataW.trod_int Tryz.underlying42 k3
  simp only [List.cons.injEq,and_true] at e0 e1 e2 e3
  subst e0 e1 e2 e3
  exact ⟨op,po,ch,ma,rfl,(bounds_u64 wm).1⟩
theorem act_trod17 {fuel : Nat} {cs : List Value} {x : DataW H × List MemPlace} (h : DataW.trod enc Tryz.prog w base spare held fuel 46 cs = some x) : ∃ r : At17,cs = r.cs.toList ∧ r.is w:=by
 obtain ⟨ys,k,_,_,hl,hyl,hf⟩:=DataW.trod_struct Tryz.underlying46 h
 rw [n17_cA] at hl
 match cs,hl with
 | [c0,c1,c2,c3,c4,c5,c6,c7,c8],_ =>
  obtain ⟨_,k0⟩:=fld17 (hf 0 _ rfl) hyl (by decide)
  obtain ⟨_,k1⟩:=fld17 (hf 1 _ rfl) hyl (by decide)
  obtain ⟨_,k2⟩:=fld17 (hf 2 _ rfl) hyl (by decide)
  obtain ⟨_,k3⟩:=fld17 (hf 3 _ rfl) hyl (by decide)
  obtain ⟨_,k4⟩:=fld17 (hf 4 _ rfl) hyl (by decide)
  obtain ⟨_,k5⟩:=fld17 (hf 5 _ rfl) hyl (by decide)
  simp only [List.getElem_toArray,List.getElem_cons_zero,List.getElem_cons_succ] at k0 k1 k2 k3 k4 k5
  rw [n17_cB] at k0
  rw [n17_cC] at k1
  rw [n17_cI] at k2 k3 k4
  rw [n17_cS] at k5
  simp only [List.drop_zero,List.drop_succ_cons,List.take_succ_cons,List.take_zero] at k0 k1 k2 k3 k4 k5
  obtain ⟨z,e0,_,Wz⟩:=DataW.trod_int Tryz.underlying5 k0
  obtain ⟨op,po,ch,ma,e1,hma⟩:=call_trod17 k1
  obtain ⟨who,e2,_,_⟩:=DataW.trod_int Tryz.underlying3 k2
  obtain ⟨now,e3,_,_⟩:=DataW.trod_int Tryz.underlying3 k3
  obtain ⟨keep,e4,_,_⟩:=DataW.trod_int Tryz.underlying3 k4
  obtain ⟨qA,qn,qc,qb,e5,qh⟩:=bs_open17 k5
  simp only [List.cons.injEq,and_true] at e0 e1 e2 e3 e4 e5
  obtain ⟨g0,g1,g2,g3⟩:=e1
  subst e0 g0 g1 g2 g3 e2 e3 e4 e5
  exact ⟨⟨z,op,po,ch,ma,who,now,keep,qA,qn,qc,qb⟩,rfl,u8_range Wz,hma,qh⟩
end
theorem acts17_open {H : Type} {enc : TypeId × Value → H} {W : World} {v : Value} {d : DataW H} {p : List MemPlace} {base : Nat} {spare : Nat → Bool} {held : Bool}
  (h : DataW.Trod enc Tryz.prog W base spare held 24 v d p) (hv : ∃ A n c,v = .slice A n c) : ∃ (L : Option Addr) (m c : Nat) (l : List At17),v = .slice L m c ∧ m ≤ c ∧ c ≤ 9223372036854775807 ∧ AR17 W L m l:=by
 obtain ⟨A,n,c,rfl⟩:=hv
 obtain ⟨fuel,hf⟩:=h
 have hc0 : (Value.slice A n c).cells.toList = [.slice A n c]:=by simp [Value.cells]
 rw [hc0] at hf
 rcases Go.Deep.open_slice Tryz.underlying24 hf with ⟨hcs,_⟩ | ⟨a,len,cap,m,n2,D,Pl,hcs,_,hl,hm,hmm,_,hi⟩
 ·simp only [List.cons.injEq,and_true] at hcs
  exact ⟨none,0,0, [],hcs,by decide,by decide,⟨rfl,fun h=>absurd h (by omega)⟩⟩
 ·simp only [List.cons.injEq,and_true] at hcs
  have hml : len ≤ m:=by
   rw [hmm]
   split <;> omega
  obtain ⟨l,hll,hp⟩:=list_of (P:=fun i (x : At17)=>(∀ (j : Nat) (u : Value),x.cs[j]? = some u → W.cell? (a.add (i * 9 + j)) = some u) ∧ x.is W) len (fun i hil=>by
   obtain ⟨vs,hc,hread⟩:=hi i (by omega)
   rw [n17_cA] at hc
   obtain ⟨_,hvl,hat⟩:=World.cells?_some hc
   obtain ⟨r,hr,his⟩:=act_trod17 hread
   refine ⟨r,fun j u hu => ?_,his⟩
   have hj : j < 9:=(Array.getElem?_eq_some_iff.1 hu).1
   have h1:=hat j hj
   rw [off_add] at h1
   rw [h1,hr, ← hu]
   simp)
  refine ⟨some a,len,cap,l,hcs,hl,by unfold maxLen at hm; omega,⟨hll.symm,fun h0 => ?_⟩⟩
  have hb : a.block < W.heap.size:=by
   have hx : l[0]? = some (l[0]'(by omega)):=List.getElem?_eq_getElem (by omega)
   have:=World.block_lt_of_cell? W _ ((hp 0 _ hx).1 0 _ rfl)
   rwa [block_add] at this
  exact ⟨a,rfl,hb,fun i x hx=>hp i x hx⟩
def FitsP17 (l : List At17) (w : World) (e : Ending) (w' : World) : Prop := ∃ r : Bool,e = .returned (.bool r) ∧ (r = true → l.length ≤ 80 ∧ ∀ (i : Nat) (x : At17),l[i]? = some x → x.bn ≤ 3000) ∧ w = w'
theorem fits17_any (L : Option Addr) (m lc : Nat) (l : List At17) (w : World) (h : AR17 w L m l) (hmc : m ≤ 9223372036854775807) : Calls Tryz.prog 6 #[.slice L m lc] w (FitsP17 l w):=by
 have HR:=hd_ h
 have HM:=hd_ h.1
 clear h
 go_in
 go_wp2_with fail
 go_loopg [3] m (fun g i wr => ∃ (j : Nat),g = m - j ∧ j ≤ m ∧ j ≤ 81 ∧ i = int i64 (j : Int) ∧ Hid (∀ (i : Nat) (x : At17),i < j → l[i]? = some x → x.bn ≤ 3000) ∧ wr = w)
 case atStart=>exact ⟨0,rfl,Nat.zero_le _,Nat.zero_le _,rfl,hd_ (fun i x hi=>absurd hi (by omega)),rfl⟩
 case round =>
  obtain ⟨j,rfl,hj,hj2,rfl,HF,rfl⟩:=hrel
  by_cases hlt : j < m
  ·by_cases hlt2 : j ≤ 80
   ·have hll:=HM.out
    obtain ⟨ad,rfl, -, -⟩:=HR.out.2 (by omega)
    have hx : l[j]? = some (l[j]'(by omega)):=List.getElem?_eq_getElem (by omega)
    obtain ⟨⟨z0,z1,z2,z3,z4,z5,z6,z7,z8⟩,his⟩:=HR.out.at hx
    generalize l[j]'(by omega) = x at *
    obtain ⟨hk,hma,hb⟩:=his
    have hbm:=hb.2.2.1
    have HXX:=hd_ hx
    clear hx hk hma hb z0 z1 z2 z3 z4 z5 z6 z7 hll
    by_cases h1 : 3000 < x.bn
    ·go_wp2_with fail
     go_ret
     exact ⟨false,rfl,(fun h=>by cases h),rfl⟩
    ·go_wp2_with fail
     go_roundg (m - (j + 1))
     case measure=>omega
     case rel =>
      refine ⟨j + 1,rfl,by omega,by omega,by go_num,hd_ (fun i y hi hy => ?_),rfl⟩
      rcases Nat.lt_or_ge i j with hij | hij
      ·exact HF.out i y hij hy
      ·have : i = j:=by omega
       subst this
       have:=HXX.out
       rw [hy] at this
       injection this with this
       subst this
       omega
   ·go_wp2_with fail
    go_ret
    exact ⟨_,rfl,(fun h=>by simp at h; omega),rfl⟩
  ·have hjm : Hid (j = m):=by show j = m; omega
   by_cases hm : m ≤ 80
   ·go_wp2_with fail
    go_ret
    refine ⟨_,rfl,fun _=>⟨by have:=HM.out; omega,fun i x hi=>HF.out i x ?_ hi⟩,rfl⟩
    have h1:=(List.getElem?_eq_some_iff.1 hi).1
    have h2:=HM.out
    have h3:=hjm.out
    omega
   ·go_wp2_with fail
    go_ret
    exact ⟨_,rfl,(fun h=>by simp at h; omega),rfl⟩
end Go.Proofs.YtnojmbejedlilaaGreat
