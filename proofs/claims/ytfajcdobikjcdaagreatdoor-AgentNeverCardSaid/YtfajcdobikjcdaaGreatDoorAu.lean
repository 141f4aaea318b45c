/-
  A slice of acts that came in, opened. No condition.
-/
import Derived.Test.YtfajcdobikjcdaaGreatDoorAr
import Derived.Test.YtfajcdobikjcdaaGreatDoorM1
import Derived.Test.YtfajcdobikjcdaaGreatDoorKl
import Derived.Test.YtfajcdobikjcdaaGreatDoorM8
set_option maxRecDepth 100000
set_option maxHeartbeats 40000000
set_option linter.unusedVariables false
set_option linter.unusedSimpArgs false
namespace Go.Proofs.YtfajcdobikjcdaaGreatDoor
open Go.Value (int)
open Go.IntKind (i64)
open Go.RowKit Go.ChangeShapes
theorem n16_cB : Tryz.prog.cellsOf 5 = 1:=by kernel_rfl
theorem n16_cS : Tryz.prog.cellsOf 31 = 1:=by kernel_rfl
theorem n16_cF : Tryz.prog.cellsOf 34 = 4:=by kernel_rfl
theorem n16_cP : Tryz.prog.cellsOf 37 = 8:=by kernel_rfl
theorem n16_cA : Tryz.prog.cellsOf 39 = 16:=by kernel_rfl
theorem n16_cK : Tryz.prog.cellsOf 35 = 1:=by kernel_rfl
theorem n16_cI : Tryz.prog.cellsOf 3 = 1:=by kernel_rfl
theorem n16_cU : Tryz.prog.cellsOf 32 = 1:=by kernel_rfl
section
variable {H : Type} {enc : TypeId × Value → H} {w : World} {base : Nat} {spare : Nat → Bool} {held : Bool}
theorem bs_open16 {fuel : Nat} {cs : List Value} {x : DataW H × List MemPlace} (h : DataW.trod enc Tryz.prog w base spare held fuel 31 cs = some x) : ∃ A n c b,cs = [.slice A n c] ∧ Bs16 w A n c b:=by
 obtain ⟨A,n,c,zs,hcs,hw⟩:=ints_open Tryz.underlying31 Tryz.underlying5 (by kernel_rfl) h
 obtain ⟨b,hl,hr⟩:=row_bytes hw
 exact ⟨A,n,c,b,hcs,⟨row_nil hw,hl,hr⟩,rowK_caps hw⟩
theorem frame_trod16 {fuel : Nat} {cs : List Value} {x : DataW H × List MemPlace} (h : DataW.trod enc Tryz.prog w base spare held fuel 34 cs = some x) : ∃ (d s f : Int) (A : Option Addr) (n c : Nat) (b : List UInt8),cs = [int .u64 d,int .u64 s,int i64 f, .slice A n c] ∧ (0 ≤ d ∧ 0 ≤ s) ∧ Bs16 w A n c b:=by
 obtain ⟨ys,k,_,_,hl,hyl,hf⟩:=DataW.trod_struct Tryz.underlying34 h
 rw [n16_cF] at hl
 match cs,hl with
 | [c0,c1,c2,c3],_ =>
  obtain ⟨_,k0⟩:=fld13 (hf 0 _ rfl) hyl (by decide)
  obtain ⟨_,k1⟩:=fld13 (hf 1 _ rfl) hyl (by decide)
  obtain ⟨_,k2⟩:=fld13 (hf 2 _ rfl) hyl (by decide)
  obtain ⟨_,k3⟩:=fld13 (hf 3 _ rfl) hyl (by decide)
  simp only [List.getElem_toArray,List.getElem_cons_zero,List.getElem_cons_succ] at k0 k1 k2 k3
  rw [n16_cU] at k0 k1
  rw [n16_cI] at k2
  rw [n16_cS] at k3
  simp only [List.drop_zero,List.drop_succ_cons,List.take_succ_cons,List.take_zero] at k0 k1 k2 k3
  obtain ⟨d,e0,_,Wd⟩:=DataW.trod_int Tryz.underlying32 k0
  obtain ⟨s,e1,_,Ws⟩:=DataW.trod_int Tryz.underlying32 k1
  obtain ⟨f,e2,_,Wf⟩:=DataW.trod_int Tryz.underlying3 k2
  obtain ⟨qA,qn,qc,qb,e3,qh⟩:=bs_open16 k3
  simp only [List.cons.injEq,and_true] at e0 e1 e2 e3
  subst e0 e1 e2 e3
  exact ⟨d,s,f,qA,qn,qc,qb,rfl,⟨(bounds_u64 Wd).1,(bounds_u64 Ws).1⟩,qh⟩
theorem pk_trod16 {fuel : Nat} {cs : List Value} {x : DataW H × List MemPlace} (h : DataW.trod enc Tryz.prog w base spare held fuel 37 cs = some x) : ∃ (k o f t p g i : Int) (A : Option Addr) (n c : Nat) (b : List UInt8),cs = [int i64 k,int i64 o,int i64 f,int i64 t,int i64 p,int i64 g,int i64 i, .slice A n c] ∧ Bs16 w A n c b:=by
 obtain ⟨ys,k,_,_,hl,hyl,hf⟩:=DataW.trod_struct Tryz.underlying37 h
 rw [n16_cP] at hl
 match cs,hl with
 | [c0,c1,c2,c3,c4,c5,c6,c7],_ =>
  obtain ⟨_,k0⟩:=fld13 (hf 0 _ rfl) hyl (by decide)
  obtain ⟨_,k1⟩:=fld13 (hf 1 _ rfl) hyl (by decide)
  obtain ⟨_,k2⟩:=fld13 (hf 2 _ rfl) hyl (by decide)
  obtain ⟨_,k3⟩:=fld13 (hf 3 _ rfl) hyl (by decide)
  obtain ⟨_,k4⟩:=fld13 (hf 4 _ rfl) hyl (by decide)
  obtain ⟨_,k5⟩:=fld13 (hf 5 _ rfl) hyl (by decide)
  obtain ⟨_,k6⟩:=fld13 (hf 6 _ rfl) hyl (by decide)
  obtain ⟨_,k7⟩:=fld13 (hf 7 _ rfl) hyl (by decide)
  simp only [List.getElem_toArray,List.getElem_cons_zero,List.getElem_cons_succ] at k0 k1 k2 k3 k4 k5 k6 k7
  rw [n16_cK] at k0
  rw [n16_cI] at k1 k2 k3 k4 k5 k6
  rw [n16_cS] at k7
  simp only [List.drop_zero,List.drop_succ_cons,List.take_succ_cons,List.take_zero] at k0 k1 k2 k3 k4 k5 k6 k7
  obtain ⟨k,e0,_,Wk⟩:=DataW.trod_int Tryz.underlying35 k0
  obtain ⟨o,e1,_,Wo⟩:=DataW.trod_int Tryz.underlying3 k1
  obtain ⟨f,e2,_,Wf⟩:=DataW.trod_int Tryz.underlying3 k2
  obtain ⟨t,e3,_,Wt⟩:=DataW.trod_int Tryz.underlying3 k3
  obtain ⟨p,e4,_,Wp⟩:=DataW.trod_int Tryz.underlying3 k4
  obtain ⟨g,e5,_,Wg⟩:=DataW.trod_int Tryz.underlying3 k5
  obtain ⟨i,e6,_,Wi⟩:=DataW.trod_int Tryz.underlying3 k6
  obtain ⟨qA,qn,qc,qb,e7,qh⟩:=bs_open16 k7
  simp only [List.cons.injEq,and_true] at e0 e1 e2 e3 e4 e5 e6 e7
  subst e0 e1 e2 e3 e4 e5 e6 e7
  exact ⟨k,o,f,t,p,g,i,qA,qn,qc,qb,rfl,qh⟩
theorem act_trod16 {fuel : Nat} {cs : List Value} {x : DataW H × List MemPlace} (h : DataW.trod enc Tryz.prog w base spare held fuel 39 cs = some x) : ∃ r : At16,cs = r.cs.toList ∧ r.is w:=by
 obtain ⟨ys,k,_,_,hl,hyl,hf⟩:=DataW.trod_struct Tryz.underlying39 h
 rw [n16_cA] at hl
 match cs,hl with
 | [c0,c1,c2,c3,c4,c5,c6,c7,c8,c9,c10,c11,c12,c13,c14,c15],_ =>
  obtain ⟨_,k0⟩:=fld13 (hf 0 _ rfl) hyl (by decide)
  obtain ⟨_,k1⟩:=fld13 (hf 1 _ rfl) hyl (by decide)
  obtain ⟨_,k2⟩:=fld13 (hf 2 _ rfl) hyl (by decide)
  obtain ⟨_,k3⟩:=fld13 (hf 3 _ rfl) hyl (by decide)
  obtain ⟨_,k4⟩:=fld13 (hf 4 _ rfl) hyl (by decide)
  obtain ⟨_,k5⟩:=fld13 (hf 5 _ rfl) hyl (by decide)
  simp only [List.getElem_toArray,List.getElem_cons_zero,List.getElem_cons_succ] at k0 k1 k2 k3 k4 k5
  rw [n16_cB] at k0
  rw [n16_cS] at k1
  rw [n16_cF] at k2
  rw [n16_cP] at k3
  rw [n16_cI] at k4 k5
  simp only [List.drop_zero,List.drop_succ_cons,List.take_succ_cons,List.take_zero] at k0 k1 k2 k3 k4 k5
  obtain ⟨z,e0,_,Wz⟩:=DataW.trod_int Tryz.underlying5 k0
  obtain ⟨qA,qn,qc,qb,e1,qh⟩:=bs_open16 k1
  obtain ⟨fd,fs,ft,FA,fn,fc,fb,e2,hfd,hf2⟩:=frame_trod16 k2
  obtain ⟨k,o,f,t,p,g,i,PA,pn,pc,pb,e3,hp⟩:=pk_trod16 k3
  obtain ⟨now,e4,_,Wnow⟩:=DataW.trod_int Tryz.underlying3 k4
  obtain ⟨ident,e5,_,Wident⟩:=DataW.trod_int Tryz.underlying3 k5
  simp only [List.cons.injEq,and_true] at e0 e1 e2 e3 e4 e5
  obtain ⟨g0,g1,g2,g3⟩:=e2
  obtain ⟨h0,h1,h2,h3,h4,h5,h6,h7⟩:=e3
  subst e0 e1 g0 g1 g2 g3 h0 h1 h2 h3 h4 h5 h6 h7 e4 e5
  exact ⟨⟨z,qA,qn,qc,qb,fd,fs,ft,FA,fn,fc,fb,k,o,f,t,p,g,i,PA,pn,pc,pb,now,ident⟩,rfl,u8_range Wz,hfd,qh,hf2,hp⟩
end
theorem acts16_open {H : Type} {enc : TypeId × Value → H} {W : World} {v : Value} {d : DataW H} {p : List MemPlace} {base : Nat} {spare : Nat → Bool} {held : Bool}
  (h : DataW.Trod enc Tryz.prog W base spare held 22 v d p) (hv : ∃ A n c,v = .slice A n c) : ∃ (L : Option Addr) (m c : Nat) (l : List At16),v = .slice L m c ∧ m ≤ 9223372036854775807 ∧ AR16 W L m l:=by
 obtain ⟨A,n,c,rfl⟩:=hv
 obtain ⟨fuel,hf⟩:=h
 have hc0 : (Value.slice A n c).cells.toList = [.slice A n c]:=by simp [Value.cells]
 rw [hc0] at hf
 rcases Go.Deep.open_slice Tryz.underlying22 hf with ⟨hcs,_⟩ | ⟨a,len,cap,m,n2,D,Pl,hcs,_,hl,hm,hmm,_,hi⟩
 ·simp only [List.cons.injEq,and_true] at hcs
  exact ⟨none,0,0, [],hcs,by decide,⟨rfl,fun h=>absurd h (by omega)⟩⟩
 ·simp only [List.cons.injEq,and_true] at hcs
  have hml : len ≤ m:=by
   rw [hmm]
   split <;> omega
  obtain ⟨l,hll,hp⟩:=list_of (P:=fun i (x : At16)=>(∀ (j : Nat) (u : Value),x.cs[j]? = some u → W.cell? (a.add (i * 16 + j)) = some u) ∧ x.is W) len (fun i hil=>by
   obtain ⟨vs,hc,hread⟩:=hi i (by omega)
   rw [n16_cA] at hc
   obtain ⟨_,hvl,hat⟩:=World.cells?_some hc
   obtain ⟨r,hr,his⟩:=act_trod16 hread
   refine ⟨r,fun j u hu => ?_,his⟩
   have hj : j < 16:=(Array.getElem?_eq_some_iff.1 hu).1
   have h1:=hat j hj
   rw [off_add] at h1
   rw [h1,hr, ← hu]
   simp)
  refine ⟨some a,len,cap,l,hcs,by unfold maxLen at hm; omega,⟨hll.symm,fun h0 => ?_⟩⟩
  have hb : a.block < W.heap.size:=by
   have hx : l[0]? = some (l[0]'(by omega)):=List.getElem?_eq_getElem (by omega)
   have:=World.block_lt_of_cell? W _ ((hp 0 _ hx).1 0 _ rfl)
   rwa [block_add] at this
  exact ⟨a,rfl,hb,fun i x hx=>hp i x hx⟩
end Go.Proofs.YtfajcdobikjcdaaGreatDoor
