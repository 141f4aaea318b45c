/-
  Outcomes, plain: what becomes of a guest's frame and of a packet by an action; their cells in memory, code's and the document's. No condition.
-/
import Derived.Test.YtfajcdobikjcdaaGreatDoorM3
import Derived.Test.YtfajcdobikjcdaaGreatDoorM9
import Derived.Test.YtfajcdobikjcdaaGreatDoorM8
import Derived.Test.YtfajcdobikjcdaaGreatDoorM1
import Derived.Deep.RegionHeld3
import Derived.RegionTactic
import Derived.Laws.EntriesVeiled
import Derived.Test.YtfajcdobikjcdaaGreatDoorM2
set_option maxRecDepth 100000
set_option maxHeartbeats 40000000
set_option linter.unusedVariables false
set_option linter.unusedSimpArgs false
section
namespace Go.Proofs.YtfajcdobikjcdaaGreatDoor
open Go.Value (int)
open Go.IntKind (i64)
open Go.RowKit
def ouC15 (kd po ge st : Int) (A : Option Addr) (n c : Nat) (k o f t p g i : Int) (A2 : Option Addr) (n2 c2 : Nat) : Array Value:=#[int i64 kd,int i64 po,int i64 ge,int i64 st, .slice A n c,int i64 k,int i64 o,int i64 f,int i64 t,int i64 p,int i64 g,int i64 i, .slice A2 n2 c2]
def roC15 (kd po ge st : Int) (b : List UInt8) (k o f t p g i : Int) (A2 : Option Addr) (n2 c2 : Nat) : Array Value:=#[int i64 kd,int i64 po,int i64 ge,int i64 st, .string ⟨b.toArray⟩,int i64 k,int i64 o,int i64 f,int i64 t,int i64 p,int i64 g,int i64 i, .slice A2 n2 c2]
structure OV where
 kd : Int
 po : Int
 ge : Int
 st : Int
 fb : List UInt8
 k : Int
 o : Int
 f : Int
 t : Int
 p : Int
 g : Int
 i : Int
 pb : List UInt8
def zOV : OV:=⟨0,0,0,0, [],0,0,0,0,0,0,0, []⟩
def dlv15 (po ge st : Int) (b : List UInt8) : OV:=⟨1,po,ge,st,b,0,0,0,0,0,0,0, []⟩
def snt15 (k o f t p g i : Int) (b : List UInt8) : OV:=if pkR k o f t p g i b.length = true then ⟨2,0,0,0, [],k,o,f,t,p,g,i,b⟩ else zOV
def gu15 (c : Int) (b : List UInt8) (i ak ap ao ag : Int) : OV:=if ak = 1 then dlv15 ap ag ag b else if ak = 2 then snt15 1 c c ao ap ag i b else zOV
def tu15 (k o f t p g i : Int) (b : List UInt8) (ak ap ao ag : Int) : OV:=if ak = 1 then dlv15 ap ag g b else if ak = 2 then (if k = 2 then zOV else snt15 2 o t ao p ag i b) else zOV
theorem gu15_1 (c : Int) (b : List UInt8) (i ap ao ag : Int) : gu15 c b i 1 ap ao ag = dlv15 ap ag ag b:=rfl
theorem gu15_2 (c : Int) (b : List UInt8) (i ap ao ag : Int) : gu15 c b i 2 ap ao ag = snt15 1 c c ao ap ag i b:=rfl
theorem gu15_no {ak : Int} (h1 : ¬ ak = 1) (h2 : ¬ ak = 2) (c : Int) (b : List UInt8) (i ap ao ag : Int) : gu15 c b i ak ap ao ag = zOV:=by simp [gu15,h1,h2]
theorem tu15_1 (k o f t p g i : Int) (b : List UInt8) (ap ao ag : Int) : tu15 k o f t p g i b 1 ap ao ag = dlv15 ap ag g b:=rfl
theorem tu15_2 (k o f t p g i : Int) (b : List UInt8) (ap ao ag : Int) : tu15 k o f t p g i b 2 ap ao ag = if k = 2 then zOV else snt15 2 o t ao p ag i b:=rfl
theorem tu15_no {ak : Int} (h1 : ¬ ak = 1) (h2 : ¬ ak = 2) (k o f t p g i : Int) (b : List UInt8) (ap ao ag : Int) : tu15 k o f t p g i b ak ap ao ag = zOV:=by simp [tu15,h1,h2]
theorem snt15_yes {k o f t p g i : Int} {b : List UInt8} (h : pkR k o f t p g i b.length = true) : snt15 k o f t p g i b = ⟨2,0,0,0, [],k,o,f,t,p,g,i,b⟩:=if_pos h
theorem snt15_no {k o f t p g i : Int} {b : List UInt8} (h : pkR k o f t p g i b.length = false) : snt15 k o f t p g i b = zOV:=by simp [snt15,h]
def BsM15 (w : World) (A : Option Addr) (n c : Nat) (l : List UInt8) : Prop:=(A = none → c = 0) ∧ n = l.length ∧ Rds w (fun _=>True) A n (bcs l)
theorem BsM15.chg {w w' : World} {A : Option Addr} {n c : Nat} {l : List UInt8} (h : BsM15 w A n c l) (hc : Chg (fun _=>False) w w') : BsM15 w' A n c l:=⟨h.1,h.2.1,h.2.2.chg hc (fun _ _=>id)⟩
theorem BsM15.alloc {w : World} {A : Option Addr} {n c : Nat} {l : List UInt8} (h : BsM15 w A n c l) (o : Obj) : BsM15 (w.alloc o) A n c l:=h.chg ((Chg.refl (fun _=>False) w).alloc o)
theorem BsM15.nil (w : World) : BsM15 w none 0 0 []:=⟨fun _=>rfl,rfl,Rds.nil _ _ _⟩
def noU8 (cs : Array Value) : Prop := ∀ (j : Nat) (x : Int),cs[j]? ≠ some (int .u8 x)
theorem noU8_of {cs : Array Value} (h : ∀ v ∈ cs.toList, ∀ x,v ≠ int .u8 x) : noU8 cs:=fun j x e=>h _ (Array.mem_toList_iff.2 (Array.mem_of_getElem? e)) x rfl
theorem BsM15.put {w w' : World} {A : Option Addr} {n c q : Nat} {l : List UInt8} {T : TypeId} {cs : Array Value} (h : BsM15 w A n c l) (hb : Blk w q T cs) (hu : noU8 cs) (hc : Chg (fun k=>k = q) w w') : BsM15 w' A n c l:=by
 obtain ⟨h1,h2,h3⟩:=h
 refine ⟨h1,h2, ?_⟩
 have h4 : Rds w (fun k=>k ≠ q) A n (bcs l):=by
  refine ⟨h3.1,fun hn => ?_⟩
  obtain ⟨ad,e, -,hlt,hcell⟩:=h3.2 hn
  refine ⟨ad,e, ?_,hlt,hcell⟩
  rintro rfl
  have hl : 0 < l.length:=by omega
  have h0:=hcell 0 _ (bcs_at l 0 hl)
  rw [show ad.add 0 = ad from rfl] at h0
  unfold World.cell? at h0
  rw [show w.heap[ad.block]? = some (.cells cs T (0,0)) from hb] at h0
  dsimp only at h0
  split at h0
  ·cases h0
  ·exact hu _ _ h0
 exact (h4.chg hc (fun _ h e=>h e)).mono (fun _ _=>trivial)
def BsS15 (S : Nat → Prop) (w : World) (A : Option Addr) (n c : Nat) (l : List UInt8) : Prop:=BsM15 w A n c l ∧ Rds w S A n (bcs l)
theorem BsS15.m {S : Nat → Prop} {w : World} {A : Option Addr} {n c : Nat} {l : List UInt8} (h : BsS15 S w A n c l) : BsM15 w A n c l:=h.1
theorem BsS15.chg {S : Nat → Prop} {w w' : World} {A : Option Addr} {n c : Nat} {l : List UInt8} (h : BsS15 S w A n c l) (hc : Chg (fun _=>False) w w') : BsS15 S w' A n c l:=⟨h.1.chg hc,h.2.chg hc (fun _ _=>id)⟩
theorem BsS15.alloc {S : Nat → Prop} {w : World} {A : Option Addr} {n c : Nat} {l : List UInt8} (h : BsS15 S w A n c l) (o : Obj) : BsS15 S (w.alloc o) A n c l:=h.chg ((Chg.refl (fun _=>False) w).alloc o)
theorem BsS15.nil (S : Nat → Prop) (w : World) : BsS15 S w none 0 0 []:=⟨BsM15.nil w,Rds.nil _ _ _⟩
theorem BsS15.put {S : Nat → Prop} {w w' : World} {A : Option Addr} {n c q : Nat} {l : List UInt8} {T : TypeId} {cs : Array Value} (h : BsS15 S w A n c l) (hb : Blk w q T cs) (hu : noU8 cs) (hc : Chg (fun k=>k = q) w w') : BsS15 S w' A n c l:=by
 have h1:=h.1.put hb hu hc
 refine ⟨h1,h1.2.2.1,fun hp => ?_⟩
 obtain ⟨ad,e,_,hl,hcell⟩:=h1.2.2.2 hp
 obtain ⟨ad2,e2,hs,_,_⟩:=h.2.2 hp
 rw [e] at e2
 injection e2 with e2
 subst e2
 exact ⟨ad,e,hs,hl,hcell⟩
def HO15 (S : Nat → Prop) (v : OV) (w : World) (e : Ending) (w' : World) : Prop := ∃ A n c A2 n2 c2,e = .returned (.agg (ouC15 v.kd v.po v.ge v.st A n c v.k v.o v.f v.t v.p v.g v.i A2 n2 c2)) ∧ BsS15 S w' A n c v.fb ∧ BsM15 w' A2 n2 c2 v.pb ∧ Chg (fun _=>False) w w'
def HE15 (S : Nat → Prop) (v : OV) (x : Int) (w : World) (e : Ending) (w' : World) : Prop := ∃ A n c A2 n2 c2,e = .returned (.tuple #[.agg (ouC15 v.kd v.po v.ge v.st A n c v.k v.o v.f v.t v.p v.g v.i A2 n2 c2),int i64 x]) ∧ BsS15 S w' A n c v.fb ∧ BsM15 w' A2 n2 c2 v.pb ∧ Chg (fun _=>False) w w'
theorem ou_cells15 {w : World} {q : Nat} {T : TypeId} {kd po ge st : Int} {A : Option Addr} {n c : Nat} {k o f t p g i : Int} {A2 : Option Addr} {n2 c2 : Nat} (h : Blk w q T (ouC15 kd po ge st A n c k o f t p g i A2 n2 c2)) : w.cell? ⟨q,0,none⟩ = some (int i64 kd) ∧ w.cell? ⟨q,1,none⟩ = some (int i64 po) ∧ w.cell? ⟨q,2,none⟩ = some (int i64 ge) ∧ w.cell? ⟨q,3,none⟩ = some (int i64 st) ∧ w.cell? ⟨q,4,none⟩ = some (.slice A n c) ∧ w.cell? ⟨q,5,none⟩ = some (int i64 k) ∧ w.cell? ⟨q,6,none⟩ = some (int i64 o) ∧ w.cell? ⟨q,7,none⟩ = some (int i64 f) ∧ w.cell? ⟨q,8,none⟩ = some (int i64 t) ∧ w.cell? ⟨q,9,none⟩ = some (int i64 p) ∧ w.cell? ⟨q,10,none⟩ = some (int i64 g) ∧ w.cell? ⟨q,11,none⟩ = some (int i64 i) ∧ w.cell? ⟨q,12,none⟩ = some (.slice A2 n2 c2):=by
 have h0:=h.cell 0
 have h1:=h.cell 1
 have h2:=h.cell 2
 have h3:=h.cell 3
 have h4:=h.cell 4
 have h5:=h.cell 5
 have h6:=h.cell 6
 have h7:=h.cell 7
 have h8:=h.cell 8
 have h9:=h.cell 9
 have h10:=h.cell 10
 have h11:=h.cell 11
 have h12:=h.cell 12
 simp only [ouC15,List.getElem?_toArray,List.getElem?_cons_zero,List.getElem?_cons_succ] at h0 h1 h2 h3 h4 h5 h6 h7 h8 h9 h10 h11 h12
 exact ⟨h0,h1,h2,h3,h4,h5,h6,h7,h8,h9,h10,h11,h12⟩
theorem ro_cells15 {w : World} {q : Nat} {T : TypeId} {kd po ge st : Int} {b : List UInt8} {k o f t p g i : Int} {A2 : Option Addr} {n2 c2 : Nat} (h : Blk w q T (roC15 kd po ge st b k o f t p g i A2 n2 c2)) : w.cell? ⟨q,0,none⟩ = some (int i64 kd) ∧ w.cell? ⟨q,1,none⟩ = some (int i64 po) ∧ w.cell? ⟨q,2,none⟩ = some (int i64 ge) ∧ w.cell? ⟨q,3,none⟩ = some (int i64 st) ∧ w.cell? ⟨q,4,none⟩ = some (.string ⟨b.toArray⟩) ∧ w.cell? ⟨q,5,none⟩ = some (int i64 k) ∧ w.cell? ⟨q,6,none⟩ = some (int i64 o) ∧ w.cell? ⟨q,7,none⟩ = some (int i64 f) ∧ w.cell? ⟨q,8,none⟩ = some (int i64 t) ∧ w.cell? ⟨q,9,none⟩ = some (int i64 p) ∧ w.cell? ⟨q,10,none⟩ = some (int i64 g) ∧ w.cell? ⟨q,11,none⟩ = some (int i64 i) ∧ w.cell? ⟨q,12,none⟩ = some (.slice A2 n2 c2):=by
 have h0:=h.cell 0
 have h1:=h.cell 1
 have h2:=h.cell 2
 have h3:=h.cell 3
 have h4:=h.cell 4
 have h5:=h.cell 5
 have h6:=h.cell 6
 have h7:=h.cell 7
 have h8:=h.cell 8
 have h9:=h.cell 9
 have h10:=h.cell 10
 have h11:=h.cell 11
 have h12:=h.cell 12
 simp only [roC15,List.getElem?_toArray,List.getElem?_cons_zero,List.getElem?_cons_succ] at h0 h1 h2 h3 h4 h5 h6 h7 h8 h9 h10 h11 h12
 exact ⟨h0,h1,h2,h3,h4,h5,h6,h7,h8,h9,h10,h11,h12⟩
theorem ou_free15 {w : World} {r : Nat} {T : TypeId} {cs : Array Value} (h : Blk w r T cs) : w.frozen? ⟨r,0,none⟩ = false ∧ w.frozen? ⟨r,1,none⟩ = false ∧ w.frozen? ⟨r,2,none⟩ = false ∧ w.frozen? ⟨r,3,none⟩ = false ∧ w.frozen? ⟨r,4,none⟩ = false ∧ w.frozen? ⟨r,5,none⟩ = false ∧ w.frozen? ⟨r,6,none⟩ = false ∧ w.frozen? ⟨r,7,none⟩ = false ∧ w.frozen? ⟨r,8,none⟩ = false ∧ w.frozen? ⟨r,9,none⟩ = false ∧ w.frozen? ⟨r,10,none⟩ = false ∧ w.frozen? ⟨r,11,none⟩ = false ∧ w.frozen? ⟨r,12,none⟩ = false:=⟨h.frozen 0,h.frozen 1,h.frozen 2,h.frozen 3,h.frozen 4,h.frozen 5,h.frozen 6,h.frozen 7,h.frozen 8,h.frozen 9,h.frozen 10,h.frozen 11,h.frozen 12⟩
theorem ou_put15 {w : World} {r : Nat} {T : TypeId} {cs : Array Value} (hb : Blk w r T cs) (hs : cs.size = 13) (kd po ge st : Int) (A : Option Addr) (n c : Nat) (k o f t p g i : Int) (A2 : Option Addr) (n2 c2 : Nat) :
  (w.setCell ⟨r,0,none⟩ (int i64 kd)).cell? ⟨r,0,none⟩ = some (int i64 kd) ∧ ((w.setCell ⟨r,0,none⟩ (int i64 kd)).setCell ⟨r,1,none⟩ (int i64 po)).cell? ⟨r,1,none⟩ = some (int i64 po) ∧ (((w.setCell ⟨r,0,none⟩ (int i64 kd)).setCell ⟨r,1,none⟩ (int i64 po)).setCell ⟨r,2,none⟩ (int i64 ge)).cell? ⟨r,2,none⟩ = some (int i64 ge) ∧ ((((w.setCell ⟨r,0,none⟩ (int i64 kd)).setCell ⟨r,1,none⟩ (int i64 po)).setCell ⟨r,2,none⟩ (int i64 ge)).setCell ⟨r,3,none⟩ (int i64 st)).cell? ⟨r,3,none⟩ = some (int i64 st) ∧ (((((w.setCell ⟨r,0,none⟩ (int i64 kd)).setCell ⟨r,1,none⟩ (int i64 po)).setCell ⟨r,2,none⟩ (int i64 ge)).setCell ⟨r,3,none⟩ (int i64 st)).setCell ⟨r,4,none⟩ (.slice A n c)).cell? ⟨r,4,none⟩ = some (.slice A n c) ∧ ((((((w.setCell ⟨r,0,none⟩ (int i64 kd)).setCell ⟨r,1,none⟩ (int i64 po)).setCell ⟨r,2,none⟩ (int i64 ge)).setCell ⟨r,3,none⟩ (int i64 st)).setCell ⟨r,4,none⟩ (.slice A n c)).setCell ⟨r,5,none⟩ (int i64 k)).cell? ⟨r,5,none⟩ = some (int i64 k) ∧ (((((((w.setCell ⟨r,0,none⟩ (int i64 kd)).setCell ⟨r,1,none⟩ (int i64 po)).setCell ⟨r,2,none⟩ (int i64 ge)).setCell ⟨r,3,none⟩ (int i64 st)).setCell ⟨r,4,none⟩ (.slice A n c)).setCell ⟨r,5,none⟩ (int i64 k)).setCell ⟨r,6,none⟩ (int i64 o)).cell? ⟨r,6,none⟩ = some (int i64 o) ∧ ((((((((w.setCell ⟨r,0,none⟩ (int i64 kd)).setCell ⟨r,1,none⟩ (int i64 po)).setCell ⟨r,2,none⟩ (int i64 ge)).setCell ⟨r,3,none⟩ (int i64 st)).setCell ⟨r,4,none⟩ (.slice A n c)).setCell ⟨r,5,none⟩ (int i64 k)).setCell ⟨r,6,none⟩ (int i64 o)).setCell ⟨r,7,none⟩ (int i64 f)).cell? ⟨r,7,none⟩ = some (int i64 f) ∧ (((((((((w.setCell ⟨r,0,none⟩ (int i64 kd)).setCell ⟨r,1,none⟩ (int i64 po)).setCell ⟨r,2,none⟩ (int i64 ge)).setCell ⟨r,3,none⟩ (int i64 st)).setCell ⟨r,4,none⟩ (.slice A n c)).setCell ⟨r,5,none⟩ (int i64 k)).setCell ⟨r,6,none⟩ (int i64 o)).setCell ⟨r,7,none⟩ (int i64 f)).setCell ⟨r,8,none⟩ (int i64 t)).cell? ⟨r,8,none⟩ = some (int i64 t) ∧ ((((((((((w.setCell ⟨r,0,none⟩ (int i64 kd)).setCell ⟨r,1,none⟩ (int i64 po)).setCell ⟨r,2,none⟩ (int i64 ge)).setCell ⟨r,3,none⟩ (int i64 st)).setCell ⟨r,4,none⟩ (.slice A n c)).setCell ⟨r,5,none⟩ (int i64 k)).setCell ⟨r,6,none⟩ (int i64 o)).setCell ⟨r,7,none⟩ (int i64 f)).setCell ⟨r,8,none⟩ (int i64 t)).setCell ⟨r,9,none⟩ (int i64 p)).cell? ⟨r,9,none⟩ = some (int i64 p) ∧ (((((((((((w.setCell ⟨r,0,none⟩ (int i64 kd)).setCell ⟨r,1,none⟩ (int i64 po)).setCell ⟨r,2,none⟩ (int i64 ge)).setCell ⟨r,3,none⟩ (int i64 st)).setCell ⟨r,4,none⟩ (.slice A n c)).setCell ⟨r,5,none⟩ (int i64 k)).setCell ⟨r,6,none⟩ (int i64 o)).setCell ⟨r,7,none⟩ (int i64 f)).setCell ⟨r,8,none⟩ (int i64 t)).setCell ⟨r,9,none⟩ (int i64 p)).setCell ⟨r,10,none⟩ (int i64 g)).cell? ⟨r,10,none⟩ = some (int i64 g) ∧ ((((((((((((w.setCell ⟨r,0,none⟩ (int i64 kd)).setCell ⟨r,1,none⟩ (int i64 po)).setCell ⟨r,2,none⟩ (int i64 ge)).setCell ⟨r,3,none⟩ (int i64 st)).setCell ⟨r,4,none⟩ (.slice A n c)).setCell ⟨r,5,none⟩ (int i64 k)).setCell ⟨r,6,none⟩ (int i64 o)).setCell ⟨r,7,none⟩ (int i64 f)).setCell ⟨r,8,none⟩ (int i64 t)).setCell ⟨r,9,none⟩ (int i64 p)).setCell ⟨r,10,none⟩ (int i64 g)).setCell ⟨r,11,none⟩ (int i64 i)).cell? ⟨r,11,none⟩ = some (int i64 i) ∧ (((((((((((((w.setCell ⟨r,0,none⟩ (int i64 kd)).setCell ⟨r,1,none⟩ (int i64 po)).setCell ⟨r,2,none⟩ (int i64 ge)).setCell ⟨r,3,none⟩ (int i64 st)).setCell ⟨r,4,none⟩ (.slice A n c)).setCell ⟨r,5,none⟩ (int i64 k)).setCell ⟨r,6,none⟩ (int i64 o)).setCell ⟨r,7,none⟩ (int i64 f)).setCell ⟨r,8,none⟩ (int i64 t)).setCell ⟨r,9,none⟩ (int i64 p)).setCell ⟨r,10,none⟩ (int i64 g)).setCell ⟨r,11,none⟩ (int i64 i)).setCell ⟨r,12,none⟩ (.slice A2 n2 c2)).cell? ⟨r,12,none⟩ = some (.slice A2 n2 c2) ∧ Chg (fun k=>k = r) w (((((((((((((w.setCell ⟨r,0,none⟩ (int i64 kd)).setCell ⟨r,1,none⟩ (int i64 po)).setCell ⟨r,2,none⟩ (int i64 ge)).setCell ⟨r,3,none⟩ (int i64 st)).setCell ⟨r,4,none⟩ (.slice A n c)).setCell ⟨r,5,none⟩ (int i64 k)).setCell ⟨r,6,none⟩ (int i64 o)).setCell ⟨r,7,none⟩ (int i64 f)).setCell ⟨r,8,none⟩ (int i64 t)).setCell ⟨r,9,none⟩ (int i64 p)).setCell ⟨r,10,none⟩ (int i64 g)).setCell ⟨r,11,none⟩ (int i64 i)).setCell ⟨r,12,none⟩ (.slice A2 n2 c2)):=by
 have h0:=hb.set 0 (int i64 kd)
 have r0:=h0.cell 0
 rw [Array.getElem?_setIfInBounds_self_of_lt (by simp [hs])] at r0
 have h1:=h0.set 1 (int i64 po)
 have r1:=h1.cell 1
 rw [Array.getElem?_setIfInBounds_self_of_lt (by simp [hs])] at r1
 have h2:=h1.set 2 (int i64 ge)
 have r2:=h2.cell 2
 rw [Array.getElem?_setIfInBounds_self_of_lt (by simp [hs])] at r2
 have h3:=h2.set 3 (int i64 st)
 have r3:=h3.cell 3
 rw [Array.getElem?_setIfInBounds_self_of_lt (by simp [hs])] at r3
 have h4:=h3.set 4 (.slice A n c)
 have r4:=h4.cell 4
 rw [Array.getElem?_setIfInBounds_self_of_lt (by simp [hs])] at r4
 have h5:=h4.set 5 (int i64 k)
 have r5:=h5.cell 5
 rw [Array.getElem?_setIfInBounds_self_of_lt (by simp [hs])] at r5
 have h6:=h5.set 6 (int i64 o)
 have r6:=h6.cell 6
 rw [Array.getElem?_setIfInBounds_self_of_lt (by simp [hs])] at r6
 have h7:=h6.set 7 (int i64 f)
 have r7:=h7.cell 7
 rw [Array.getElem?_setIfInBounds_self_of_lt (by simp [hs])] at r7
 have h8:=h7.set 8 (int i64 t)
 have r8:=h8.cell 8
 rw [Array.getElem?_setIfInBounds_self_of_lt (by simp [hs])] at r8
 have h9:=h8.set 9 (int i64 p)
 have r9:=h9.cell 9
 rw [Array.getElem?_setIfInBounds_self_of_lt (by simp [hs])] at r9
 have h10:=h9.set 10 (int i64 g)
 have r10:=h10.cell 10
 rw [Array.getElem?_setIfInBounds_self_of_lt (by simp [hs])] at r10
 have h11:=h10.set 11 (int i64 i)
 have r11:=h11.cell 11
 rw [Array.getElem?_setIfInBounds_self_of_lt (by simp [hs])] at r11
 have h12:=h11.set 12 (.slice A2 n2 c2)
 have r12:=h12.cell 12
 rw [Array.getElem?_setIfInBounds_self_of_lt (by simp [hs])] at r12
 exact ⟨r0,r1,r2,r3,r4,r5,r6,r7,r8,r9,r10,r11,r12,(((((((((((((Chg.refl (fun k=>k = r) w).put r 0 (fun _=>rfl) _).put r 1 (fun _=>rfl) _).put r 2 (fun _=>rfl) _).put r 3 (fun _=>rfl) _).put r 4 (fun _=>rfl) _).put r 5 (fun _=>rfl) _).put r 6 (fun _=>rfl) _).put r 7 (fun _=>rfl) _).put r 8 (fun _=>rfl) _).put r 9 (fun _=>rfl) _).put r 10 (fun _=>rfl) _).put r 11 (fun _=>rfl) _).put r 12 (fun _=>rfl) _⟩
theorem ro_put15 {w : World} {r : Nat} {T : TypeId} {cs : Array Value} (hb : Blk w r T cs) (hs : cs.size = 13) (kd po ge st : Int) (b : List UInt8) (k o f t p g i : Int) (A2 : Option Addr) (n2 c2 : Nat) :
  (w.setCell ⟨r,0,none⟩ (int i64 kd)).cell? ⟨r,0,none⟩ = some (int i64 kd) ∧ ((w.setCell ⟨r,0,none⟩ (int i64 kd)).setCell ⟨r,1,none⟩ (int i64 po)).cell? ⟨r,1,none⟩ = some (int i64 po) ∧ (((w.setCell ⟨r,0,none⟩ (int i64 kd)).setCell ⟨r,1,none⟩ (int i64 po)).setCell ⟨r,2,none⟩ (int i64 ge)).cell? ⟨r,2,none⟩ = some (int i64 ge) ∧ ((((w.setCell ⟨r,0,none⟩ (int i64 kd)).setCell ⟨r,1,none⟩ (int i64 po)).setCell ⟨r,2,none⟩ (int i64 ge)).setCell ⟨r,3,none⟩ (int i64 st)).cell? ⟨r,3,none⟩ = some (int i64 st) ∧ (((((w.setCell ⟨r,0,none⟩ (int i64 kd)).setCell ⟨r,1,none⟩ (int i64 po)).setCell ⟨r,2,none⟩ (int i64 ge)).setCell ⟨r,3,none⟩ (int i64 st)).setCell ⟨r,4,none⟩ (.string ⟨b.toArray⟩)).cell? ⟨r,4,none⟩ = some (.string ⟨b.toArray⟩) ∧ ((((((w.setCell ⟨r,0,none⟩ (int i64 kd)).setCell ⟨r,1,none⟩ (int i64 po)).setCell ⟨r,2,none⟩ (int i64 ge)).setCell ⟨r,3,none⟩ (int i64 st)).setCell ⟨r,4,none⟩ (.string ⟨b.toArray⟩)).setCell ⟨r,5,none⟩ (int i64 k)).cell? ⟨r,5,none⟩ = some (int i64 k) ∧ (((((((w.setCell ⟨r,0,none⟩ (int i64 kd)).setCell ⟨r,1,none⟩ (int i64 po)).setCell ⟨r,2,none⟩ (int i64 ge)).setCell ⟨r,3,none⟩ (int i64 st)).setCell ⟨r,4,none⟩ (.string ⟨b.toArray⟩)).setCell ⟨r,5,none⟩ (int i64 k)).setCell ⟨r,6,none⟩ (int i64 o)).cell? ⟨r,6,none⟩ = some (int i64 o) ∧ ((((((((w.setCell ⟨r,0,none⟩ (int i64 kd)).setCell ⟨r,1,none⟩ (int i64 po)).setCell ⟨r,2,none⟩ (int i64 ge)).setCell ⟨r,3,none⟩ (int i64 st)).setCell ⟨r,4,none⟩ (.string ⟨b.toArray⟩)).setCell ⟨r,5,none⟩ (int i64 k)).setCell ⟨r,6,none⟩ (int i64 o)).setCell ⟨r,7,none⟩ (int i64 f)).cell? ⟨r,7,none⟩ = some (int i64 f) ∧ (((((((((w.setCell ⟨r,0,none⟩ (int i64 kd)).setCell ⟨r,1,none⟩ (int i64 po)).setCell ⟨r,2,none⟩ (int i64 ge)).setCell ⟨r,3,none⟩ (int i64 st)).setCell ⟨r,4,none⟩ (.string ⟨b.toArray⟩)).setCell ⟨r,5,none⟩ (int i64 k)).setCell ⟨r,6,none⟩ (int i64 o)).setCell ⟨r,7,none⟩ (int i64 f)).setCell ⟨r,8,none⟩ (int i64 t)).cell? ⟨r,8,none⟩ = some (int i64 t) ∧ ((((((((((w.setCell ⟨r,0,none⟩ (int i64 kd)).setCell ⟨r,1,none⟩ (int i64 po)).setCell ⟨r,2,none⟩ (int i64 ge)).setCell ⟨r,3,none⟩ (int i64 st)).setCell ⟨r,4,none⟩ (.string ⟨b.toArray⟩)).setCell ⟨r,5,none⟩ (int i64 k)).setCell ⟨r,6,none⟩ (int i64 o)).setCell ⟨r,7,none⟩ (int i64 f)).setCell ⟨r,8,none⟩ (int i64 t)).setCell ⟨r,9,none⟩ (int i64 p)).cell? ⟨r,9,none⟩ = some (int i64 p) ∧ (((((((((((w.setCell ⟨r,0,none⟩ (int i64 kd)).setCell ⟨r,1,none⟩ (int i64 po)).setCell ⟨r,2,none⟩ (int i64 ge)).setCell ⟨r,3,none⟩ (int i64 st)).setCell ⟨r,4,none⟩ (.string ⟨b.toArray⟩)).setCell ⟨r,5,none⟩ (int i64 k)).setCell ⟨r,6,none⟩ (int i64 o)).setCell ⟨r,7,none⟩ (int i64 f)).setCell ⟨r,8,none⟩ (int i64 t)).setCell ⟨r,9,none⟩ (int i64 p)).setCell ⟨r,10,none⟩ (int i64 g)).cell? ⟨r,10,none⟩ = some (int i64 g) ∧ ((((((((((((w.setCell ⟨r,0,none⟩ (int i64 kd)).setCell ⟨r,1,none⟩ (int i64 po)).setCell ⟨r,2,none⟩ (int i64 ge)).setCell ⟨r,3,none⟩ (int i64 st)).setCell ⟨r,4,none⟩ (.string ⟨b.toArray⟩)).setCell ⟨r,5,none⟩ (int i64 k)).setCell ⟨r,6,none⟩ (int i64 o)).setCell ⟨r,7,none⟩ (int i64 f)).setCell ⟨r,8,none⟩ (int i64 t)).setCell ⟨r,9,none⟩ (int i64 p)).setCell ⟨r,10,none⟩ (int i64 g)).setCell ⟨r,11,none⟩ (int i64 i)).cell? ⟨r,11,none⟩ = some (int i64 i) ∧ (((((((((((((w.setCell ⟨r,0,none⟩ (int i64 kd)).setCell ⟨r,1,none⟩ (int i64 po)).setCell ⟨r,2,none⟩ (int i64 ge)).setCell ⟨r,3,none⟩ (int i64 st)).setCell ⟨r,4,none⟩ (.string ⟨b.toArray⟩)).setCell ⟨r,5,none⟩ (int i64 k)).setCell ⟨r,6,none⟩ (int i64 o)).setCell ⟨r,7,none⟩ (int i64 f)).setCell ⟨r,8,none⟩ (int i64 t)).setCell ⟨r,9,none⟩ (int i64 p)).setCell ⟨r,10,none⟩ (int i64 g)).setCell ⟨r,11,none⟩ (int i64 i)).setCell ⟨r,12,none⟩ (.slice A2 n2 c2)).cell? ⟨r,12,none⟩ = some (.slice A2 n2 c2) ∧ Chg (fun k=>k = r) w (((((((((((((w.setCell ⟨r,0,none⟩ (int i64 kd)).setCell ⟨r,1,none⟩ (int i64 po)).setCell ⟨r,2,none⟩ (int i64 ge)).setCell ⟨r,3,none⟩ (int i64 st)).setCell ⟨r,4,none⟩ (.string ⟨b.toArray⟩)).setCell ⟨r,5,none⟩ (int i64 k)).setCell ⟨r,6,none⟩ (int i64 o)).setCell ⟨r,7,none⟩ (int i64 f)).setCell ⟨r,8,none⟩ (int i64 t)).setCell ⟨r,9,none⟩ (int i64 p)).setCell ⟨r,10,none⟩ (int i64 g)).setCell ⟨r,11,none⟩ (int i64 i)).setCell ⟨r,12,none⟩ (.slice A2 n2 c2)):=by
 have h0:=hb.set 0 (int i64 kd)
 have r0:=h0.cell 0
 rw [Array.getElem?_setIfInBounds_self_of_lt (by simp [hs])] at r0
 have h1:=h0.set 1 (int i64 po)
 have r1:=h1.cell 1
 rw [Array.getElem?_setIfInBounds_self_of_lt (by simp [hs])] at r1
 have h2:=h1.set 2 (int i64 ge)
 have r2:=h2.cell 2
 rw [Array.getElem?_setIfInBounds_self_of_lt (by simp [hs])] at r2
 have h3:=h2.set 3 (int i64 st)
 have r3:=h3.cell 3
 rw [Array.getElem?_setIfInBounds_self_of_lt (by simp [hs])] at r3
 have h4:=h3.set 4 (.string ⟨b.toArray⟩)
 have r4:=h4.cell 4
 rw [Array.getElem?_setIfInBounds_self_of_lt (by simp [hs])] at r4
 have h5:=h4.set 5 (int i64 k)
 have r5:=h5.cell 5
 rw [Array.getElem?_setIfInBounds_self_of_lt (by simp [hs])] at r5
 have h6:=h5.set 6 (int i64 o)
 have r6:=h6.cell 6
 rw [Array.getElem?_setIfInBounds_self_of_lt (by simp [hs])] at r6
 have h7:=h6.set 7 (int i64 f)
 have r7:=h7.cell 7
 rw [Array.getElem?_setIfInBounds_self_of_lt (by simp [hs])] at r7
 have h8:=h7.set 8 (int i64 t)
 have r8:=h8.cell 8
 rw [Array.getElem?_setIfInBounds_self_of_lt (by simp [hs])] at r8
 have h9:=h8.set 9 (int i64 p)
 have r9:=h9.cell 9
 rw [Array.getElem?_setIfInBounds_self_of_lt (by simp [hs])] at r9
 have h10:=h9.set 10 (int i64 g)
 have r10:=h10.cell 10
 rw [Array.getElem?_setIfInBounds_self_of_lt (by simp [hs])] at r10
 have h11:=h10.set 11 (int i64 i)
 have r11:=h11.cell 11
 rw [Array.getElem?_setIfInBounds_self_of_lt (by simp [hs])] at r11
 have h12:=h11.set 12 (.slice A2 n2 c2)
 have r12:=h12.cell 12
 rw [Array.getElem?_setIfInBounds_self_of_lt (by simp [hs])] at r12
 exact ⟨r0,r1,r2,r3,r4,r5,r6,r7,r8,r9,r10,r11,r12,(((((((((((((Chg.refl (fun k=>k = r) w).put r 0 (fun _=>rfl) _).put r 1 (fun _=>rfl) _).put r 2 (fun _=>rfl) _).put r 3 (fun _=>rfl) _).put r 4 (fun _=>rfl) _).put r 5 (fun _=>rfl) _).put r 6 (fun _=>rfl) _).put r 7 (fun _=>rfl) _).put r 8 (fun _=>rfl) _).put r 9 (fun _=>rfl) _).put r 10 (fun _=>rfl) _).put r 11 (fun _=>rfl) _).put r 12 (fun _=>rfl) _⟩
theorem noU8_ou {kd po ge st : Int} {A : Option Addr} {n c : Nat} {k o f t p g i : Int} {A2 : Option Addr} {n2 c2 : Nat} : noU8 (ouC15 kd po ge st A n c k o f t p g i A2 n2 c2):=noU8_of (by
 intro v hv x
 simp only [ouC15,List.mem_cons,List.not_mem_nil,or_false] at hv
 rcases hv with rfl | rfl | rfl | rfl | rfl | rfl | rfl | rfl | rfl | rfl | rfl | rfl | rfl <;> simp)
theorem noU8_ro {kd po ge st : Int} {b : List UInt8} {k o f t p g i : Int} {A2 : Option Addr} {n2 c2 : Nat} : noU8 (roC15 kd po ge st b k o f t p g i A2 n2 c2):=noU8_of (by
 intro v hv x
 simp only [roC15,List.mem_cons,List.not_mem_nil,or_false] at hv
 rcases hv with rfl | rfl | rfl | rfl | rfl | rfl | rfl | rfl | rfl | rfl | rfl | rfl | rfl <;> simp)
theorem drop15_any (w : World) : Calls Tryz.prog 99 #[] w fun e w2=>e = .returned (.agg #[int i64 0,int i64 0,int i64 0,int i64 0, .slice none 0 0,int i64 0,int i64 0,int i64 0,int i64 0,int i64 0,int i64 0,int i64 0, .slice none 0 0]) ∧ Chg (fun _=>False) w w2:=by
 go_enter Tryz.func99,Tryz.ntmps99
 go_wp2_with fail
 have hb : Blk (w.alloc (.cells #[int i64 0,int i64 0,int i64 0,int i64 0, .slice none 0 0,int i64 0,int i64 0,int i64 0,int i64 0,int i64 0,int i64 0,int i64 0, .slice none 0 0] 44)) w.heap.size 44 (ouC15 0 0 0 0 none 0 0 0 0 0 0 0 0 0 none 0 0):=blk_new rfl
 obtain ⟨r0,r1,r2,r3,r4,r5,r6,r7,r8,r9,r10,r11,r12⟩:=ou_cells15 hb
 exact bodyPost_ret (v := .agg #[int i64 0,int i64 0,int i64 0,int i64 0, .slice none 0 0,int i64 0,int i64 0,int i64 0,int i64 0,int i64 0,int i64 0,int i64 0, .slice none 0 0]) (by simp [results,Tryz.results99,go_sem,r0,r1,r2,r3,r4,r5,r6,r7,r8,r9,r10,r11,r12]) rfl ⟨rfl,(Chg.refl (fun _=>False) w).alloc _⟩
theorem deliv15_any (ak ap ao ag sp : Int) (A : Option Addr) (n c : Nat) (w : World) : Calls Tryz.prog 102 #[.agg #[int i64 ak,int i64 ap,int i64 ao,int i64 ag],int i64 sp, .slice A n c] w fun e w2=>e = .returned (.agg #[int i64 1,int i64 ap,int i64 ag,int i64 sp, .slice A n c,int i64 0,int i64 0,int i64 0,int i64 0,int i64 0,int i64 0,int i64 0, .slice none 0 0]) ∧ Chg (fun _=>False) w w2:=by
 go_enter Tryz.func102,Tryz.ntmps102
 go_wp2_with fail
 have hb : Blk ((w.alloc (.cells #[int i64 ak,int i64 ap,int i64 ao,int i64 ag] 188)).alloc (.cells #[int i64 1,int i64 ap,int i64 ag,int i64 sp, .slice A n c,int i64 0,int i64 0,int i64 0,int i64 0,int i64 0,int i64 0,int i64 0, .slice none 0 0] 44)) (w.heap.size + 1) 44 (ouC15 1 ap ag sp A n c 0 0 0 0 0 0 0 none 0 0):=blk_new (by simp)
 obtain ⟨r0,r1,r2,r3,r4,r5,r6,r7,r8,r9,r10,r11,r12⟩:=ou_cells15 hb
 exact bodyPost_ret (v := .agg #[int i64 1,int i64 ap,int i64 ag,int i64 sp, .slice A n c,int i64 0,int i64 0,int i64 0,int i64 0,int i64 0,int i64 0,int i64 0, .slice none 0 0]) (by simp [results,Tryz.results102,go_sem,r0,r1,r2,r3,r4,r5,r6,r7,r8,r9,r10,r11,r12]) rfl ⟨rfl,((Chg.refl (fun _=>False) w).alloc _).alloc _⟩
theorem sent15_any {S15 : Nat → Prop} (k o f t p g i : Int) (A : Option Addr) (n c : Nat) (b : List UInt8) (w : World) (hn : n ≤ 9223372036854775807) (h : BsM15 w A n c b) : Calls Tryz.prog 104 #[.agg #[int i64 k,int i64 o,int i64 f,int i64 t,int i64 p,int i64 g,int i64 i, .slice A n c]] w (HO15 S15 (snt15 k o f t p g i b) w):=by
 have hrt:=fun W=>tright_any k o f t p g i A n c W hn
 unfold pkC at hrt
 have HN:=hd_ h.2.1
 have HM:=hd_ h
 clear h
 have HB0 : Hid (Blk ((w.alloc (.cells #[int i64 k,int i64 o,int i64 f,int i64 t,int i64 p,int i64 g,int i64 i, .slice A n c] 37)).alloc (.cells #[int i64 0,int i64 0,int i64 0,int i64 0, .slice none 0 0,int i64 0,int i64 0,int i64 0,int i64 0,int i64 0,int i64 0,int i64 0, .slice none 0 0] 44)) (w.heap.size) 37 (pkC k o f t p g i A n c)):=hd_ (Blk.alloc (blk_new rfl) _)
 have HZ : Hid (Blk ((w.alloc (.cells #[int i64 k,int i64 o,int i64 f,int i64 t,int i64 p,int i64 g,int i64 i, .slice A n c] 37)).alloc (.cells #[int i64 0,int i64 0,int i64 0,int i64 0, .slice none 0 0,int i64 0,int i64 0,int i64 0,int i64 0,int i64 0,int i64 0,int i64 0, .slice none 0 0] 44)) (w.heap.size + 1) 44 (ouC15 0 0 0 0 none 0 0 0 0 0 0 0 0 0 none 0 0)):=hd_ (blk_new (by simp))
 have HX:=hd_ (((Chg.refl (fun _=>False) w).alloc (.cells #[int i64 k,int i64 o,int i64 f,int i64 t,int i64 p,int i64 g,int i64 i, .slice A n c] 37)).alloc (.cells #[int i64 0,int i64 0,int i64 0,int i64 0, .slice none 0 0,int i64 0,int i64 0,int i64 0,int i64 0,int i64 0,int i64 0,int i64 0, .slice none 0 0] 44))
 have HQ : Hid (w.heap.size ≤ w.heap.size + 1):=hd_ (by omega)
 cases hr : pkR k o f t p g i n with
 | false =>
  have HV:=hd_ (show snt15 k o f t p g i b = zOV from snt15_no (by rw [← HN.out]; exact hr))
  rw [hr] at hrt
  have HRT:=hd_ hrt
  clear hrt hr
  rw [HV.out]
  go_enter Tryz.func104,Tryz.ntmps104
  go_upto_region 1 with fail
  generalize (w.alloc (.cells #[int i64 k,int i64 o,int i64 f,int i64 t,int i64 p,int i64 g,int i64 i, .slice A n c] 37)).alloc (.cells #[int i64 0,int i64 0,int i64 0,int i64 0, .slice none 0 0,int i64 0,int i64 0,int i64 0,int i64 0,int i64 0,int i64 0,int i64 0, .slice none 0 0] 44) = w1 at *
  generalize w.heap.size + 1 = Q1 at *
  generalize w.heap.size = Q0 at HB0 ⊢
  obtain ⟨y0,y1,y2,y3,y4,y5,y6,y7⟩:=pk_cells HB0.out
  go_wp2_with fail
  refine (HRT.out _).mono ?_
  rintro e w2 ⟨rfl,hc⟩
  replace HB0:=hd_ (HB0.out.chg hc id)
  replace HZ:=hd_ (HZ.out.chg hc id)
  replace HX:=hd_ (HX.out.trans hc (fun _ _ e=>e))
  clear hc
  clear y0 y1 y2 y3 y4 y5 y6 y7
  obtain ⟨y0,y1,y2,y3,y4,y5,y6,y7⟩:=pk_cells HB0.out
  go_wp2_with fail
  refine (drop15_any _).mono ?_
  rintro e w3 ⟨rfl,hc⟩
  replace HZ:=hd_ (HZ.out.chg hc id)
  replace HX:=hd_ (HX.out.trans hc (fun _ _ e=>e))
  clear hc
  obtain ⟨x0,x1,x2,x3,x4,x5,x6,x7,x8,x9,x10,x11,x12⟩:=ou_cells15 HZ.out
  obtain ⟨f0,f1,f2,f3,f4,f5,f6,f7,f8,f9,f10,f11,f12⟩:=ou_free15 HZ.out
  obtain ⟨r0,r1,r2,r3,r4,r5,r6,r7,r8,r9,r10,r11,r12,hcs⟩:=ou_put15 HZ.out rfl 0 0 0 0 none 0 0 0 0 0 0 0 0 0 none 0 0
  have RR:=hd_ (And.intro r0 (And.intro r1 (And.intro r2 (And.intro r3 (And.intro r4 (And.intro r5 (And.intro r6 (And.intro r7 (And.intro r8 (And.intro r9 (And.intro r10 (And.intro r11 r12))))))))))))
  have HF:=hd_ (fresh_set HX.out hcs HQ.out)
  clear r0 r1 r2 r3 r4 r5 r6 r7 r8 r9 r10 r11 r12 hcs
  go_wp2_with fail
  obtain ⟨r0,r1,r2,r3,r4,r5,r6,r7,r8,r9,r10,r11,r12⟩:=RR.out
  exact bodyPost_ret (v := .agg #[int i64 0,int i64 0,int i64 0,int i64 0, .slice none 0 0,int i64 0,int i64 0,int i64 0,int i64 0,int i64 0,int i64 0,int i64 0, .slice none 0 0]) (by simp [results,Tryz.results104,go_sem,r0,r1,r2,r3,r4,r5,r6,r7,r8,r9,r10,r11,r12]) rfl ⟨none,0,0,none,0,0,rfl,BsS15.nil _ _,BsM15.nil _,HF.out⟩
 | true =>
  have HV:=hd_ (show snt15 k o f t p g i b = ⟨2,0,0,0, [],k,o,f,t,p,g,i,b⟩ from snt15_yes (by rw [← HN.out]; exact hr))
  rw [hr] at hrt
  have HRT:=hd_ hrt
  clear hrt hr
  rw [HV.out]
  go_enter Tryz.func104,Tryz.ntmps104
  go_upto_region 1 with fail
  generalize (w.alloc (.cells #[int i64 k,int i64 o,int i64 f,int i64 t,int i64 p,int i64 g,int i64 i, .slice A n c] 37)).alloc (.cells #[int i64 0,int i64 0,int i64 0,int i64 0, .slice none 0 0,int i64 0,int i64 0,int i64 0,int i64 0,int i64 0,int i64 0,int i64 0, .slice none 0 0] 44) = w1 at *
  generalize w.heap.size + 1 = Q1 at *
  generalize w.heap.size = Q0 at HB0 ⊢
  obtain ⟨y0,y1,y2,y3,y4,y5,y6,y7⟩:=pk_cells HB0.out
  go_wp2_with fail
  refine (HRT.out _).mono ?_
  rintro e w2 ⟨rfl,hc⟩
  replace HB0:=hd_ (HB0.out.chg hc id)
  replace HZ:=hd_ (HZ.out.chg hc id)
  replace HX:=hd_ (HX.out.trans hc (fun _ _ e=>e))
  clear hc
  clear y0 y1 y2 y3 y4 y5 y6 y7
  obtain ⟨y0,y1,y2,y3,y4,y5,y6,y7⟩:=pk_cells HB0.out
  obtain ⟨x0,x1,x2,x3,x4,x5,x6,x7,x8,x9,x10,x11,x12⟩:=ou_cells15 HZ.out
  obtain ⟨f0,f1,f2,f3,f4,f5,f6,f7,f8,f9,f10,f11,f12⟩:=ou_free15 HZ.out
  obtain ⟨r0,r1,r2,r3,r4,r5,r6,r7,r8,r9,r10,r11,r12,hcs⟩:=ou_put15 HZ.out rfl 2 0 0 0 none 0 0 k o f t p g i A n c
  have RR:=hd_ (And.intro r0 (And.intro r1 (And.intro r2 (And.intro r3 (And.intro r4 (And.intro r5 (And.intro r6 (And.intro r7 (And.intro r8 (And.intro r9 (And.intro r10 (And.intro r11 r12))))))))))))
  have HF:=hd_ (fresh_set HX.out hcs HQ.out)
  clear r0 r1 r2 r3 r4 r5 r6 r7 r8 r9 r10 r11 r12 hcs
  go_wp2_with fail
  obtain ⟨r0,r1,r2,r3,r4,r5,r6,r7,r8,r9,r10,r11,r12⟩:=RR.out
  exact bodyPost_ret (v := .agg #[int i64 2,int i64 0,int i64 0,int i64 0, .slice none 0 0,int i64 k,int i64 o,int i64 f,int i64 t,int i64 p,int i64 g,int i64 i, .slice A n c]) (by simp [results,Tryz.results104,go_sem,r0,r1,r2,r3,r4,r5,r6,r7,r8,r9,r10,r11,r12]) rfl ⟨none,0,0,A,n,c,rfl,BsS15.nil _ _,HM.out.chg HF.out,HF.out⟩
theorem one15 {w : World} {q : Nat} {T : TypeId} {v : Value} (h : Blk w q T #[v]) : w.cell? ⟨q,0,none⟩ = some v:=by
 have h0:=h.cell 0
 simpa using h0
theorem og1_any (ak ap ao ag : Int) (w : World) : Calls Tryz.prog 100 #[.agg #[int i64 ak,int i64 ap,int i64 ao,int i64 ag]] w fun e w2=>e = .returned (.agg #[int i64 0,int i64 0,int i64 0,int i64 0, .slice none 0 0,int i64 0,int i64 0,int i64 0,int i64 0,int i64 0,int i64 0,int i64 0, .slice none 0 0]) ∧ Chg (fun _=>False) w w2:=by
 have HB0 : Hid (Blk ((w.alloc (.cells #[int i64 ak,int i64 ap,int i64 ao,int i64 ag] 188)).alloc (.cells #[int i64 0,int i64 0,int i64 0,int i64 0, .slice none 0 0,int i64 0,int i64 0,int i64 0,int i64 0,int i64 0,int i64 0,int i64 0, .slice none 0 0] 44)) (w.heap.size) 188 (acC ak ap ao ag)):=hd_ (Blk.alloc (blk_new rfl) _)
 have HZ : Hid (Blk ((w.alloc (.cells #[int i64 ak,int i64 ap,int i64 ao,int i64 ag] 188)).alloc (.cells #[int i64 0,int i64 0,int i64 0,int i64 0, .slice none 0 0,int i64 0,int i64 0,int i64 0,int i64 0,int i64 0,int i64 0,int i64 0, .slice none 0 0] 44)) (w.heap.size + 1) 44 (ouC15 0 0 0 0 none 0 0 0 0 0 0 0 0 0 none 0 0)):=hd_ (blk_new (by simp))
 have HX:=hd_ (((Chg.refl (fun _=>False) w).alloc (.cells #[int i64 ak,int i64 ap,int i64 ao,int i64 ag] 188)).alloc (.cells #[int i64 0,int i64 0,int i64 0,int i64 0, .slice none 0 0,int i64 0,int i64 0,int i64 0,int i64 0,int i64 0,int i64 0,int i64 0, .slice none 0 0] 44))
 have HQ : Hid (w.heap.size ≤ w.heap.size + 1):=hd_ (by omega)
 go_enter Tryz.func100,Tryz.ntmps100
 go_upto_region 1 with fail
 generalize (w.alloc (.cells #[int i64 ak,int i64 ap,int i64 ao,int i64 ag] 188)).alloc (.cells #[int i64 0,int i64 0,int i64 0,int i64 0, .slice none 0 0,int i64 0,int i64 0,int i64 0,int i64 0,int i64 0,int i64 0,int i64 0, .slice none 0 0] 44) = w1 at *
 generalize w.heap.size + 1 = Q1 at *
 generalize w.heap.size = Q0 at HB0 ⊢
 go_wp2_with fail
 refine (drop15_any _).mono ?_
 rintro e w3 ⟨rfl,hc⟩
 replace HZ:=hd_ (HZ.out.chg hc id)
 replace HX:=hd_ (HX.out.trans hc (fun _ _ e=>e))
 clear hc
 obtain ⟨x0,x1,x2,x3,x4,x5,x6,x7,x8,x9,x10,x11,x12⟩:=ou_cells15 HZ.out
 obtain ⟨f0,f1,f2,f3,f4,f5,f6,f7,f8,f9,f10,f11,f12⟩:=ou_free15 HZ.out
 obtain ⟨r0,r1,r2,r3,r4,r5,r6,r7,r8,r9,r10,r11,r12,hcs⟩:=ou_put15 HZ.out rfl 0 0 0 0 none 0 0 0 0 0 0 0 0 0 none 0 0
 have RR:=hd_ (And.intro r0 (And.intro r1 (And.intro r2 (And.intro r3 (And.intro r4 (And.intro r5 (And.intro r6 (And.intro r7 (And.intro r8 (And.intro r9 (And.intro r10 (And.intro r11 r12))))))))))))
 have HF:=hd_ (fresh_set HX.out hcs HQ.out)
 clear r0 r1 r2 r3 r4 r5 r6 r7 r8 r9 r10 r11 r12 hcs
 go_wp2_with fail
 obtain ⟨r0,r1,r2,r3,r4,r5,r6,r7,r8,r9,r10,r11,r12⟩:=RR.out
 exact bodyPost_ret (v := .agg #[int i64 0,int i64 0,int i64 0,int i64 0, .slice none 0 0,int i64 0,int i64 0,int i64 0,int i64 0,int i64 0,int i64 0,int i64 0, .slice none 0 0]) (by simp [results,Tryz.results100,go_sem,r0,r1,r2,r3,r4,r5,r6,r7,r8,r9,r10,r11,r12]) rfl ⟨rfl,HF.out⟩
theorem op1_any (ak ap ao ag : Int) (w : World) : Calls Tryz.prog 113 #[.agg #[int i64 ak,int i64 ap,int i64 ao,int i64 ag]] w fun e w2=>e = .returned (.agg #[int i64 0,int i64 0,int i64 0,int i64 0, .slice none 0 0,int i64 0,int i64 0,int i64 0,int i64 0,int i64 0,int i64 0,int i64 0, .slice none 0 0]) ∧ Chg (fun _=>False) w w2:=by
 have HB0 : Hid (Blk ((w.alloc (.cells #[int i64 ak,int i64 ap,int i64 ao,int i64 ag] 188)).alloc (.cells #[int i64 0,int i64 0,int i64 0,int i64 0, .slice none 0 0,int i64 0,int i64 0,int i64 0,int i64 0,int i64 0,int i64 0,int i64 0, .slice none 0 0] 44)) (w.heap.size) 188 (acC ak ap ao ag)):=hd_ (Blk.alloc (blk_new rfl) _)
 have HZ : Hid (Blk ((w.alloc (.cells #[int i64 ak,int i64 ap,int i64 ao,int i64 ag] 188)).alloc (.cells #[int i64 0,int i64 0,int i64 0,int i64 0, .slice none 0 0,int i64 0,int i64 0,int i64 0,int i64 0,int i64 0,int i64 0,int i64 0, .slice none 0 0] 44)) (w.heap.size + 1) 44 (ouC15 0 0 0 0 none 0 0 0 0 0 0 0 0 0 none 0 0)):=hd_ (blk_new (by simp))
 have HX:=hd_ (((Chg.refl (fun _=>False) w).alloc (.cells #[int i64 ak,int i64 ap,int i64 ao,int i64 ag] 188)).alloc (.cells #[int i64 0,int i64 0,int i64 0,int i64 0, .slice none 0 0,int i64 0,int i64 0,int i64 0,int i64 0,int i64 0,int i64 0,int i64 0, .slice none 0 0] 44))
 have HQ : Hid (w.heap.size ≤ w.heap.size + 1):=hd_ (by omega)
 go_enter Tryz.func113,Tryz.ntmps113
 go_upto_region 1 with fail
 generalize (w.alloc (.cells #[int i64 ak,int i64 ap,int i64 ao,int i64 ag] 188)).alloc (.cells #[int i64 0,int i64 0,int i64 0,int i64 0, .slice none 0 0,int i64 0,int i64 0,int i64 0,int i64 0,int i64 0,int i64 0,int i64 0, .slice none 0 0] 44) = w1 at *
 generalize w.heap.size + 1 = Q1 at *
 generalize w.heap.size = Q0 at HB0 ⊢
 go_wp2_with fail
 refine (drop15_any _).mono ?_
 rintro e w3 ⟨rfl,hc⟩
 replace HZ:=hd_ (HZ.out.chg hc id)
 replace HX:=hd_ (HX.out.trans hc (fun _ _ e=>e))
 clear hc
 obtain ⟨x0,x1,x2,x3,x4,x5,x6,x7,x8,x9,x10,x11,x12⟩:=ou_cells15 HZ.out
 obtain ⟨f0,f1,f2,f3,f4,f5,f6,f7,f8,f9,f10,f11,f12⟩:=ou_free15 HZ.out
 obtain ⟨r0,r1,r2,r3,r4,r5,r6,r7,r8,r9,r10,r11,r12,hcs⟩:=ou_put15 HZ.out rfl 0 0 0 0 none 0 0 0 0 0 0 0 0 0 none 0 0
 have RR:=hd_ (And.intro r0 (And.intro r1 (And.intro r2 (And.intro r3 (And.intro r4 (And.intro r5 (And.intro r6 (And.intro r7 (And.intro r8 (And.intro r9 (And.intro r10 (And.intro r11 r12))))))))))))
 have HF:=hd_ (fresh_set HX.out hcs HQ.out)
 clear r0 r1 r2 r3 r4 r5 r6 r7 r8 r9 r10 r11 r12 hcs
 go_wp2_with fail
 obtain ⟨r0,r1,r2,r3,r4,r5,r6,r7,r8,r9,r10,r11,r12⟩:=RR.out
 exact bodyPost_ret (v := .agg #[int i64 0,int i64 0,int i64 0,int i64 0, .slice none 0 0,int i64 0,int i64 0,int i64 0,int i64 0,int i64 0,int i64 0,int i64 0, .slice none 0 0]) (by simp [results,Tryz.results113,go_sem,r0,r1,r2,r3,r4,r5,r6,r7,r8,r9,r10,r11,r12]) rfl ⟨rfl,HF.out⟩
theorem og2_any {S15 : Nat → Prop} (ak ap ao ag : Int) (qb : Nat) (A : Option Addr) (n c : Nat) (b : List UInt8) (w : World) (hq : Blk w qb 31 #[.slice A n c]) (h : BsS15 S15 w A n c b) : Calls Tryz.prog 101 #[.agg #[int i64 ak,int i64 ap,int i64 ao,int i64 ag], .pointer (some ⟨qb,0,none⟩)] w (HO15 S15 (dlv15 ap ag ag b) w):=by
 have HB2:=hd_ ((hq.alloc (.cells #[int i64 ak,int i64 ap,int i64 ao,int i64 ag] 188)).alloc (.cells #[int i64 0,int i64 0,int i64 0,int i64 0, .slice none 0 0,int i64 0,int i64 0,int i64 0,int i64 0,int i64 0,int i64 0,int i64 0, .slice none 0 0] 44))
 have HM:=hd_ h
 clear h hq
 have HB0 : Hid (Blk ((w.alloc (.cells #[int i64 ak,int i64 ap,int i64 ao,int i64 ag] 188)).alloc (.cells #[int i64 0,int i64 0,int i64 0,int i64 0, .slice none 0 0,int i64 0,int i64 0,int i64 0,int i64 0,int i64 0,int i64 0,int i64 0, .slice none 0 0] 44)) (w.heap.size) 188 (acC ak ap ao ag)):=hd_ (Blk.alloc (blk_new rfl) _)
 have HZ : Hid (Blk ((w.alloc (.cells #[int i64 ak,int i64 ap,int i64 ao,int i64 ag] 188)).alloc (.cells #[int i64 0,int i64 0,int i64 0,int i64 0, .slice none 0 0,int i64 0,int i64 0,int i64 0,int i64 0,int i64 0,int i64 0,int i64 0, .slice none 0 0] 44)) (w.heap.size + 1) 44 (ouC15 0 0 0 0 none 0 0 0 0 0 0 0 0 0 none 0 0)):=hd_ (blk_new (by simp))
 have HX:=hd_ (((Chg.refl (fun _=>False) w).alloc (.cells #[int i64 ak,int i64 ap,int i64 ao,int i64 ag] 188)).alloc (.cells #[int i64 0,int i64 0,int i64 0,int i64 0, .slice none 0 0,int i64 0,int i64 0,int i64 0,int i64 0,int i64 0,int i64 0,int i64 0, .slice none 0 0] 44))
 have HQ : Hid (w.heap.size ≤ w.heap.size + 1):=hd_ (by omega)
 go_enter Tryz.func101,Tryz.ntmps101
 go_upto_region 1 with fail
 generalize (w.alloc (.cells #[int i64 ak,int i64 ap,int i64 ao,int i64 ag] 188)).alloc (.cells #[int i64 0,int i64 0,int i64 0,int i64 0, .slice none 0 0,int i64 0,int i64 0,int i64 0,int i64 0,int i64 0,int i64 0,int i64 0, .slice none 0 0] 44) = w1 at *
 generalize w.heap.size + 1 = Q1 at *
 generalize w.heap.size = Q0 at HB0 ⊢
 obtain ⟨y0,y1,y2,y3⟩:=ac_cells13 HB0.out
 have c0:=one15 HB2.out
 go_wp2_with fail
 refine (deliv15_any ak ap ao ag ag A n c _).mono ?_
 rintro e w3 ⟨rfl,hc⟩
 replace HZ:=hd_ (HZ.out.chg hc id)
 replace HX:=hd_ (HX.out.trans hc (fun _ _ e=>e))
 clear hc
 clear y0 y1 y2 y3 c0
 obtain ⟨x0,x1,x2,x3,x4,x5,x6,x7,x8,x9,x10,x11,x12⟩:=ou_cells15 HZ.out
 obtain ⟨f0,f1,f2,f3,f4,f5,f6,f7,f8,f9,f10,f11,f12⟩:=ou_free15 HZ.out
 obtain ⟨r0,r1,r2,r3,r4,r5,r6,r7,r8,r9,r10,r11,r12,hcs⟩:=ou_put15 HZ.out rfl 1 ap ag ag A n c 0 0 0 0 0 0 0 none 0 0
 have RR:=hd_ (And.intro r0 (And.intro r1 (And.intro r2 (And.intro r3 (And.intro r4 (And.intro r5 (And.intro r6 (And.intro r7 (And.intro r8 (And.intro r9 (And.intro r10 (And.intro r11 r12))))))))))))
 have HF:=hd_ (fresh_set HX.out hcs HQ.out)
 clear r0 r1 r2 r3 r4 r5 r6 r7 r8 r9 r10 r11 r12 hcs
 go_wp2_with fail
 obtain ⟨r0,r1,r2,r3,r4,r5,r6,r7,r8,r9,r10,r11,r12⟩:=RR.out
 exact bodyPost_ret (v := .agg #[int i64 1,int i64 ap,int i64 ag,int i64 ag, .slice A n c,int i64 0,int i64 0,int i64 0,int i64 0,int i64 0,int i64 0,int i64 0, .slice none 0 0]) (by simp [results,Tryz.results101,go_sem,r0,r1,r2,r3,r4,r5,r6,r7,r8,r9,r10,r11,r12]) rfl ⟨A,n,c,none,0,0,rfl,HM.out.chg HF.out,BsM15.nil _,HF.out⟩
theorem og3_any {S15 : Nat → Prop} (ak ap ao ag ch nu : Int) (qc qi qb : Nat) (A : Option Addr) (n c : Nat) (b : List UInt8) (w : World) (hn : n ≤ 9223372036854775807) (hqc : Blk w qc 3 #[int i64 ch]) (hqi : Blk w qi 3 #[int i64 nu]) (hqb : Blk w qb 31 #[.slice A n c]) (h : BsM15 w A n c b) : Calls Tryz.prog 103 #[.agg #[int i64 ak,int i64 ap,int i64 ao,int i64 ag], .pointer (some ⟨qc,0,none⟩), .pointer (some ⟨qi,0,none⟩), .pointer (some ⟨qb,0,none⟩)] w (HO15 S15 (snt15 1 ch ch ao ap ag nu b) w):=by
 have HS:=hd_ (fun (W : World) (hW : BsM15 W A n c b)=>sent15_any (S15:=S15) 1 ch ch ao ap ag nu A n c b W hn hW)
 generalize snt15 1 ch ch ao ap ag nu b = v at *
 have HB2:=hd_ ((hqc.alloc (.cells #[int i64 ak,int i64 ap,int i64 ao,int i64 ag] 188)).alloc (.cells #[int i64 0,int i64 0,int i64 0,int i64 0, .slice none 0 0,int i64 0,int i64 0,int i64 0,int i64 0,int i64 0,int i64 0,int i64 0, .slice none 0 0] 44))
 have HB3:=hd_ ((hqi.alloc (.cells #[int i64 ak,int i64 ap,int i64 ao,int i64 ag] 188)).alloc (.cells #[int i64 0,int i64 0,int i64 0,int i64 0, .slice none 0 0,int i64 0,int i64 0,int i64 0,int i64 0,int i64 0,int i64 0,int i64 0, .slice none 0 0] 44))
 have HB4:=hd_ ((hqb.alloc (.cells #[int i64 ak,int i64 ap,int i64 ao,int i64 ag] 188)).alloc (.cells #[int i64 0,int i64 0,int i64 0,int i64 0, .slice none 0 0,int i64 0,int i64 0,int i64 0,int i64 0,int i64 0,int i64 0,int i64 0, .slice none 0 0] 44))
 have HM:=hd_ h
 clear h hqc hqi hqb
 have HB0 : Hid (Blk ((w.alloc (.cells #[int i64 ak,int i64 ap,int i64 ao,int i64 ag] 188)).alloc (.cells #[int i64 0,int i64 0,int i64 0,int i64 0, .slice none 0 0,int i64 0,int i64 0,int i64 0,int i64 0,int i64 0,int i64 0,int i64 0, .slice none 0 0] 44)) (w.heap.size) 188 (acC ak ap ao ag)):=hd_ (Blk.alloc (blk_new rfl) _)
 have HZ : Hid (Blk ((w.alloc (.cells #[int i64 ak,int i64 ap,int i64 ao,int i64 ag] 188)).alloc (.cells #[int i64 0,int i64 0,int i64 0,int i64 0, .slice none 0 0,int i64 0,int i64 0,int i64 0,int i64 0,int i64 0,int i64 0,int i64 0, .slice none 0 0] 44)) (w.heap.size + 1) 44 (ouC15 0 0 0 0 none 0 0 0 0 0 0 0 0 0 none 0 0)):=hd_ (blk_new (by simp))
 have HX:=hd_ (((Chg.refl (fun _=>False) w).alloc (.cells #[int i64 ak,int i64 ap,int i64 ao,int i64 ag] 188)).alloc (.cells #[int i64 0,int i64 0,int i64 0,int i64 0, .slice none 0 0,int i64 0,int i64 0,int i64 0,int i64 0,int i64 0,int i64 0,int i64 0, .slice none 0 0] 44))
 have HQ : Hid (w.heap.size ≤ w.heap.size + 1):=hd_ (by omega)
 go_enter Tryz.func103,Tryz.ntmps103
 go_upto_region 1 with fail
 generalize (w.alloc (.cells #[int i64 ak,int i64 ap,int i64 ao,int i64 ag] 188)).alloc (.cells #[int i64 0,int i64 0,int i64 0,int i64 0, .slice none 0 0,int i64 0,int i64 0,int i64 0,int i64 0,int i64 0,int i64 0,int i64 0, .slice none 0 0] 44) = w1 at *
 generalize w.heap.size + 1 = Q1 at *
 generalize w.heap.size = Q0 at HB0 ⊢
 obtain ⟨y0,y1,y2,y3⟩:=ac_cells13 HB0.out
 have c0:=one15 HB2.out
 have c1:=one15 HB3.out
 have c2:=one15 HB4.out
 go_wp2_with fail
 refine (HS.out _ (HM.out.chg HX.out)).mono ?_
 rintro e w3 ⟨A2,n2,c2,A3,n3,c3,rfl,hm2,hm3,hc⟩
 unfold ouC15
 replace HZ:=hd_ (HZ.out.chg hc id)
 replace HX:=hd_ (HX.out.trans hc (fun _ _ e=>e))
 clear y0 y1 y2 y3 c0 c1 hc
 have HM2:=hd_ hm2
 have HM3:=hd_ hm3
 clear hm2 hm3
 obtain ⟨x0,x1,x2,x3,x4,x5,x6,x7,x8,x9,x10,x11,x12⟩:=ou_cells15 HZ.out
 obtain ⟨f0,f1,f2,f3,f4,f5,f6,f7,f8,f9,f10,f11,f12⟩:=ou_free15 HZ.out
 obtain ⟨r0,r1,r2,r3,r4,r5,r6,r7,r8,r9,r10,r11,r12,hcs⟩:=ou_put15 HZ.out rfl v.kd v.po v.ge v.st A2 n2 c2 v.k v.o v.f v.t v.p v.g v.i A3 n3 c3
 have RR:=hd_ (And.intro r0 (And.intro r1 (And.intro r2 (And.intro r3 (And.intro r4 (And.intro r5 (And.intro r6 (And.intro r7 (And.intro r8 (And.intro r9 (And.intro r10 (And.intro r11 r12))))))))))))
 have HF:=hd_ (fresh_set HX.out hcs HQ.out)
 replace HM2:=hd_ (HM2.out.put HZ.out noU8_ou hcs)
 replace HM3:=hd_ (HM3.out.put HZ.out noU8_ou hcs)
 clear r0 r1 r2 r3 r4 r5 r6 r7 r8 r9 r10 r11 r12 hcs
 go_wp2_with fail
 obtain ⟨r0,r1,r2,r3,r4,r5,r6,r7,r8,r9,r10,r11,r12⟩:=RR.out
 exact bodyPost_ret (v := .agg #[int i64 v.kd,int i64 v.po,int i64 v.ge,int i64 v.st, .slice A2 n2 c2,int i64 v.k,int i64 v.o,int i64 v.f,int i64 v.t,int i64 v.p,int i64 v.g,int i64 v.i, .slice A3 n3 c3]) (by simp [results,Tryz.results103,go_sem,r0,r1,r2,r3,r4,r5,r6,r7,r8,r9,r10,r11,r12]) rfl ⟨A2,n2,c2,A3,n3,c3,rfl,HM2.out,HM3.out,HF.out⟩
theorem op2_any {S15 : Nat → Prop} (ak ap ao ag : Int) (qp : Nat) (k o f t p g i : Int) (A : Option Addr) (n c : Nat) (b : List UInt8) (w : World) (hn : n ≤ 140737488355328) (hq : Blk w qp 37 (pkC k o f t p g i A n c)) (h : BsM15 w A n c b) (hS15 : ∀ k,w.heap.size ≤ k → S15 k) : Calls Tryz.prog 114 #[.agg #[int i64 ak,int i64 ap,int i64 ao,int i64 ag], .pointer (some ⟨qp,0,none⟩)] w (HO15 S15 (dlv15 ap ag g b) w):=by
 have HB2:=hd_ ((hq.alloc (.cells #[int i64 ak,int i64 ap,int i64 ao,int i64 ag] 188)).alloc (.cells #[int i64 0,int i64 0,int i64 0,int i64 0, .slice none 0 0,int i64 0,int i64 0,int i64 0,int i64 0,int i64 0,int i64 0,int i64 0, .slice none 0 0] 44))
 have HM:=hd_ h
 have HSW0:=hd_ hS15
 have HCL:=hd_ (fun (W : World) (hW : Chg (fun _=>False) w W)=>tclone_any A n c b (fun _=>True) W h.2.1 (h.2.2.chg hW (fun _ _=>id)) h.1 hn)
 have HQP:=hd_ (show ¬ qp = w.heap.size + 1 from by have:=hq.lt; omega)
 have HQN : Hid (¬ w.heap.size = w.heap.size + 1):=hd_ (by omega)
 clear h hq
 have HB0 : Hid (Blk ((w.alloc (.cells #[int i64 ak,int i64 ap,int i64 ao,int i64 ag] 188)).alloc (.cells #[int i64 0,int i64 0,int i64 0,int i64 0, .slice none 0 0,int i64 0,int i64 0,int i64 0,int i64 0,int i64 0,int i64 0,int i64 0, .slice none 0 0] 44)) (w.heap.size) 188 (acC ak ap ao ag)):=hd_ (Blk.alloc (blk_new rfl) _)
 have HZ : Hid (Blk ((w.alloc (.cells #[int i64 ak,int i64 ap,int i64 ao,int i64 ag] 188)).alloc (.cells #[int i64 0,int i64 0,int i64 0,int i64 0, .slice none 0 0,int i64 0,int i64 0,int i64 0,int i64 0,int i64 0,int i64 0,int i64 0, .slice none 0 0] 44)) (w.heap.size + 1) 44 (ouC15 0 0 0 0 none 0 0 0 0 0 0 0 0 0 none 0 0)):=hd_ (blk_new (by simp))
 have HX:=hd_ (((Chg.refl (fun _=>False) w).alloc (.cells #[int i64 ak,int i64 ap,int i64 ao,int i64 ag] 188)).alloc (.cells #[int i64 0,int i64 0,int i64 0,int i64 0, .slice none 0 0,int i64 0,int i64 0,int i64 0,int i64 0,int i64 0,int i64 0,int i64 0, .slice none 0 0] 44))
 have HQ : Hid (w.heap.size ≤ w.heap.size + 1):=hd_ (by omega)
 go_enter Tryz.func114,Tryz.ntmps114
 go_upto_region 1 with fail
 generalize (w.alloc (.cells #[int i64 ak,int i64 ap,int i64 ao,int i64 ag] 188)).alloc (.cells #[int i64 0,int i64 0,int i64 0,int i64 0, .slice none 0 0,int i64 0,int i64 0,int i64 0,int i64 0,int i64 0,int i64 0,int i64 0, .slice none 0 0] 44) = w1 at *
 generalize w.heap.size + 1 = Q1 at *
 generalize w.heap.size = Q0 at HB0 HQN ⊢
 have HKEEP : Hid (∀ W : World,Chg (fun k=>k = Q1) w1 W → (W.cell? ⟨Q0,0,none⟩ = some (int i64 ak) ∧ W.cell? ⟨Q0,1,none⟩ = some (int i64 ap) ∧ W.cell? ⟨Q0,2,none⟩ = some (int i64 ao) ∧ W.cell? ⟨Q0,3,none⟩ = some (int i64 ag) ∧ W.cell? ⟨qp,0,none⟩ = some (int i64 k) ∧ W.cell? ⟨qp,1,none⟩ = some (int i64 o) ∧ W.cell? ⟨qp,2,none⟩ = some (int i64 f) ∧ W.cell? ⟨qp,3,none⟩ = some (int i64 t) ∧ W.cell? ⟨qp,4,none⟩ = some (int i64 p) ∧ W.cell? ⟨qp,5,none⟩ = some (int i64 g) ∧ W.cell? ⟨qp,6,none⟩ = some (int i64 i) ∧ W.cell? ⟨qp,7,none⟩ = some (.slice A n c))):=hd_ (fun W hw=>by
  obtain ⟨y0,y1,y2,y3⟩:=ac_cells13 (HB0.out.chg hw HQN.out)
  obtain ⟨z0,z1,z2,z3,z4,z5,z6,z7⟩:=pk_cells (HB2.out.chg hw HQP.out)
  exact ⟨y0,y1,y2,y3,z0,z1,z2,z3,z4,z5,z6,z7⟩
 )
 have HYA:=hd_ (Chg.refl (fun k=>k = Q1) w1).drew
 replace HX:=hd_ HX.out.drew
 replace HZ:=hd_ HZ.out.drew
 obtain ⟨y0,y1,y2,y3,z0,z1,z2,z3,z4,z5,z6,z7⟩:=HKEEP.out _ HYA.out
 go_wp2_with fail
 go_region_held3 (fun w'=>w'.cell? ⟨Q0,0,none⟩ = some (int i64 ak) ∧ w'.cell? ⟨Q0,1,none⟩ = some (int i64 ap) ∧ w'.cell? ⟨Q0,2,none⟩ = some (int i64 ao) ∧ w'.cell? ⟨Q0,3,none⟩ = some (int i64 ag) ∧ w'.cell? ⟨qp,0,none⟩ = some (int i64 k) ∧ w'.cell? ⟨qp,1,none⟩ = some (int i64 o) ∧ w'.cell? ⟨qp,2,none⟩ = some (int i64 f) ∧ w'.cell? ⟨qp,3,none⟩ = some (int i64 t) ∧ w'.cell? ⟨qp,4,none⟩ = some (int i64 p) ∧ w'.cell? ⟨qp,5,none⟩ = some (int i64 g) ∧ w'.cell? ⟨qp,6,none⟩ = some (int i64 i) ∧ w'.cell? ⟨qp,7,none⟩ = some (.slice A n c))
  (first | with_reducible exact HKEEP.out _ HYA.out | with_reducible exact HKEEP.out _ HYB.out | with_reducible exact HKEEP.out _ HYC.out | with_reducible exact HKEEP.out _ HYD.out | fail)
  (first
   | (go_at_call 55; (with_reducible refine (HCL.out _ HX.out).mono ?_); rintro e wb ⟨A3,c3,rfl,hown,hc⟩; have HSW:=hd_ (fun k hk=>HSW0.out k (Nat.le_trans HX.out.size hk)); have HYB:=hd_ (HYA.out.trans (hc.mono (S':=fun k=>k = Q1) (fun _ _ h=>h.elim)) (fun _ _ e=>e)); replace HZ:=hd_ (HZ.out.chg hc id); replace HX:=hd_ (HX.out.trans hc (fun _ _ e=>e)); clear hc; have HM3:=hd_ (show BsS15 S15 wb A3 n c3 b from ⟨⟨own_nil13 hown,HM.out.2.1,(own_rds hown).mono (fun _ _=>trivial)⟩,(own_rds2 hown).mono (fun k hk=>HSW.out k hk.1)⟩); clear hown)
   | (go_at_call 102; (with_reducible refine (deliv15_any ak ap ao ag g A3 n c3 _).mono ?_); rintro e wd ⟨rfl,hc⟩; have HYC:=hd_ (HYB.out.trans (hc.mono (S':=fun k=>k = Q1) (fun _ _ h=>h.elim)) (fun _ _ e=>e)); replace HZ:=hd_ (HZ.out.chg hc id); replace HX:=hd_ (HX.out.trans hc (fun _ _ e=>e)); have HD:=hd_ hc; clear hc; replace HM3:=hd_ (HM3.out.chg HD.out); obtain ⟨x0,x1,x2,x3,x4,x5,x6,x7,x8,x9,x10,x11,x12⟩:=ou_cells15 HZ.out; obtain ⟨f0,f1,f2,f3,f4,f5,f6,f7,f8,f9,f10,f11,f12⟩:=ou_free15 HZ.out; obtain ⟨r0,r1,r2,r3,r4,r5,r6,r7,r8,r9,r10,r11,r12,hcs⟩:=ou_put15 HZ.out rfl 1 ap ag g A3 n c3 0 0 0 0 0 0 0 none 0 0; have RR:=hd_ (And.intro r0 (And.intro r1 (And.intro r2 (And.intro r3 (And.intro r4 (And.intro r5 (And.intro r6 (And.intro r7 (And.intro r8 (And.intro r9 (And.intro r10 (And.intro r11 r12)))))))))))); have HF:=hd_ (fresh_set HX.out hcs HQ.out); have HYD:=hd_ (HYC.out.trans hcs (fun _ _ e=>e)); replace HM3:=hd_ (HM3.out.put HZ.out noU8_ou hcs); clear r0 r1 r2 r3 r4 r5 r6 r7 r8 r9 r10 r11 r12 hcs)
   | fail)
 all_goals
  go_wp2_with fail
  obtain ⟨r0,r1,r2,r3,r4,r5,r6,r7,r8,r9,r10,r11,r12⟩:=RR.out
  exact bodyPost_ret (v := .agg #[int i64 1,int i64 ap,int i64 ag,int i64 g, .slice A3 n c3,int i64 0,int i64 0,int i64 0,int i64 0,int i64 0,int i64 0,int i64 0, .slice none 0 0]) (by simp [results,Tryz.results114,go_sem,r0,r1,r2,r3,r4,r5,r6,r7,r8,r9,r10,r11,r12]) rfl ⟨A3,n,c3,none,0,0,rfl,HM3.out,BsM15.nil _,HF.out⟩
def fwd15 (k o f t p g i ao ag : Int) (b : List UInt8) : OV:=if k = 2 then zOV else snt15 2 o t ao p ag i b
theorem snt15_zero : snt15 0 0 0 0 0 0 0 [] = zOV:=rfl
theorem again15 (k o f t p g i ao ag : Int) (A : Option Addr) (n c : Nat) (b : List UInt8) (w : World) (h : BsM15 w A n c b) (hr : pkR k o f t p g i n = true) :
  ∃ (k' o' f' t' p' g' i' : Int) (m : List UInt8) (x : Int),(∀ W,Chg (fun _=>False) w W → Calls Tryz.prog 116 #[.agg (pkC k o f t p g i A n c),int i64 ao,int i64 ag] W (Hd k' o' f' t' p' g' i' m x W)) ∧ snt15 k' o' f' t' p' g' i' m = fwd15 k o f t p g i ao ag b ∧ m.length ≤ 1514:=by
 have hp:=pkR_parts hr
 have hn : n ≤ 9223372036854775807:=by omega
 unfold fwd15
 by_cases hk : k = 2
 ·rw [if_pos hk]
  exact ⟨0,0,0,0,0,0,0, [],8,fun W _=>(tag_state k o f t p g i ao ag A n c W hn hr hk).mono (fun e w' h=>hd_no h),snt15_zero,Nat.zero_le _⟩
 ·rw [if_neg hk]
  cases hr2 : pkR 2 o t ao p ag i n with
  | false=>exact ⟨0,0,0,0,0,0,0, [],1,fun W _=>(tag_gen k o f t p g i ao ag A n c W hn hr hk hr2).mono (fun e w' h=>hd_no h),by rw [snt15_zero,snt15_no (by rw [← h.2.1]; exact hr2)],Nat.zero_le _⟩
  | true=>exact ⟨2,o,t,ao,p,ag,i,b,0,fun W hW=>tag_ok k o f t p g i ao ag A n c W hn b (fun _=>True) h.2.1 (h.2.2.chg hW (fun _ _=>id)) h.1 hr hk hr2,rfl,by have:=h.2.1; omega⟩
theorem op3_any {S15 : Nat → Prop} (ak ap ao ag : Int) (qp : Nat) (k o f t p g i : Int) (A : Option Addr) (n c : Nat) (b : List UInt8) (w : World) (hr : pkR k o f t p g i n = true) (hq : Blk w qp 37 (pkC k o f t p g i A n c)) (h : BsM15 w A n c b) : Calls Tryz.prog 115 #[.agg #[int i64 ak,int i64 ap,int i64 ao,int i64 ag], .pointer (some ⟨qp,0,none⟩)] w (HO15 S15 (fwd15 k o f t p g i ao ag b) w):=by
 obtain ⟨k',o',f',t',p',g',i',m,x,ha,hv,hm⟩:=again15 k o f t p g i ao ag A n c b w h hr
 have hs:=fun (W : World) (A : Option Addr) (c : Nat) (hW : BsM15 W A m.length c m)=>sent15_any (S15:=S15) k' o' f' t' p' g' i' A m.length c m W (by omega) hW
 rw [hv] at hs
 generalize fwd15 k o f t p g i ao ag b = v at *
 generalize hnm : m.length = nm at *
 have HNM:=hd_ hnm
 unfold Hd pkC at ha
 rw [hnm] at ha
 have HA:=hd_ ha
 have HS:=hd_ hs
 clear ha hs hnm hv hm
 have HB2:=hd_ ((hq.alloc (.cells #[int i64 ak,int i64 ap,int i64 ao,int i64 ag] 188)).alloc (.cells #[int i64 0,int i64 0,int i64 0,int i64 0, .slice none 0 0,int i64 0,int i64 0,int i64 0,int i64 0,int i64 0,int i64 0,int i64 0, .slice none 0 0] 44))
 clear h hq hr
 have HB0 : Hid (Blk ((w.alloc (.cells #[int i64 ak,int i64 ap,int i64 ao,int i64 ag] 188)).alloc (.cells #[int i64 0,int i64 0,int i64 0,int i64 0, .slice none 0 0,int i64 0,int i64 0,int i64 0,int i64 0,int i64 0,int i64 0,int i64 0, .slice none 0 0] 44)) (w.heap.size) 188 (acC ak ap ao ag)):=hd_ (Blk.alloc (blk_new rfl) _)
 have HZ : Hid (Blk ((w.alloc (.cells #[int i64 ak,int i64 ap,int i64 ao,int i64 ag] 188)).alloc (.cells #[int i64 0,int i64 0,int i64 0,int i64 0, .slice none 0 0,int i64 0,int i64 0,int i64 0,int i64 0,int i64 0,int i64 0,int i64 0, .slice none 0 0] 44)) (w.heap.size + 1) 44 (ouC15 0 0 0 0 none 0 0 0 0 0 0 0 0 0 none 0 0)):=hd_ (blk_new (by simp))
 have HX:=hd_ (((Chg.refl (fun _=>False) w).alloc (.cells #[int i64 ak,int i64 ap,int i64 ao,int i64 ag] 188)).alloc (.cells #[int i64 0,int i64 0,int i64 0,int i64 0, .slice none 0 0,int i64 0,int i64 0,int i64 0,int i64 0,int i64 0,int i64 0,int i64 0, .slice none 0 0] 44))
 have HQ : Hid (w.heap.size ≤ w.heap.size + 1):=hd_ (by omega)
 go_enter Tryz.func115,Tryz.ntmps115
 go_upto_region 1 with fail
 generalize (w.alloc (.cells #[int i64 ak,int i64 ap,int i64 ao,int i64 ag] 188)).alloc (.cells #[int i64 0,int i64 0,int i64 0,int i64 0, .slice none 0 0,int i64 0,int i64 0,int i64 0,int i64 0,int i64 0,int i64 0,int i64 0, .slice none 0 0] 44) = w1 at *
 generalize w.heap.size + 1 = Q1 at *
 generalize w.heap.size = Q0 at HB0 ⊢
 obtain ⟨y0,y1,y2,y3⟩:=ac_cells13 HB0.out
 obtain ⟨z0,z1,z2,z3,z4,z5,z6,z7⟩:=pk_cells HB2.out
 go_wp2_with fail
 refine (HA.out _ HX.out).mono ?_
 rintro e w3 ⟨A4,c4,rfl,hz,hrd,hc⟩
 have hca:=hc.alloc (.cells #[int i64 k',int i64 o',int i64 f',int i64 t',int i64 p',int i64 g',int i64 i', .slice A4 nm c4] 37)
 have HM4:=hd_ ((show BsM15 w3 A4 nm c4 m from ⟨hz,HNM.out.symm,hrd⟩).alloc (.cells #[int i64 k',int i64 o',int i64 f',int i64 t',int i64 p',int i64 g',int i64 i', .slice A4 nm c4] 37))
 have HB4 : Hid (Blk (w3.alloc (.cells #[int i64 k',int i64 o',int i64 f',int i64 t',int i64 p',int i64 g',int i64 i', .slice A4 nm c4] 37)) w3.heap.size 37 (pkC k' o' f' t' p' g' i' A4 nm c4)):=hd_ (blk_new rfl)
 replace HZ:=hd_ (HZ.out.chg hca id)
 replace HX:=hd_ (HX.out.trans hca (fun _ _ e=>e))
 clear hc hca hz hrd y0 y1 y2 y3 z0 z1 z2 z3 z4 z5 z6 z7
 go_upto_region 2 with fail
 generalize w3.alloc (.cells #[int i64 k',int i64 o',int i64 f',int i64 t',int i64 p',int i64 g',int i64 i', .slice A4 nm c4] 37) = v3 at *
 generalize w3.heap.size = Q4 at *
 obtain ⟨z0,z1,z2,z3,z4,z5,z6,z7⟩:=pk_cells HB4.out
 go_wp2_with fail
 refine (HS.out _ _ _ HM4.out).mono ?_
 rintro e w4 ⟨A2,n2,c2,A3,n3,c3,rfl,hm2,hm3,hc⟩
 unfold ouC15
 have HM2:=hd_ hm2
 have HM3:=hd_ hm3
 replace HZ:=hd_ (HZ.out.chg hc id)
 replace HX:=hd_ (HX.out.trans hc (fun _ _ e=>e))
 clear z0 z1 z2 z3 z4 z5 z6 z7 hc hm2 hm3
 obtain ⟨x0,x1,x2,x3,x4,x5,x6,x7,x8,x9,x10,x11,x12⟩:=ou_cells15 HZ.out
 obtain ⟨f0,f1,f2,f3,f4,f5,f6,f7,f8,f9,f10,f11,f12⟩:=ou_free15 HZ.out
 obtain ⟨r0,r1,r2,r3,r4,r5,r6,r7,r8,r9,r10,r11,r12,hcs⟩:=ou_put15 HZ.out rfl v.kd v.po v.ge v.st A2 n2 c2 v.k v.o v.f v.t v.p v.g v.i A3 n3 c3
 have RR:=hd_ (And.intro r0 (And.intro r1 (And.intro r2 (And.intro r3 (And.intro r4 (And.intro r5 (And.intro r6 (And.intro r7 (And.intro r8 (And.intro r9 (And.intro r10 (And.intro r11 r12))))))))))))
 have HF:=hd_ (fresh_set HX.out hcs HQ.out)
 replace HM2:=hd_ (HM2.out.put HZ.out noU8_ou hcs)
 replace HM3:=hd_ (HM3.out.put HZ.out noU8_ou hcs)
 clear r0 r1 r2 r3 r4 r5 r6 r7 r8 r9 r10 r11 r12 hcs
 go_wp2_with fail
 obtain ⟨r0,r1,r2,r3,r4,r5,r6,r7,r8,r9,r10,r11,r12⟩:=RR.out
 exact bodyPost_ret (v := .agg #[int i64 v.kd,int i64 v.po,int i64 v.ge,int i64 v.st, .slice A2 n2 c2,int i64 v.k,int i64 v.o,int i64 v.f,int i64 v.t,int i64 v.p,int i64 v.g,int i64 v.i, .slice A3 n3 c3]) (by simp [results,Tryz.results115,go_sem,r0,r1,r2,r3,r4,r5,r6,r7,r8,r9,r10,r11,r12]) rfl ⟨A2,n2,c2,A3,n3,c3,rfl,HM2.out,HM3.out,HF.out⟩
def FG15 (ch nu : Int) (A : Option Addr) (n c : Nat) (w : World) (e : Ending) (w' : World) : Prop := ∃ qc qi qb : Nat,e = .returned (.agg #[.func (.func 100) #[] #[], .func (.func 101) #[] #[.pointer (some ⟨qb,0,none⟩)], .func (.func 103) #[] #[.pointer (some ⟨qc,0,none⟩), .pointer (some ⟨qi,0,none⟩), .pointer (some ⟨qb,0,none⟩)]]) ∧ Blk w' qc 3 #[int i64 ch] ∧ Blk w' qi 3 #[int i64 nu] ∧ Blk w' qb 31 #[.slice A n c] ∧ Chg (fun _=>False) w w'
def FP15 (k o f t p g i : Int) (A : Option Addr) (n c : Nat) (w : World) (e : Ending) (w' : World) : Prop := ∃ qp : Nat,e = .returned (.agg #[.func (.func 113) #[] #[], .func (.func 114) #[] #[.pointer (some ⟨qp,0,none⟩)], .func (.func 115) #[] #[.pointer (some ⟨qp,0,none⟩)]]) ∧ Blk w' qp 37 (pkC k o f t p g i A n c) ∧ Chg (fun _=>False) w w'
theorem fn_put15 {w : World} {r : Nat} {T : TypeId} {cs : Array Value} (hb : Blk w r T cs) (hs : cs.size = 3) (F0 F1 F2 : Value) :
  (w.setCell ⟨r,0,none⟩ (F0)).cell? ⟨r,0,none⟩ = some (F0) ∧ ((w.setCell ⟨r,0,none⟩ (F0)).setCell ⟨r,1,none⟩ (F1)).cell? ⟨r,1,none⟩ = some (F1) ∧ (((w.setCell ⟨r,0,none⟩ (F0)).setCell ⟨r,1,none⟩ (F1)).setCell ⟨r,2,none⟩ (F2)).cell? ⟨r,2,none⟩ = some (F2) ∧ Chg (fun k=>k = r) w (((w.setCell ⟨r,0,none⟩ (F0)).setCell ⟨r,1,none⟩ (F1)).setCell ⟨r,2,none⟩ (F2)):=by
 have h0:=hb.set 0 (F0)
 have r0:=h0.cell 0
 rw [Array.getElem?_setIfInBounds_self_of_lt (by simp [hs])] at r0
 have h1:=h0.set 1 (F1)
 have r1:=h1.cell 1
 rw [Array.getElem?_setIfInBounds_self_of_lt (by simp [hs])] at r1
 have h2:=h1.set 2 (F2)
 have r2:=h2.cell 2
 rw [Array.getElem?_setIfInBounds_self_of_lt (by simp [hs])] at r2
 exact ⟨r0,r1,r2,(((Chg.refl (fun k=>k = r) w).put r 0 (fun _=>rfl) _).put r 1 (fun _=>rfl) _).put r 2 (fun _=>rfl) _⟩
theorem ofg15_any (ch nu : Int) (A : Option Addr) (n c : Nat) (w : World) : Calls Tryz.prog 64 #[int i64 ch, .slice A n c,int i64 nu] w (FG15 ch nu A n c w):=by
 have hmf : ∀ (fn : Fn) (first cap : Array Value) (w : World),(Instr.makeFunc fn first cap).run Tryz.prog w = .ok (.func fn first cap) w:=fun _ _ _ _=>rfl
 have HB0 : Hid (Blk ((((w.alloc (.cells #[int i64 ch] 3)).alloc (.cells #[.slice A n c] 31)).alloc (.cells #[int i64 nu] 3)).alloc (.cells #[.nilFunc, .nilFunc, .nilFunc] 149)) (w.heap.size) 3 (#[int i64 ch])):=hd_ (Blk.alloc (Blk.alloc (Blk.alloc (blk_new rfl) _) _) _)
 have HB1 : Hid (Blk ((((w.alloc (.cells #[int i64 ch] 3)).alloc (.cells #[.slice A n c] 31)).alloc (.cells #[int i64 nu] 3)).alloc (.cells #[.nilFunc, .nilFunc, .nilFunc] 149)) (w.heap.size + 1) 31 (#[.slice A n c])):=hd_ (Blk.alloc (Blk.alloc (blk_new (by simp)) _) _)
 have HB2 : Hid (Blk ((((w.alloc (.cells #[int i64 ch] 3)).alloc (.cells #[.slice A n c] 31)).alloc (.cells #[int i64 nu] 3)).alloc (.cells #[.nilFunc, .nilFunc, .nilFunc] 149)) (w.heap.size + 1 + 1) 3 (#[int i64 nu])):=hd_ (Blk.alloc (blk_new (by simp)) _)
 have HZ : Hid (Blk ((((w.alloc (.cells #[int i64 ch] 3)).alloc (.cells #[.slice A n c] 31)).alloc (.cells #[int i64 nu] 3)).alloc (.cells #[.nilFunc, .nilFunc, .nilFunc] 149)) (w.heap.size + 1 + 1 + 1) 149 (#[.nilFunc, .nilFunc, .nilFunc])):=hd_ (blk_new (by simp))
 have HX:=hd_ (((((Chg.refl (fun _=>False) w).alloc (.cells #[int i64 ch] 3)).alloc (.cells #[.slice A n c] 31)).alloc (.cells #[int i64 nu] 3)).alloc (.cells #[.nilFunc, .nilFunc, .nilFunc] 149))
 have HQ : Hid (w.heap.size ≤ w.heap.size + 1 + 1 + 1):=hd_ (by omega)
 have HHB0 : Hid (w.heap.size < w.heap.size + 1 + 1 + 1):=hd_ (by omega)
 have HHB1 : Hid (w.heap.size + 1 < w.heap.size + 1 + 1 + 1):=hd_ (by omega)
 have HHB2 : Hid (w.heap.size + 1 + 1 < w.heap.size + 1 + 1 + 1):=hd_ (by omega)
 go_enter Tryz.func64,Tryz.ntmps64
 go_upto_region 1 with fail
 generalize (((w.alloc (.cells #[int i64 ch] 3)).alloc (.cells #[.slice A n c] 31)).alloc (.cells #[int i64 nu] 3)).alloc (.cells #[.nilFunc, .nilFunc, .nilFunc] 149) = w1 at *
 generalize w.heap.size + 1 + 1 + 1 = QZ at *
 generalize w.heap.size + 1 + 1 = Q2 at *
 generalize w.heap.size + 1 = Q1 at *
 generalize w.heap.size = Q0 at HB0 HHB0 ⊢
 have x0:=HZ.out.cell 0
 have x1:=HZ.out.cell 1
 have x2:=HZ.out.cell 2
 simp only [List.getElem?_toArray,List.getElem?_cons_zero,List.getElem?_cons_succ] at x0 x1 x2
 have f0:=HZ.out.frozen 0
 have f1:=HZ.out.frozen 1
 have f2:=HZ.out.frozen 2
 obtain ⟨r0,r1,r2,hcs⟩:=fn_put15 HZ.out rfl (.func (.func 100) #[] #[]) (.func (.func 101) #[] #[.pointer (some ⟨Q1,0,none⟩)]) (.func (.func 103) #[] #[.pointer (some ⟨Q0,0,none⟩), .pointer (some ⟨Q2,0,none⟩), .pointer (some ⟨Q1,0,none⟩)])
 have RR:=hd_ (And.intro r0 (And.intro r1 r2))
 have HF:=hd_ (fresh_set HX.out hcs HQ.out)
 have HCS:=hd_ hcs
 clear r0 r1 r2 hcs
 go_wp2_with fail
 obtain ⟨r0,r1,r2⟩:=RR.out
 exact bodyPost_ret (v := .agg #[.func (.func 100) #[] #[], .func (.func 101) #[] #[.pointer (some ⟨Q1,0,none⟩)], .func (.func 103) #[] #[.pointer (some ⟨Q0,0,none⟩), .pointer (some ⟨Q2,0,none⟩), .pointer (some ⟨Q1,0,none⟩)]]) (by simp [results,Tryz.results64,go_sem,r0,r1,r2]) rfl ⟨Q0,Q2,Q1,rfl,HB0.out.chg HCS.out (by have:=HQ.out; have:=HHB0.out; omega),HB2.out.chg HCS.out (by have:=HQ.out; have:=HHB2.out; omega),HB1.out.chg HCS.out (by have:=HQ.out; have:=HHB1.out; omega),HF.out⟩
theorem ofp15_any (k o f t p g i : Int) (A : Option Addr) (n c : Nat) (w : World) : Calls Tryz.prog 70 #[.agg #[int i64 k,int i64 o,int i64 f,int i64 t,int i64 p,int i64 g,int i64 i, .slice A n c]] w (FP15 k o f t p g i A n c w):=by
 have hmf : ∀ (fn : Fn) (first cap : Array Value) (w : World),(Instr.makeFunc fn first cap).run Tryz.prog w = .ok (.func fn first cap) w:=fun _ _ _ _=>rfl
 have HB0 : Hid (Blk ((w.alloc (.cells #[int i64 k,int i64 o,int i64 f,int i64 t,int i64 p,int i64 g,int i64 i, .slice A n c] 37)).alloc (.cells #[.nilFunc, .nilFunc, .nilFunc] 149)) (w.heap.size) 37 (pkC k o f t p g i A n c)):=hd_ (Blk.alloc (blk_new rfl) _)
 have HZ : Hid (Blk ((w.alloc (.cells #[int i64 k,int i64 o,int i64 f,int i64 t,int i64 p,int i64 g,int i64 i, .slice A n c] 37)).alloc (.cells #[.nilFunc, .nilFunc, .nilFunc] 149)) (w.heap.size + 1) 149 (#[.nilFunc, .nilFunc, .nilFunc])):=hd_ (blk_new (by simp))
 have HX:=hd_ (((Chg.refl (fun _=>False) w).alloc (.cells #[int i64 k,int i64 o,int i64 f,int i64 t,int i64 p,int i64 g,int i64 i, .slice A n c] 37)).alloc (.cells #[.nilFunc, .nilFunc, .nilFunc] 149))
 have HQ : Hid (w.heap.size ≤ w.heap.size + 1):=hd_ (by omega)
 have HHB0 : Hid (w.heap.size < w.heap.size + 1):=hd_ (by omega)
 go_enter Tryz.func70,Tryz.ntmps70
 go_upto_region 1 with fail
 generalize (w.alloc (.cells #[int i64 k,int i64 o,int i64 f,int i64 t,int i64 p,int i64 g,int i64 i, .slice A n c] 37)).alloc (.cells #[.nilFunc, .nilFunc, .nilFunc] 149) = w1 at *
 generalize w.heap.size + 1 = QZ at *
 generalize w.heap.size = Q0 at HB0 HHB0 ⊢
 have x0:=HZ.out.cell 0
 have x1:=HZ.out.cell 1
 have x2:=HZ.out.cell 2
 simp only [List.getElem?_toArray,List.getElem?_cons_zero,List.getElem?_cons_succ] at x0 x1 x2
 have f0:=HZ.out.frozen 0
 have f1:=HZ.out.frozen 1
 have f2:=HZ.out.frozen 2
 obtain ⟨r0,r1,r2,hcs⟩:=fn_put15 HZ.out rfl (.func (.func 113) #[] #[]) (.func (.func 114) #[] #[.pointer (some ⟨Q0,0,none⟩)]) (.func (.func 115) #[] #[.pointer (some ⟨Q0,0,none⟩)])
 have RR:=hd_ (And.intro r0 (And.intro r1 r2))
 have HF:=hd_ (fresh_set HX.out hcs HQ.out)
 have HCS:=hd_ hcs
 clear r0 r1 r2 hcs
 go_wp2_with fail
 obtain ⟨r0,r1,r2⟩:=RR.out
 exact bodyPost_ret (v := .agg #[.func (.func 113) #[] #[], .func (.func 114) #[] #[.pointer (some ⟨Q0,0,none⟩)], .func (.func 115) #[] #[.pointer (some ⟨Q0,0,none⟩)]]) (by simp [results,Tryz.results70,go_sem,r0,r1,r2]) rfl ⟨Q0,rfl,HB0.out.chg HCS.out (by have:=HQ.out; have:=HHB0.out; omega),HF.out⟩
theorem becg15_any {S15 : Nat → Prop} (tp : Value) (ki km kp ks ko : Int) (oe : Option En) (ak ap ao ag : Int) (hac : acO13 oe = acC ak ap ao ag) (ch nu : Int) (qc qi qb : Nat) (A : Option Addr) (n c : Nat) (b : List UInt8) (w : World) (hl : ∀ W,Chg (fun _=>False) w W → Calls Tryz.prog 98 #[tp, .agg (kyC ki km kp ks ko)] W (LkP13 oe W)) (hn : n ≤ 9223372036854775807) (hqc : Blk w qc 3 #[int i64 ch]) (hqi : Blk w qi 3 #[int i64 nu]) (hqb : Blk w qb 31 #[.slice A n c]) (h : BsS15 S15 w A n c b) : Calls Tryz.prog 63 #[tp, .agg #[int i64 ki,int .u64 km,int i64 kp,int i64 ks,int i64 ko], .agg #[.func (.func 100) #[] #[], .func (.func 101) #[] #[.pointer (some ⟨qb,0,none⟩)], .func (.func 103) #[] #[.pointer (some ⟨qc,0,none⟩), .pointer (some ⟨qi,0,none⟩), .pointer (some ⟨qb,0,none⟩)]]] w (HO15 S15 (gu15 ch b nu ak ap ao ag) w):=by
 generalize hv : gu15 ch b nu ak ap ao ag = v
 have HV:=hd_ hv
 clear hv
 have hl2:=hl
 unfold LkP13 at hl2
 rw [hac] at hl2
 generalize oe.isSome = bb at *
 unfold kyC acC at hl2
 have HLK:=hd_ hl2
 clear hl2 hl hac
 have HB4:=hd_ (((hqc.alloc (.cells #[int i64 ki,int .u64 km,int i64 kp,int i64 ks,int i64 ko] 146)).alloc (.cells #[.func (.func 100) #[] #[], .func (.func 101) #[] #[.pointer (some ⟨qb,0,none⟩)], .func (.func 103) #[] #[.pointer (some ⟨qc,0,none⟩), .pointer (some ⟨qi,0,none⟩), .pointer (some ⟨qb,0,none⟩)]] 149)).alloc (.cells #[int i64 0,int i64 0,int i64 0,int i64 0, .slice none 0 0,int i64 0,int i64 0,int i64 0,int i64 0,int i64 0,int i64 0,int i64 0, .slice none 0 0] 44))
 have HB5:=hd_ (((hqi.alloc (.cells #[int i64 ki,int .u64 km,int i64 kp,int i64 ks,int i64 ko] 146)).alloc (.cells #[.func (.func 100) #[] #[], .func (.func 101) #[] #[.pointer (some ⟨qb,0,none⟩)], .func (.func 103) #[] #[.pointer (some ⟨qc,0,none⟩), .pointer (some ⟨qi,0,none⟩), .pointer (some ⟨qb,0,none⟩)]] 149)).alloc (.cells #[int i64 0,int i64 0,int i64 0,int i64 0, .slice none 0 0,int i64 0,int i64 0,int i64 0,int i64 0,int i64 0,int i64 0,int i64 0, .slice none 0 0] 44))
 have HB6:=hd_ (((hqb.alloc (.cells #[int i64 ki,int .u64 km,int i64 kp,int i64 ks,int i64 ko] 146)).alloc (.cells #[.func (.func 100) #[] #[], .func (.func 101) #[] #[.pointer (some ⟨qb,0,none⟩)], .func (.func 103) #[] #[.pointer (some ⟨qc,0,none⟩), .pointer (some ⟨qi,0,none⟩), .pointer (some ⟨qb,0,none⟩)]] 149)).alloc (.cells #[int i64 0,int i64 0,int i64 0,int i64 0, .slice none 0 0,int i64 0,int i64 0,int i64 0,int i64 0,int i64 0,int i64 0,int i64 0, .slice none 0 0] 44))
 have HM:=hd_ h
 clear h hqc hqi hqb
 have HB0 : Hid (Blk (((w.alloc (.cells #[int i64 ki,int .u64 km,int i64 kp,int i64 ks,int i64 ko] 146)).alloc (.cells #[.func (.func 100) #[] #[], .func (.func 101) #[] #[.pointer (some ⟨qb,0,none⟩)], .func (.func 103) #[] #[.pointer (some ⟨qc,0,none⟩), .pointer (some ⟨qi,0,none⟩), .pointer (some ⟨qb,0,none⟩)]] 149)).alloc (.cells #[int i64 0,int i64 0,int i64 0,int i64 0, .slice none 0 0,int i64 0,int i64 0,int i64 0,int i64 0,int i64 0,int i64 0,int i64 0, .slice none 0 0] 44)) (w.heap.size) 146 (kyC ki km kp ks ko)):=hd_ (Blk.alloc (Blk.alloc (blk_new rfl) _) _)
 have HB1 : Hid (Blk (((w.alloc (.cells #[int i64 ki,int .u64 km,int i64 kp,int i64 ks,int i64 ko] 146)).alloc (.cells #[.func (.func 100) #[] #[], .func (.func 101) #[] #[.pointer (some ⟨qb,0,none⟩)], .func (.func 103) #[] #[.pointer (some ⟨qc,0,none⟩), .pointer (some ⟨qi,0,none⟩), .pointer (some ⟨qb,0,none⟩)]] 149)).alloc (.cells #[int i64 0,int i64 0,int i64 0,int i64 0, .slice none 0 0,int i64 0,int i64 0,int i64 0,int i64 0,int i64 0,int i64 0,int i64 0, .slice none 0 0] 44)) (w.heap.size + 1) 149 (#[.func (.func 100) #[] #[], .func (.func 101) #[] #[.pointer (some ⟨qb,0,none⟩)], .func (.func 103) #[] #[.pointer (some ⟨qc,0,none⟩), .pointer (some ⟨qi,0,none⟩), .pointer (some ⟨qb,0,none⟩)]])):=hd_ (Blk.alloc (blk_new (by simp)) _)
 have HZ : Hid (Blk (((w.alloc (.cells #[int i64 ki,int .u64 km,int i64 kp,int i64 ks,int i64 ko] 146)).alloc (.cells #[.func (.func 100) #[] #[], .func (.func 101) #[] #[.pointer (some ⟨qb,0,none⟩)], .func (.func 103) #[] #[.pointer (some ⟨qc,0,none⟩), .pointer (some ⟨qi,0,none⟩), .pointer (some ⟨qb,0,none⟩)]] 149)).alloc (.cells #[int i64 0,int i64 0,int i64 0,int i64 0, .slice none 0 0,int i64 0,int i64 0,int i64 0,int i64 0,int i64 0,int i64 0,int i64 0, .slice none 0 0] 44)) (w.heap.size + 1 + 1) 44 (ouC15 0 0 0 0 none 0 0 0 0 0 0 0 0 0 none 0 0)):=hd_ (blk_new (by simp))
 have HX:=hd_ ((((Chg.refl (fun _=>False) w).alloc (.cells #[int i64 ki,int .u64 km,int i64 kp,int i64 ks,int i64 ko] 146)).alloc (.cells #[.func (.func 100) #[] #[], .func (.func 101) #[] #[.pointer (some ⟨qb,0,none⟩)], .func (.func 103) #[] #[.pointer (some ⟨qc,0,none⟩), .pointer (some ⟨qi,0,none⟩), .pointer (some ⟨qb,0,none⟩)]] 149)).alloc (.cells #[int i64 0,int i64 0,int i64 0,int i64 0, .slice none 0 0,int i64 0,int i64 0,int i64 0,int i64 0,int i64 0,int i64 0,int i64 0, .slice none 0 0] 44))
 have HQ : Hid (w.heap.size ≤ w.heap.size + 1 + 1):=hd_ (by omega)
 have HN1 : Hid (¬ w.heap.size + 1 = w.heap.size + 1 + 1):=hd_ (by omega)
 go_enter Tryz.func63,Tryz.ntmps63
 go_upto_region 1 with fail
 generalize ((w.alloc (.cells #[int i64 ki,int .u64 km,int i64 kp,int i64 ks,int i64 ko] 146)).alloc (.cells #[.func (.func 100) #[] #[], .func (.func 101) #[] #[.pointer (some ⟨qb,0,none⟩)], .func (.func 103) #[] #[.pointer (some ⟨qc,0,none⟩), .pointer (some ⟨qi,0,none⟩), .pointer (some ⟨qb,0,none⟩)]] 149)).alloc (.cells #[int i64 0,int i64 0,int i64 0,int i64 0, .slice none 0 0,int i64 0,int i64 0,int i64 0,int i64 0,int i64 0,int i64 0,int i64 0, .slice none 0 0] 44) = w1 at *
 generalize w.heap.size + 1 + 1 = Q2 at *
 generalize w.heap.size + 1 = Q1 at *
 generalize w.heap.size = Q0 at HB0 ⊢
 obtain ⟨u0,u1,u2,u3,u4⟩:=ky_cells13 HB0.out
 go_wp2_with fail
 refine (HLK.out _ HX.out).mono ?_
 rintro e w3 ⟨rfl,hc⟩
 have hca:=hc.alloc (.cells #[int i64 ak,int i64 ap,int i64 ao,int i64 ag] 188)
 have HB3 : Hid (Blk (w3.alloc (.cells #[int i64 ak,int i64 ap,int i64 ao,int i64 ag] 188)) w3.heap.size 188 (acC ak ap ao ag)):=hd_ (blk_new rfl)
 have HN3:=hd_ (show ¬ w3.heap.size = Q2 from by have:=(HZ.out.chg hc id).lt; omega)
 replace HZ:=hd_ (HZ.out.chg hca id)
 replace HB1:=hd_ (HB1.out.chg hca id)
 replace HB4:=hd_ (HB4.out.chg hca id)
 replace HB5:=hd_ (HB5.out.chg hca id)
 replace HB6:=hd_ (HB6.out.chg hca id)
 replace HX:=hd_ (HX.out.trans hca (fun _ _ e=>e))
 clear hc hca u0 u1 u2 u3 u4 HB0
 go_upto_region 2 with fail
 generalize w3.alloc (.cells #[int i64 ak,int i64 ap,int i64 ao,int i64 ag] 188) = v3 at *
 generalize w3.heap.size = Q3 at *
 by_cases hx0 : ak < 0
 ·have hx1 : ¬ ak = 1:=by omega
  have hx2 : ¬ ak = 2:=by omega
  obtain rfl : v = zOV:=by rw [← HV.out]; exact gu15_no hx1 hx2 ..
  obtain ⟨y0,y1,y2,y3⟩:=ac_cells13 HB3.out
  go_wp2_with fail
  refine (drop15_any _).mono ?_
  rintro e w4 ⟨rfl,hc⟩
  replace HZ:=hd_ (HZ.out.chg hc id)
  replace HX:=hd_ (HX.out.trans hc (fun _ _ e=>e))
  clear hc
  clear y0 y1 y2 y3
  obtain ⟨x0,x1,x2,x3,x4,x5,x6,x7,x8,x9,x10,x11,x12⟩:=ou_cells15 HZ.out
  obtain ⟨f0,f1,f2,f3,f4,f5,f6,f7,f8,f9,f10,f11,f12⟩:=ou_free15 HZ.out
  obtain ⟨r0,r1,r2,r3,r4,r5,r6,r7,r8,r9,r10,r11,r12,hcs⟩:=ou_put15 HZ.out rfl 0 0 0 0 none 0 0 0 0 0 0 0 0 0 none 0 0
  have RR:=hd_ (And.intro r0 (And.intro r1 (And.intro r2 (And.intro r3 (And.intro r4 (And.intro r5 (And.intro r6 (And.intro r7 (And.intro r8 (And.intro r9 (And.intro r10 (And.intro r11 r12))))))))))))
  have HF:=hd_ (fresh_set HX.out hcs HQ.out)
  clear r0 r1 r2 r3 r4 r5 r6 r7 r8 r9 r10 r11 r12 hcs
  go_wp2_with fail
  obtain ⟨r0,r1,r2,r3,r4,r5,r6,r7,r8,r9,r10,r11,r12⟩:=RR.out
  exact bodyPost_ret (v := .agg #[int i64 0,int i64 0,int i64 0,int i64 0, .slice none 0 0,int i64 0,int i64 0,int i64 0,int i64 0,int i64 0,int i64 0,int i64 0, .slice none 0 0]) (by simp [results,Tryz.results63,go_sem,r0,r1,r2,r3,r4,r5,r6,r7,r8,r9,r10,r11,r12]) rfl ⟨none,0,0,none,0,0,rfl,BsS15.nil _ _,BsM15.nil _,HF.out⟩
 by_cases hx3 : 3 ≤ ak
 ·have hx1 : ¬ ak = 1:=by omega
  have hx2 : ¬ ak = 2:=by omega
  obtain rfl : v = zOV:=by rw [← HV.out]; exact gu15_no hx1 hx2 ..
  obtain ⟨y0,y1,y2,y3⟩:=ac_cells13 HB3.out
  go_wp2_with fail
  refine (drop15_any _).mono ?_
  rintro e w4 ⟨rfl,hc⟩
  replace HZ:=hd_ (HZ.out.chg hc id)
  replace HX:=hd_ (HX.out.trans hc (fun _ _ e=>e))
  clear hc
  clear y0 y1 y2 y3
  obtain ⟨x0,x1,x2,x3,x4,x5,x6,x7,x8,x9,x10,x11,x12⟩:=ou_cells15 HZ.out
  obtain ⟨f0,f1,f2,f3,f4,f5,f6,f7,f8,f9,f10,f11,f12⟩:=ou_free15 HZ.out
  obtain ⟨r0,r1,r2,r3,r4,r5,r6,r7,r8,r9,r10,r11,r12,hcs⟩:=ou_put15 HZ.out rfl 0 0 0 0 none 0 0 0 0 0 0 0 0 0 none 0 0
  have RR:=hd_ (And.intro r0 (And.intro r1 (And.intro r2 (And.intro r3 (And.intro r4 (And.intro r5 (And.intro r6 (And.intro r7 (And.intro r8 (And.intro r9 (And.intro r10 (And.intro r11 r12))))))))))))
  have HF:=hd_ (fresh_set HX.out hcs HQ.out)
  clear r0 r1 r2 r3 r4 r5 r6 r7 r8 r9 r10 r11 r12 hcs
  go_wp2_with fail
  obtain ⟨r0,r1,r2,r3,r4,r5,r6,r7,r8,r9,r10,r11,r12⟩:=RR.out
  exact bodyPost_ret (v := .agg #[int i64 0,int i64 0,int i64 0,int i64 0, .slice none 0 0,int i64 0,int i64 0,int i64 0,int i64 0,int i64 0,int i64 0,int i64 0, .slice none 0 0]) (by simp [results,Tryz.results63,go_sem,r0,r1,r2,r3,r4,r5,r6,r7,r8,r9,r10,r11,r12]) rfl ⟨none,0,0,none,0,0,rfl,BsS15.nil _ _,BsM15.nil _,HF.out⟩
 have hx4 : ak = 0 ∨ ak = 1 ∨ ak = 2:=by omega
 clear hx0 hx3
 rcases hx4 with rfl | rfl | rfl
 ·skip
  obtain rfl : v = zOV:=by rw [← HV.out]; exact gu15_no (by decide) (by decide) ..
  obtain ⟨y0,y1,y2,y3⟩:=ac_cells13 HB3.out
  go_wp2_with fail
  clear y0 y1 y2 y3
  have HKEEP : Hid (∀ W : World,Chg (fun k=>k = Q2) v3 W → (W.cell? ⟨Q3,0,none⟩ = some (int i64 (0)) ∧ W.cell? ⟨Q3,1,none⟩ = some (int i64 ap) ∧ W.cell? ⟨Q3,2,none⟩ = some (int i64 ao) ∧ W.cell? ⟨Q3,3,none⟩ = some (int i64 ag) ∧ W.cell? ⟨Q1,0,none⟩ = some (.func (.func 100) #[] #[]) ∧ W.cell? ⟨Q1,1,none⟩ = some (.func (.func 101) #[] #[.pointer (some ⟨qb,0,none⟩)]) ∧ W.cell? ⟨Q1,2,none⟩ = some (.func (.func 103) #[] #[.pointer (some ⟨qc,0,none⟩), .pointer (some ⟨qi,0,none⟩), .pointer (some ⟨qb,0,none⟩)]))):=hd_ (fun W hw=>by
   obtain ⟨y0,y1,y2,y3⟩:=ac_cells13 (HB3.out.chg hw HN3.out)
   have g0:=Blk.cell (HB1.out.chg hw HN1.out) 0
   have g1:=Blk.cell (HB1.out.chg hw HN1.out) 1
   have g2:=Blk.cell (HB1.out.chg hw HN1.out) 2
   simp only [List.getElem?_toArray,List.getElem?_cons_zero,List.getElem?_cons_succ] at g0 g1 g2
   exact ⟨y0,y1,y2,y3,g0,g1,g2⟩
  )
  have HYA:=hd_ (Chg.refl (fun k=>k = Q2) v3).drew
  replace HX:=hd_ HX.out.drew
  replace HZ:=hd_ HZ.out.drew
  replace HB4:=hd_ HB4.out.drew
  replace HB5:=hd_ HB5.out.drew
  replace HB6:=hd_ HB6.out.drew
  obtain ⟨y0,y1,y2,y3,g0,g1,g2⟩:=HKEEP.out _ HYA.out
  go_region_held3 (fun w'=>w'.cell? ⟨Q3,0,none⟩ = some (int i64 (0)) ∧ w'.cell? ⟨Q3,1,none⟩ = some (int i64 ap) ∧ w'.cell? ⟨Q3,2,none⟩ = some (int i64 ao) ∧ w'.cell? ⟨Q3,3,none⟩ = some (int i64 ag) ∧ w'.cell? ⟨Q1,0,none⟩ = some (.func (.func 100) #[] #[]) ∧ w'.cell? ⟨Q1,1,none⟩ = some (.func (.func 101) #[] #[.pointer (some ⟨qb,0,none⟩)]) ∧ w'.cell? ⟨Q1,2,none⟩ = some (.func (.func 103) #[] #[.pointer (some ⟨qc,0,none⟩), .pointer (some ⟨qi,0,none⟩), .pointer (some ⟨qb,0,none⟩)]))
   (first | with_reducible exact HKEEP.out _ HYA.out | with_reducible exact HKEEP.out _ HYB.out | with_reducible exact HKEEP.out _ HYC.out | fail)
   (first
    | (go_at_call 100; (with_reducible refine (og1_any 0 ap ao ag _).mono ?_); rintro e w4 ⟨rfl,hc⟩; have HYB:=hd_ (HYA.out.trans (hc.mono (S':=fun k=>k = Q2) (fun _ _ h=>h.elim)) (fun _ _ e=>e)); replace HZ:=hd_ (HZ.out.chg hc id); replace HX:=hd_ (HX.out.trans hc (fun _ _ e=>e)); clear hc; obtain ⟨x0,x1,x2,x3,x4,x5,x6,x7,x8,x9,x10,x11,x12⟩:=ou_cells15 HZ.out; obtain ⟨f0,f1,f2,f3,f4,f5,f6,f7,f8,f9,f10,f11,f12⟩:=ou_free15 HZ.out; obtain ⟨r0,r1,r2,r3,r4,r5,r6,r7,r8,r9,r10,r11,r12,hcs⟩:=ou_put15 HZ.out rfl 0 0 0 0 none 0 0 0 0 0 0 0 0 0 none 0 0; have RR:=hd_ (And.intro r0 (And.intro r1 (And.intro r2 (And.intro r3 (And.intro r4 (And.intro r5 (And.intro r6 (And.intro r7 (And.intro r8 (And.intro r9 (And.intro r10 (And.intro r11 r12)))))))))))); have HF:=hd_ (fresh_set HX.out hcs HQ.out); have HYC:=hd_ (HYB.out.trans hcs (fun _ _ e=>e)); clear r0 r1 r2 r3 r4 r5 r6 r7 r8 r9 r10 r11 r12 hcs)
    | fail)
  all_goals
   go_wp2_with fail
   obtain ⟨r0,r1,r2,r3,r4,r5,r6,r7,r8,r9,r10,r11,r12⟩:=RR.out
   exact bodyPost_ret (v := .agg #[int i64 0,int i64 0,int i64 0,int i64 0, .slice none 0 0,int i64 0,int i64 0,int i64 0,int i64 0,int i64 0,int i64 0,int i64 0, .slice none 0 0]) (by simp [results,Tryz.results63,go_sem,r0,r1,r2,r3,r4,r5,r6,r7,r8,r9,r10,r11,r12]) rfl ⟨none,0,0,none,0,0,rfl,BsS15.nil _ _,BsM15.nil _,HF.out⟩
 ·skip
  have hcc:=(fun (W : World) (hW : Chg (fun _=>False) w W) (hq6 : Blk W qb 31 #[.slice A n c])=>og2_any (S15:=S15) 1 ap ao ag qb A n c b W hq6 (HM.out.chg hW))
  rw [show dlv15 ap ag ag b = v from HV.out] at hcc
  have HCC:=hd_ hcc
  clear hcc
  obtain ⟨y0,y1,y2,y3⟩:=ac_cells13 HB3.out
  go_wp2_with fail
  clear y0 y1 y2 y3
  have HKEEP : Hid (∀ W : World,Chg (fun k=>k = Q2) v3 W → (W.cell? ⟨Q3,0,none⟩ = some (int i64 (1)) ∧ W.cell? ⟨Q3,1,none⟩ = some (int i64 ap) ∧ W.cell? ⟨Q3,2,none⟩ = some (int i64 ao) ∧ W.cell? ⟨Q3,3,none⟩ = some (int i64 ag) ∧ W.cell? ⟨Q1,0,none⟩ = some (.func (.func 100) #[] #[]) ∧ W.cell? ⟨Q1,1,none⟩ = some (.func (.func 101) #[] #[.pointer (some ⟨qb,0,none⟩)]) ∧ W.cell? ⟨Q1,2,none⟩ = some (.func (.func 103) #[] #[.pointer (some ⟨qc,0,none⟩), .pointer (some ⟨qi,0,none⟩), .pointer (some ⟨qb,0,none⟩)]))):=hd_ (fun W hw=>by
   obtain ⟨y0,y1,y2,y3⟩:=ac_cells13 (HB3.out.chg hw HN3.out)
   have g0:=Blk.cell (HB1.out.chg hw HN1.out) 0
   have g1:=Blk.cell (HB1.out.chg hw HN1.out) 1
   have g2:=Blk.cell (HB1.out.chg hw HN1.out) 2
   simp only [List.getElem?_toArray,List.getElem?_cons_zero,List.getElem?_cons_succ] at g0 g1 g2
   exact ⟨y0,y1,y2,y3,g0,g1,g2⟩
  )
  have HYA:=hd_ (Chg.refl (fun k=>k = Q2) v3).drew
  replace HX:=hd_ HX.out.drew
  replace HZ:=hd_ HZ.out.drew
  replace HB4:=hd_ HB4.out.drew
  replace HB5:=hd_ HB5.out.drew
  replace HB6:=hd_ HB6.out.drew
  obtain ⟨y0,y1,y2,y3,g0,g1,g2⟩:=HKEEP.out _ HYA.out
  go_region_held3 (fun w'=>w'.cell? ⟨Q3,0,none⟩ = some (int i64 (1)) ∧ w'.cell? ⟨Q3,1,none⟩ = some (int i64 ap) ∧ w'.cell? ⟨Q3,2,none⟩ = some (int i64 ao) ∧ w'.cell? ⟨Q3,3,none⟩ = some (int i64 ag) ∧ w'.cell? ⟨Q1,0,none⟩ = some (.func (.func 100) #[] #[]) ∧ w'.cell? ⟨Q1,1,none⟩ = some (.func (.func 101) #[] #[.pointer (some ⟨qb,0,none⟩)]) ∧ w'.cell? ⟨Q1,2,none⟩ = some (.func (.func 103) #[] #[.pointer (some ⟨qc,0,none⟩), .pointer (some ⟨qi,0,none⟩), .pointer (some ⟨qb,0,none⟩)]))
   (first | with_reducible exact HKEEP.out _ HYA.out | with_reducible exact HKEEP.out _ HYB.out | with_reducible exact HKEEP.out _ HYC.out | fail)
   (first
    | (go_at_call 101; (with_reducible refine (HCC.out _ HX.out HB6.out).mono ?_); rintro e w4 ⟨A2,n2,c2,A3,n3,c3,rfl,hm2,hm3,hc⟩; have HYB:=hd_ (HYA.out.trans (hc.mono (S':=fun k=>k = Q2) (fun _ _ h=>h.elim)) (fun _ _ e=>e)); replace HZ:=hd_ (HZ.out.chg hc id); replace HX:=hd_ (HX.out.trans hc (fun _ _ e=>e)); clear hc; unfold ouC15; have HM2:=hd_ hm2; have HM3:=hd_ hm3; clear hm2 hm3; obtain ⟨x0,x1,x2,x3,x4,x5,x6,x7,x8,x9,x10,x11,x12⟩:=ou_cells15 HZ.out; obtain ⟨f0,f1,f2,f3,f4,f5,f6,f7,f8,f9,f10,f11,f12⟩:=ou_free15 HZ.out; obtain ⟨r0,r1,r2,r3,r4,r5,r6,r7,r8,r9,r10,r11,r12,hcs⟩:=ou_put15 HZ.out rfl v.kd v.po v.ge v.st A2 n2 c2 v.k v.o v.f v.t v.p v.g v.i A3 n3 c3; have RR:=hd_ (And.intro r0 (And.intro r1 (And.intro r2 (And.intro r3 (And.intro r4 (And.intro r5 (And.intro r6 (And.intro r7 (And.intro r8 (And.intro r9 (And.intro r10 (And.intro r11 r12)))))))))))); have HF:=hd_ (fresh_set HX.out hcs HQ.out); replace HM2:=hd_ (HM2.out.put HZ.out noU8_ou hcs); replace HM3:=hd_ (HM3.out.put HZ.out noU8_ou hcs); have HYC:=hd_ (HYB.out.trans hcs (fun _ _ e=>e)); clear r0 r1 r2 r3 r4 r5 r6 r7 r8 r9 r10 r11 r12 hcs)
    | fail)
  all_goals
   go_wp2_with fail
   obtain ⟨r0,r1,r2,r3,r4,r5,r6,r7,r8,r9,r10,r11,r12⟩:=RR.out
   exact bodyPost_ret (v := .agg #[int i64 v.kd,int i64 v.po,int i64 v.ge,int i64 v.st, .slice A2 n2 c2,int i64 v.k,int i64 v.o,int i64 v.f,int i64 v.t,int i64 v.p,int i64 v.g,int i64 v.i, .slice A3 n3 c3]) (by simp [results,Tryz.results63,go_sem,r0,r1,r2,r3,r4,r5,r6,r7,r8,r9,r10,r11,r12]) rfl ⟨A2,n2,c2,A3,n3,c3,rfl,HM2.out,HM3.out,HF.out⟩
 ·skip
  have hcc:=(fun (W : World) (hW : Chg (fun _=>False) w W) (hq4 : Blk W qc 3 #[int i64 ch]) (hq5 : Blk W qi 3 #[int i64 nu]) (hq6 : Blk W qb 31 #[.slice A n c])=>og3_any (S15:=S15) 2 ap ao ag ch nu qc qi qb A n c b W hn hq4 hq5 hq6 (HM.out.chg hW).m)
  rw [show snt15 1 ch ch ao ap ag nu b = v from HV.out] at hcc
  have HCC:=hd_ hcc
  clear hcc
  obtain ⟨y0,y1,y2,y3⟩:=ac_cells13 HB3.out
  go_wp2_with fail
  clear y0 y1 y2 y3
  have HKEEP : Hid (∀ W : World,Chg (fun k=>k = Q2) v3 W → (W.cell? ⟨Q3,0,none⟩ = some (int i64 (2)) ∧ W.cell? ⟨Q3,1,none⟩ = some (int i64 ap) ∧ W.cell? ⟨Q3,2,none⟩ = some (int i64 ao) ∧ W.cell? ⟨Q3,3,none⟩ = some (int i64 ag) ∧ W.cell? ⟨Q1,0,none⟩ = some (.func (.func 100) #[] #[]) ∧ W.cell? ⟨Q1,1,none⟩ = some (.func (.func 101) #[] #[.pointer (some ⟨qb,0,none⟩)]) ∧ W.cell? ⟨Q1,2,none⟩ = some (.func (.func 103) #[] #[.pointer (some ⟨qc,0,none⟩), .pointer (some ⟨qi,0,none⟩), .pointer (some ⟨qb,0,none⟩)]))):=hd_ (fun W hw=>by
   obtain ⟨y0,y1,y2,y3⟩:=ac_cells13 (HB3.out.chg hw HN3.out)
   have g0:=Blk.cell (HB1.out.chg hw HN1.out) 0
   have g1:=Blk.cell (HB1.out.chg hw HN1.out) 1
   have g2:=Blk.cell (HB1.out.chg hw HN1.out) 2
   simp only [List.getElem?_toArray,List.getElem?_cons_zero,List.getElem?_cons_succ] at g0 g1 g2
   exact ⟨y0,y1,y2,y3,g0,g1,g2⟩
  )
  have HYA:=hd_ (Chg.refl (fun k=>k = Q2) v3).drew
  replace HX:=hd_ HX.out.drew
  replace HZ:=hd_ HZ.out.drew
  replace HB4:=hd_ HB4.out.drew
  replace HB5:=hd_ HB5.out.drew
  replace HB6:=hd_ HB6.out.drew
  obtain ⟨y0,y1,y2,y3,g0,g1,g2⟩:=HKEEP.out _ HYA.out
  go_region_held3 (fun w'=>w'.cell? ⟨Q3,0,none⟩ = some (int i64 (2)) ∧ w'.cell? ⟨Q3,1,none⟩ = some (int i64 ap) ∧ w'.cell? ⟨Q3,2,none⟩ = some (int i64 ao) ∧ w'.cell? ⟨Q3,3,none⟩ = some (int i64 ag) ∧ w'.cell? ⟨Q1,0,none⟩ = some (.func (.func 100) #[] #[]) ∧ w'.cell? ⟨Q1,1,none⟩ = some (.func (.func 101) #[] #[.pointer (some ⟨qb,0,none⟩)]) ∧ w'.cell? ⟨Q1,2,none⟩ = some (.func (.func 103) #[] #[.pointer (some ⟨qc,0,none⟩), .pointer (some ⟨qi,0,none⟩), .pointer (some ⟨qb,0,none⟩)]))
   (first | with_reducible exact HKEEP.out _ HYA.out | with_reducible exact HKEEP.out _ HYB.out | with_reducible exact HKEEP.out _ HYC.out | fail)
   (first
    | (go_at_call 103; (with_reducible refine (HCC.out _ HX.out HB4.out HB5.out HB6.out).mono ?_); rintro e w4 ⟨A2,n2,c2,A3,n3,c3,rfl,hm2,hm3,hc⟩; have HYB:=hd_ (HYA.out.trans (hc.mono (S':=fun k=>k = Q2) (fun _ _ h=>h.elim)) (fun _ _ e=>e)); replace HZ:=hd_ (HZ.out.chg hc id); replace HX:=hd_ (HX.out.trans hc (fun _ _ e=>e)); clear hc; unfold ouC15; have HM2:=hd_ hm2; have HM3:=hd_ hm3; clear hm2 hm3; obtain ⟨x0,x1,x2,x3,x4,x5,x6,x7,x8,x9,x10,x11,x12⟩:=ou_cells15 HZ.out; obtain ⟨f0,f1,f2,f3,f4,f5,f6,f7,f8,f9,f10,f11,f12⟩:=ou_free15 HZ.out; obtain ⟨r0,r1,r2,r3,r4,r5,r6,r7,r8,r9,r10,r11,r12,hcs⟩:=ou_put15 HZ.out rfl v.kd v.po v.ge v.st A2 n2 c2 v.k v.o v.f v.t v.p v.g v.i A3 n3 c3; have RR:=hd_ (And.intro r0 (And.intro r1 (And.intro r2 (And.intro r3 (And.intro r4 (And.intro r5 (And.intro r6 (And.intro r7 (And.intro r8 (And.intro r9 (And.intro r10 (And.intro r11 r12)))))))))))); have HF:=hd_ (fresh_set HX.out hcs HQ.out); replace HM2:=hd_ (HM2.out.put HZ.out noU8_ou hcs); replace HM3:=hd_ (HM3.out.put HZ.out noU8_ou hcs); have HYC:=hd_ (HYB.out.trans hcs (fun _ _ e=>e)); clear r0 r1 r2 r3 r4 r5 r6 r7 r8 r9 r10 r11 r12 hcs)
    | fail)
  all_goals
   go_wp2_with fail
   obtain ⟨r0,r1,r2,r3,r4,r5,r6,r7,r8,r9,r10,r11,r12⟩:=RR.out
   exact bodyPost_ret (v := .agg #[int i64 v.kd,int i64 v.po,int i64 v.ge,int i64 v.st, .slice A2 n2 c2,int i64 v.k,int i64 v.o,int i64 v.f,int i64 v.t,int i64 v.p,int i64 v.g,int i64 v.i, .slice A3 n3 c3]) (by simp [results,Tryz.results63,go_sem,r0,r1,r2,r3,r4,r5,r6,r7,r8,r9,r10,r11,r12]) rfl ⟨A2,n2,c2,A3,n3,c3,rfl,HM2.out,HM3.out,HF.out⟩
theorem becp15_any {S15 : Nat → Prop} (tp : Value) (ki km kp ks ko : Int) (oe : Option En) (ak ap ao ag : Int) (hac : acO13 oe = acC ak ap ao ag) (qp : Nat) (k o f t p g i : Int) (A : Option Addr) (n c : Nat) (b : List UInt8) (w : World) (hl : ∀ W,Chg (fun _=>False) w W → Calls Tryz.prog 98 #[tp, .agg (kyC ki km kp ks ko)] W (LkP13 oe W)) (hr : pkR k o f t p g i n = true) (hqp : Blk w qp 37 (pkC k o f t p g i A n c)) (h : BsM15 w A n c b) (hS15 : ∀ k,w.heap.size ≤ k → S15 k) : Calls Tryz.prog 63 #[tp, .agg #[int i64 ki,int .u64 km,int i64 kp,int i64 ks,int i64 ko], .agg #[.func (.func 113) #[] #[], .func (.func 114) #[] #[.pointer (some ⟨qp,0,none⟩)], .func (.func 115) #[] #[.pointer (some ⟨qp,0,none⟩)]]] w (HO15 S15 (tu15 k o f t p g i b ak ap ao ag) w):=by
 have hn:=(pkR_parts hr).2.2.2.2.2.2.2.1.2
 have tu2 : ∀ ap ao ag : Int,tu15 k o f t p g i b 2 ap ao ag = fwd15 k o f t p g i ao ag b:=fun _ _ _=>rfl
 generalize hv : tu15 k o f t p g i b ak ap ao ag = v
 have HV:=hd_ hv
 clear hv
 have hl2:=hl
 unfold LkP13 at hl2
 rw [hac] at hl2
 generalize oe.isSome = bb at *
 unfold kyC acC at hl2
 have HLK:=hd_ hl2
 clear hl2 hl hac
 have HB4:=hd_ (((hqp.alloc (.cells #[int i64 ki,int .u64 km,int i64 kp,int i64 ks,int i64 ko] 146)).alloc (.cells #[.func (.func 113) #[] #[], .func (.func 114) #[] #[.pointer (some ⟨qp,0,none⟩)], .func (.func 115) #[] #[.pointer (some ⟨qp,0,none⟩)]] 149)).alloc (.cells #[int i64 0,int i64 0,int i64 0,int i64 0, .slice none 0 0,int i64 0,int i64 0,int i64 0,int i64 0,int i64 0,int i64 0,int i64 0, .slice none 0 0] 44))
 have HM:=hd_ h
 have HS15:=hd_ hS15
 clear hS15
 clear h hqp
 have HB0 : Hid (Blk (((w.alloc (.cells #[int i64 ki,int .u64 km,int i64 kp,int i64 ks,int i64 ko] 146)).alloc (.cells #[.func (.func 113) #[] #[], .func (.func 114) #[] #[.pointer (some ⟨qp,0,none⟩)], .func (.func 115) #[] #[.pointer (some ⟨qp,0,none⟩)]] 149)).alloc (.cells #[int i64 0,int i64 0,int i64 0,int i64 0, .slice none 0 0,int i64 0,int i64 0,int i64 0,int i64 0,int i64 0,int i64 0,int i64 0, .slice none 0 0] 44)) (w.heap.size) 146 (kyC ki km kp ks ko)):=hd_ (Blk.alloc (Blk.alloc (blk_new rfl) _) _)
 have HB1 : Hid (Blk (((w.alloc (.cells #[int i64 ki,int .u64 km,int i64 kp,int i64 ks,int i64 ko] 146)).alloc (.cells #[.func (.func 113) #[] #[], .func (.func 114) #[] #[.pointer (some ⟨qp,0,none⟩)], .func (.func 115) #[] #[.pointer (some ⟨qp,0,none⟩)]] 149)).alloc (.cells #[int i64 0,int i64 0,int i64 0,int i64 0, .slice none 0 0,int i64 0,int i64 0,int i64 0,int i64 0,int i64 0,int i64 0,int i64 0, .slice none 0 0] 44)) (w.heap.size + 1) 149 (#[.func (.func 113) #[] #[], .func (.func 114) #[] #[.pointer (some ⟨qp,0,none⟩)], .func (.func 115) #[] #[.pointer (some ⟨qp,0,none⟩)]])):=hd_ (Blk.alloc (blk_new (by simp)) _)
 have HZ : Hid (Blk (((w.alloc (.cells #[int i64 ki,int .u64 km,int i64 kp,int i64 ks,int i64 ko] 146)).alloc (.cells #[.func (.func 113) #[] #[], .func (.func 114) #[] #[.pointer (some ⟨qp,0,none⟩)], .func (.func 115) #[] #[.pointer (some ⟨qp,0,none⟩)]] 149)).alloc (.cells #[int i64 0,int i64 0,int i64 0,int i64 0, .slice none 0 0,int i64 0,int i64 0,int i64 0,int i64 0,int i64 0,int i64 0,int i64 0, .slice none 0 0] 44)) (w.heap.size + 1 + 1) 44 (ouC15 0 0 0 0 none 0 0 0 0 0 0 0 0 0 none 0 0)):=hd_ (blk_new (by simp))
 have HX:=hd_ ((((Chg.refl (fun _=>False) w).alloc (.cells #[int i64 ki,int .u64 km,int i64 kp,int i64 ks,int i64 ko] 146)).alloc (.cells #[.func (.func 113) #[] #[], .func (.func 114) #[] #[.pointer (some ⟨qp,0,none⟩)], .func (.func 115) #[] #[.pointer (some ⟨qp,0,none⟩)]] 149)).alloc (.cells #[int i64 0,int i64 0,int i64 0,int i64 0, .slice none 0 0,int i64 0,int i64 0,int i64 0,int i64 0,int i64 0,int i64 0,int i64 0, .slice none 0 0] 44))
 have HQ : Hid (w.heap.size ≤ w.heap.size + 1 + 1):=hd_ (by omega)
 have HN1 : Hid (¬ w.heap.size + 1 = w.heap.size + 1 + 1):=hd_ (by omega)
 go_enter Tryz.func63,Tryz.ntmps63
 go_upto_region 1 with fail
 generalize ((w.alloc (.cells #[int i64 ki,int .u64 km,int i64 kp,int i64 ks,int i64 ko] 146)).alloc (.cells #[.func (.func 113) #[] #[], .func (.func 114) #[] #[.pointer (some ⟨qp,0,none⟩)], .func (.func 115) #[] #[.pointer (some ⟨qp,0,none⟩)]] 149)).alloc (.cells #[int i64 0,int i64 0,int i64 0,int i64 0, .slice none 0 0,int i64 0,int i64 0,int i64 0,int i64 0,int i64 0,int i64 0,int i64 0, .slice none 0 0] 44) = w1 at *
 generalize w.heap.size + 1 + 1 = Q2 at *
 generalize w.heap.size + 1 = Q1 at *
 generalize w.heap.size = Q0 at HB0 ⊢
 obtain ⟨u0,u1,u2,u3,u4⟩:=ky_cells13 HB0.out
 go_wp2_with fail
 refine (HLK.out _ HX.out).mono ?_
 rintro e w3 ⟨rfl,hc⟩
 have hca:=hc.alloc (.cells #[int i64 ak,int i64 ap,int i64 ao,int i64 ag] 188)
 have HB3 : Hid (Blk (w3.alloc (.cells #[int i64 ak,int i64 ap,int i64 ao,int i64 ag] 188)) w3.heap.size 188 (acC ak ap ao ag)):=hd_ (blk_new rfl)
 have HN3:=hd_ (show ¬ w3.heap.size = Q2 from by have:=(HZ.out.chg hc id).lt; omega)
 replace HZ:=hd_ (HZ.out.chg hca id)
 replace HB1:=hd_ (HB1.out.chg hca id)
 replace HB4:=hd_ (HB4.out.chg hca id)
 replace HX:=hd_ (HX.out.trans hca (fun _ _ e=>e))
 clear hc hca u0 u1 u2 u3 u4 HB0
 go_upto_region 2 with fail
 generalize w3.alloc (.cells #[int i64 ak,int i64 ap,int i64 ao,int i64 ag] 188) = v3 at *
 generalize w3.heap.size = Q3 at *
 by_cases hx0 : ak < 0
 ·have hx1 : ¬ ak = 1:=by omega
  have hx2 : ¬ ak = 2:=by omega
  obtain rfl : v = zOV:=by rw [← HV.out]; exact tu15_no hx1 hx2 ..
  obtain ⟨y0,y1,y2,y3⟩:=ac_cells13 HB3.out
  go_wp2_with fail
  refine (drop15_any _).mono ?_
  rintro e w4 ⟨rfl,hc⟩
  replace HZ:=hd_ (HZ.out.chg hc id)
  replace HX:=hd_ (HX.out.trans hc (fun _ _ e=>e))
  clear hc
  clear y0 y1 y2 y3
  obtain ⟨x0,x1,x2,x3,x4,x5,x6,x7,x8,x9,x10,x11,x12⟩:=ou_cells15 HZ.out
  obtain ⟨f0,f1,f2,f3,f4,f5,f6,f7,f8,f9,f10,f11,f12⟩:=ou_free15 HZ.out
  obtain ⟨r0,r1,r2,r3,r4,r5,r6,r7,r8,r9,r10,r11,r12,hcs⟩:=ou_put15 HZ.out rfl 0 0 0 0 none 0 0 0 0 0 0 0 0 0 none 0 0
  have RR:=hd_ (And.intro r0 (And.intro r1 (And.intro r2 (And.intro r3 (And.intro r4 (And.intro r5 (And.intro r6 (And.intro r7 (And.intro r8 (And.intro r9 (And.intro r10 (And.intro r11 r12))))))))))))
  have HF:=hd_ (fresh_set HX.out hcs HQ.out)
  clear r0 r1 r2 r3 r4 r5 r6 r7 r8 r9 r10 r11 r12 hcs
  go_wp2_with fail
  obtain ⟨r0,r1,r2,r3,r4,r5,r6,r7,r8,r9,r10,r11,r12⟩:=RR.out
  exact bodyPost_ret (v := .agg #[int i64 0,int i64 0,int i64 0,int i64 0, .slice none 0 0,int i64 0,int i64 0,int i64 0,int i64 0,int i64 0,int i64 0,int i64 0, .slice none 0 0]) (by simp [results,Tryz.results63,go_sem,r0,r1,r2,r3,r4,r5,r6,r7,r8,r9,r10,r11,r12]) rfl ⟨none,0,0,none,0,0,rfl,BsS15.nil _ _,BsM15.nil _,HF.out⟩
 by_cases hx3 : 3 ≤ ak
 ·have hx1 : ¬ ak = 1:=by omega
  have hx2 : ¬ ak = 2:=by omega
  obtain rfl : v = zOV:=by rw [← HV.out]; exact tu15_no hx1 hx2 ..
  obtain ⟨y0,y1,y2,y3⟩:=ac_cells13 HB3.out
  go_wp2_with fail
  refine (drop15_any _).mono ?_
  rintro e w4 ⟨rfl,hc⟩
  replace HZ:=hd_ (HZ.out.chg hc id)
  replace HX:=hd_ (HX.out.trans hc (fun _ _ e=>e))
  clear hc
  clear y0 y1 y2 y3
  obtain ⟨x0,x1,x2,x3,x4,x5,x6,x7,x8,x9,x10,x11,x12⟩:=ou_cells15 HZ.out
  obtain ⟨f0,f1,f2,f3,f4,f5,f6,f7,f8,f9,f10,f11,f12⟩:=ou_free15 HZ.out
  obtain ⟨r0,r1,r2,r3,r4,r5,r6,r7,r8,r9,r10,r11,r12,hcs⟩:=ou_put15 HZ.out rfl 0 0 0 0 none 0 0 0 0 0 0 0 0 0 none 0 0
  have RR:=hd_ (And.intro r0 (And.intro r1 (And.intro r2 (And.intro r3 (And.intro r4 (And.intro r5 (And.intro r6 (And.intro r7 (And.intro r8 (And.intro r9 (And.intro r10 (And.intro r11 r12))))))))))))
  have HF:=hd_ (fresh_set HX.out hcs HQ.out)
  clear r0 r1 r2 r3 r4 r5 r6 r7 r8 r9 r10 r11 r12 hcs
  go_wp2_with fail
  obtain ⟨r0,r1,r2,r3,r4,r5,r6,r7,r8,r9,r10,r11,r12⟩:=RR.out
  exact bodyPost_ret (v := .agg #[int i64 0,int i64 0,int i64 0,int i64 0, .slice none 0 0,int i64 0,int i64 0,int i64 0,int i64 0,int i64 0,int i64 0,int i64 0, .slice none 0 0]) (by simp [results,Tryz.results63,go_sem,r0,r1,r2,r3,r4,r5,r6,r7,r8,r9,r10,r11,r12]) rfl ⟨none,0,0,none,0,0,rfl,BsS15.nil _ _,BsM15.nil _,HF.out⟩
 have hx4 : ak = 0 ∨ ak = 1 ∨ ak = 2:=by omega
 clear hx0 hx3
 rcases hx4 with rfl | rfl | rfl
 ·skip
  obtain rfl : v = zOV:=by rw [← HV.out]; exact tu15_no (by decide) (by decide) ..
  obtain ⟨y0,y1,y2,y3⟩:=ac_cells13 HB3.out
  go_wp2_with fail
  clear y0 y1 y2 y3
  have HKEEP : Hid (∀ W : World,Chg (fun k=>k = Q2) v3 W → (W.cell? ⟨Q3,0,none⟩ = some (int i64 (0)) ∧ W.cell? ⟨Q3,1,none⟩ = some (int i64 ap) ∧ W.cell? ⟨Q3,2,none⟩ = some (int i64 ao) ∧ W.cell? ⟨Q3,3,none⟩ = some (int i64 ag) ∧ W.cell? ⟨Q1,0,none⟩ = some (.func (.func 113) #[] #[]) ∧ W.cell? ⟨Q1,1,none⟩ = some (.func (.func 114) #[] #[.pointer (some ⟨qp,0,none⟩)]) ∧ W.cell? ⟨Q1,2,none⟩ = some (.func (.func 115) #[] #[.pointer (some ⟨qp,0,none⟩)]))):=hd_ (fun W hw=>by
   obtain ⟨y0,y1,y2,y3⟩:=ac_cells13 (HB3.out.chg hw HN3.out)
   have g0:=Blk.cell (HB1.out.chg hw HN1.out) 0
   have g1:=Blk.cell (HB1.out.chg hw HN1.out) 1
   have g2:=Blk.cell (HB1.out.chg hw HN1.out) 2
   simp only [List.getElem?_toArray,List.getElem?_cons_zero,List.getElem?_cons_succ] at g0 g1 g2
   exact ⟨y0,y1,y2,y3,g0,g1,g2⟩
  )
  have HYA:=hd_ (Chg.refl (fun k=>k = Q2) v3).drew
  replace HX:=hd_ HX.out.drew
  replace HZ:=hd_ HZ.out.drew
  replace HB4:=hd_ HB4.out.drew
  obtain ⟨y0,y1,y2,y3,g0,g1,g2⟩:=HKEEP.out _ HYA.out
  go_region_held3 (fun w'=>w'.cell? ⟨Q3,0,none⟩ = some (int i64 (0)) ∧ w'.cell? ⟨Q3,1,none⟩ = some (int i64 ap) ∧ w'.cell? ⟨Q3,2,none⟩ = some (int i64 ao) ∧ w'.cell? ⟨Q3,3,none⟩ = some (int i64 ag) ∧ w'.cell? ⟨Q1,0,none⟩ = some (.func (.func 113) #[] #[]) ∧ w'.cell? ⟨Q1,1,none⟩ = some (.func (.func 114) #[] #[.pointer (some ⟨qp,0,none⟩)]) ∧ w'.cell? ⟨Q1,2,none⟩ = some (.func (.func 115) #[] #[.pointer (some ⟨qp,0,none⟩)]))
   (first | with_reducible exact HKEEP.out _ HYA.out | with_reducible exact HKEEP.out _ HYB.out | with_reducible exact HKEEP.out _ HYC.out | fail)
   (first
    | (go_at_call 113; (with_reducible refine (op1_any 0 ap ao ag _).mono ?_); rintro e w4 ⟨rfl,hc⟩; have HYB:=hd_ (HYA.out.trans (hc.mono (S':=fun k=>k = Q2) (fun _ _ h=>h.elim)) (fun _ _ e=>e)); replace HZ:=hd_ (HZ.out.chg hc id); replace HX:=hd_ (HX.out.trans hc (fun _ _ e=>e)); clear hc; obtain ⟨x0,x1,x2,x3,x4,x5,x6,x7,x8,x9,x10,x11,x12⟩:=ou_cells15 HZ.out; obtain ⟨f0,f1,f2,f3,f4,f5,f6,f7,f8,f9,f10,f11,f12⟩:=ou_free15 HZ.out; obtain ⟨r0,r1,r2,r3,r4,r5,r6,r7,r8,r9,r10,r11,r12,hcs⟩:=ou_put15 HZ.out rfl 0 0 0 0 none 0 0 0 0 0 0 0 0 0 none 0 0; have RR:=hd_ (And.intro r0 (And.intro r1 (And.intro r2 (And.intro r3 (And.intro r4 (And.intro r5 (And.intro r6 (And.intro r7 (And.intro r8 (And.intro r9 (And.intro r10 (And.intro r11 r12)))))))))))); have HF:=hd_ (fresh_set HX.out hcs HQ.out); have HYC:=hd_ (HYB.out.trans hcs (fun _ _ e=>e)); clear r0 r1 r2 r3 r4 r5 r6 r7 r8 r9 r10 r11 r12 hcs)
    | fail)
  all_goals
   go_wp2_with fail
   obtain ⟨r0,r1,r2,r3,r4,r5,r6,r7,r8,r9,r10,r11,r12⟩:=RR.out
   exact bodyPost_ret (v := .agg #[int i64 0,int i64 0,int i64 0,int i64 0, .slice none 0 0,int i64 0,int i64 0,int i64 0,int i64 0,int i64 0,int i64 0,int i64 0, .slice none 0 0]) (by simp [results,Tryz.results63,go_sem,r0,r1,r2,r3,r4,r5,r6,r7,r8,r9,r10,r11,r12]) rfl ⟨none,0,0,none,0,0,rfl,BsS15.nil _ _,BsM15.nil _,HF.out⟩
 ·skip
  have hcc:=(fun (W : World) (hW : Chg (fun _=>False) w W) (hq4 : Blk W qp 37 (pkC k o f t p g i A n c))=>op2_any (S15:=S15) 1 ap ao ag qp k o f t p g i A n c b W (by omega) hq4 (HM.out.chg hW) (fun k hk=>HS15.out k (Nat.le_trans hW.size hk)))
  rw [show dlv15 ap ag g b = v from HV.out] at hcc
  have HCC:=hd_ hcc
  clear hcc
  obtain ⟨y0,y1,y2,y3⟩:=ac_cells13 HB3.out
  go_wp2_with fail
  clear y0 y1 y2 y3
  have HKEEP : Hid (∀ W : World,Chg (fun k=>k = Q2) v3 W → (W.cell? ⟨Q3,0,none⟩ = some (int i64 (1)) ∧ W.cell? ⟨Q3,1,none⟩ = some (int i64 ap) ∧ W.cell? ⟨Q3,2,none⟩ = some (int i64 ao) ∧ W.cell? ⟨Q3,3,none⟩ = some (int i64 ag) ∧ W.cell? ⟨Q1,0,none⟩ = some (.func (.func 113) #[] #[]) ∧ W.cell? ⟨Q1,1,none⟩ = some (.func (.func 114) #[] #[.pointer (some ⟨qp,0,none⟩)]) ∧ W.cell? ⟨Q1,2,none⟩ = some (.func (.func 115) #[] #[.pointer (some ⟨qp,0,none⟩)]))):=hd_ (fun W hw=>by
   obtain ⟨y0,y1,y2,y3⟩:=ac_cells13 (HB3.out.chg hw HN3.out)
   have g0:=Blk.cell (HB1.out.chg hw HN1.out) 0
   have g1:=Blk.cell (HB1.out.chg hw HN1.out) 1
   have g2:=Blk.cell (HB1.out.chg hw HN1.out) 2
   simp only [List.getElem?_toArray,List.getElem?_cons_zero,List.getElem?_cons_succ] at g0 g1 g2
   exact ⟨y0,y1,y2,y3,g0,g1,g2⟩
  )
  have HYA:=hd_ (Chg.refl (fun k=>k = Q2) v3).drew
  replace HX:=hd_ HX.out.drew
  replace HZ:=hd_ HZ.out.drew
  replace HB4:=hd_ HB4.out.drew
  obtain ⟨y0,y1,y2,y3,g0,g1,g2⟩:=HKEEP.out _ HYA.out
  go_region_held3 (fun w'=>w'.cell? ⟨Q3,0,none⟩ = some (int i64 (1)) ∧ w'.cell? ⟨Q3,1,none⟩ = some (int i64 ap) ∧ w'.cell? ⟨Q3,2,none⟩ = some (int i64 ao) ∧ w'.cell? ⟨Q3,3,none⟩ = some (int i64 ag) ∧ w'.cell? ⟨Q1,0,none⟩ = some (.func (.func 113) #[] #[]) ∧ w'.cell? ⟨Q1,1,none⟩ = some (.func (.func 114) #[] #[.pointer (some ⟨qp,0,none⟩)]) ∧ w'.cell? ⟨Q1,2,none⟩ = some (.func (.func 115) #[] #[.pointer (some ⟨qp,0,none⟩)]))
   (first | with_reducible exact HKEEP.out _ HYA.out | with_reducible exact HKEEP.out _ HYB.out | with_reducible exact HKEEP.out _ HYC.out | fail)
   (first
    | (go_at_call 114; (with_reducible refine (HCC.out _ HX.out HB4.out).mono ?_); rintro e w4 ⟨A2,n2,c2,A3,n3,c3,rfl,hm2,hm3,hc⟩; have HYB:=hd_ (HYA.out.trans (hc.mono (S':=fun k=>k = Q2) (fun _ _ h=>h.elim)) (fun _ _ e=>e)); replace HZ:=hd_ (HZ.out.chg hc id); replace HX:=hd_ (HX.out.trans hc (fun _ _ e=>e)); clear hc; unfold ouC15; have HM2:=hd_ hm2; have HM3:=hd_ hm3; clear hm2 hm3; obtain ⟨x0,x1,x2,x3,x4,x5,x6,x7,x8,x9,x10,x11,x12⟩:=ou_cells15 HZ.out; obtain ⟨f0,f1,f2,f3,f4,f5,f6,f7,f8,f9,f10,f11,f12⟩:=ou_free15 HZ.out; obtain ⟨r0,r1,r2,r3,r4,r5,r6,r7,r8,r9,r10,r11,r12,hcs⟩:=ou_put15 HZ.out rfl v.kd v.po v.ge v.st A2 n2 c2 v.k v.o v.f v.t v.p v.g v.i A3 n3 c3; have RR:=hd_ (And.intro r0 (And.intro r1 (And.intro r2 (And.intro r3 (And.intro r4 (And.intro r5 (And.intro r6 (And.intro r7 (And.intro r8 (And.intro r9 (And.intro r10 (And.intro r11 r12)))))))))))); have HF:=hd_ (fresh_set HX.out hcs HQ.out); replace HM2:=hd_ (HM2.out.put HZ.out noU8_ou hcs); replace HM3:=hd_ (HM3.out.put HZ.out noU8_ou hcs); have HYC:=hd_ (HYB.out.trans hcs (fun _ _ e=>e)); clear r0 r1 r2 r3 r4 r5 r6 r7 r8 r9 r10 r11 r12 hcs)
    | fail)
  all_goals
   go_wp2_with fail
   obtain ⟨r0,r1,r2,r3,r4,r5,r6,r7,r8,r9,r10,r11,r12⟩:=RR.out
   exact bodyPost_ret (v := .agg #[int i64 v.kd,int i64 v.po,int i64 v.ge,int i64 v.st, .slice A2 n2 c2,int i64 v.k,int i64 v.o,int i64 v.f,int i64 v.t,int i64 v.p,int i64 v.g,int i64 v.i, .slice A3 n3 c3]) (by simp [results,Tryz.results63,go_sem,r0,r1,r2,r3,r4,r5,r6,r7,r8,r9,r10,r11,r12]) rfl ⟨A2,n2,c2,A3,n3,c3,rfl,HM2.out,HM3.out,HF.out⟩
 ·skip
  have hcc:=(fun (W : World) (hW : Chg (fun _=>False) w W) (hq4 : Blk W qp 37 (pkC k o f t p g i A n c))=>op3_any (S15:=S15) 2 ap ao ag qp k o f t p g i A n c b W hr hq4 (HM.out.chg hW))
  rw [show fwd15 k o f t p g i ao ag b = v from HV.out] at hcc
  have HCC:=hd_ hcc
  clear hcc
  obtain ⟨y0,y1,y2,y3⟩:=ac_cells13 HB3.out
  go_wp2_with fail
  clear y0 y1 y2 y3
  have HKEEP : Hid (∀ W : World,Chg (fun k=>k = Q2) v3 W → (W.cell? ⟨Q3,0,none⟩ = some (int i64 (2)) ∧ W.cell? ⟨Q3,1,none⟩ = some (int i64 ap) ∧ W.cell? ⟨Q3,2,none⟩ = some (int i64 ao) ∧ W.cell? ⟨Q3,3,none⟩ = some (int i64 ag) ∧ W.cell? ⟨Q1,0,none⟩ = some (.func (.func 113) #[] #[]) ∧ W.cell? ⟨Q1,1,none⟩ = some (.func (.func 114) #[] #[.pointer (some ⟨qp,0,none⟩)]) ∧ W.cell? ⟨Q1,2,none⟩ = some (.func (.func 115) #[] #[.pointer (some ⟨qp,0,none⟩)]))):=hd_ (fun W hw=>by
   obtain ⟨y0,y1,y2,y3⟩:=ac_cells13 (HB3.out.chg hw HN3.out)
   have g0:=Blk.cell (HB1.out.chg hw HN1.out) 0
   have g1:=Blk.cell (HB1.out.chg hw HN1.out) 1
   have g2:=Blk.cell (HB1.out.chg hw HN1.out) 2
   simp only [List.getElem?_toArray,List.getElem?_cons_zero,List.getElem?_cons_succ] at g0 g1 g2
   exact ⟨y0,y1,y2,y3,g0,g1,g2⟩
  )
  have HYA:=hd_ (Chg.refl (fun k=>k = Q2) v3).drew
  replace HX:=hd_ HX.out.drew
  replace HZ:=hd_ HZ.out.drew
  replace HB4:=hd_ HB4.out.drew
  obtain ⟨y0,y1,y2,y3,g0,g1,g2⟩:=HKEEP.out _ HYA.out
  go_region_held3 (fun w'=>w'.cell? ⟨Q3,0,none⟩ = some (int i64 (2)) ∧ w'.cell? ⟨Q3,1,none⟩ = some (int i64 ap) ∧ w'.cell? ⟨Q3,2,none⟩ = some (int i64 ao) ∧ w'.cell? ⟨Q3,3,none⟩ = some (int i64 ag) ∧ w'.cell? ⟨Q1,0,none⟩ = some (.func (.func 113) #[] #[]) ∧ w'.cell? ⟨Q1,1,none⟩ = some (.func (.func 114) #[] #[.pointer (some ⟨qp,0,none⟩)]) ∧ w'.cell? ⟨Q1,2,none⟩ = some (.func (.func 115) #[] #[.pointer (some ⟨qp,0,none⟩)]))
   (first | with_reducible exact HKEEP.out _ HYA.out | with_reducible exact HKEEP.out _ HYB.out | with_reducible exact HKEEP.out _ HYC.out | fail)
   (first
    | (go_at_call 115; (with_reducible refine (HCC.out _ HX.out HB4.out).mono ?_); rintro e w4 ⟨A2,n2,c2,A3,n3,c3,rfl,hm2,hm3,hc⟩; have HYB:=hd_ (HYA.out.trans (hc.mono (S':=fun k=>k = Q2) (fun _ _ h=>h.elim)) (fun _ _ e=>e)); replace HZ:=hd_ (HZ.out.chg hc id); replace HX:=hd_ (HX.out.trans hc (fun _ _ e=>e)); clear hc; unfold ouC15; have HM2:=hd_ hm2; have HM3:=hd_ hm3; clear hm2 hm3; obtain ⟨x0,x1,x2,x3,x4,x5,x6,x7,x8,x9,x10,x11,x12⟩:=ou_cells15 HZ.out; obtain ⟨f0,f1,f2,f3,f4,f5,f6,f7,f8,f9,f10,f11,f12⟩:=ou_free15 HZ.out; obtain ⟨r0,r1,r2,r3,r4,r5,r6,r7,r8,r9,r10,r11,r12,hcs⟩:=ou_put15 HZ.out rfl v.kd v.po v.ge v.st A2 n2 c2 v.k v.o v.f v.t v.p v.g v.i A3 n3 c3; have RR:=hd_ (And.intro r0 (And.intro r1 (And.intro r2 (And.intro r3 (And.intro r4 (And.intro r5 (And.intro r6 (And.intro r7 (And.intro r8 (And.intro r9 (And.intro r10 (And.intro r11 r12)))))))))))); have HF:=hd_ (fresh_set HX.out hcs HQ.out); replace HM2:=hd_ (HM2.out.put HZ.out noU8_ou hcs); replace HM3:=hd_ (HM3.out.put HZ.out noU8_ou hcs); have HYC:=hd_ (HYB.out.trans hcs (fun _ _ e=>e)); clear r0 r1 r2 r3 r4 r5 r6 r7 r8 r9 r10 r11 r12 hcs)
    | fail)
  all_goals
   go_wp2_with fail
   obtain ⟨r0,r1,r2,r3,r4,r5,r6,r7,r8,r9,r10,r11,r12⟩:=RR.out
   exact bodyPost_ret (v := .agg #[int i64 v.kd,int i64 v.po,int i64 v.ge,int i64 v.st, .slice A2 n2 c2,int i64 v.k,int i64 v.o,int i64 v.f,int i64 v.t,int i64 v.p,int i64 v.g,int i64 v.i, .slice A3 n3 c3]) (by simp [results,Tryz.results63,go_sem,r0,r1,r2,r3,r4,r5,r6,r7,r8,r9,r10,r11,r12]) rfl ⟨A2,n2,c2,A3,n3,c3,rfl,HM2.out,HM3.out,HF.out⟩
theorem guest15_bad {S15 : Nat → Prop} (tp : Value) (d s t ch nu : Int) (A : Option Addr) (n c : Nat) (w : World) (hd : 0 ≤ d) (hs : 0 ≤ s) (hn : n ≤ 9223372036854775807) (hr : rightB d s t n = false) : Calls Tryz.prog 30 #[tp,int i64 ch, .agg #[int .u64 d,int .u64 s,int i64 t, .slice A n c],int i64 nu] w (HE15 S15 zOV 1 w):=by
 have HEN:=hd_ (fun W=>encode_bad d s t A n c W hd hs hn hr)
 clear hr
 have HB0 : Hid (Blk ((w.alloc (.cells #[int .u64 d,int .u64 s,int i64 t, .slice A n c] 34)).alloc (.cells #[int i64 0,int i64 0,int i64 0,int i64 0, .slice none 0 0,int i64 0,int i64 0,int i64 0,int i64 0,int i64 0,int i64 0,int i64 0, .slice none 0 0] 44)) (w.heap.size) 34 (#[int .u64 d,int .u64 s,int i64 t, .slice A n c])):=hd_ (Blk.alloc (blk_new rfl) _)
 have HZ : Hid (Blk ((w.alloc (.cells #[int .u64 d,int .u64 s,int i64 t, .slice A n c] 34)).alloc (.cells #[int i64 0,int i64 0,int i64 0,int i64 0, .slice none 0 0,int i64 0,int i64 0,int i64 0,int i64 0,int i64 0,int i64 0,int i64 0, .slice none 0 0] 44)) (w.heap.size + 1) 44 (ouC15 0 0 0 0 none 0 0 0 0 0 0 0 0 0 none 0 0)):=hd_ (blk_new (by simp))
 have HX:=hd_ (((Chg.refl (fun _=>False) w).alloc (.cells #[int .u64 d,int .u64 s,int i64 t, .slice A n c] 34)).alloc (.cells #[int i64 0,int i64 0,int i64 0,int i64 0, .slice none 0 0,int i64 0,int i64 0,int i64 0,int i64 0,int i64 0,int i64 0,int i64 0, .slice none 0 0] 44))
 have HQ : Hid (w.heap.size ≤ w.heap.size + 1):=hd_ (by omega)
 go_enter Tryz.func30,Tryz.ntmps30
 go_upto_region 1 with fail
 generalize (w.alloc (.cells #[int .u64 d,int .u64 s,int i64 t, .slice A n c] 34)).alloc (.cells #[int i64 0,int i64 0,int i64 0,int i64 0, .slice none 0 0,int i64 0,int i64 0,int i64 0,int i64 0,int i64 0,int i64 0,int i64 0, .slice none 0 0] 44) = w1 at *
 generalize w.heap.size + 1 = Q1 at *
 generalize w.heap.size = Q0 at HB0 ⊢
 have y0:=HB0.out.cell 0
 have y1:=HB0.out.cell 1
 have y2:=HB0.out.cell 2
 have y3:=HB0.out.cell 3
 simp only [List.getElem?_toArray,List.getElem?_cons_zero,List.getElem?_cons_succ] at y0 y1 y2 y3
 go_wp2_with fail
 refine (HEN.out _).mono ?_
 rintro e w2 ⟨rfl,hc⟩
 replace HZ:=hd_ (HZ.out.chg hc id)
 replace HX:=hd_ (HX.out.trans hc (fun _ _ e=>e))
 clear hc
 clear y0 y1 y2 y3
 obtain ⟨x0,x1,x2,x3,x4,x5,x6,x7,x8,x9,x10,x11,x12⟩:=ou_cells15 HZ.out
 obtain ⟨f0,f1,f2,f3,f4,f5,f6,f7,f8,f9,f10,f11,f12⟩:=ou_free15 HZ.out
 obtain ⟨r0,r1,r2,r3,r4,r5,r6,r7,r8,r9,r10,r11,r12,hcs⟩:=ou_put15 HZ.out rfl 0 0 0 0 none 0 0 0 0 0 0 0 0 0 none 0 0
 have RR:=hd_ (And.intro r0 (And.intro r1 (And.intro r2 (And.intro r3 (And.intro r4 (And.intro r5 (And.intro r6 (And.intro r7 (And.intro r8 (And.intro r9 (And.intro r10 (And.intro r11 r12))))))))))))
 have HF:=hd_ (fresh_set HX.out hcs HQ.out)
 clear r0 r1 r2 r3 r4 r5 r6 r7 r8 r9 r10 r11 r12 hcs
 go_wp2_with fail
 obtain ⟨r0,r1,r2,r3,r4,r5,r6,r7,r8,r9,r10,r11,r12⟩:=RR.out
 exact bodyPost_ret (v := .tuple #[.agg #[int i64 0,int i64 0,int i64 0,int i64 0, .slice none 0 0,int i64 0,int i64 0,int i64 0,int i64 0,int i64 0,int i64 0,int i64 0, .slice none 0 0],int i64 1]) (by simp [results,Tryz.results30,go_sem,r0,r1,r2,r3,r4,r5,r6,r7,r8,r9,r10,r11,r12]) rfl ⟨none,0,0,none,0,0,rfl,BsS15.nil _ _,BsM15.nil _,HF.out⟩
theorem guest15_rng {S15 : Nat → Prop} (tp : Value) (d s t ch nu : Int) (A : Option Addr) (n c : Nat) (w : World) (hd : 0 ≤ d) (hs : 0 ≤ s) (hn : n ≤ 9223372036854775807) (l : List UInt8) (h : BsM15 w A n c l) (hr : rightB d s t n = true) (hx : ch < 0 ∨ 15 < ch ∨ nu < 0 ∨ 1099511627776 < nu) : Calls Tryz.prog 30 #[tp,int i64 ch, .agg #[int .u64 d,int .u64 s,int i64 t, .slice A n c],int i64 nu] w (HE15 S15 zOV 1 w):=by
 have HEN:=hd_ (fun (W : World) (hW : Chg (fun _=>False) w W)=>encode_ok d s t A n c l (fun _=>True) W h.2.1 (h.2.2.chg hW (fun _ _=>id)) hd hs hr)
 generalize hfb : frameB d s t l = fb at *
 have HFB:=hd_ hfb
 clear h hr hfb
 have HB0 : Hid (Blk ((w.alloc (.cells #[int .u64 d,int .u64 s,int i64 t, .slice A n c] 34)).alloc (.cells #[int i64 0,int i64 0,int i64 0,int i64 0, .slice none 0 0,int i64 0,int i64 0,int i64 0,int i64 0,int i64 0,int i64 0,int i64 0, .slice none 0 0] 44)) (w.heap.size) 34 (#[int .u64 d,int .u64 s,int i64 t, .slice A n c])):=hd_ (Blk.alloc (blk_new rfl) _)
 have HZ : Hid (Blk ((w.alloc (.cells #[int .u64 d,int .u64 s,int i64 t, .slice A n c] 34)).alloc (.cells #[int i64 0,int i64 0,int i64 0,int i64 0, .slice none 0 0,int i64 0,int i64 0,int i64 0,int i64 0,int i64 0,int i64 0,int i64 0, .slice none 0 0] 44)) (w.heap.size + 1) 44 (ouC15 0 0 0 0 none 0 0 0 0 0 0 0 0 0 none 0 0)):=hd_ (blk_new (by simp))
 have HX:=hd_ (((Chg.refl (fun _=>False) w).alloc (.cells #[int .u64 d,int .u64 s,int i64 t, .slice A n c] 34)).alloc (.cells #[int i64 0,int i64 0,int i64 0,int i64 0, .slice none 0 0,int i64 0,int i64 0,int i64 0,int i64 0,int i64 0,int i64 0,int i64 0, .slice none 0 0] 44))
 have HQ : Hid (w.heap.size ≤ w.heap.size + 1):=hd_ (by omega)
 by_cases h1 : ch < 0
 ·skip
  clear hx
  go_enter Tryz.func30,Tryz.ntmps30
  go_upto_region 1 with fail
  generalize (w.alloc (.cells #[int .u64 d,int .u64 s,int i64 t, .slice A n c] 34)).alloc (.cells #[int i64 0,int i64 0,int i64 0,int i64 0, .slice none 0 0,int i64 0,int i64 0,int i64 0,int i64 0,int i64 0,int i64 0,int i64 0, .slice none 0 0] 44) = w1 at *
  generalize w.heap.size + 1 = Q1 at *
  generalize w.heap.size = Q0 at HB0 ⊢
  have y0:=HB0.out.cell 0
  have y1:=HB0.out.cell 1
  have y2:=HB0.out.cell 2
  have y3:=HB0.out.cell 3
  simp only [List.getElem?_toArray,List.getElem?_cons_zero,List.getElem?_cons_succ] at y0 y1 y2 y3
  go_wp2_with fail
  refine (HEN.out _ HX.out).mono ?_
  rintro e w2 ⟨A',k,c',rfl,hk,hz,hrd,hc⟩
  have HM:=hd_ (show BsM15 w2 A' k c' fb from ⟨hz,hk,hrd.mono (fun _ _=>trivial)⟩)
  replace HZ:=hd_ (HZ.out.chg hc id)
  replace HB0:=hd_ (HB0.out.chg hc id)
  replace HX:=hd_ (HX.out.trans hc (fun _ _ e=>e))
  clear y0 y1 y2 y3 hk hz hrd hc
  obtain ⟨x0,x1,x2,x3,x4,x5,x6,x7,x8,x9,x10,x11,x12⟩:=ou_cells15 HZ.out
  obtain ⟨f0,f1,f2,f3,f4,f5,f6,f7,f8,f9,f10,f11,f12⟩:=ou_free15 HZ.out
  obtain ⟨r0,r1,r2,r3,r4,r5,r6,r7,r8,r9,r10,r11,r12,hcs⟩:=ou_put15 HZ.out rfl 0 0 0 0 none 0 0 0 0 0 0 0 0 0 none 0 0
  have RR:=hd_ (And.intro r0 (And.intro r1 (And.intro r2 (And.intro r3 (And.intro r4 (And.intro r5 (And.intro r6 (And.intro r7 (And.intro r8 (And.intro r9 (And.intro r10 (And.intro r11 r12))))))))))))
  have HF:=hd_ (fresh_set HX.out hcs HQ.out)
  clear r0 r1 r2 r3 r4 r5 r6 r7 r8 r9 r10 r11 r12 hcs
  go_wp2_with fail
  obtain ⟨r0,r1,r2,r3,r4,r5,r6,r7,r8,r9,r10,r11,r12⟩:=RR.out
  exact bodyPost_ret (v := .tuple #[.agg #[int i64 0,int i64 0,int i64 0,int i64 0, .slice none 0 0,int i64 0,int i64 0,int i64 0,int i64 0,int i64 0,int i64 0,int i64 0, .slice none 0 0],int i64 1]) (by simp [results,Tryz.results30,go_sem,r0,r1,r2,r3,r4,r5,r6,r7,r8,r9,r10,r11,r12]) rfl ⟨none,0,0,none,0,0,rfl,BsS15.nil _ _,BsM15.nil _,HF.out⟩
 by_cases h2 : 16 ≤ ch
 ·skip
  clear hx
  go_enter Tryz.func30,Tryz.ntmps30
  go_upto_region 1 with fail
  generalize (w.alloc (.cells #[int .u64 d,int .u64 s,int i64 t, .slice A n c] 34)).alloc (.cells #[int i64 0,int i64 0,int i64 0,int i64 0, .slice none 0 0,int i64 0,int i64 0,int i64 0,int i64 0,int i64 0,int i64 0,int i64 0, .slice none 0 0] 44) = w1 at *
  generalize w.heap.size + 1 = Q1 at *
  generalize w.heap.size = Q0 at HB0 ⊢
  have y0:=HB0.out.cell 0
  have y1:=HB0.out.cell 1
  have y2:=HB0.out.cell 2
  have y3:=HB0.out.cell 3
  simp only [List.getElem?_toArray,List.getElem?_cons_zero,List.getElem?_cons_succ] at y0 y1 y2 y3
  go_wp2_with fail
  refine (HEN.out _ HX.out).mono ?_
  rintro e w2 ⟨A',k,c',rfl,hk,hz,hrd,hc⟩
  have HM:=hd_ (show BsM15 w2 A' k c' fb from ⟨hz,hk,hrd.mono (fun _ _=>trivial)⟩)
  replace HZ:=hd_ (HZ.out.chg hc id)
  replace HB0:=hd_ (HB0.out.chg hc id)
  replace HX:=hd_ (HX.out.trans hc (fun _ _ e=>e))
  clear y0 y1 y2 y3 hk hz hrd hc
  obtain ⟨x0,x1,x2,x3,x4,x5,x6,x7,x8,x9,x10,x11,x12⟩:=ou_cells15 HZ.out
  obtain ⟨f0,f1,f2,f3,f4,f5,f6,f7,f8,f9,f10,f11,f12⟩:=ou_free15 HZ.out
  obtain ⟨r0,r1,r2,r3,r4,r5,r6,r7,r8,r9,r10,r11,r12,hcs⟩:=ou_put15 HZ.out rfl 0 0 0 0 none 0 0 0 0 0 0 0 0 0 none 0 0
  have RR:=hd_ (And.intro r0 (And.intro r1 (And.intro r2 (And.intro r3 (And.intro r4 (And.intro r5 (And.intro r6 (And.intro r7 (And.intro r8 (And.intro r9 (And.intro r10 (And.intro r11 r12))))))))))))
  have HF:=hd_ (fresh_set HX.out hcs HQ.out)
  clear r0 r1 r2 r3 r4 r5 r6 r7 r8 r9 r10 r11 r12 hcs
  go_wp2_with fail
  obtain ⟨r0,r1,r2,r3,r4,r5,r6,r7,r8,r9,r10,r11,r12⟩:=RR.out
  exact bodyPost_ret (v := .tuple #[.agg #[int i64 0,int i64 0,int i64 0,int i64 0, .slice none 0 0,int i64 0,int i64 0,int i64 0,int i64 0,int i64 0,int i64 0,int i64 0, .slice none 0 0],int i64 1]) (by simp [results,Tryz.results30,go_sem,r0,r1,r2,r3,r4,r5,r6,r7,r8,r9,r10,r11,r12]) rfl ⟨none,0,0,none,0,0,rfl,BsS15.nil _ _,BsM15.nil _,HF.out⟩
 by_cases h3 : nu < 0
 ·skip
  clear hx
  go_enter Tryz.func30,Tryz.ntmps30
  go_upto_region 1 with fail
  generalize (w.alloc (.cells #[int .u64 d,int .u64 s,int i64 t, .slice A n c] 34)).alloc (.cells #[int i64 0,int i64 0,int i64 0,int i64 0, .slice none 0 0,int i64 0,int i64 0,int i64 0,int i64 0,int i64 0,int i64 0,int i64 0, .slice none 0 0] 44) = w1 at *
  generalize w.heap.size + 1 = Q1 at *
  generalize w.heap.size = Q0 at HB0 ⊢
  have y0:=HB0.out.cell 0
  have y1:=HB0.out.cell 1
  have y2:=HB0.out.cell 2
  have y3:=HB0.out.cell 3
  simp only [List.getElem?_toArray,List.getElem?_cons_zero,List.getElem?_cons_succ] at y0 y1 y2 y3
  go_wp2_with fail
  refine (HEN.out _ HX.out).mono ?_
  rintro e w2 ⟨A',k,c',rfl,hk,hz,hrd,hc⟩
  have HM:=hd_ (show BsM15 w2 A' k c' fb from ⟨hz,hk,hrd.mono (fun _ _=>trivial)⟩)
  replace HZ:=hd_ (HZ.out.chg hc id)
  replace HB0:=hd_ (HB0.out.chg hc id)
  replace HX:=hd_ (HX.out.trans hc (fun _ _ e=>e))
  clear y0 y1 y2 y3 hk hz hrd hc
  obtain ⟨x0,x1,x2,x3,x4,x5,x6,x7,x8,x9,x10,x11,x12⟩:=ou_cells15 HZ.out
  obtain ⟨f0,f1,f2,f3,f4,f5,f6,f7,f8,f9,f10,f11,f12⟩:=ou_free15 HZ.out
  obtain ⟨r0,r1,r2,r3,r4,r5,r6,r7,r8,r9,r10,r11,r12,hcs⟩:=ou_put15 HZ.out rfl 0 0 0 0 none 0 0 0 0 0 0 0 0 0 none 0 0
  have RR:=hd_ (And.intro r0 (And.intro r1 (And.intro r2 (And.intro r3 (And.intro r4 (And.intro r5 (And.intro r6 (And.intro r7 (And.intro r8 (And.intro r9 (And.intro r10 (And.intro r11 r12))))))))))))
  have HF:=hd_ (fresh_set HX.out hcs HQ.out)
  clear r0 r1 r2 r3 r4 r5 r6 r7 r8 r9 r10 r11 r12 hcs
  go_wp2_with fail
  obtain ⟨r0,r1,r2,r3,r4,r5,r6,r7,r8,r9,r10,r11,r12⟩:=RR.out
  exact bodyPost_ret (v := .tuple #[.agg #[int i64 0,int i64 0,int i64 0,int i64 0, .slice none 0 0,int i64 0,int i64 0,int i64 0,int i64 0,int i64 0,int i64 0,int i64 0, .slice none 0 0],int i64 1]) (by simp [results,Tryz.results30,go_sem,r0,r1,r2,r3,r4,r5,r6,r7,r8,r9,r10,r11,r12]) rfl ⟨none,0,0,none,0,0,rfl,BsS15.nil _ _,BsM15.nil _,HF.out⟩
 have h4 : 1099511627776 < nu:=by omega
 clear hx
 go_enter Tryz.func30,Tryz.ntmps30
 go_upto_region 1 with fail
 generalize (w.alloc (.cells #[int .u64 d,int .u64 s,int i64 t, .slice A n c] 34)).alloc (.cells #[int i64 0,int i64 0,int i64 0,int i64 0, .slice none 0 0,int i64 0,int i64 0,int i64 0,int i64 0,int i64 0,int i64 0,int i64 0, .slice none 0 0] 44) = w1 at *
 generalize w.heap.size + 1 = Q1 at *
 generalize w.heap.size = Q0 at HB0 ⊢
 have y0:=HB0.out.cell 0
 have y1:=HB0.out.cell 1
 have y2:=HB0.out.cell 2
 have y3:=HB0.out.cell 3
 simp only [List.getElem?_toArray,List.getElem?_cons_zero,List.getElem?_cons_succ] at y0 y1 y2 y3
 go_wp2_with fail
 refine (HEN.out _ HX.out).mono ?_
 rintro e w2 ⟨A',k,c',rfl,hk,hz,hrd,hc⟩
 have HM:=hd_ (show BsM15 w2 A' k c' fb from ⟨hz,hk,hrd.mono (fun _ _=>trivial)⟩)
 replace HZ:=hd_ (HZ.out.chg hc id)
 replace HB0:=hd_ (HB0.out.chg hc id)
 replace HX:=hd_ (HX.out.trans hc (fun _ _ e=>e))
 clear y0 y1 y2 y3 hk hz hrd hc
 obtain ⟨x0,x1,x2,x3,x4,x5,x6,x7,x8,x9,x10,x11,x12⟩:=ou_cells15 HZ.out
 obtain ⟨f0,f1,f2,f3,f4,f5,f6,f7,f8,f9,f10,f11,f12⟩:=ou_free15 HZ.out
 obtain ⟨r0,r1,r2,r3,r4,r5,r6,r7,r8,r9,r10,r11,r12,hcs⟩:=ou_put15 HZ.out rfl 0 0 0 0 none 0 0 0 0 0 0 0 0 0 none 0 0
 have RR:=hd_ (And.intro r0 (And.intro r1 (And.intro r2 (And.intro r3 (And.intro r4 (And.intro r5 (And.intro r6 (And.intro r7 (And.intro r8 (And.intro r9 (And.intro r10 (And.intro r11 r12))))))))))))
 have HF:=hd_ (fresh_set HX.out hcs HQ.out)
 clear r0 r1 r2 r3 r4 r5 r6 r7 r8 r9 r10 r11 r12 hcs
 go_wp2_with fail
 obtain ⟨r0,r1,r2,r3,r4,r5,r6,r7,r8,r9,r10,r11,r12⟩:=RR.out
 exact bodyPost_ret (v := .tuple #[.agg #[int i64 0,int i64 0,int i64 0,int i64 0, .slice none 0 0,int i64 0,int i64 0,int i64 0,int i64 0,int i64 0,int i64 0,int i64 0, .slice none 0 0],int i64 1]) (by simp [results,Tryz.results30,go_sem,r0,r1,r2,r3,r4,r5,r6,r7,r8,r9,r10,r11,r12]) rfl ⟨none,0,0,none,0,0,rfl,BsS15.nil _ _,BsM15.nil _,HF.out⟩
theorem guest15_ok {S15 : Nat → Prop} (tp : Value) (oe : Option En) (ak ap ao ag : Int) (hac : acO13 oe = acC ak ap ao ag) (d s t ch nu : Int) (A : Option Addr) (n c : Nat) (w : World) (hd : 0 ≤ d) (hs : 0 ≤ s) (hn : n ≤ 9223372036854775807) (l : List UInt8) (h : BsM15 w A n c l) (hS15 : ∀ k,w.heap.size ≤ k → S15 k) (hl : ∀ W,Chg (fun _=>False) w W → Calls Tryz.prog 98 #[tp, .agg (kyC 0 d 0 0 (-1))] W (LkP13 oe W)) (hr : rightB d s t n = true) (h0 : 0 ≤ ch) (h1 : ch ≤ 15) (h2 : 0 ≤ nu) (h3 : nu ≤ 1099511627776) : Calls Tryz.prog 30 #[tp,int i64 ch, .agg #[int .u64 d,int .u64 s,int i64 t, .slice A n c],int i64 nu] w (HE15 S15 (gu15 ch (frameB d s t l) nu ak ap ao ag) 0 w):=by
 have hlen : (frameB d s t l).length ≤ 9223372036854775807:=by
  have hn2 : n ≤ 1500:=by
   unfold rightB at hr
   simp only [Bool.and_eq_true,decide_eq_true_eq] at hr
   exact hr.2
  have h4:=h.2.1
  unfold frameB
  simp only [List.length_append,be_len]
  omega
 have HEN:=hd_ (fun (W : World) (hW : Chg (fun _=>False) w W)=>encode_ok d s t A n c l (fun _=>True) W h.2.1 (h.2.2.chg hW (fun _ _=>id)) hd hs hr)
 generalize hfb : frameB d s t l = fb at *
 have HFB:=hd_ hfb
 have HS15:=hd_ hS15
 clear h hr hfb hS15
 have hbe:=fun (W : World) (qc qi qb : Nat) (A' : Option Addr) (k c' : Nat) (hW : Chg (fun _=>False) w W) (g1 : Blk W qc 3 #[int i64 ch]) (g2 : Blk W qi 3 #[int i64 nu]) (g3 : Blk W qb 31 #[.slice A' k c']) (g4 : BsS15 S15 W A' k c' fb)=>becg15_any (S15:=S15) tp 0 d 0 0 (-1) oe ak ap ao ag hac ch nu qc qi qb A' k c' fb W (fun W2 h2=>hl W2 (hW.trans h2 (fun _ _ e=>e))) (by have:=g4.1.2.1; omega) g1 g2 g3 g4
 generalize gu15 ch fb nu ak ap ao ag = v at *
 have HBE:=hd_ (fun (W : World) (qc qi qb : Nat) (hW : Chg (fun _=>False) w W) => @hbe W qc qi qb)
 clear hl hac hlen
 have HBEX:=hd_ hbe
 clear HBE hbe
 have HB0 : Hid (Blk ((w.alloc (.cells #[int .u64 d,int .u64 s,int i64 t, .slice A n c] 34)).alloc (.cells #[int i64 0,int i64 0,int i64 0,int i64 0, .slice none 0 0,int i64 0,int i64 0,int i64 0,int i64 0,int i64 0,int i64 0,int i64 0, .slice none 0 0] 44)) (w.heap.size) 34 (#[int .u64 d,int .u64 s,int i64 t, .slice A n c])):=hd_ (Blk.alloc (blk_new rfl) _)
 have HZ : Hid (Blk ((w.alloc (.cells #[int .u64 d,int .u64 s,int i64 t, .slice A n c] 34)).alloc (.cells #[int i64 0,int i64 0,int i64 0,int i64 0, .slice none 0 0,int i64 0,int i64 0,int i64 0,int i64 0,int i64 0,int i64 0,int i64 0, .slice none 0 0] 44)) (w.heap.size + 1) 44 (ouC15 0 0 0 0 none 0 0 0 0 0 0 0 0 0 none 0 0)):=hd_ (blk_new (by simp))
 have HX:=hd_ (((Chg.refl (fun _=>False) w).alloc (.cells #[int .u64 d,int .u64 s,int i64 t, .slice A n c] 34)).alloc (.cells #[int i64 0,int i64 0,int i64 0,int i64 0, .slice none 0 0,int i64 0,int i64 0,int i64 0,int i64 0,int i64 0,int i64 0,int i64 0, .slice none 0 0] 44))
 have HQ : Hid (w.heap.size ≤ w.heap.size + 1):=hd_ (by omega)
 have HN0 : Hid (¬ w.heap.size = w.heap.size + 1):=hd_ (by omega)
 go_enter Tryz.func30,Tryz.ntmps30
 go_upto_region 1 with fail
 generalize (w.alloc (.cells #[int .u64 d,int .u64 s,int i64 t, .slice A n c] 34)).alloc (.cells #[int i64 0,int i64 0,int i64 0,int i64 0, .slice none 0 0,int i64 0,int i64 0,int i64 0,int i64 0,int i64 0,int i64 0,int i64 0, .slice none 0 0] 44) = w1 at *
 generalize w.heap.size + 1 = Q1 at *
 generalize w.heap.size = Q0 at HB0 HN0 ⊢
 have y0:=HB0.out.cell 0
 have y1:=HB0.out.cell 1
 have y2:=HB0.out.cell 2
 have y3:=HB0.out.cell 3
 simp only [List.getElem?_toArray,List.getElem?_cons_zero,List.getElem?_cons_succ] at y0 y1 y2 y3
 go_wp2_with fail
 refine (HEN.out _ HX.out).mono ?_
 rintro e w2 ⟨A',k,c',rfl,hk,hz,hrd,hc⟩
 have HM:=hd_ (show BsS15 S15 w2 A' k c' fb from ⟨⟨hz,hk,hrd.mono (fun _ _=>trivial)⟩,hrd.mono (fun j hj=>HS15.out j (Nat.le_trans HX.out.size hj.1))⟩)
 replace HZ:=hd_ (HZ.out.chg hc id)
 replace HB0:=hd_ (HB0.out.chg hc id)
 replace HX:=hd_ (HX.out.trans hc (fun _ _ e=>e))
 clear y0 y1 y2 y3 hk hz hrd hc
 have HBE:=hd_ (fun (W : World) (qc qi qb : Nat) (hW : Chg (fun _=>False) w W) (g1 : Blk W qc 3 #[int i64 ch]) (g2 : Blk W qi 3 #[int i64 nu]) (g3 : Blk W qb 31 #[.slice A' k c']) (g4 : BsS15 S15 W A' k c' fb)=>HBEX.out W qc qi qb A' k c' hW g1 g2 g3 g4)
 go_wp2_with fail
 have HKEEP : Hid (∀ W : World,Chg (fun k=>k = Q1) w2 W → (W.cell? ⟨Q0,0,none⟩ = some (int .u64 d))):=hd_ (fun W hw=>by
  have y0:=Blk.cell (HB0.out.chg hw HN0.out) 0
  simp only [List.getElem?_toArray,List.getElem?_cons_zero,List.getElem?_cons_succ] at y0
  exact y0
 )
 have HYA:=hd_ (Chg.refl (fun k=>k = Q1) w2).drew
 replace HX:=hd_ HX.out.drew
 replace HZ:=hd_ HZ.out.drew
 replace HM:=hd_ (show BsS15 S15 w2.drew A' k c' fb from HM.out.chg (Chg.refl (fun _=>False) w2).drew)
 have y0:=HKEEP.out _ HYA.out
 go_region_held3 (fun w'=>w'.cell? ⟨Q0,0,none⟩ = some (int .u64 d))
  (first | with_reducible exact HKEEP.out _ HYA.out | with_reducible exact HKEEP.out _ HYB.out | with_reducible exact HKEEP.out _ HYC.out | with_reducible exact HKEEP.out _ HYD.out | fail)
  (first
   | (go_at_call 64; (with_reducible refine (ofg15_any ch nu A' k c' _).mono ?_); rintro e w3 ⟨qc,qi,qb,rfl,hqc,hqi,hqb,hc⟩; have HYB:=hd_ (HYA.out.trans (hc.mono (S':=fun k=>k = Q1) (fun _ _ h=>h.elim)) (fun _ _ e=>e)); replace HZ:=hd_ (HZ.out.chg hc id); replace HM:=hd_ (HM.out.chg hc); replace HX:=hd_ (HX.out.trans hc (fun _ _ e=>e)); clear hc; have HB4:=hd_ hqc; have HB5:=hd_ hqi; have HB6:=hd_ hqb; clear hqc hqi hqb)
   | (go_at_call 63; (with_reducible refine (HBE.out _ _ _ _ HX.out HB4.out HB5.out HB6.out HM.out).mono ?_); rintro e w4 ⟨A2,n2,c2,A3,n3,c3,rfl,hm2,hm3,hc⟩; have HYC:=hd_ (HYB.out.trans (hc.mono (S':=fun k=>k = Q1) (fun _ _ h=>h.elim)) (fun _ _ e=>e)); replace HZ:=hd_ (HZ.out.chg hc id); replace HX:=hd_ (HX.out.trans hc (fun _ _ e=>e)); clear hc; unfold ouC15; have HM2:=hd_ hm2; have HM3:=hd_ hm3; clear hm2 hm3; obtain ⟨x0,x1,x2,x3,x4,x5,x6,x7,x8,x9,x10,x11,x12⟩:=ou_cells15 HZ.out; obtain ⟨f0,f1,f2,f3,f4,f5,f6,f7,f8,f9,f10,f11,f12⟩:=ou_free15 HZ.out; obtain ⟨r0,r1,r2,r3,r4,r5,r6,r7,r8,r9,r10,r11,r12,hcs⟩:=ou_put15 HZ.out rfl v.kd v.po v.ge v.st A2 n2 c2 v.k v.o v.f v.t v.p v.g v.i A3 n3 c3; have RR:=hd_ (And.intro r0 (And.intro r1 (And.intro r2 (And.intro r3 (And.intro r4 (And.intro r5 (And.intro r6 (And.intro r7 (And.intro r8 (And.intro r9 (And.intro r10 (And.intro r11 r12)))))))))))); have HF:=hd_ (fresh_set HX.out hcs HQ.out); replace HM2:=hd_ (HM2.out.put HZ.out noU8_ou hcs); replace HM3:=hd_ (HM3.out.put HZ.out noU8_ou hcs); have HYD:=hd_ (HYC.out.trans hcs (fun _ _ e=>e)); clear r0 r1 r2 r3 r4 r5 r6 r7 r8 r9 r10 r11 r12 hcs)
   | fail)
 all_goals
  go_wp2_with fail
  obtain ⟨r0,r1,r2,r3,r4,r5,r6,r7,r8,r9,r10,r11,r12⟩:=RR.out
  exact bodyPost_ret (v := .tuple #[.agg #[int i64 v.kd,int i64 v.po,int i64 v.ge,int i64 v.st, .slice A2 n2 c2,int i64 v.k,int i64 v.o,int i64 v.f,int i64 v.t,int i64 v.p,int i64 v.g,int i64 v.i, .slice A3 n3 c3],int i64 0]) (by simp [results,Tryz.results30,go_sem,r0,r1,r2,r3,r4,r5,r6,r7,r8,r9,r10,r11,r12]) rfl ⟨A2,n2,c2,A3,n3,c3,rfl,HM2.out,HM3.out,HF.out⟩
theorem tunnel15_bad {S15 : Nat → Prop} (tp : Value) (k o f t p g i ch : Int) (A : Option Addr) (n c : Nat) (w : World) (hn : n ≤ 9223372036854775807) (hr : pkR k o f t p g i n = false) : Calls Tryz.prog 34 #[tp,int i64 ch, .agg #[int i64 k,int i64 o,int i64 f,int i64 t,int i64 p,int i64 g,int i64 i, .slice A n c]] w (HE15 S15 zOV 1 w):=by
 have hrt:=fun W=>tright_any k o f t p g i A n c W hn
 unfold pkC at hrt
 rw [hr] at hrt
 have HRT:=hd_ hrt
 clear hrt
 clear hr
 have HB0 : Hid (Blk ((w.alloc (.cells #[int i64 k,int i64 o,int i64 f,int i64 t,int i64 p,int i64 g,int i64 i, .slice A n c] 37)).alloc (.cells #[int i64 0,int i64 0,int i64 0,int i64 0, .slice none 0 0,int i64 0,int i64 0,int i64 0,int i64 0,int i64 0,int i64 0,int i64 0, .slice none 0 0] 44)) (w.heap.size) 37 (pkC k o f t p g i A n c)):=hd_ (Blk.alloc (blk_new rfl) _)
 have HZ : Hid (Blk ((w.alloc (.cells #[int i64 k,int i64 o,int i64 f,int i64 t,int i64 p,int i64 g,int i64 i, .slice A n c] 37)).alloc (.cells #[int i64 0,int i64 0,int i64 0,int i64 0, .slice none 0 0,int i64 0,int i64 0,int i64 0,int i64 0,int i64 0,int i64 0,int i64 0, .slice none 0 0] 44)) (w.heap.size + 1) 44 (ouC15 0 0 0 0 none 0 0 0 0 0 0 0 0 0 none 0 0)):=hd_ (blk_new (by simp))
 have HX:=hd_ (((Chg.refl (fun _=>False) w).alloc (.cells #[int i64 k,int i64 o,int i64 f,int i64 t,int i64 p,int i64 g,int i64 i, .slice A n c] 37)).alloc (.cells #[int i64 0,int i64 0,int i64 0,int i64 0, .slice none 0 0,int i64 0,int i64 0,int i64 0,int i64 0,int i64 0,int i64 0,int i64 0, .slice none 0 0] 44))
 have HQ : Hid (w.heap.size ≤ w.heap.size + 1):=hd_ (by omega)
 go_enter Tryz.func34,Tryz.ntmps34
 go_upto_region 1 with fail
 generalize (w.alloc (.cells #[int i64 k,int i64 o,int i64 f,int i64 t,int i64 p,int i64 g,int i64 i, .slice A n c] 37)).alloc (.cells #[int i64 0,int i64 0,int i64 0,int i64 0, .slice none 0 0,int i64 0,int i64 0,int i64 0,int i64 0,int i64 0,int i64 0,int i64 0, .slice none 0 0] 44) = w1 at *
 generalize w.heap.size + 1 = Q1 at *
 generalize w.heap.size = Q0 at HB0 ⊢
 obtain ⟨y0,y1,y2,y3,y4,y5,y6,y7⟩:=pk_cells HB0.out
 go_wp2_with fail
 refine (HRT.out _).mono ?_
 rintro e w2 ⟨rfl,hc⟩
 replace HZ:=hd_ (HZ.out.chg hc id)
 replace HB0:=hd_ (HB0.out.chg hc id)
 replace HX:=hd_ (HX.out.trans hc (fun _ _ e=>e))
 clear hc
 clear y0 y1 y2 y3 y4 y5 y6 y7
 obtain ⟨y0,y1,y2,y3,y4,y5,y6,y7⟩:=pk_cells HB0.out
 obtain ⟨x0,x1,x2,x3,x4,x5,x6,x7,x8,x9,x10,x11,x12⟩:=ou_cells15 HZ.out
 obtain ⟨f0,f1,f2,f3,f4,f5,f6,f7,f8,f9,f10,f11,f12⟩:=ou_free15 HZ.out
 obtain ⟨r0,r1,r2,r3,r4,r5,r6,r7,r8,r9,r10,r11,r12,hcs⟩:=ou_put15 HZ.out rfl 0 0 0 0 none 0 0 0 0 0 0 0 0 0 none 0 0
 have RR:=hd_ (And.intro r0 (And.intro r1 (And.intro r2 (And.intro r3 (And.intro r4 (And.intro r5 (And.intro r6 (And.intro r7 (And.intro r8 (And.intro r9 (And.intro r10 (And.intro r11 r12))))))))))))
 have HF:=hd_ (fresh_set HX.out hcs HQ.out)
 clear r0 r1 r2 r3 r4 r5 r6 r7 r8 r9 r10 r11 r12 hcs
 go_wp2_with fail
 obtain ⟨r0,r1,r2,r3,r4,r5,r6,r7,r8,r9,r10,r11,r12⟩:=RR.out
 exact bodyPost_ret (v := .tuple #[.agg #[int i64 0,int i64 0,int i64 0,int i64 0, .slice none 0 0,int i64 0,int i64 0,int i64 0,int i64 0,int i64 0,int i64 0,int i64 0, .slice none 0 0],int i64 1]) (by simp [results,Tryz.results34,go_sem,r0,r1,r2,r3,r4,r5,r6,r7,r8,r9,r10,r11,r12]) rfl ⟨none,0,0,none,0,0,rfl,BsS15.nil _ _,BsM15.nil _,HF.out⟩
theorem tunnel15_to {S15 : Nat → Prop} (tp : Value) (k o f t p g i ch : Int) (A : Option Addr) (n c : Nat) (w : World) (hn : n ≤ 9223372036854775807) (hr : pkR k o f t p g i n = true) (ht : ¬ t = ch) : Calls Tryz.prog 34 #[tp,int i64 ch, .agg #[int i64 k,int i64 o,int i64 f,int i64 t,int i64 p,int i64 g,int i64 i, .slice A n c]] w (HE15 S15 zOV 1 w):=by
 have hrt:=fun W=>tright_any k o f t p g i A n c W hn
 unfold pkC at hrt
 rw [hr] at hrt
 have HRT:=hd_ hrt
 clear hrt
 have s1 : (t != ch) = true:=by simpa using ht
 have s2 : (t == ch) = false:=by simpa using ht
 clear hr ht
 have HB0 : Hid (Blk ((w.alloc (.cells #[int i64 k,int i64 o,int i64 f,int i64 t,int i64 p,int i64 g,int i64 i, .slice A n c] 37)).alloc (.cells #[int i64 0,int i64 0,int i64 0,int i64 0, .slice none 0 0,int i64 0,int i64 0,int i64 0,int i64 0,int i64 0,int i64 0,int i64 0, .slice none 0 0] 44)) (w.heap.size) 37 (pkC k o f t p g i A n c)):=hd_ (Blk.alloc (blk_new rfl) _)
 have HZ : Hid (Blk ((w.alloc (.cells #[int i64 k,int i64 o,int i64 f,int i64 t,int i64 p,int i64 g,int i64 i, .slice A n c] 37)).alloc (.cells #[int i64 0,int i64 0,int i64 0,int i64 0, .slice none 0 0,int i64 0,int i64 0,int i64 0,int i64 0,int i64 0,int i64 0,int i64 0, .slice none 0 0] 44)) (w.heap.size + 1) 44 (ouC15 0 0 0 0 none 0 0 0 0 0 0 0 0 0 none 0 0)):=hd_ (blk_new (by simp))
 have HX:=hd_ (((Chg.refl (fun _=>False) w).alloc (.cells #[int i64 k,int i64 o,int i64 f,int i64 t,int i64 p,int i64 g,int i64 i, .slice A n c] 37)).alloc (.cells #[int i64 0,int i64 0,int i64 0,int i64 0, .slice none 0 0,int i64 0,int i64 0,int i64 0,int i64 0,int i64 0,int i64 0,int i64 0, .slice none 0 0] 44))
 have HQ : Hid (w.heap.size ≤ w.heap.size + 1):=hd_ (by omega)
 go_enter Tryz.func34,Tryz.ntmps34
 go_upto_region 1 with fail
 generalize (w.alloc (.cells #[int i64 k,int i64 o,int i64 f,int i64 t,int i64 p,int i64 g,int i64 i, .slice A n c] 37)).alloc (.cells #[int i64 0,int i64 0,int i64 0,int i64 0, .slice none 0 0,int i64 0,int i64 0,int i64 0,int i64 0,int i64 0,int i64 0,int i64 0, .slice none 0 0] 44) = w1 at *
 generalize w.heap.size + 1 = Q1 at *
 generalize w.heap.size = Q0 at HB0 ⊢
 obtain ⟨y0,y1,y2,y3,y4,y5,y6,y7⟩:=pk_cells HB0.out
 go_wp2_with fail
 refine (HRT.out _).mono ?_
 rintro e w2 ⟨rfl,hc⟩
 replace HZ:=hd_ (HZ.out.chg hc id)
 replace HB0:=hd_ (HB0.out.chg hc id)
 replace HX:=hd_ (HX.out.trans hc (fun _ _ e=>e))
 clear hc
 clear y0 y1 y2 y3 y4 y5 y6 y7
 obtain ⟨y0,y1,y2,y3,y4,y5,y6,y7⟩:=pk_cells HB0.out
 obtain ⟨x0,x1,x2,x3,x4,x5,x6,x7,x8,x9,x10,x11,x12⟩:=ou_cells15 HZ.out
 obtain ⟨f0,f1,f2,f3,f4,f5,f6,f7,f8,f9,f10,f11,f12⟩:=ou_free15 HZ.out
 obtain ⟨r0,r1,r2,r3,r4,r5,r6,r7,r8,r9,r10,r11,r12,hcs⟩:=ou_put15 HZ.out rfl 0 0 0 0 none 0 0 0 0 0 0 0 0 0 none 0 0
 have RR:=hd_ (And.intro r0 (And.intro r1 (And.intro r2 (And.intro r3 (And.intro r4 (And.intro r5 (And.intro r6 (And.intro r7 (And.intro r8 (And.intro r9 (And.intro r10 (And.intro r11 r12))))))))))))
 have HF:=hd_ (fresh_set HX.out hcs HQ.out)
 clear r0 r1 r2 r3 r4 r5 r6 r7 r8 r9 r10 r11 r12 hcs
 go_wp2_with fail
 obtain ⟨r0,r1,r2,r3,r4,r5,r6,r7,r8,r9,r10,r11,r12⟩:=RR.out
 exact bodyPost_ret (v := .tuple #[.agg #[int i64 0,int i64 0,int i64 0,int i64 0, .slice none 0 0,int i64 0,int i64 0,int i64 0,int i64 0,int i64 0,int i64 0,int i64 0, .slice none 0 0],int i64 1]) (by simp [results,Tryz.results34,go_sem,r0,r1,r2,r3,r4,r5,r6,r7,r8,r9,r10,r11,r12]) rfl ⟨none,0,0,none,0,0,rfl,BsS15.nil _ _,BsM15.nil _,HF.out⟩
theorem tunnel15_ok {S15 : Nat → Prop} (tp : Value) (oe : Option En) (ak ap ao ag : Int) (hac : acO13 oe = acC ak ap ao ag) (k o f t p g i : Int) (A : Option Addr) (n c : Nat) (w : World) (b : List UInt8) (h : BsM15 w A n c b) (hS15 : ∀ k,w.heap.size ≤ k → S15 k) (hl : ∀ W,Chg (fun _=>False) w W → Calls Tryz.prog 98 #[tp, .agg (kyC k 0 p g o)] W (LkP13 oe W)) (hr : pkR k o f t p g i n = true) : Calls Tryz.prog 34 #[tp,int i64 t, .agg #[int i64 k,int i64 o,int i64 f,int i64 t,int i64 p,int i64 g,int i64 i, .slice A n c]] w (HE15 S15 (tu15 k o f t p g i b ak ap ao ag) 0 w):=by
 have hn : n ≤ 9223372036854775807:=by have:=(pkR_parts hr).2.2.2.2.2.2.2.1.2; omega
 have hrt:=fun W=>tright_any k o f t p g i A n c W hn
 unfold pkC at hrt
 rw [hr] at hrt
 have HRT:=hd_ hrt
 clear hrt
 have hbe:=fun (W : World) (qp : Nat) (hW : Chg (fun _=>False) w W) (g1 : Blk W qp 37 (pkC k o f t p g i A n c)) (g4 : BsM15 W A n c b)=>becp15_any (S15:=S15) tp k 0 p g o oe ak ap ao ag hac qp k o f t p g i A n c b W (fun W2 h2=>hl W2 (hW.trans h2 (fun _ _ e=>e))) hr g1 g4 (fun k hk=>hS15 k (Nat.le_trans hW.size hk))
 generalize tu15 k o f t p g i b ak ap ao ag = v at *
 have HBE:=hd_ hbe
 have HM0:=hd_ h
 clear hl hac hr h hbe hS15
 have HB0 : Hid (Blk ((w.alloc (.cells #[int i64 k,int i64 o,int i64 f,int i64 t,int i64 p,int i64 g,int i64 i, .slice A n c] 37)).alloc (.cells #[int i64 0,int i64 0,int i64 0,int i64 0, .slice none 0 0,int i64 0,int i64 0,int i64 0,int i64 0,int i64 0,int i64 0,int i64 0, .slice none 0 0] 44)) (w.heap.size) 37 (pkC k o f t p g i A n c)):=hd_ (Blk.alloc (blk_new rfl) _)
 have HZ : Hid (Blk ((w.alloc (.cells #[int i64 k,int i64 o,int i64 f,int i64 t,int i64 p,int i64 g,int i64 i, .slice A n c] 37)).alloc (.cells #[int i64 0,int i64 0,int i64 0,int i64 0, .slice none 0 0,int i64 0,int i64 0,int i64 0,int i64 0,int i64 0,int i64 0,int i64 0, .slice none 0 0] 44)) (w.heap.size + 1) 44 (ouC15 0 0 0 0 none 0 0 0 0 0 0 0 0 0 none 0 0)):=hd_ (blk_new (by simp))
 have HX:=hd_ (((Chg.refl (fun _=>False) w).alloc (.cells #[int i64 k,int i64 o,int i64 f,int i64 t,int i64 p,int i64 g,int i64 i, .slice A n c] 37)).alloc (.cells #[int i64 0,int i64 0,int i64 0,int i64 0, .slice none 0 0,int i64 0,int i64 0,int i64 0,int i64 0,int i64 0,int i64 0,int i64 0, .slice none 0 0] 44))
 have HQ : Hid (w.heap.size ≤ w.heap.size + 1):=hd_ (by omega)
 have HN0 : Hid (¬ w.heap.size = w.heap.size + 1):=hd_ (by omega)
 go_enter Tryz.func34,Tryz.ntmps34
 go_upto_region 1 with fail
 generalize (w.alloc (.cells #[int i64 k,int i64 o,int i64 f,int i64 t,int i64 p,int i64 g,int i64 i, .slice A n c] 37)).alloc (.cells #[int i64 0,int i64 0,int i64 0,int i64 0, .slice none 0 0,int i64 0,int i64 0,int i64 0,int i64 0,int i64 0,int i64 0,int i64 0, .slice none 0 0] 44) = w1 at *
 generalize w.heap.size + 1 = Q1 at *
 generalize w.heap.size = Q0 at HB0 HN0 ⊢
 obtain ⟨y0,y1,y2,y3,y4,y5,y6,y7⟩:=pk_cells HB0.out
 go_wp2_with fail
 refine (HRT.out _).mono ?_
 rintro e w2 ⟨rfl,hc⟩
 replace HZ:=hd_ (HZ.out.chg hc id)
 replace HB0:=hd_ (HB0.out.chg hc id)
 replace HX:=hd_ (HX.out.trans hc (fun _ _ e=>e))
 clear hc
 clear y0 y1 y2 y3 y4 y5 y6 y7
 obtain ⟨y0,y1,y2,y3,y4,y5,y6,y7⟩:=pk_cells HB0.out
 have hca:=(Chg.refl (fun _=>False) w2).alloc (.cells #[int i64 k,int .u64 0,int i64 p,int i64 g,int i64 o] 146)
 have HB2 : Hid (Blk (w2.alloc (.cells #[int i64 k,int .u64 0,int i64 p,int i64 g,int i64 o] 146)) w2.heap.size 146 (kyC k 0 p g o)):=hd_ (blk_new rfl)
 have HN2:=hd_ (show ¬ w2.heap.size = Q1 from by have:=HZ.out.lt; omega)
 replace HZ:=hd_ (HZ.out.chg hca id)
 replace HB0:=hd_ (HB0.out.chg hca id)
 replace HX:=hd_ (HX.out.trans hca (fun _ _ e=>e))
 have HM:=hd_ (HM0.out.chg HX.out)
 clear hca
 go_wp2_with fail
 clear y0 y1 y2 y3 y4 y5 y6 y7
 generalize w2.alloc (.cells #[int i64 k,int .u64 0,int i64 p,int i64 g,int i64 o] 146) = v2 at *
 generalize w2.heap.size = Q2 at *
 have HKEEP : Hid (∀ W : World,Chg (fun k=>k = Q1) v2 W → (W.cell? ⟨Q2,0,none⟩ = some (int i64 k) ∧ W.cell? ⟨Q2,1,none⟩ = some (int .u64 0) ∧ W.cell? ⟨Q2,2,none⟩ = some (int i64 p) ∧ W.cell? ⟨Q2,3,none⟩ = some (int i64 g) ∧ W.cell? ⟨Q2,4,none⟩ = some (int i64 o) ∧ W.cell? ⟨Q0,0,none⟩ = some (int i64 k) ∧ W.cell? ⟨Q0,1,none⟩ = some (int i64 o) ∧ W.cell? ⟨Q0,2,none⟩ = some (int i64 f) ∧ W.cell? ⟨Q0,3,none⟩ = some (int i64 t) ∧ W.cell? ⟨Q0,4,none⟩ = some (int i64 p) ∧ W.cell? ⟨Q0,5,none⟩ = some (int i64 g) ∧ W.cell? ⟨Q0,6,none⟩ = some (int i64 i) ∧ W.cell? ⟨Q0,7,none⟩ = some (.slice A n c))):=hd_ (fun W hw=>by
  obtain ⟨u0,u1,u2,u3,u4⟩:=ky_cells13 (HB2.out.chg hw HN2.out)
  obtain ⟨y0,y1,y2,y3,y4,y5,y6,y7⟩:=pk_cells (HB0.out.chg hw HN0.out)
  exact ⟨u0,u1,u2,u3,u4,y0,y1,y2,y3,y4,y5,y6,y7⟩
 )
 have HYA:=hd_ (Chg.refl (fun k=>k = Q1) v2).drew
 replace HX:=hd_ HX.out.drew
 replace HZ:=hd_ HZ.out.drew
 replace HM:=hd_ (show BsM15 v2.drew A n c b from HM.out)
 obtain ⟨u0,u1,u2,u3,u4,y0,y1,y2,y3,y4,y5,y6,y7⟩:=HKEEP.out _ HYA.out
 go_region_held3 (fun w'=>w'.cell? ⟨Q2,0,none⟩ = some (int i64 k) ∧ w'.cell? ⟨Q2,1,none⟩ = some (int .u64 0) ∧ w'.cell? ⟨Q2,2,none⟩ = some (int i64 p) ∧ w'.cell? ⟨Q2,3,none⟩ = some (int i64 g) ∧ w'.cell? ⟨Q2,4,none⟩ = some (int i64 o) ∧ w'.cell? ⟨Q0,0,none⟩ = some (int i64 k) ∧ w'.cell? ⟨Q0,1,none⟩ = some (int i64 o) ∧ w'.cell? ⟨Q0,2,none⟩ = some (int i64 f) ∧ w'.cell? ⟨Q0,3,none⟩ = some (int i64 t) ∧ w'.cell? ⟨Q0,4,none⟩ = some (int i64 p) ∧ w'.cell? ⟨Q0,5,none⟩ = some (int i64 g) ∧ w'.cell? ⟨Q0,6,none⟩ = some (int i64 i) ∧ w'.cell? ⟨Q0,7,none⟩ = some (.slice A n c))
  (first | with_reducible exact HKEEP.out _ HYA.out | with_reducible exact HKEEP.out _ HYB.out | with_reducible exact HKEEP.out _ HYC.out | with_reducible exact HKEEP.out _ HYD.out | fail)
  (first
   | (go_at_call 70; (with_reducible refine (ofp15_any k o f t p g i A n c _).mono ?_); rintro e w3 ⟨qp,rfl,hqp,hc⟩; have HYB:=hd_ (HYA.out.trans (hc.mono (S':=fun k=>k = Q1) (fun _ _ h=>h.elim)) (fun _ _ e=>e)); replace HZ:=hd_ (HZ.out.chg hc id); replace HM:=hd_ (HM.out.chg hc); replace HX:=hd_ (HX.out.trans hc (fun _ _ e=>e)); clear hc; have HB4:=hd_ hqp; clear hqp)
   | (go_at_call 63; (with_reducible refine (HBE.out _ _ HX.out HB4.out HM.out).mono ?_); rintro e w4 ⟨A2,n2,c2,A3,n3,c3,rfl,hm2,hm3,hc⟩; have HYC:=hd_ (HYB.out.trans (hc.mono (S':=fun k=>k = Q1) (fun _ _ h=>h.elim)) (fun _ _ e=>e)); replace HZ:=hd_ (HZ.out.chg hc id); replace HX:=hd_ (HX.out.trans hc (fun _ _ e=>e)); clear hc; unfold ouC15; have HM2:=hd_ hm2; have HM3:=hd_ hm3; clear hm2 hm3; obtain ⟨x0,x1,x2,x3,x4,x5,x6,x7,x8,x9,x10,x11,x12⟩:=ou_cells15 HZ.out; obtain ⟨f0,f1,f2,f3,f4,f5,f6,f7,f8,f9,f10,f11,f12⟩:=ou_free15 HZ.out; obtain ⟨r0,r1,r2,r3,r4,r5,r6,r7,r8,r9,r10,r11,r12,hcs⟩:=ou_put15 HZ.out rfl v.kd v.po v.ge v.st A2 n2 c2 v.k v.o v.f v.t v.p v.g v.i A3 n3 c3; have RR:=hd_ (And.intro r0 (And.intro r1 (And.intro r2 (And.intro r3 (And.intro r4 (And.intro r5 (And.intro r6 (And.intro r7 (And.intro r8 (And.intro r9 (And.intro r10 (And.intro r11 r12)))))))))))); have HF:=hd_ (fresh_set HX.out hcs HQ.out); replace HM2:=hd_ (HM2.out.put HZ.out noU8_ou hcs); replace HM3:=hd_ (HM3.out.put HZ.out noU8_ou hcs); have HYD:=hd_ (HYC.out.trans hcs (fun _ _ e=>e)); clear r0 r1 r2 r3 r4 r5 r6 r7 r8 r9 r10 r11 r12 hcs)
   | fail)
 all_goals
  go_wp2_with fail
  obtain ⟨r0,r1,r2,r3,r4,r5,r6,r7,r8,r9,r10,r11,r12⟩:=RR.out
  exact bodyPost_ret (v := .tuple #[.agg #[int i64 v.kd,int i64 v.po,int i64 v.ge,int i64 v.st, .slice A2 n2 c2,int i64 v.k,int i64 v.o,int i64 v.f,int i64 v.t,int i64 v.p,int i64 v.g,int i64 v.i, .slice A3 n3 c3],int i64 0]) (by simp [results,Tryz.results34,go_sem,r0,r1,r2,r3,r4,r5,r6,r7,r8,r9,r10,r11,r12]) rfl ⟨A2,n2,c2,A3,n3,c3,rfl,HM2.out,HM3.out,HF.out⟩
theorem lof15_any (kd po ge sp : Int) (k o f t p g i : Int) (A A2 : Option Addr) (n c n2 c2 : Nat) (b : List UInt8) (w : World) (h : BsM15 w A n c b) : Calls Tryz.prog 10 #[.agg #[int i64 kd,int i64 po,int i64 ge,int i64 sp, .slice A n c,int i64 k,int i64 o,int i64 f,int i64 t,int i64 p,int i64 g,int i64 i, .slice A2 n2 c2]] w fun e w2=>e = .returned (.agg #[int i64 kd,int i64 po,int i64 ge,int i64 sp, .string ⟨b.toArray⟩,int i64 k,int i64 o,int i64 f,int i64 t,int i64 p,int i64 g,int i64 i, .slice A2 n2 c2]) ∧ Chg (fun _=>False) w w2:=by
 have HB0 : Hid (Blk ((w.alloc (.cells #[int i64 kd,int i64 po,int i64 ge,int i64 sp, .slice A n c,int i64 k,int i64 o,int i64 f,int i64 t,int i64 p,int i64 g,int i64 i, .slice A2 n2 c2] 44)).alloc (.cells #[int i64 0,int i64 0,int i64 0,int i64 0, .string ⟨#[]⟩,int i64 0,int i64 0,int i64 0,int i64 0,int i64 0,int i64 0,int i64 0, .slice none 0 0] 41)) (w.heap.size) 44 (ouC15 kd po ge sp A n c k o f t p g i A2 n2 c2)):=hd_ (Blk.alloc (blk_new rfl) _)
 have HZ : Hid (Blk ((w.alloc (.cells #[int i64 kd,int i64 po,int i64 ge,int i64 sp, .slice A n c,int i64 k,int i64 o,int i64 f,int i64 t,int i64 p,int i64 g,int i64 i, .slice A2 n2 c2] 44)).alloc (.cells #[int i64 0,int i64 0,int i64 0,int i64 0, .string ⟨#[]⟩,int i64 0,int i64 0,int i64 0,int i64 0,int i64 0,int i64 0,int i64 0, .slice none 0 0] 41)) (w.heap.size + 1) 41 (roC15 0 0 0 0 ([]) 0 0 0 0 0 0 0 none 0 0)):=hd_ (blk_new (by simp))
 have HX:=hd_ (((Chg.refl (fun _=>False) w).alloc (.cells #[int i64 kd,int i64 po,int i64 ge,int i64 sp, .slice A n c,int i64 k,int i64 o,int i64 f,int i64 t,int i64 p,int i64 g,int i64 i, .slice A2 n2 c2] 44)).alloc (.cells #[int i64 0,int i64 0,int i64 0,int i64 0, .string ⟨#[]⟩,int i64 0,int i64 0,int i64 0,int i64 0,int i64 0,int i64 0,int i64 0, .slice none 0 0] 41))
 have HQ : Hid (w.heap.size ≤ w.heap.size + 1):=hd_ (by omega)
 have hcv:=conv_any (c:=c) (h.2.2.chg HX.out (fun _ _=>id))
 clear h
 go_enter Tryz.func10,Tryz.ntmps10
 go_upto_region 1 with fail
 generalize (w.alloc (.cells #[int i64 kd,int i64 po,int i64 ge,int i64 sp, .slice A n c,int i64 k,int i64 o,int i64 f,int i64 t,int i64 p,int i64 g,int i64 i, .slice A2 n2 c2] 44)).alloc (.cells #[int i64 0,int i64 0,int i64 0,int i64 0, .string ⟨#[]⟩,int i64 0,int i64 0,int i64 0,int i64 0,int i64 0,int i64 0,int i64 0, .slice none 0 0] 41) = w1 at *
 generalize w.heap.size + 1 = Q1 at *
 generalize w.heap.size = Q0 at HB0 ⊢
 obtain ⟨y0,y1,y2,y3,y4,y5,y6,y7,y8,y9,y10,y11,y12⟩:=ou_cells15 HB0.out
 obtain ⟨x0,x1,x2,x3,x4,x5,x6,x7,x8,x9,x10,x11,x12⟩:=ro_cells15 HZ.out
 obtain ⟨f0,f1,f2,f3,f4,f5,f6,f7,f8,f9,f10,f11,f12⟩:=ou_free15 HZ.out
 obtain ⟨r0,r1,r2,r3,r4,r5,r6,r7,r8,r9,r10,r11,r12,hcs⟩:=ro_put15 HZ.out rfl kd po ge sp b k o f t p g i A2 n2 c2
 have RR:=hd_ (And.intro r0 (And.intro r1 (And.intro r2 (And.intro r3 (And.intro r4 (And.intro r5 (And.intro r6 (And.intro r7 (And.intro r8 (And.intro r9 (And.intro r10 (And.intro r11 r12))))))))))))
 have HF:=hd_ (fresh_set HX.out hcs HQ.out)
 clear r0 r1 r2 r3 r4 r5 r6 r7 r8 r9 r10 r11 r12 hcs
 go_wp2_with fail
 obtain ⟨r0,r1,r2,r3,r4,r5,r6,r7,r8,r9,r10,r11,r12⟩:=RR.out
 exact bodyPost_ret (v := .agg #[int i64 kd,int i64 po,int i64 ge,int i64 sp, .string ⟨b.toArray⟩,int i64 k,int i64 o,int i64 f,int i64 t,int i64 p,int i64 g,int i64 i, .slice A2 n2 c2]) (by simp [results,Tryz.results10,go_sem,r0,r1,r2,r3,r4,r5,r6,r7,r8,r9,r10,r11,r12]) rfl ⟨rfl,HF.out⟩
end Go.Proofs.YtfajcdobikjcdaaGreatDoor
end
