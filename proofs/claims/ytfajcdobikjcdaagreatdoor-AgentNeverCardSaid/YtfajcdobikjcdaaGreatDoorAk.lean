/-
  The agent's table; the datapath by it; ether.Decode, the load's capacity too; a store beside an agent. Conditions: what they look at lies in memory.
-/
import Derived.Test.YtfajcdobikjcdaaGreatDoorAh
import Derived.Test.YtfajcdobikjcdaaGreatDoorAi
import Derived.Test.YtfajcdobikjcdaaGreatDoorAj
import Derived.Test.YtfajcdobikjcdaaGreatDoorMA
import Derived.Test.YtfajcdobikjcdaaGreatDoorM8
import Derived.Test.YtfajcdobikjcdaaGreatDoorM2
set_option maxRecDepth 100000
set_option maxHeartbeats 40000000
set_option linter.unusedVariables false
set_option linter.unusedSimpArgs false
namespace Go.Proofs.YtfajcdobikjcdaaGreatDoor
open Go.Value (int)
open Go.IntKind (i64)
open Go.RowKit
def Framed16 (b : List UInt8) (w : World) (e : Ending) (w' : World) : Prop :=
 ∃ D k dc,e = .returned (.tuple #[.agg #[int .u64 (fD b),int .u64 (fS b),int i64 (fT b), .slice D k dc],int i64 0]) ∧ k = (b.drop 14).length ∧ Rds w' (fun k=>w.heap.size ≤ k) D k (bcs (b.drop 14)) ∧ Chg (fun _=>False) w w' ∧ k ≤ dc ∧ dc ≤ maxLen
theorem decode_ok16 (A : Option Addr) (n c : Nat) (b : List UInt8) (S : Nat → Prop) (w : World) (hn : n = b.length) (h : Rds w S A n (bcs b)) (h14 : 14 ≤ n) (h15 : n ≤ 1514) :
  Calls Tryz.prog 35 #[.slice A n c] w (Framed16 b w):=by
 have hB : withinB 14 1514 [(n : Int)] = true:=within_true (fun j hj=>by
  have hj0 : j = 0:=by simp at hj; omega
  subst hj0
  simp only [List.getElem_cons_zero]; omega)
 have HB:=hd_ hB
 have hd:=fD_lt b (by omega)
 have hs:=fS_lt b (by omega)
 have ht:=fT_lt b (by omega)
 have e1:=get_six b (by omega)
 have e2:=get_six (b.drop 6) (by rw [List.length_drop]; omega)
 have e3:=get_two (b.drop 12) (by rw [List.length_drop]; omega)
 rw [List.drop_drop] at e2 e3
 have E1 : Hid (getS 6 (some b) = (fD b,some (b.drop 6))):=e1
 have E2 : Hid (getS 6 (some (b.drop 6)) = (fS b,some (b.drop 12))):=e2
 have E3 : Hid (getS 2 (some (b.drop 12)) = (fT b,some (b.drop 14))):=e3
 have hR0 : Blk (w.alloc (.cells #[int .u64 0,int .u64 0,int i64 0, .slice none 0 0] 34)) w.heap.size _ _:=Blk.new _ _ _
 have hR1:=hR0.alloc (.cells #[int i64 n] 3)
 have hC1:=((Chg.refl (fun _=>False) w).alloc (.cells #[int .u64 0,int .u64 0,int i64 0, .slice none 0 0] 34)).alloc (.cells #[int i64 n] 3)
 have hrd:=read_any A n c b _ _ hn ((h.alloc (.cells #[int .u64 0,int .u64 0,int i64 0, .slice none 0 0] 34)).alloc (.cells #[int i64 n] 3)) (rds_nil_ok h (by omega)) (by omega)
 have hz1 : ((w.alloc (.cells #[int .u64 0,int .u64 0,int i64 0, .slice none 0 0] 34)).alloc (.cells #[int i64 n] 3)).heap.size = w.heap.size + 2:=by simp
 have HRD:=hd_ hrd
 have HR1:=hd_ hR1
 have HC1:=hd_ hC1
 have HZ1:=hd_ hz1
 clear e1 e2 e3 h hn hB hR0 hR1 hC1 hrd hz1
 generalize hqd : fD b = d at *
 generalize hqs : fS b = s at *
 generalize hqt : fT b = t at *
 have EQD:=hd_ hqd
 have EQS:=hd_ hqs
 have EQT:=hd_ hqt
 clear hqd hqs hqt
 obtain ⟨hd1,hd2⟩:=hd
 obtain ⟨hs1,hs2⟩:=hs
 obtain ⟨ht1,ht2⟩:=ht
 go_enter Tryz.func35,Tryz.ntmps35
 go_wp2_with fail
 refine (within_i 14 1514 [(n : Int)] _ 1 1 _ _ rfl (rds_new1 _ _ _ _ _ (by simp) _ _ rfl rfl) (by decide)).mono ?_
 rw [HB.out]
 rintro e w' ⟨rfl,rfl⟩
 go_wp2_with fail
 refine HRD.out.mono ?_
 rintro e w1 ⟨p,rfl,hp,hrd1,hc1⟩
 have hz:=HZ1.out
 have hC2:=HC1.out.trans hc1 (fun _ _ e=>e)
 have hR2:=HR1.out.chg hc1 id
 have hrd1:=hrd1.mono (S':=fun k=>w.heap.size < k ∧ k < p) (fun k hk=>by omega) (by omega)
 have hpw : w.heap.size < p:=by omega
 have hgt:=get_any _ _ _ 6 _ hrd1
 rw [E1.out] at hgt
 have HG:=hd_ hgt
 have HR2:=hd_ hR2
 have HC2:=hd_ hC2
 clear HRD HR1 HC1 HZ1 hz hp hrd1 hc1 hC2 hR2 hgt HB
 go_wp2_with fail
 refine HG.out.mono ?_
 rintro e w2 ⟨rfl,hrd2,hc2⟩
 have hC3:=fresh_set HC2.out hc2 (by omega)
 have hR3:=HR2.out.chg hc2 (by omega)
 have hgt:=get_any _ _ _ 6 _ hrd2
 rw [E2.out] at hgt
 have HG2:=hd_ hgt
 have HR3:=hd_ hR3
 have HC3:=hd_ hC3
 clear hrd2 hc2 hC3 hR3 hgt HG HR2 HC2
 go_wp2_with fail
 refine HG2.out.mono ?_
 rintro e w3 ⟨rfl,hrd3,hc3⟩
 have hC4:=fresh_set HC3.out hc3 (by omega)
 have hR4:=HR3.out.chg hc3 (by omega)
 have hgt:=get_any _ _ _ 2 _ hrd3
 rw [E3.out] at hgt
 have HG3:=hd_ hgt
 have HR4:=hd_ hR4
 have HC4:=hd_ hC4
 clear hrd3 hc3 hC4 hR4 hgt HG2 HR3 HC3
 go_wp2_with fail
 refine HG3.out.mono ?_
 rintro e w4 ⟨rfl,hrd4,hc4⟩
 have hC5:=fresh_set HC4.out hc4 (by omega)
 have hR5:=HR4.out.chg hc4 (by omega)
 have hgt:=rest_any _ _ _ _ hrd4
 have HG4:=hd_ hgt
 have HR5:=hd_ hR5
 have HC5:=hd_ hC5
 clear hrd4 hc4 hC5 hR5 hgt HG3 HR4 HC4
 go_wp2_with fail
 refine HG4.out.mono ?_
 rintro e w5 ⟨D,k,dc,rfl,hk,hkc,hcm,hr6,_,hc5⟩
 have hC6:=fresh_set HC5.out hc5 (by omega)
 have hR6:=HR5.out.chg hc5 (by omega)
 have x0:=hR6.cell 0
 have x1:=hR6.cell 1
 have x2:=hR6.cell 2
 have x3:=hR6.cell 3
 have u0:=hR6.frozen 0
 have u1:=hR6.frozen 1
 have u2:=hR6.frozen 2
 have u3:=hR6.frozen 3
 simp only [List.getElem?_toArray,List.getElem?_cons_zero,List.getElem?_cons_succ] at x0 x1 x2 x3
 have hd8:=hr6.chg (((((Chg.refl (fun k=>k = w.heap.size) _).put w.heap.size 0 (fun _=>rfl) (int .u64 d)).put w.heap.size 1 (fun _=>rfl) (int .u64 s)).put w.heap.size 2 (fun _=>rfl) (int i64 t)).put w.heap.size 3 (fun _=>rfl) (.slice D k dc)) (fun k hk e=>by subst e; omega)
 have hC9:=(((hC6.put w.heap.size 0 (fun h=>absurd h (Nat.lt_irrefl _)) (int .u64 d)).put w.heap.size 1 (fun h=>absurd h (Nat.lt_irrefl _)) (int .u64 s)).put w.heap.size 2 (fun h=>absurd h (Nat.lt_irrefl _)) (int i64 t)).put w.heap.size 3 (fun h=>absurd h (Nat.lt_irrefl _)) (.slice D k dc)
 have hd9:=hd8.mono (S':=fun k=>w.heap.size ≤ k) (fun k hk=>by omega)
 have r0:=(hR6.set 0 (int .u64 d)).cell 0
 have r1:=((hR6.set 0 (int .u64 d)).set 1 (int .u64 s)).cell 1
 have r2:=(((hR6.set 0 (int .u64 d)).set 1 (int .u64 s)).set 2 (int i64 t)).cell 2
 have r3:=((((hR6.set 0 (int .u64 d)).set 1 (int .u64 s)).set 2 (int i64 t)).set 3 (.slice D k dc)).cell 3
 simp only [List.setIfInBounds_toArray,List.set_cons_succ,List.set_cons_zero,List.getElem?_toArray,List.getElem?_cons_zero,List.getElem?_cons_succ] at r0 r1 r2 r3
 have RR:=hd_ (And.intro r0 (And.intro r1 (And.intro r2 r3)))
 have HF : Hid (Framed16 b w (.returned (.tuple #[.agg #[int .u64 (fD b),int .u64 (fS b),int i64 (fT b), .slice D k dc],int i64 0])) _):=⟨D,k,dc,rfl,hk,hd9,hC9,hkc,hcm⟩
 rw [EQD.out,EQS.out,EQT.out] at HF
 clear r0 r1 r2 r3 hC6 hC9 hd8 hd9 hR6 hc5 hr6 hk HG4 HR5 HC5
 go_wp2_with fail
 obtain ⟨r0,r1,r2,r3⟩:=RR.out
 exact bodyPost_ret (v := .tuple #[.agg #[int .u64 d,int .u64 s,int i64 t, .slice D k dc],int i64 0]) (by simp [results,Tryz.results35,go_sem,r0,r1,r2,r3]) rfl HF.out
def eK : Option En → Int | none=>0 | some e=>e.ak
def eP : Option En → Int | none=>0 | some e=>e.ap
def eO : Option En → Int | none=>0 | some e=>e.ao
def eG : Option En → Int | none=>0 | some e=>e.ag
theorem acO_eq (o : Option En) : acO13 o = acC (eK o) (eP o) (eO o) (eG o):=by cases o <;> rfl
def gL16 (c d : Int) (l : List RV) : Option En:=lk13 ⟨0,d,0,0, -1⟩ (cp14 c l)
def gR16 (d s t : Int) (n : Nat) (nu : Int) : Bool:=rightB d s t n && decide (0 ≤ nu ∧ nu ≤ 1099511627776)
def gV16 (c : Int) (l : List RV) (d s t : Int) (n : Nat) (b : List UInt8) (nu : Int) : OV:=if gR16 d s t n nu then gu15 c (frameB d s t b) nu (eK (gL16 c d l)) (eP (gL16 c d l)) (eO (gL16 c d l)) (eG (gL16 c d l)) else zOV
def gE16 (d s t : Int) (n : Nat) (nu : Int) : Int:=if gR16 d s t n nu then 0 else 1
def tL16 (c : Int) (l : List RV) (k p g o : Int) : Option En:=lk13 ⟨k,0,p,g,o⟩ (cp14 c l)
def tR16 (c k o f t p g i : Int) (n : Nat) : Bool:=pkR k o f t p g i n && t == c
def tV16 (c : Int) (l : List RV) (k o f t p g i : Int) (n : Nat) (b : List UInt8) : OV:=if tR16 c k o f t p g i n then tu15 k o f t p g i b (eK (tL16 c l k p g o)) (eP (tL16 c l k p g o)) (eO (tL16 c l k p g o)) (eG (tL16 c l k p g o)) else zOV
def tE16 (c k o f t p g i : Int) (n : Nat) : Int:=if tR16 c k o f t p g i n then 0 else 1
theorem dguest16 {S15 : Nat → Prop} {w : World} {tp : Nat} {c : Int} {l : List RV} (ht : TF w tp (cp14 c l)) (hl : (cp14 c l).length ≤ 256) (hc : 0 ≤ c ∧ c ≤ 15) (d s t nu : Int) (A : Option Addr) (n cc : Nat) (b : List UInt8) (hd : 0 ≤ d) (hs : 0 ≤ s) (hn : n ≤ 9223372036854775807) (h : BsM15 w A n cc b) (hS15 : ∀ k,w.heap.size ≤ k → S15 k) :
  Calls Tryz.prog 30 #[.pointer (some ⟨tp,0,none⟩),int i64 c, .agg #[int .u64 d,int .u64 s,int i64 t, .slice A n cc],int i64 nu] w (HE15 S15 (gV16 c l d s t n b nu) (gE16 d s t n nu) w):=by
 cases hr : rightB d s t n with
 | false =>
  have e : gR16 d s t n nu = false:=by unfold gR16; rw [hr]; rfl
  unfold gV16 gE16
  rw [e]
  exact guest15_bad _ d s t c nu A n cc w hd hs hn hr
 | true =>
  by_cases hu : 0 ≤ nu ∧ nu ≤ 1099511627776
  ·have e : gR16 d s t n nu = true:=by unfold gR16; rw [hr]; simpa using hu
   unfold gV16 gE16
   rw [e]
   exact guest15_ok _ (gL16 c d l) _ _ _ _ (acO_eq _) d s t c nu A n cc w hd hs hn b h hS15 (fun W hW=>flook13_any (ht.chg hW) hl 0 d 0 0 (-1)) hr hc.1 hc.2 hu.1 hu.2
  ·have e : gR16 d s t n nu = false:=by unfold gR16; rw [hr]; simpa using hu
   unfold gV16 gE16
   rw [e]
   exact guest15_rng _ d s t c nu A n cc w hd hs hn b h hr (by omega)
theorem dtunnel16 {S15 : Nat → Prop} {w : World} {tp : Nat} {c : Int} {l : List RV} (ht : TF w tp (cp14 c l)) (hl : (cp14 c l).length ≤ 256) (k o f t p g i : Int) (A : Option Addr) (n cc : Nat) (b : List UInt8) (hn : n ≤ 9223372036854775807) (h : BsM15 w A n cc b) (hS15 : ∀ k,w.heap.size ≤ k → S15 k) :
  Calls Tryz.prog 34 #[.pointer (some ⟨tp,0,none⟩),int i64 c, .agg #[int i64 k,int i64 o,int i64 f,int i64 t,int i64 p,int i64 g,int i64 i, .slice A n cc]] w (HE15 S15 (tV16 c l k o f t p g i n b) (tE16 c k o f t p g i n) w):=by
 cases hr : pkR k o f t p g i n with
 | false =>
  have e : tR16 c k o f t p g i n = false:=by unfold tR16; rw [hr]; rfl
  unfold tV16 tE16
  rw [e]
  exact tunnel15_bad _ k o f t p g i c A n cc w hn hr
 | true =>
  by_cases hu : t = c
  ·have e : tR16 c k o f t p g i n = true:=by unfold tR16; rw [hr]; simpa using hu
   unfold tV16 tE16
   rw [e]
   subst hu
   exact tunnel15_ok _ (tL16 t l k p g o) _ _ _ _ (acO_eq _) k o f t p g i A n cc w b h hS15 (fun W hW=>flook13_any (ht.chg hW) hl k 0 p g o) hr
  ·have e : tR16 c k o f t p g i n = false:=by unfold tR16; rw [hr]; simpa using hu
   unfold tV16 tE16
   rw [e]
   exact tunnel15_to _ k o f t p g i c A n cc w hn hr hu
theorem SN.put8 {w w' : World} {p Q : Nat} {o : Option Nat} {G : Nat → Prop} {x : SV} {T : TypeId} {cs : Array Value} (h : SN w p o G x) (hb : Blk w Q T cs) (hu : noU8 cs) (hp : p ≠ Q) (ho : o ≠ some Q) (hc : Chg (fun k=>k = Q) w w') : SN w' p o G x:=by
 obtain ⟨A,c,vs,hblk,hown,h1,h2,h3,h4,h5⟩:=h
 refine ⟨A,c,vs,hblk.chg hc hp,own_chg hown hc (fun k hk e=>ho (by rw [← h1, ← e]; exact hk)),h1,h2,⟨h3.1,fun i l hl => ?_⟩,h4,h5⟩
 obtain ⟨A1,c1,e1,hz,hr⟩:=h3.2 i l hl
 exact ⟨A1,c1,e1,hz,(BsS15.put (S:=G) ⟨⟨hz,rfl,hr.mono (fun _ _=>trivial)⟩,hr⟩ hb hu hc).2⟩
theorem AM.put8 {w w' : World} {a ps q m : Nat} {D : Nat → Prop} {x : AV} (h : AM w a ps q m D x) {Q : Nat} {T : TypeId} {cs : Array Value} (hb : Blk w Q T cs) (hu : noU8 cs) (h1 : T ≠ 67) (h2 : T ≠ 104) (h3 : T ≠ 31) (h4 : T ≠ 106) (h5 : T ≠ 131) (hc : Chg (fun k=>k = Q) w w') : AM w' a ps q m D x:=by
 obtain ⟨o,oq,rfl,h⟩:=h
 have hn:=h.apart hb h1 h2 h3 h4 h5
 exact ⟨o,oq,rfl,h.ab.chg hc (fun e=>hn (.inl e.symm)),h.sn.put8 hb hu (fun e=>hn (.inr (.inl e.symm))) (fun e=>hn (.inr (.inr (.inl e)))) hc,h.tn.chg hc (fun e=>hn (.inr (.inr (.inr (.inl e.symm))))) (fun k hk e=>hn (.inr (.inr (.inr (.inr (.inl (by rw [← e]; exact hk))))))),h.tm.chg hc (fun e=>hn (.inr (.inr (.inr (.inr (.inr e.symm))))))⟩
theorem Mv16.put {D D1 : Nat → Prop} {w w1 w2 : World} {Q : Nat} (h : Mv16 D D1 w w1) (hc : Chg (fun k=>k = Q) w1 w2) (hQ : w.heap.size ≤ Q) : Mv16 D D1 w w2 :=
 ⟨h.1.trans hc (fun i hi e=>by omega),h.2⟩
theorem ou_set16 {w : World} {r : Nat} {T : TypeId} {kd0 po0 ge0 st0 : Int} {A0 : Option Addr} {n0 c0 : Nat} {k0 o0 f0 t0 p0 g0 i0 : Int} {A20 : Option Addr} {n20 c20 : Nat} (hb : Blk w r T (ouC15 kd0 po0 ge0 st0 A0 n0 c0 k0 o0 f0 t0 p0 g0 i0 A20 n20 c20)) (kd po ge st : Int) (A : Option Addr) (n c : Nat) (k o f t p g i : Int) (A2 : Option Addr) (n2 c2 : Nat) : Blk (((((((((((((w.setCell ⟨r,0,none⟩ (int i64 kd)).setCell ⟨r,1,none⟩ (int i64 po)).setCell ⟨r,2,none⟩ (int i64 ge)).setCell ⟨r,3,none⟩ (int i64 st)).setCell ⟨r,4,none⟩ (.slice A n c)).setCell ⟨r,5,none⟩ (int i64 k)).setCell ⟨r,6,none⟩ (int i64 o)).setCell ⟨r,7,none⟩ (int i64 f)).setCell ⟨r,8,none⟩ (int i64 t)).setCell ⟨r,9,none⟩ (int i64 p)).setCell ⟨r,10,none⟩ (int i64 g)).setCell ⟨r,11,none⟩ (int i64 i)).setCell ⟨r,12,none⟩ (.slice A2 n2 c2)) r T (ouC15 kd po ge st A n c k o f t p g i A2 n2 c2):=by
 have h1 : Blk (w.setCell ⟨r,0,none⟩ (int i64 kd)) r T (ouC15 kd po0 ge0 st0 A0 n0 c0 k0 o0 f0 t0 p0 g0 i0 A20 n20 c20):=hb.set 0 (int i64 kd)
 have h2 : Blk ((w.setCell ⟨r,0,none⟩ (int i64 kd)).setCell ⟨r,1,none⟩ (int i64 po)) r T (ouC15 kd po ge0 st0 A0 n0 c0 k0 o0 f0 t0 p0 g0 i0 A20 n20 c20):=h1.set 1 (int i64 po)
 have h3 : Blk (((w.setCell ⟨r,0,none⟩ (int i64 kd)).setCell ⟨r,1,none⟩ (int i64 po)).setCell ⟨r,2,none⟩ (int i64 ge)) r T (ouC15 kd po ge st0 A0 n0 c0 k0 o0 f0 t0 p0 g0 i0 A20 n20 c20):=h2.set 2 (int i64 ge)
 have h4 : Blk ((((w.setCell ⟨r,0,none⟩ (int i64 kd)).setCell ⟨r,1,none⟩ (int i64 po)).setCell ⟨r,2,none⟩ (int i64 ge)).setCell ⟨r,3,none⟩ (int i64 st)) r T (ouC15 kd po ge st A0 n0 c0 k0 o0 f0 t0 p0 g0 i0 A20 n20 c20):=h3.set 3 (int i64 st)
 have h5 : Blk (((((w.setCell ⟨r,0,none⟩ (int i64 kd)).setCell ⟨r,1,none⟩ (int i64 po)).setCell ⟨r,2,none⟩ (int i64 ge)).setCell ⟨r,3,none⟩ (int i64 st)).setCell ⟨r,4,none⟩ (.slice A n c)) r T (ouC15 kd po ge st A n c k0 o0 f0 t0 p0 g0 i0 A20 n20 c20):=h4.set 4 (.slice A n c)
 have h6 : Blk ((((((w.setCell ⟨r,0,none⟩ (int i64 kd)).setCell ⟨r,1,none⟩ (int i64 po)).setCell ⟨r,2,none⟩ (int i64 ge)).setCell ⟨r,3,none⟩ (int i64 st)).setCell ⟨r,4,none⟩ (.slice A n c)).setCell ⟨r,5,none⟩ (int i64 k)) r T (ouC15 kd po ge st A n c k o0 f0 t0 p0 g0 i0 A20 n20 c20):=h5.set 5 (int i64 k)
 have h7 : Blk (((((((w.setCell ⟨r,0,none⟩ (int i64 kd)).setCell ⟨r,1,none⟩ (int i64 po)).setCell ⟨r,2,none⟩ (int i64 ge)).setCell ⟨r,3,none⟩ (int i64 st)).setCell ⟨r,4,none⟩ (.slice A n c)).setCell ⟨r,5,none⟩ (int i64 k)).setCell ⟨r,6,none⟩ (int i64 o)) r T (ouC15 kd po ge st A n c k o f0 t0 p0 g0 i0 A20 n20 c20):=h6.set 6 (int i64 o)
 have h8 : Blk ((((((((w.setCell ⟨r,0,none⟩ (int i64 kd)).setCell ⟨r,1,none⟩ (int i64 po)).setCell ⟨r,2,none⟩ (int i64 ge)).setCell ⟨r,3,none⟩ (int i64 st)).setCell ⟨r,4,none⟩ (.slice A n c)).setCell ⟨r,5,none⟩ (int i64 k)).setCell ⟨r,6,none⟩ (int i64 o)).setCell ⟨r,7,none⟩ (int i64 f)) r T (ouC15 kd po ge st A n c k o f t0 p0 g0 i0 A20 n20 c20):=h7.set 7 (int i64 f)
 have h9 : Blk (((((((((w.setCell ⟨r,0,none⟩ (int i64 kd)).setCell ⟨r,1,none⟩ (int i64 po)).setCell ⟨r,2,none⟩ (int i64 ge)).setCell ⟨r,3,none⟩ (int i64 st)).setCell ⟨r,4,none⟩ (.slice A n c)).setCell ⟨r,5,none⟩ (int i64 k)).setCell ⟨r,6,none⟩ (int i64 o)).setCell ⟨r,7,none⟩ (int i64 f)).setCell ⟨r,8,none⟩ (int i64 t)) r T (ouC15 kd po ge st A n c k o f t p0 g0 i0 A20 n20 c20):=h8.set 8 (int i64 t)
 have h10 : Blk ((((((((((w.setCell ⟨r,0,none⟩ (int i64 kd)).setCell ⟨r,1,none⟩ (int i64 po)).setCell ⟨r,2,none⟩ (int i64 ge)).setCell ⟨r,3,none⟩ (int i64 st)).setCell ⟨r,4,none⟩ (.slice A n c)).setCell ⟨r,5,none⟩ (int i64 k)).setCell ⟨r,6,none⟩ (int i64 o)).setCell ⟨r,7,none⟩ (int i64 f)).setCell ⟨r,8,none⟩ (int i64 t)).setCell ⟨r,9,none⟩ (int i64 p)) r T (ouC15 kd po ge st A n c k o f t p g0 i0 A20 n20 c20):=h9.set 9 (int i64 p)
 have h11 : Blk (((((((((((w.setCell ⟨r,0,none⟩ (int i64 kd)).setCell ⟨r,1,none⟩ (int i64 po)).setCell ⟨r,2,none⟩ (int i64 ge)).setCell ⟨r,3,none⟩ (int i64 st)).setCell ⟨r,4,none⟩ (.slice A n c)).setCell ⟨r,5,none⟩ (int i64 k)).setCell ⟨r,6,none⟩ (int i64 o)).setCell ⟨r,7,none⟩ (int i64 f)).setCell ⟨r,8,none⟩ (int i64 t)).setCell ⟨r,9,none⟩ (int i64 p)).setCell ⟨r,10,none⟩ (int i64 g)) r T (ouC15 kd po ge st A n c k o f t p g i0 A20 n20 c20):=h10.set 10 (int i64 g)
 have h12 : Blk ((((((((((((w.setCell ⟨r,0,none⟩ (int i64 kd)).setCell ⟨r,1,none⟩ (int i64 po)).setCell ⟨r,2,none⟩ (int i64 ge)).setCell ⟨r,3,none⟩ (int i64 st)).setCell ⟨r,4,none⟩ (.slice A n c)).setCell ⟨r,5,none⟩ (int i64 k)).setCell ⟨r,6,none⟩ (int i64 o)).setCell ⟨r,7,none⟩ (int i64 f)).setCell ⟨r,8,none⟩ (int i64 t)).setCell ⟨r,9,none⟩ (int i64 p)).setCell ⟨r,10,none⟩ (int i64 g)).setCell ⟨r,11,none⟩ (int i64 i)) r T (ouC15 kd po ge st A n c k o f t p g i A20 n20 c20):=h11.set 11 (int i64 i)
 have h13 : Blk (((((((((((((w.setCell ⟨r,0,none⟩ (int i64 kd)).setCell ⟨r,1,none⟩ (int i64 po)).setCell ⟨r,2,none⟩ (int i64 ge)).setCell ⟨r,3,none⟩ (int i64 st)).setCell ⟨r,4,none⟩ (.slice A n c)).setCell ⟨r,5,none⟩ (int i64 k)).setCell ⟨r,6,none⟩ (int i64 o)).setCell ⟨r,7,none⟩ (int i64 f)).setCell ⟨r,8,none⟩ (int i64 t)).setCell ⟨r,9,none⟩ (int i64 p)).setCell ⟨r,10,none⟩ (int i64 g)).setCell ⟨r,11,none⟩ (int i64 i)).setCell ⟨r,12,none⟩ (.slice A2 n2 c2)) r T (ouC15 kd po ge st A n c k o f t p g i A2 n2 c2):=h12.set 12 (.slice A2 n2 c2)
 exact h13
def TabP16 (l : List En) (w : World) (e : Ending) (w' : World) : Prop := ∃ p : Nat,e = .returned (.pointer (some ⟨p,0,none⟩)) ∧ TF w' p l ∧ Chg (fun _=>False) w w'
theorem atable_any {w : World} {a ps q m : Nat} {D : Nat → Prop} {x : AV} (h : AM w a ps q m D x) : Calls Tryz.prog 31 #[.pointer (some ⟨a,0,none⟩)] w (TabP16 (cp14 x.c (rwA x.R)) w):=by
 have HM:=hd_ h
 have HRW:=hd_ (fun W (hW : Chg (fun _=>False) w W)=>arows_any (HM.out.new hW))
 have HLN:=hd_ (show (rwA x.R).length ≤ 32 from rwK_len x.R 32)
 clear h
 go_enter Tryz.func31,Tryz.ntmps31
 go_wp2_with fail
 have HKEEP : Hid (∀ W : World,Chg (fun _=>False) w W → W.cell? ⟨a,1,none⟩ = some (int i64 x.c)):=hd_ (fun W hW=>(HM.out.new hW).ab.c1)
 have HXA:=hd_ (Chg.refl (fun _=>False) w).drew
 have c1:=HKEEP.out _ HXA.out
 go_region_held3 (fun w'=>w'.cell? ⟨a,1,none⟩ = some (int i64 x.c))
  (first | with_reducible exact HKEEP.out _ HXA.out | with_reducible exact HKEEP.out _ HXB.out | with_reducible exact HKEEP.out _ HXC.out | fail)
  (first
   | (go_at_call 7; (with_reducible refine (HRW.out _ HXA.out).mono ?_); rintro e wb ⟨E,k,d,rfl,hk,hown,hc⟩; have HXB:=hd_ (HXA.out.trans hc (fun _ _ e=>e)); have HRR:=hd_ (own_rwr hown hk); have HKK:=hd_ hk; clear hc hown hk)
   | (go_at_call 65; (with_reducible refine (btable14_any HRR.out (by have:=HKK.out; have:=HLN.out; omega) x.c).mono ?_); rintro e wc ⟨p,rfl,htf,hc⟩; have HXC:=hd_ (HXB.out.trans hc (fun _ _ e=>e)); have HTF:=hd_ htf; clear hc htf)
   | fail)
 all_goals
  go_wp2_with fail
  go_ret
  exact ⟨p,rfl,HTF.out,HXC.out⟩
end Go.Proofs.YtfajcdobikjcdaaGreatDoor
