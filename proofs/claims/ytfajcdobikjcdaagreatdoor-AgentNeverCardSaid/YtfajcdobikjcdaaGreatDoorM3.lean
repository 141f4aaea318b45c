/-
  A packet's cells, and whether it may be. Walks: tunnel.within, goes, Right. Conditions: none but the numbers of bytes.
-/
import Derived.Test.YtfajcdobikjcdaaGreatDoorM1
import Derived.Deep.DeepCutAuto
import Derived.Lib.SmallJoins
import Derived.Test.YtfajcdobikjcdaaGreatDoorM2
import Derived.Deep.RegionHeld3
import Derived.ProofKit
import Derived.OpenShut
import Derived.ChangeOld
set_option maxRecDepth 100000
set_option maxHeartbeats 40000000
set_option linter.unusedVariables false
set_option linter.unusedSimpArgs false
section
namespace Go.Proofs.YtfajcdobikjcdaaGreatDoor
open Go.Value (int)
open Go.IntKind (i64)
open Go.RowKit
def pkC (k o f t p g i : Int) (A : Option Addr) (n c : Nat) : Array Value:=#[int i64 k,int i64 o,int i64 f,int i64 t,int i64 p,int i64 g,int i64 i, .slice A n c]
def goB (k o f t : Int) : Bool := !(f == t) && ((k == 1 && f == o) || (k == 2 && (!(f == o) && !(t == o))))
def pkR (k o f t p g i : Int) (n : Nat) : Bool:=goB k o f t && (withinB 0 15 [o,f,t] && (withinB 0 31 [p] && (withinB 1 4294967296 [g] && (withinB 0 1099511627776 [i] && withinB 14 1514 [(n : Int)]))))
theorem pk_cells {w : World} {q : Nat} {k o f t p g i : Int} {A : Option Addr} {n c : Nat} {T : TypeId} (hb : Blk w q T (pkC k o f t p g i A n c)) :
  w.cell? ⟨q,0,none⟩ = some (int i64 k) ∧ w.cell? ⟨q,1,none⟩ = some (int i64 o) ∧ w.cell? ⟨q,2,none⟩ = some (int i64 f) ∧ w.cell? ⟨q,3,none⟩ = some (int i64 t) ∧ w.cell? ⟨q,4,none⟩ = some (int i64 p) ∧ w.cell? ⟨q,5,none⟩ = some (int i64 g) ∧ w.cell? ⟨q,6,none⟩ = some (int i64 i) ∧ w.cell? ⟨q,7,none⟩ = some (.slice A n c):=by
 have x0:=hb.cell 0
 have x1:=hb.cell 1
 have x2:=hb.cell 2
 have x3:=hb.cell 3
 have x4:=hb.cell 4
 have x5:=hb.cell 5
 have x6:=hb.cell 6
 have x7:=hb.cell 7
 simp only [pkC,List.getElem?_toArray,List.getElem?_cons_zero,List.getElem?_cons_succ] at x0 x1 x2 x3 x4 x5 x6 x7
 exact ⟨x0,x1,x2,x3,x4,x5,x6,x7⟩
theorem pk_kept {w w' : World} {q : Nat} {k o f t p g i : Int} {A : Option Addr} {n c : Nat} {T : TypeId} (hb : Blk w q T (pkC k o f t p g i A n c)) (h : Chg (fun _=>False) w w') :
  w'.cell? ⟨q,0,none⟩ = some (int i64 k) ∧ w'.cell? ⟨q,1,none⟩ = some (int i64 o) ∧ w'.cell? ⟨q,2,none⟩ = some (int i64 f) ∧ w'.cell? ⟨q,3,none⟩ = some (int i64 t) ∧ w'.cell? ⟨q,4,none⟩ = some (int i64 p) ∧ w'.cell? ⟨q,5,none⟩ = some (int i64 g) ∧ w'.cell? ⟨q,6,none⟩ = some (int i64 i) ∧ w'.cell? ⟨q,7,none⟩ = some (.slice A n c):=pk_cells (hb.chg h id)
theorem within_t (lo hi : Int) (l : List Int) (A : Option Addr) (n c : Nat) (S : Nat → Prop) (w : World) (hn : n = l.length) (hr : Rds w S A n (l.map (Value.int .i64))) (hb : n ≤ 1000) :
  Calls Tryz.prog 112 #[int i64 lo,int i64 hi, .slice A n c] w fun e w'=>e = .returned (.bool (withinB lo hi l)) ∧ w = w':=by
 have HN:=hd_ hn
 clear hn
 go_enter Tryz.func112,Tryz.ntmps112
 go_wp2
 go_loop [8,11] (fun _ i => ∃ k : Nat,k ≤ n ∧ i = int i64 k ∧ ∀ j (hj : j < l.length),j < k → lo ≤ l[j] ∧ l[j] ≤ hi) (fun _ i=>n - (intOf i).toNat)
 case atStart=>exact ⟨0,Nat.zero_le _,rfl,fun j _ h=>absurd h (Nat.not_lt_zero _)⟩
 case round =>
  obtain ⟨k,hk,rfl,hall⟩:=hrel
  have HA:=hd_ hall
  clear hall
  by_cases hlt : k < n
  ·obtain ⟨ad,rfl,_,_,hc⟩:=hr.cellAt hlt
   have hkl : k < l.length:=by have:=HN.out; omega
   rw [List.getElem?_map,List.getElem?_eq_getElem hkl] at hc
   simp only [Option.map_some] at hc
   have hv : ∃ x,x = l[k]:=⟨_,rfl⟩
   obtain ⟨x,hxe⟩:=hv
   rw [← hxe] at hc
   have HX:=hd_ hxe
   clear hxe
   by_cases h1 : x < lo
   ·go_wp2
    go_ret
    exact ⟨ret_b (within_false k hkl (by have:=HX.out; omega)).symm,rfl⟩
   ·by_cases h2 : hi < x
    ·go_wp2
     go_ret
     exact ⟨ret_b (within_false k hkl (by have:=HX.out; omega)).symm,rfl⟩
    ·go_wp2
     go_round
     case rel=>exact ⟨k + 1,by omega,by go_num,fun j hj hjk=>by
      by_cases e : j < k
      ·exact HA.out j hj e
      ·have : j = k:=by omega
       subst this
       have:=HX.out
       omega⟩
     case measure=>simp [intOf]; omega
  ·have : k = n:=by omega
   subst this
   go_wp2
   go_ret
   exact ⟨ret_b (within_true (fun j hj=>HA.out j hj (by have:=HN.out; omega))).symm,rfl⟩
theorem goes_any (k o f t p g i : Int) (A : Option Addr) (n c : Nat) (w : World) :
  Calls Tryz.prog 111 #[.agg (pkC k o f t p g i A n c)] w fun e w'=>e = .returned (.bool (goB k o f t)) ∧ Chg (fun _=>False) w w':=by
 unfold pkC
 have hC:=hd_ ((Chg.refl (fun _=>False) w).alloc (.cells #[int i64 k,int i64 o,int i64 f,int i64 t,int i64 p,int i64 g,int i64 i, .slice A n c] 37))
 by_cases h1 : f = t
 ·subst h1
  have hR:=hd_ (show goB k o f f = false by simp [goB])
  go_enter Tryz.func111,Tryz.ntmps111
  go_wp2_with fail
  go_ret
  exact ⟨ret_b hR.out.symm,hC.out⟩
 have t1 : (f == t) = false:=by simpa using h1
 by_cases h2 : k = 1
 ·subst h2
  have hR:=hd_ (show goB 1 o f t = (f == o) by simp [goB,t1])
  clear h1
  go_enter Tryz.func111,Tryz.ntmps111
  go_wp2_with fail
  go_ret
  exact ⟨ret_b hR.out.symm,hC.out⟩
 have t2 : (k == 1) = false:=by simpa using h2
 by_cases h3 : k = 2
 ·subst h3
  by_cases h4 : f = o
  ·subst h4
   have hR:=hd_ (show goB 2 f f t = false by simp [goB])
   clear h1 h2
   go_enter Tryz.func111,Tryz.ntmps111
   go_wp2_with fail
   go_ret
   exact ⟨ret_b hR.out.symm,hC.out⟩
  have t4 : (f == o) = false:=by simpa using h4
  have s4 : (f != o) = true:=by simpa using h4
  have hR:=hd_ (show goB 2 o f t = (t != o) by simp [goB,t1,t4,bne])
  clear h1 h2 h4
  go_enter Tryz.func111,Tryz.ntmps111
  go_wp2_with fail
  go_ret
  exact ⟨ret_b hR.out.symm,hC.out⟩
 have t3 : (k == 2) = false:=by simpa using h3
 have hR:=hd_ (show goB k o f t = false by simp [goB,t2,t3])
 clear h1 h2 h3
 go_enter Tryz.func111,Tryz.ntmps111
 go_wp2_with fail
 go_ret
 exact ⟨ret_b hR.out.symm,hC.out⟩
theorem chg_eq {S : Nat → Prop} {a w w' : World} {o : Obj} (h : Chg S a w) (e : w.alloc o = w') : Chg S a w':=e ▸ h.alloc o
theorem tright_any (k o f t p g i : Int) (A : Option Addr) (n c : Nat) (w : World) (hn : n ≤ 9223372036854775807) :
  Calls Tryz.prog 69 #[.agg (pkC k o f t p g i A n c)] w fun e w'=>e = .returned (.bool (pkR k o f t p g i n)) ∧ Chg (fun _=>False) w w':=by
 have hC0:=(Chg.refl (fun _=>False) w).alloc (.cells #[int i64 k,int i64 o,int i64 f,int i64 t,int i64 p,int i64 g,int i64 i, .slice A n c] 37)
 have hb0 : Blk (w.alloc (.cells #[int i64 k,int i64 o,int i64 f,int i64 t,int i64 p,int i64 g,int i64 i, .slice A n c] 37)) w.heap.size 37 (pkC k o f t p g i A n c):=blk_new rfl
 have hgo:=fun W=>goes_any k o f t p g i A n c W
 have HB0:=hd_ hb0
 have HC0:=hd_ hC0
 clear hb0 hC0
 unfold pkR
 generalize goB k o f t = b0 at *
 generalize hb1 : withinB 0 15 [o,f,t] = b1
 generalize hb2 : withinB 0 31 [p] = b2
 generalize hb3 : withinB 1 4294967296 [g] = b3
 generalize hb4 : withinB 0 1099511627776 [i] = b4
 generalize hb5 : withinB 14 1514 [(n : Int)] = b5
 unfold pkC at hgo ⊢
 have HGO:=hd_ hgo
 have HB1:=hd_ hb1
 have HB2:=hd_ hb2
 have HB3:=hd_ hb3
 have HB4:=hd_ hb4
 have HB5:=hd_ hb5
 clear hgo hb1 hb2 hb3 hb4 hb5
 cases b0 with
 | false =>
  go_enter Tryz.func69,Tryz.ntmps69
  go_wp2_with fail
  refine (HGO.out _).mono ?_
  rintro e w1 ⟨rfl,hc1⟩
  obtain ⟨y0,y1,y2,y3,y4,y5,y6,y7⟩:=pk_kept HB0.out hc1
  have HX:=hd_ hc1
  clear hc1 HGO
  go_wp2_with fail
  go_ret
  exact ⟨rfl,HC0.out.trans HX.out (fun _ _ e=>e)⟩
 | true =>
  cases b1 with
  | false =>
   go_enter Tryz.func69,Tryz.ntmps69
   go_wp2_with fail
   refine (HGO.out _).mono ?_
   rintro e w1 ⟨rfl,hc1⟩
   obtain ⟨y0,y1,y2,y3,y4,y5,y6,y7⟩:=pk_kept HB0.out hc1
   have HX:=hd_ hc1
   clear hc1 HGO
   go_wp2_with fail
   refine (within_t 0 15 [o,f,t] _ 3 3 _ _ rfl (rds_new1 _ _ _ _ _ rfl _ _ rfl rfl) (by decide)).mono ?_
   rw [HB1.out]
   rintro e w2 ⟨rfl,hw⟩
   have HX:=hd_ (chg_eq HX.out hw)
   clear hw y0 y1 y2 y3 y4 y5 y6 y7
   obtain ⟨y0,y1,y2,y3,y4,y5,y6,y7⟩:=pk_kept HB0.out HX.out
   go_wp2_with fail
   go_ret
   exact ⟨rfl,HC0.out.trans HX.out (fun _ _ e=>e)⟩
  | true =>
   cases b2 with
   | false =>
    go_enter Tryz.func69,Tryz.ntmps69
    go_wp2_with fail
    refine (HGO.out _).mono ?_
    rintro e w1 ⟨rfl,hc1⟩
    obtain ⟨y0,y1,y2,y3,y4,y5,y6,y7⟩:=pk_kept HB0.out hc1
    have HX:=hd_ hc1
    clear hc1 HGO
    go_wp2_with fail
    refine (within_t 0 15 [o,f,t] _ 3 3 _ _ rfl (rds_new1 _ _ _ _ _ rfl _ _ rfl rfl) (by decide)).mono ?_
    rw [HB1.out]
    rintro e w2 ⟨rfl,hw⟩
    have HX:=hd_ (chg_eq HX.out hw)
    clear hw y0 y1 y2 y3 y4 y5 y6 y7
    obtain ⟨y0,y1,y2,y3,y4,y5,y6,y7⟩:=pk_kept HB0.out HX.out
    go_wp2_with fail
    refine (within_t 0 31 [p] _ 1 1 _ _ rfl (rds_new1 _ _ _ _ _ rfl _ _ rfl rfl) (by decide)).mono ?_
    rw [HB2.out]
    rintro e w3 ⟨rfl,hw⟩
    have HX:=hd_ (chg_eq HX.out hw)
    clear hw y0 y1 y2 y3 y4 y5 y6 y7
    obtain ⟨y0,y1,y2,y3,y4,y5,y6,y7⟩:=pk_kept HB0.out HX.out
    go_wp2_with fail
    go_ret
    exact ⟨rfl,HC0.out.trans HX.out (fun _ _ e=>e)⟩
   | true =>
    cases b3 with
    | false =>
     go_enter Tryz.func69,Tryz.ntmps69
     go_wp2_with fail
     refine (HGO.out _).mono ?_
     rintro e w1 ⟨rfl,hc1⟩
     obtain ⟨y0,y1,y2,y3,y4,y5,y6,y7⟩:=pk_kept HB0.out hc1
     have HX:=hd_ hc1
     clear hc1 HGO
     go_wp2_with fail
     refine (within_t 0 15 [o,f,t] _ 3 3 _ _ rfl (rds_new1 _ _ _ _ _ rfl _ _ rfl rfl) (by decide)).mono ?_
     rw [HB1.out]
     rintro e w2 ⟨rfl,hw⟩
     have HX:=hd_ (chg_eq HX.out hw)
     clear hw y0 y1 y2 y3 y4 y5 y6 y7
     obtain ⟨y0,y1,y2,y3,y4,y5,y6,y7⟩:=pk_kept HB0.out HX.out
     go_wp2_with fail
     refine (within_t 0 31 [p] _ 1 1 _ _ rfl (rds_new1 _ _ _ _ _ rfl _ _ rfl rfl) (by decide)).mono ?_
     rw [HB2.out]
     rintro e w3 ⟨rfl,hw⟩
     have HX:=hd_ (chg_eq HX.out hw)
     clear hw y0 y1 y2 y3 y4 y5 y6 y7
     obtain ⟨y0,y1,y2,y3,y4,y5,y6,y7⟩:=pk_kept HB0.out HX.out
     go_wp2_with fail
     refine (within_t 1 4294967296 [g] _ 1 1 _ _ rfl (rds_new1 _ _ _ _ _ rfl _ _ rfl rfl) (by decide)).mono ?_
     rw [HB3.out]
     rintro e w4 ⟨rfl,hw⟩
     have HX:=hd_ (chg_eq HX.out hw)
     clear hw y0 y1 y2 y3 y4 y5 y6 y7
     obtain ⟨y0,y1,y2,y3,y4,y5,y6,y7⟩:=pk_kept HB0.out HX.out
     go_wp2_with fail
     go_ret
     exact ⟨rfl,HC0.out.trans HX.out (fun _ _ e=>e)⟩
    | true =>
     cases b4 with
     | false =>
      go_enter Tryz.func69,Tryz.ntmps69
      go_wp2_with fail
      refine (HGO.out _).mono ?_
      rintro e w1 ⟨rfl,hc1⟩
      obtain ⟨y0,y1,y2,y3,y4,y5,y6,y7⟩:=pk_kept HB0.out hc1
      have HX:=hd_ hc1
      clear hc1 HGO
      go_wp2_with fail
      refine (within_t 0 15 [o,f,t] _ 3 3 _ _ rfl (rds_new1 _ _ _ _ _ rfl _ _ rfl rfl) (by decide)).mono ?_
      rw [HB1.out]
      rintro e w2 ⟨rfl,hw⟩
      have HX:=hd_ (chg_eq HX.out hw)
      clear hw y0 y1 y2 y3 y4 y5 y6 y7
      obtain ⟨y0,y1,y2,y3,y4,y5,y6,y7⟩:=pk_kept HB0.out HX.out
      go_wp2_with fail
      refine (within_t 0 31 [p] _ 1 1 _ _ rfl (rds_new1 _ _ _ _ _ rfl _ _ rfl rfl) (by decide)).mono ?_
      rw [HB2.out]
      rintro e w3 ⟨rfl,hw⟩
      have HX:=hd_ (chg_eq HX.out hw)
      clear hw y0 y1 y2 y3 y4 y5 y6 y7
      obtain ⟨y0,y1,y2,y3,y4,y5,y6,y7⟩:=pk_kept HB0.out HX.out
      go_wp2_with fail
      refine (within_t 1 4294967296 [g] _ 1 1 _ _ rfl (rds_new1 _ _ _ _ _ rfl _ _ rfl rfl) (by decide)).mono ?_
      rw [HB3.out]
      rintro e w4 ⟨rfl,hw⟩
      have HX:=hd_ (chg_eq HX.out hw)
      clear hw y0 y1 y2 y3 y4 y5 y6 y7
      obtain ⟨y0,y1,y2,y3,y4,y5,y6,y7⟩:=pk_kept HB0.out HX.out
      go_wp2_with fail
      refine (within_t 0 1099511627776 [i] _ 1 1 _ _ rfl (rds_new1 _ _ _ _ _ rfl _ _ rfl rfl) (by decide)).mono ?_
      rw [HB4.out]
      rintro e w5 ⟨rfl,hw⟩
      have HX:=hd_ (chg_eq HX.out hw)
      clear hw y0 y1 y2 y3 y4 y5 y6 y7
      obtain ⟨y0,y1,y2,y3,y4,y5,y6,y7⟩:=pk_kept HB0.out HX.out
      go_wp2_with fail
      go_ret
      exact ⟨rfl,HC0.out.trans HX.out (fun _ _ e=>e)⟩
     | true =>
      cases b5 with
      | false =>
       go_enter Tryz.func69,Tryz.ntmps69
       go_wp2_with fail
       refine (HGO.out _).mono ?_
       rintro e w1 ⟨rfl,hc1⟩
       obtain ⟨y0,y1,y2,y3,y4,y5,y6,y7⟩:=pk_kept HB0.out hc1
       have HX:=hd_ hc1
       clear hc1 HGO
       go_wp2_with fail
       refine (within_t 0 15 [o,f,t] _ 3 3 _ _ rfl (rds_new1 _ _ _ _ _ rfl _ _ rfl rfl) (by decide)).mono ?_
       rw [HB1.out]
       rintro e w2 ⟨rfl,hw⟩
       have HX:=hd_ (chg_eq HX.out hw)
       clear hw y0 y1 y2 y3 y4 y5 y6 y7
       obtain ⟨y0,y1,y2,y3,y4,y5,y6,y7⟩:=pk_kept HB0.out HX.out
       go_wp2_with fail
       refine (within_t 0 31 [p] _ 1 1 _ _ rfl (rds_new1 _ _ _ _ _ rfl _ _ rfl rfl) (by decide)).mono ?_
       rw [HB2.out]
       rintro e w3 ⟨rfl,hw⟩
       have HX:=hd_ (chg_eq HX.out hw)
       clear hw y0 y1 y2 y3 y4 y5 y6 y7
       obtain ⟨y0,y1,y2,y3,y4,y5,y6,y7⟩:=pk_kept HB0.out HX.out
       go_wp2_with fail
       refine (within_t 1 4294967296 [g] _ 1 1 _ _ rfl (rds_new1 _ _ _ _ _ rfl _ _ rfl rfl) (by decide)).mono ?_
       rw [HB3.out]
       rintro e w4 ⟨rfl,hw⟩
       have HX:=hd_ (chg_eq HX.out hw)
       clear hw y0 y1 y2 y3 y4 y5 y6 y7
       obtain ⟨y0,y1,y2,y3,y4,y5,y6,y7⟩:=pk_kept HB0.out HX.out
       go_wp2_with fail
       refine (within_t 0 1099511627776 [i] _ 1 1 _ _ rfl (rds_new1 _ _ _ _ _ rfl _ _ rfl rfl) (by decide)).mono ?_
       rw [HB4.out]
       rintro e w5 ⟨rfl,hw⟩
       have HX:=hd_ (chg_eq HX.out hw)
       clear hw y0 y1 y2 y3 y4 y5 y6 y7
       obtain ⟨y0,y1,y2,y3,y4,y5,y6,y7⟩:=pk_kept HB0.out HX.out
       go_wp2_with fail
       refine (within_t 14 1514 [(n : Int)] _ 1 1 _ _ rfl (rds_new1 _ _ _ _ _ rfl _ _ rfl rfl) (by decide)).mono ?_
       rw [HB5.out]
       rintro e w6 ⟨rfl,hw⟩
       have HX:=hd_ (chg_eq HX.out hw)
       clear hw y0 y1 y2 y3 y4 y5 y6 y7
       obtain ⟨y0,y1,y2,y3,y4,y5,y6,y7⟩:=pk_kept HB0.out HX.out
       go_wp2_with fail
       go_ret
       exact ⟨rfl,HC0.out.trans HX.out (fun _ _ e=>e)⟩
      | true =>
       go_enter Tryz.func69,Tryz.ntmps69
       go_wp2_with fail
       refine (HGO.out _).mono ?_
       rintro e w1 ⟨rfl,hc1⟩
       obtain ⟨y0,y1,y2,y3,y4,y5,y6,y7⟩:=pk_kept HB0.out hc1
       have HX:=hd_ hc1
       clear hc1 HGO
       go_wp2_with fail
       refine (within_t 0 15 [o,f,t] _ 3 3 _ _ rfl (rds_new1 _ _ _ _ _ rfl _ _ rfl rfl) (by decide)).mono ?_
       rw [HB1.out]
       rintro e w2 ⟨rfl,hw⟩
       have HX:=hd_ (chg_eq HX.out hw)
       clear hw y0 y1 y2 y3 y4 y5 y6 y7
       obtain ⟨y0,y1,y2,y3,y4,y5,y6,y7⟩:=pk_kept HB0.out HX.out
       go_wp2_with fail
       refine (within_t 0 31 [p] _ 1 1 _ _ rfl (rds_new1 _ _ _ _ _ rfl _ _ rfl rfl) (by decide)).mono ?_
       rw [HB2.out]
       rintro e w3 ⟨rfl,hw⟩
       have HX:=hd_ (chg_eq HX.out hw)
       clear hw y0 y1 y2 y3 y4 y5 y6 y7
       obtain ⟨y0,y1,y2,y3,y4,y5,y6,y7⟩:=pk_kept HB0.out HX.out
       go_wp2_with fail
       refine (within_t 1 4294967296 [g] _ 1 1 _ _ rfl (rds_new1 _ _ _ _ _ rfl _ _ rfl rfl) (by decide)).mono ?_
       rw [HB3.out]
       rintro e w4 ⟨rfl,hw⟩
       have HX:=hd_ (chg_eq HX.out hw)
       clear hw y0 y1 y2 y3 y4 y5 y6 y7
       obtain ⟨y0,y1,y2,y3,y4,y5,y6,y7⟩:=pk_kept HB0.out HX.out
       go_wp2_with fail
       refine (within_t 0 1099511627776 [i] _ 1 1 _ _ rfl (rds_new1 _ _ _ _ _ rfl _ _ rfl rfl) (by decide)).mono ?_
       rw [HB4.out]
       rintro e w5 ⟨rfl,hw⟩
       have HX:=hd_ (chg_eq HX.out hw)
       clear hw y0 y1 y2 y3 y4 y5 y6 y7
       obtain ⟨y0,y1,y2,y3,y4,y5,y6,y7⟩:=pk_kept HB0.out HX.out
       go_wp2_with fail
       refine (within_t 14 1514 [(n : Int)] _ 1 1 _ _ rfl (rds_new1 _ _ _ _ _ rfl _ _ rfl rfl) (by decide)).mono ?_
       rw [HB5.out]
       rintro e w6 ⟨rfl,hw⟩
       have HX:=hd_ (chg_eq HX.out hw)
       clear hw y0 y1 y2 y3 y4 y5 y6 y7
       obtain ⟨y0,y1,y2,y3,y4,y5,y6,y7⟩:=pk_kept HB0.out HX.out
       go_wp2_with fail
       go_ret
       exact ⟨rfl,HC0.out.trans HX.out (fun _ _ e=>e)⟩
def inB (x lo hi : Int) : Bool:=decide (lo ≤ x) && decide (x ≤ hi)
theorem in_any (x lo hi : Int) (w : World) : Calls Tryz.prog 79 #[int i64 x,int i64 lo,int i64 hi] w fun e w'=>e = .returned (.bool (inB x lo hi)) ∧ w = w':=by
 by_cases h : lo ≤ x
 ·have hR:=hd_ (show inB x lo hi = decide (x ≤ hi) by unfold inB; simp [h])
  go_enter Tryz.func79,Tryz.ntmps79
  go_wp2_with fail
  go_ret
  exact ⟨ret_b hR.out.symm,rfl⟩
 ·have hR:=hd_ (show inB x lo hi = false by unfold inB; simp [h])
  go_enter Tryz.func79,Tryz.ntmps79
  go_wp2_with fail
  go_ret
  exact ⟨ret_b hR.out.symm,rfl⟩
theorem fits5_any (k o f t p g i : Int) (A : Option Addr) (n c : Nat) (w : World) (hn : n ≤ 9223372036854775807) :
  Calls Tryz.prog 15 #[.agg (pkC k o f t p g i A n c)] w fun e w'=>e = .returned (.bool (decide (n ≤ 3000))) ∧ Chg (fun _=>False) w w':=by
 have hC:=(Chg.refl (fun _=>False) w).alloc (.cells #[int i64 k,int i64 o,int i64 f,int i64 t,int i64 p,int i64 g,int i64 i, .slice A n c] 37)
 unfold pkC
 go_enter Tryz.func15,Tryz.ntmps15
 go_wp2_with fail
 go_ret
 exact ⟨ret_b (by simp; try omega),hC⟩
def pkS (k o f t p g i : Int) (l : List UInt8) (k2 o2 f2 t2 p2 g2 i2 : Int) (l2 : List UInt8) : Bool:=k == k2 && (o == o2 && (f == f2 && (t == t2 && (p == p2 && (g == g2 && (i == i2 && l == l2))))))
theorem pkS_iff {k o f t p g i : Int} {l : List UInt8} {k2 o2 f2 t2 p2 g2 i2 : Int} {l2 : List UInt8} : pkS k o f t p g i l k2 o2 f2 t2 p2 g2 i2 l2 = true ↔ (k = k2 ∧ o = o2 ∧ f = f2 ∧ t = t2 ∧ p = p2 ∧ g = g2 ∧ i = i2 ∧ l = l2):=by
 unfold pkS
 simp only [Bool.and_eq_true,beq_iff_eq]
theorem tclone_nil (w : World) : Calls Tryz.prog 55 #[.slice none 0 0] w fun e w'=>e = .returned (.slice none 0 0) ∧ w = w':=by
 have he:=fun W : World=>Lib.run_eql_slice_nil (P:=Tryz.prog) W 31 5 none 0 0 0 0 Tryz.underlying31
 go_enter Tryz.func55,Tryz.ntmps55
 go_wp2
 go_ret
 exact ⟨rfl,rfl⟩
theorem tclone_some (a : Addr) (n c : Nat) (bs : List UInt8) (S : Nat → Prop) (w : World) (hn : n = bs.length) (h : Rds w S (some a) n (bcs bs)) (hbig : n ≤ 140737488355328) :
  Calls Tryz.prog 55 #[.slice (some a) n c] w fun e w' => ∃ A' c',e = .returned (.slice A' n c') ∧
   w'.ownsRow w.heap.size 5 1 (.slice A' n c') n (bcs bs) ∧ Chg (fun _=>False) w w':=by
 obtain ⟨i0,hi0,hz0,hz1,hz2⟩:=info_parts infoByte
 have HN:=hd_ hn
 clear hn
 have he:=fun W : World=>Lib.run_eql_slice_nil (P:=Tryz.prog) W 31 5 (some a) n c 0 0 Tryz.underlying31
 go_enter Tryz.func55,Tryz.ntmps55
 have hmade:=World.ownsRow_made (e:=5) (size:=1) w #[] 0 (Nat.le_refl _) (by decide) rfl
 go_wp2_with (at_builtin; refine wpList_own_append _ rfl (.tmp 5) (.tmp 6) 31 rfl w.heap.size 5 i0 (int .u8 0) 1 Tryz.underlying31 hi0 hz0 hz1 hz2 rfl (.slice (some ⟨w.heap.size,0,none⟩) 0 0) 0 [] rfl hmade S (some a) n c (bcs bs) rfl (h.alloc _) (bcs_one bs) (by unfold maxLen; omega) (by omega) (by simp) ?_; intro v' w' hown' hg hat; obtain ⟨A3,c3,rfl,_,_⟩:=own_form hown')
 go_ret
 refine ⟨A3,c3,by simp,by simpa using hown', ?_⟩
 exact ((Chg.refl _ w).alloc _).grown hg (fun k hk hlt=>by simp only [Value.ownBlock,Option.some.injEq] at hk; subst hk; exact absurd hlt (Nat.lt_irrefl _))
theorem tclone_any (A : Option Addr) (n c : Nat) (bs : List UInt8) (S : Nat → Prop) (w : World) (hn : n = bs.length) (h : Rds w S A n (bcs bs)) (hz : A = none → c = 0) (hbig : n ≤ 140737488355328) :
    Calls Tryz.prog 55 #[.slice A n c] w fun e w' => ∃ A' c', e = .returned (.slice A' n c') ∧
      w'.ownsRow w.heap.size 5 1 (.slice A' n c') n (bcs bs) ∧ Chg (fun _ => False) w w' := by
  rcases A with _ | a
  · have h0 : n = 0 := by
      rcases Nat.eq_zero_or_pos n with h0 | h0
      · exact h0
      · obtain ⟨ad, e, _⟩ := h.2 h0
        cases e
    have hc := hz rfl
    subst hc
    subst h0
    have hb : bs = [] := List.eq_nil_of_length_eq_zero hn.symm
    subst hb
    refine (tclone_nil w).mono ?_
    rintro e w' ⟨rfl, rfl⟩
    exact ⟨none, 0, rfl, World.ownsRow_nil w _ _ _, Chg.refl _ _⟩
  · exact tclone_some a n c bs S w hn h hbig
theorem pkR_parts {k o f t p g i : Int} {n : Nat} (h : pkR k o f t p g i n = true) : (k = 1 ∨ k = 2) ∧ (0 ≤ o ∧ o ≤ 15) ∧ (0 ≤ f ∧ f ≤ 15) ∧ (0 ≤ t ∧ t ≤ 15) ∧ (0 ≤ p ∧ p ≤ 31) ∧ (1 ≤ g ∧ g ≤ 4294967296) ∧ (0 ≤ i ∧ i ≤ 1099511627776) ∧ (14 ≤ n ∧ n ≤ 1514) ∧ goB k o f t = true:=by
 unfold pkR withinB at h
 simp only [List.all_cons,List.all_nil,Bool.and_true,Bool.and_eq_true,decide_eq_true_eq] at h
 obtain ⟨hg,⟨h1,h2,h3⟩,h4,h5,h6,h7⟩:=h
 refine ⟨?_,h1,h2,h3,h4,h5,h6,by omega,hg⟩
 unfold goB at hg
 simp only [Bool.and_eq_true,Bool.or_eq_true,beq_iff_eq] at hg
 omega
theorem pk_put {w : World} {r : Nat} {T : TypeId} {k o f t p g i : Int} {A : Option Addr} {n c : Nat} (hb : Blk w r T (pkC k o f t p g i A n c)) (k' o' f' t' p' g' i' : Int) (A' : Option Addr) (n' c' : Nat) :
  (w.setCell ⟨r,0,none⟩ (int i64 k')).cell? ⟨r,0,none⟩ = some (int i64 k') ∧
  ((w.setCell ⟨r,0,none⟩ (int i64 k')).setCell ⟨r,1,none⟩ (int i64 o')).cell? ⟨r,1,none⟩ = some (int i64 o') ∧
  (((w.setCell ⟨r,0,none⟩ (int i64 k')).setCell ⟨r,1,none⟩ (int i64 o')).setCell ⟨r,2,none⟩ (int i64 f')).cell? ⟨r,2,none⟩ = some (int i64 f') ∧
  ((((w.setCell ⟨r,0,none⟩ (int i64 k')).setCell ⟨r,1,none⟩ (int i64 o')).setCell ⟨r,2,none⟩ (int i64 f')).setCell ⟨r,3,none⟩ (int i64 t')).cell? ⟨r,3,none⟩ = some (int i64 t') ∧
  (((((w.setCell ⟨r,0,none⟩ (int i64 k')).setCell ⟨r,1,none⟩ (int i64 o')).setCell ⟨r,2,none⟩ (int i64 f')).setCell ⟨r,3,none⟩ (int i64 t')).setCell ⟨r,4,none⟩ (int i64 p')).cell? ⟨r,4,none⟩ = some (int i64 p') ∧
  ((((((w.setCell ⟨r,0,none⟩ (int i64 k')).setCell ⟨r,1,none⟩ (int i64 o')).setCell ⟨r,2,none⟩ (int i64 f')).setCell ⟨r,3,none⟩ (int i64 t')).setCell ⟨r,4,none⟩ (int i64 p')).setCell ⟨r,5,none⟩ (int i64 g')).cell? ⟨r,5,none⟩ = some (int i64 g') ∧
  (((((((w.setCell ⟨r,0,none⟩ (int i64 k')).setCell ⟨r,1,none⟩ (int i64 o')).setCell ⟨r,2,none⟩ (int i64 f')).setCell ⟨r,3,none⟩ (int i64 t')).setCell ⟨r,4,none⟩ (int i64 p')).setCell ⟨r,5,none⟩ (int i64 g')).setCell ⟨r,6,none⟩ (int i64 i')).cell? ⟨r,6,none⟩ = some (int i64 i') ∧
  ((((((((w.setCell ⟨r,0,none⟩ (int i64 k')).setCell ⟨r,1,none⟩ (int i64 o')).setCell ⟨r,2,none⟩ (int i64 f')).setCell ⟨r,3,none⟩ (int i64 t')).setCell ⟨r,4,none⟩ (int i64 p')).setCell ⟨r,5,none⟩ (int i64 g')).setCell ⟨r,6,none⟩ (int i64 i')).setCell ⟨r,7,none⟩ (.slice A' n' c')).cell? ⟨r,7,none⟩ = some (.slice A' n' c') ∧
  Blk ((((((((w.setCell ⟨r,0,none⟩ (int i64 k')).setCell ⟨r,1,none⟩ (int i64 o')).setCell ⟨r,2,none⟩ (int i64 f')).setCell ⟨r,3,none⟩ (int i64 t')).setCell ⟨r,4,none⟩ (int i64 p')).setCell ⟨r,5,none⟩ (int i64 g')).setCell ⟨r,6,none⟩ (int i64 i')).setCell ⟨r,7,none⟩ (.slice A' n' c')) r T (pkC k' o' f' t' p' g' i' A' n' c') ∧ Chg (fun k=>k = r) w ((((((((w.setCell ⟨r,0,none⟩ (int i64 k')).setCell ⟨r,1,none⟩ (int i64 o')).setCell ⟨r,2,none⟩ (int i64 f')).setCell ⟨r,3,none⟩ (int i64 t')).setCell ⟨r,4,none⟩ (int i64 p')).setCell ⟨r,5,none⟩ (int i64 g')).setCell ⟨r,6,none⟩ (int i64 i')).setCell ⟨r,7,none⟩ (.slice A' n' c')):=by
 have h0:=(hb.set 0 (int i64 k'))
 have r0:=h0.cell 0
 have h1:=((hb.set 0 (int i64 k')).set 1 (int i64 o'))
 have r1:=h1.cell 1
 have h2:=(((hb.set 0 (int i64 k')).set 1 (int i64 o')).set 2 (int i64 f'))
 have r2:=h2.cell 2
 have h3:=((((hb.set 0 (int i64 k')).set 1 (int i64 o')).set 2 (int i64 f')).set 3 (int i64 t'))
 have r3:=h3.cell 3
 have h4:=(((((hb.set 0 (int i64 k')).set 1 (int i64 o')).set 2 (int i64 f')).set 3 (int i64 t')).set 4 (int i64 p'))
 have r4:=h4.cell 4
 have h5:=((((((hb.set 0 (int i64 k')).set 1 (int i64 o')).set 2 (int i64 f')).set 3 (int i64 t')).set 4 (int i64 p')).set 5 (int i64 g'))
 have r5:=h5.cell 5
 have h6:=(((((((hb.set 0 (int i64 k')).set 1 (int i64 o')).set 2 (int i64 f')).set 3 (int i64 t')).set 4 (int i64 p')).set 5 (int i64 g')).set 6 (int i64 i'))
 have r6:=h6.cell 6
 have h7:=((((((((hb.set 0 (int i64 k')).set 1 (int i64 o')).set 2 (int i64 f')).set 3 (int i64 t')).set 4 (int i64 p')).set 5 (int i64 g')).set 6 (int i64 i')).set 7 (.slice A' n' c'))
 have r7:=h7.cell 7
 simp only [pkC,List.setIfInBounds_toArray,List.set_cons_succ,List.set_cons_zero,List.getElem?_toArray,List.getElem?_cons_zero,List.getElem?_cons_succ] at r0 r1 r2 r3 r4 r5 r6 r7 h7
 exact ⟨r0,r1,r2,r3,r4,r5,r6,r7,h7,((((((((Chg.refl (fun k=>k = r) w).put r 0 (fun _=>rfl) _).put r 1 (fun _=>rfl) _).put r 2 (fun _=>rfl) _).put r 3 (fun _=>rfl) _).put r 4 (fun _=>rfl) _).put r 5 (fun _=>rfl) _).put r 6 (fun _=>rfl) _).put r 7 (fun _=>rfl) _⟩
theorem pk_free {w : World} {r : Nat} {T : TypeId} {cs : Array Value} (hb : Blk w r T cs) : w.frozen? ⟨r,0,none⟩ = false ∧ w.frozen? ⟨r,1,none⟩ = false ∧ w.frozen? ⟨r,2,none⟩ = false ∧ w.frozen? ⟨r,3,none⟩ = false ∧ w.frozen? ⟨r,4,none⟩ = false ∧ w.frozen? ⟨r,5,none⟩ = false ∧ w.frozen? ⟨r,6,none⟩ = false ∧ w.frozen? ⟨r,7,none⟩ = false :=
 ⟨hb.frozen 0,hb.frozen 1,hb.frozen 2,hb.frozen 3,hb.frozen 4,hb.frozen 5,hb.frozen 6,hb.frozen 7⟩
def zeroP : Value := .agg (pkC 0 0 0 0 0 0 0 none 0 0)
def Hd (k o f t p g i : Int) (m : List UInt8) (x : Int) (w : World) (e : Ending) (w' : World) : Prop :=
 ∃ A c,e = .returned (.tuple #[.agg (pkC k o f t p g i A m.length c),int i64 x]) ∧ (A = none → c = 0) ∧ Rds w' (fun _=>True) A m.length (bcs m) ∧ Chg (fun _=>False) w w'
theorem hd_no {w w' : World} {e : Ending} {x : Int} (h : e = .returned (.tuple #[zeroP,int i64 x]) ∧ Chg (fun _=>False) w w') : Hd 0 0 0 0 0 0 0 [] x w e w' :=
 ⟨none,0,h.1,fun _=>rfl,Rds.nil _ _ _,h.2⟩
theorem tag_arg (k o f t p g i tz gen : Int) (A : Option Addr) (n c : Nat) (w : World) (hn : n ≤ 9223372036854775807) (hr : pkR k o f t p g i n = false) :
  Calls Tryz.prog 116 #[.agg (pkC k o f t p g i A n c),int i64 tz,int i64 gen] w fun e w'=>e = .returned (.tuple #[zeroP,int i64 1]) ∧ Chg (fun _=>False) w w':=by
 have hC0:=((Chg.refl (fun _=>False) w).alloc (.cells #[int i64 k,int i64 o,int i64 f,int i64 t,int i64 p,int i64 g,int i64 i, .slice A n c] 37)).alloc (.cells #[int i64 0,int i64 0,int i64 0,int i64 0,int i64 0,int i64 0,int i64 0, .slice none 0 0] 37)
 have hQ0 : Blk ((w.alloc (.cells #[int i64 k,int i64 o,int i64 f,int i64 t,int i64 p,int i64 g,int i64 i, .slice A n c] 37)).alloc (.cells #[int i64 0,int i64 0,int i64 0,int i64 0,int i64 0,int i64 0,int i64 0, .slice none 0 0] 37)) w.heap.size 37 (pkC k o f t p g i A n c):=(blk_new rfl).alloc _
 have hR0 : Blk ((w.alloc (.cells #[int i64 k,int i64 o,int i64 f,int i64 t,int i64 p,int i64 g,int i64 i, .slice A n c] 37)).alloc (.cells #[int i64 0,int i64 0,int i64 0,int i64 0,int i64 0,int i64 0,int i64 0, .slice none 0 0] 37)) (w.heap.size + 1) 37 (pkC 0 0 0 0 0 0 0 none 0 0):=blk_new (by simp)
 have hrt:=fun W=>tright_any k o f t p g i A n c W hn
 have HC0:=hd_ hC0
 have HQ0:=hd_ hQ0
 have HR0:=hd_ hR0
 rw [hr] at hrt
 have HRT:=hd_ hrt
 clear hC0 hQ0 hR0 hrt hr
 unfold pkC at HRT ⊢
 go_enter Tryz.func116,Tryz.ntmps116
 go_wp2_with fail
 refine (HRT.out _).mono ?_
 rintro e w1 ⟨rfl,hc1⟩
 have hC:=HC0.out.trans hc1 (fun _ _ e=>e)
 have hQ:=HQ0.out.chg hc1 id
 have hR:=HR0.out.chg hc1 id
 clear hc1 HC0 HQ0 HR0
 obtain ⟨x0,x1,x2,x3,x4,x5,x6,x7⟩:=pk_cells hR
 obtain ⟨u0,u1,u2,u3,u4,u5,u6,u7⟩:=pk_free hR
 obtain ⟨r0,r1,r2,r3,r4,r5,r6,r7,_,hcs⟩:=pk_put hR 0 0 0 0 0 0 0 none 0 0
 have HF:=hd_ (fresh_set hC hcs (Nat.le_succ _))
 have RR:=hd_ (And.intro r0 (And.intro r1 (And.intro r2 (And.intro r3 (And.intro r4 (And.intro r5 (And.intro r6 r7)))))))
 clear r0 r1 r2 r3 r4 r5 r6 r7 hcs hR hC
 go_wp2_with fail
 obtain ⟨r0,r1,r2,r3,r4,r5,r6,r7⟩:=RR.out
 exact bodyPost_ret (v := .tuple #[zeroP,int i64 1]) (by simp [results,Tryz.results116,go_sem,zeroP,pkC,r0,r1,r2,r3,r4,r5,r6,r7]) rfl ⟨rfl,HF.out⟩
theorem tag_state (k o f t p g i tz gen : Int) (A : Option Addr) (n c : Nat) (w : World) (hn : n ≤ 9223372036854775807) (hr : pkR k o f t p g i n = true) (hk : k = 2) :
  Calls Tryz.prog 116 #[.agg (pkC k o f t p g i A n c),int i64 tz,int i64 gen] w fun e w'=>e = .returned (.tuple #[zeroP,int i64 8]) ∧ Chg (fun _=>False) w w':=by
 subst hk
 have hC0:=((Chg.refl (fun _=>False) w).alloc (.cells #[int i64 2,int i64 o,int i64 f,int i64 t,int i64 p,int i64 g,int i64 i, .slice A n c] 37)).alloc (.cells #[int i64 0,int i64 0,int i64 0,int i64 0,int i64 0,int i64 0,int i64 0, .slice none 0 0] 37)
 have hQ0 : Blk ((w.alloc (.cells #[int i64 2,int i64 o,int i64 f,int i64 t,int i64 p,int i64 g,int i64 i, .slice A n c] 37)).alloc (.cells #[int i64 0,int i64 0,int i64 0,int i64 0,int i64 0,int i64 0,int i64 0, .slice none 0 0] 37)) w.heap.size 37 (pkC 2 o f t p g i A n c):=(blk_new rfl).alloc _
 have hR0 : Blk ((w.alloc (.cells #[int i64 2,int i64 o,int i64 f,int i64 t,int i64 p,int i64 g,int i64 i, .slice A n c] 37)).alloc (.cells #[int i64 0,int i64 0,int i64 0,int i64 0,int i64 0,int i64 0,int i64 0, .slice none 0 0] 37)) (w.heap.size + 1) 37 (pkC 0 0 0 0 0 0 0 none 0 0):=blk_new (by simp)
 have hrt:=fun W=>tright_any 2 o f t p g i A n c W hn
 have HC0:=hd_ hC0
 have HQ0:=hd_ hQ0
 have HR0:=hd_ hR0
 rw [hr] at hrt
 have HRT:=hd_ hrt
 clear hC0 hQ0 hR0 hrt hr
 unfold pkC at HRT ⊢
 go_enter Tryz.func116,Tryz.ntmps116
 go_wp2_with fail
 refine (HRT.out _).mono ?_
 rintro e w1 ⟨rfl,hc1⟩
 have hC:=HC0.out.trans hc1 (fun _ _ e=>e)
 have hQ:=HQ0.out.chg hc1 id
 have hR:=HR0.out.chg hc1 id
 clear hc1 HC0 HQ0 HR0
 obtain ⟨y0,y1,y2,y3,y4,y5,y6,y7⟩:=pk_cells hQ
 obtain ⟨x0,x1,x2,x3,x4,x5,x6,x7⟩:=pk_cells hR
 obtain ⟨u0,u1,u2,u3,u4,u5,u6,u7⟩:=pk_free hR
 obtain ⟨r0,r1,r2,r3,r4,r5,r6,r7,_,hcs⟩:=pk_put hR 0 0 0 0 0 0 0 none 0 0
 have HF:=hd_ (fresh_set hC hcs (Nat.le_succ _))
 have RR:=hd_ (And.intro r0 (And.intro r1 (And.intro r2 (And.intro r3 (And.intro r4 (And.intro r5 (And.intro r6 r7)))))))
 clear r0 r1 r2 r3 r4 r5 r6 r7 hcs hR hC
 go_wp2_with fail
 obtain ⟨r0,r1,r2,r3,r4,r5,r6,r7⟩:=RR.out
 exact bodyPost_ret (v := .tuple #[zeroP,int i64 8]) (by simp [results,Tryz.results116,go_sem,zeroP,pkC,r0,r1,r2,r3,r4,r5,r6,r7]) rfl ⟨rfl,HF.out⟩
theorem tag_gen (k o f t p g i tz gen : Int) (A : Option Addr) (n c : Nat) (w : World) (hn : n ≤ 9223372036854775807) (hr : pkR k o f t p g i n = true) (hk : k ≠ 2) (hr2 : pkR 2 o t tz p gen i n = false) :
  Calls Tryz.prog 116 #[.agg (pkC k o f t p g i A n c),int i64 tz,int i64 gen] w fun e w'=>e = .returned (.tuple #[zeroP,int i64 1]) ∧ Chg (fun _=>False) w w':=by
 have hC0:=((Chg.refl (fun _=>False) w).alloc (.cells #[int i64 k,int i64 o,int i64 f,int i64 t,int i64 p,int i64 g,int i64 i, .slice A n c] 37)).alloc (.cells #[int i64 0,int i64 0,int i64 0,int i64 0,int i64 0,int i64 0,int i64 0, .slice none 0 0] 37)
 have hQ0 : Blk ((w.alloc (.cells #[int i64 k,int i64 o,int i64 f,int i64 t,int i64 p,int i64 g,int i64 i, .slice A n c] 37)).alloc (.cells #[int i64 0,int i64 0,int i64 0,int i64 0,int i64 0,int i64 0,int i64 0, .slice none 0 0] 37)) w.heap.size 37 (pkC k o f t p g i A n c):=(blk_new rfl).alloc _
 have hR0 : Blk ((w.alloc (.cells #[int i64 k,int i64 o,int i64 f,int i64 t,int i64 p,int i64 g,int i64 i, .slice A n c] 37)).alloc (.cells #[int i64 0,int i64 0,int i64 0,int i64 0,int i64 0,int i64 0,int i64 0, .slice none 0 0] 37)) (w.heap.size + 1) 37 (pkC 0 0 0 0 0 0 0 none 0 0):=blk_new (by simp)
 have hrt:=fun W=>tright_any k o f t p g i A n c W hn
 have HC0:=hd_ hC0
 have HQ0:=hd_ hQ0
 have HR0:=hd_ hR0
 have hrt2:=fun W=>tright_any 2 o t tz p gen i A n c W hn
 rw [hr] at hrt
 rw [hr2] at hrt2
 have HRT:=hd_ hrt
 have HRT2:=hd_ hrt2
 have k2 : (k == 2) = false:=by simpa using hk
 clear hC0 hQ0 hR0 hrt hrt2 hr hr2 hk
 unfold pkC at HRT HRT2 ⊢
 go_enter Tryz.func116,Tryz.ntmps116
 go_wp2_with fail
 refine (HRT.out _).mono ?_
 rintro e w1 ⟨rfl,hc1⟩
 have hC:=HC0.out.trans hc1 (fun _ _ e=>e)
 have hQ:=HQ0.out.chg hc1 id
 have hR:=HR0.out.chg hc1 id
 clear hc1 HC0 HQ0 HR0
 obtain ⟨y0,y1,y2,y3,y4,y5,y6,y7⟩:=pk_cells hQ
 obtain ⟨f0,f1,f2,f3,f4,f5,f6,f7⟩:=pk_free hQ
 have hset:=(((hQ.set 0 (int i64 2)).set 2 (int i64 t)).set 3 (int i64 tz)).set 5 (int i64 gen)
 simp only [pkC,List.setIfInBounds_toArray,List.set_cons_succ,List.set_cons_zero] at hset
 have hset : Blk _ _ 37 (pkC 2 o t tz p gen i A n c):=hset
 have hcs:=((((Chg.refl (fun k=>k = w.heap.size) w1).put w.heap.size 0 (fun _=>rfl) (int i64 2)).put w.heap.size 2 (fun _=>rfl) (int i64 t)).put w.heap.size 3 (fun _=>rfl) (int i64 tz)).put w.heap.size 5 (fun _=>rfl) (int i64 gen)
 have HC:=hd_ (fresh_set hC hcs (Nat.le_refl _))
 have HR:=hd_ (hR.chg hcs (by omega))
 have HQ:=hd_ hset
 clear hset hcs hC hR hQ
 go_wp2_with fail
 refine (HRT2.out _).mono ?_
 rintro e w2 ⟨rfl,hc2⟩
 have hC:=HC.out.trans hc2 (fun _ _ e=>e)
 have hQ:=HQ.out.chg hc2 id
 have hR:=HR.out.chg hc2 id
 clear hc2 HC HQ HR y0 y1 y2 y3 y4 y5 y6 y7 f0 f1 f2 f3 f4 f5 f6 f7
 obtain ⟨x0,x1,x2,x3,x4,x5,x6,x7⟩:=pk_cells hR
 obtain ⟨u0,u1,u2,u3,u4,u5,u6,u7⟩:=pk_free hR
 obtain ⟨r0,r1,r2,r3,r4,r5,r6,r7,_,hcs⟩:=pk_put hR 0 0 0 0 0 0 0 none 0 0
 have HF:=hd_ (fresh_set hC hcs (Nat.le_succ _))
 have RR:=hd_ (And.intro r0 (And.intro r1 (And.intro r2 (And.intro r3 (And.intro r4 (And.intro r5 (And.intro r6 r7)))))))
 clear r0 r1 r2 r3 r4 r5 r6 r7 hcs hR hC
 go_wp2_with fail
 obtain ⟨r0,r1,r2,r3,r4,r5,r6,r7⟩:=RR.out
 exact bodyPost_ret (v := .tuple #[zeroP,int i64 1]) (by simp [results,Tryz.results116,go_sem,zeroP,pkC,r0,r1,r2,r3,r4,r5,r6,r7]) rfl ⟨rfl,HF.out⟩
theorem tag_ok (k o f t p g i tz gen : Int) (A : Option Addr) (n c : Nat) (w : World) (hn : n ≤ 9223372036854775807) (l : List UInt8) (S : Nat → Prop) (hl : n = l.length) (h : Rds w S A n (bcs l)) (hz : A = none → c = 0) (hr : pkR k o f t p g i n = true) (hk : k ≠ 2) (hr2 : pkR 2 o t tz p gen i n = true) :
  Calls Tryz.prog 116 #[.agg (pkC k o f t p g i A n c),int i64 tz,int i64 gen] w (Hd 2 o t tz p gen i l 0 w):=by
 have hC0:=((Chg.refl (fun _=>False) w).alloc (.cells #[int i64 k,int i64 o,int i64 f,int i64 t,int i64 p,int i64 g,int i64 i, .slice A n c] 37)).alloc (.cells #[int i64 0,int i64 0,int i64 0,int i64 0,int i64 0,int i64 0,int i64 0, .slice none 0 0] 37)
 have hQ0 : Blk ((w.alloc (.cells #[int i64 k,int i64 o,int i64 f,int i64 t,int i64 p,int i64 g,int i64 i, .slice A n c] 37)).alloc (.cells #[int i64 0,int i64 0,int i64 0,int i64 0,int i64 0,int i64 0,int i64 0, .slice none 0 0] 37)) w.heap.size 37 (pkC k o f t p g i A n c):=(blk_new rfl).alloc _
 have hR0 : Blk ((w.alloc (.cells #[int i64 k,int i64 o,int i64 f,int i64 t,int i64 p,int i64 g,int i64 i, .slice A n c] 37)).alloc (.cells #[int i64 0,int i64 0,int i64 0,int i64 0,int i64 0,int i64 0,int i64 0, .slice none 0 0] 37)) (w.heap.size + 1) 37 (pkC 0 0 0 0 0 0 0 none 0 0):=blk_new (by simp)
 have hrt:=fun W=>tright_any k o f t p g i A n c W hn
 have HC0:=hd_ hC0
 have HQ0:=hd_ hQ0
 have HR0:=hd_ hR0
 have HN2:=hd_ (pkR_parts hr).2.2.2.2.2.2.2.1
 have HL:=hd_ hl
 have HH:=hd_ h
 have HZ0:=hd_ hz
 clear hl h hz
 have hrt2:=fun W=>tright_any 2 o t tz p gen i A n c W hn
 rw [hr] at hrt
 rw [hr2] at hrt2
 have HRT:=hd_ hrt
 have HRT2:=hd_ hrt2
 have k2 : (k == 2) = false:=by simpa using hk
 clear hC0 hQ0 hR0 hrt hrt2 hr hr2 hk
 unfold pkC at HRT HRT2 ⊢
 go_enter Tryz.func116,Tryz.ntmps116
 go_wp2_with fail
 refine (HRT.out _).mono ?_
 rintro e w1 ⟨rfl,hc1⟩
 have hC:=HC0.out.trans hc1 (fun _ _ e=>e)
 have hQ:=HQ0.out.chg hc1 id
 have hR:=HR0.out.chg hc1 id
 clear hc1 HC0 HQ0 HR0
 obtain ⟨y0,y1,y2,y3,y4,y5,y6,y7⟩:=pk_cells hQ
 obtain ⟨f0,f1,f2,f3,f4,f5,f6,f7⟩:=pk_free hQ
 have hset:=(((hQ.set 0 (int i64 2)).set 2 (int i64 t)).set 3 (int i64 tz)).set 5 (int i64 gen)
 simp only [pkC,List.setIfInBounds_toArray,List.set_cons_succ,List.set_cons_zero] at hset
 have hset : Blk _ _ 37 (pkC 2 o t tz p gen i A n c):=hset
 have hcs:=((((Chg.refl (fun k=>k = w.heap.size) w1).put w.heap.size 0 (fun _=>rfl) (int i64 2)).put w.heap.size 2 (fun _=>rfl) (int i64 t)).put w.heap.size 3 (fun _=>rfl) (int i64 tz)).put w.heap.size 5 (fun _=>rfl) (int i64 gen)
 have HC:=hd_ (fresh_set hC hcs (Nat.le_refl _))
 have HR:=hd_ (hR.chg hcs (by omega))
 have HQ:=hd_ hset
 clear hset hcs hC hR hQ
 go_wp2_with fail
 refine (HRT2.out _).mono ?_
 rintro e w2 ⟨rfl,hc2⟩
 have hC:=HC.out.trans hc2 (fun _ _ e=>e)
 have hQ:=HQ.out.chg hc2 id
 have hR:=HR.out.chg hc2 id
 clear hc2 HC HQ HR y0 y1 y2 y3 y4 y5 y6 y7 f0 f1 f2 f3 f4 f5 f6 f7
 obtain ⟨y0,y1,y2,y3,y4,y5,y6,y7⟩:=pk_cells hQ
 obtain ⟨f0,f1,f2,f3,f4,f5,f6,f7⟩:=pk_free hQ
 have HC:=hd_ hC
 have HQ:=hd_ hQ
 have HR:=hd_ hR
 have HCL:=hd_ (tclone_any A n c l S w2 HL.out (HH.out.chg hC (fun _ _=>id)) HZ0.out (by have:=HN2.out; omega))
 clear hC hQ hR
 go_wp2_with fail
 refine HCL.out.mono ?_
 rintro e w3 ⟨D,dc,rfl,hown,hc3⟩
 have hC:=HC.out.trans hc3 (fun _ _ e=>e)
 have hQ:=HQ.out.chg hc3 id
 have hR:=HR.out.chg hc3 id
 clear y0 y1 y2 y3 y4 y5 y6 y7 f0 f1 f2 f3 f4 f5 f6 f7
 obtain ⟨y0,y1,y2,y3,y4,y5,y6,y7⟩:=pk_cells hQ
 obtain ⟨f0,f1,f2,f3,f4,f5,f6,f7⟩:=pk_free hQ
 have hset:=hQ.set 7 (.slice D n dc)
 simp only [pkC,List.setIfInBounds_toArray,List.set_cons_succ,List.set_cons_zero] at hset
 have hcs:=(Chg.refl (fun k=>k = w.heap.size) w3).put w.heap.size 7 (fun _=>rfl) (.slice D n dc)
 have hC:=fresh_set hC hcs (Nat.le_refl _)
 have hR:=hR.chg hcs (by omega)
 have hrd:=((own_rds2 hown).mono (S':=fun k=>w2.heap.size ≤ k) (fun k hk=>hk.1)).chg hcs (fun k hk e=>by have:=HC.out.size; have:=HR.out.lt; omega)
 obtain ⟨x0,x1,x2,x3,x4,x5,x6,x7⟩:=pk_cells hR
 obtain ⟨u0,u1,u2,u3,u4,u5,u6,u7⟩:=pk_free hR
 obtain ⟨r0,r1,r2,r3,r4,r5,r6,r7,_,hcs2⟩:=pk_put hR 2 o t tz p gen i D n dc
 have hF:=fresh_set hC hcs2 (Nat.le_succ _)
 have hrd2:=hrd.chg hcs2 (fun k hk e=>by have:=HR.out.lt; omega)
 have HF : Hid (Hd 2 o t tz p gen i l 0 w (.returned (.tuple #[.agg (pkC 2 o t tz p gen i D n dc),int i64 0])) _):=⟨D,dc,by rw [HL.out],own_nil hown,by rw [← HL.out]; exact hrd2.mono (fun _ _=>trivial),hF⟩
 have RR:=hd_ (And.intro r0 (And.intro r1 (And.intro r2 (And.intro r3 (And.intro r4 (And.intro r5 (And.intro r6 r7)))))))
 clear r0 r1 r2 r3 r4 r5 r6 r7 hcs2 hF hrd hrd2 hR hC hset hcs hQ hown hc3 HC HQ HR HCL
 go_wp2_with fail
 obtain ⟨r0,r1,r2,r3,r4,r5,r6,r7⟩:=RR.out
 exact bodyPost_ret (v := .tuple #[.agg (pkC 2 o t tz p gen i D n dc),int i64 0]) (by simp [results,Tryz.results116,go_sem,pkC,r0,r1,r2,r3,r4,r5,r6,r7]) rfl HF.out
theorem fits_w (n : Nat) {x : Int} (h : 0 ≤ x) (h2 : x < 256 ^ n) : fits n x = true:=by
 unfold fits
 simp only [Bool.and_eq_true,decide_eq_true_eq]
 exact ⟨h,h2⟩
def Mk5 (m : List UInt8) (x : Int) (w : World) (e : Ending) (w' : World) : Prop :=
 ∃ A c,e = .returned (.tuple #[.slice A m.length c,int i64 x]) ∧ w'.ownsRow w.heap.size 5 1 (.slice A m.length c) m.length (bcs m) ∧ Chg (fun _=>False) w w'
theorem mk5_no {w w' : World} {e : Ending} (h : e = .returned (.tuple #[.slice none 0 0,int i64 1]) ∧ Chg (fun _=>False) w w') : Mk5 [] 1 w e w' :=
 ⟨none,0,h.1,World.ownsRow_nil _ _ _ _,h.2⟩
theorem wat_bytes5 (p N : Nat) (st : Option (List UInt8)) (A : Option Addr) (n c : Nat) (l : List UInt8) (S : Nat → Prop) (w0 w1 W : World) (hN : N + 8 + n ≤ 1000000) (h : Wat w1 p st N W) (hn : n = l.length) (hr : Rds w0 S A n (bcs l)) (h01 : Chg (fun _=>False) w0 w1) :
  Calls Tryz.prog 77 #[.pointer (some ⟨p,0,none⟩), .slice A n c] W fun e w'=>e = .returned (.pointer (some ⟨p,0,none⟩)) ∧ Wat w1 p (bytesS l st) (N + 8 + n) w':=by
 obtain ⟨o,hw,hC,hp,ho⟩:=h
 have hr2:=hr.old.chg (h01.trans hC (fun _ _ e=>e)) (fun _ _=>id)
 have hs:=h01.size
 refine (wbytes_any p o st N A n c l _ W hw hn hr2 (fun k hk=>⟨by have:=hk.2; omega,fun e=>by have:=ho k e; have:=hk.2; omega⟩) (by omega)).mono fun e w' ⟨he,o',hw',hm⟩ => ?_
 obtain ⟨h1,h2⟩:=fresh_mvd hC hm hp ho
 exact ⟨he,o',hw',h1,hp,h2⟩
theorem wat_done5 (p N : Nat) (b : List UInt8) (w1 W : World) (hN : N ≤ 1000000) (h : Wat w1 p (some b) N W) :
  Calls Tryz.prog 78 #[.pointer (some ⟨p,0,none⟩)] W fun e w' => ∃ A c,e = .returned (.tuple #[.slice A b.length c,int i64 0]) ∧ w'.ownsRow w1.heap.size 5 1 (.slice A b.length c) b.length (bcs b) ∧ Chg (fun _=>False) w1 w':=by
 obtain ⟨o,hw,hC,_,_⟩:=h
 refine (wdone_some p o b N W hw (by omega)).mono ?_
 rintro e w' ⟨A',k,c',rfl,rfl,hown,hc⟩
 exact ⟨A',c',rfl,own_base hown hC.size,hC.trans hc (fun _ _ e=>e)⟩
def stAt : List Nat → Option (List UInt8) → Option (List UInt8)
 | [],st=>st
 | k :: ks,st=>stAt ks (getS (k : Int) st).2
theorem get_none (n : Int) : getS n none = (0,none):=rfl
theorem get_short (l : List UInt8) (k : Nat) (h : l.length < k) : getS (k : Int) (some l) = (0,none) :=
 if_neg (fun e=>by have:=e.2.2.1; rw [Int.toNat_natCast] at this; omega)
theorem stAt_none : ∀ ks : List Nat,stAt ks none = none
 | []=>rfl
 | _ :: ks=>stAt_none ks
theorem stAt_short : ∀ (ks : List Nat) (l : List UInt8),(∀ k ∈ ks,1 ≤ k ∧ k ≤ 7) → l.length < ks.sum → stAt ks (some l) = none
 | [],l,_,h=>by simp at h
 | k :: ks,l,hk,h=>by
  have hk1:=hk k (by simp)
  rw [List.sum_cons] at h
  by_cases hl : l.length < k
  ·show stAt ks (getS (k : Int) (some l)).2 = none
   rw [get_short l k hl]
   exact stAt_none ks
  ·show stAt ks (getS (k : Int) (some l)).2 = none
   rw [get_nat l k hk1.1 hk1.2 (by omega)]
   exact stAt_short ks _ (fun x hx=>hk x (by simp [hx])) (by rw [List.length_drop]; omega)
def dW : List Nat := [1,1,1,1,1,1,5,6]
def dst (b : List UInt8) (j : Nat) : Option (List UInt8):=stAt (dW.take j) (some b)
theorem bytesR_none (n : Int) (h : 0 ≤ n) : bytesR n none = ([],none):=by
 unfold bytesR
 rw [get_none]
 rw [if_neg (by show ¬ n < 0; omega)]
 rfl
theorem nAt_pk (pre : List UInt8) (x : Int) (r : List UInt8) (i k : Nat) (hp : pre.length = i) (h : 0 ≤ x) (h2 : x < 256 ^ k) : nAt (pre ++ (be k x.toNat ++ r)) i k = x:=by
 rw [nAt_app _ _ i k hp,nAt_be _ _ _ h h2]
end Go.Proofs.YtfajcdobikjcdaaGreatDoor
end
