/-
  The cells of a row, a message and a record; may a row be? Walks: control.within, chassis, nobody, named, held, Row. Conditions: none.
-/
import Derived.Test.YtnojmbejedlilaaGreatQM1
import Derived.Deep.LoopGhost
import Derived.Laws.StructEq
import Derived.Lib.SmallJoins
import Derived.Deep.DeepCutAuto
import Derived.BigQuiet
set_option maxRecDepth 100000
set_option maxHeartbeats 40000000
set_option linter.unusedVariables false
set_option linter.unusedSimpArgs false
section
namespace Go.Proofs.YtnojmbejedlilaaGreat
open Go.Value (int)
open Go.IntKind (i64)
open Go.RowKit
def rvC (po ma ow ta ol ge ph ve si : Int) : Array Value:=#[int i64 po,int .u64 ma,int i64 ow,int i64 ta,int i64 ol,int i64 ge,int i64 ph,int i64 ve,int i64 si]
def msC (kd po ma ow ta ol ge ph ve si pt vr : Int) (A : Option Addr) (n c : Nat) : Array Value:=#[int i64 kd,int i64 po,int .u64 ma,int i64 ow,int i64 ta,int i64 ol,int i64 ge,int i64 ph,int i64 ve,int i64 si,int i64 pt,int i64 vr, .slice A n c]
def rcC (pr sr ds sp dp un : Int) : Array Value:=#[int i64 pr,int .u32 sr,int .u32 ds,int i64 sp,int i64 dp,int i64 un]
theorem chg_eq6 {S : Nat → Prop} {a w w' : World} {o : Obj} (h : Chg S a w) (e : w.alloc o = w') : Chg S a w':=e ▸ h.alloc o
theorem rv_cells {w : World} {q : Nat} {po ma ow ta ol ge ph ve si : Int} {T : TypeId} (hb : Blk w q T (rvC po ma ow ta ol ge ph ve si)) :
  w.cell? ⟨q,0,none⟩ = some (int i64 po) ∧ w.cell? ⟨q,1,none⟩ = some (int .u64 ma) ∧ w.cell? ⟨q,2,none⟩ = some (int i64 ow) ∧ w.cell? ⟨q,3,none⟩ = some (int i64 ta) ∧ w.cell? ⟨q,4,none⟩ = some (int i64 ol) ∧ w.cell? ⟨q,5,none⟩ = some (int i64 ge) ∧ w.cell? ⟨q,6,none⟩ = some (int i64 ph) ∧ w.cell? ⟨q,7,none⟩ = some (int i64 ve) ∧ w.cell? ⟨q,8,none⟩ = some (int i64 si):=by
 have x0:=hb.cell 0
 have x1:=hb.cell 1
 have x2:=hb.cell 2
 have x3:=hb.cell 3
 have x4:=hb.cell 4
 have x5:=hb.cell 5
 have x6:=hb.cell 6
 have x7:=hb.cell 7
 have x8:=hb.cell 8
 simp only [rvC,List.getElem?_toArray,List.getElem?_cons_zero,List.getElem?_cons_succ] at x0 x1 x2 x3 x4 x5 x6 x7 x8
 exact ⟨x0,x1,x2,x3,x4,x5,x6,x7,x8⟩
theorem rv_kept {w w' : World} {q : Nat} {po ma ow ta ol ge ph ve si : Int} {T : TypeId} (hb : Blk w q T (rvC po ma ow ta ol ge ph ve si)) (h : Chg (fun _=>False) w w') :
  w'.cell? ⟨q,0,none⟩ = some (int i64 po) ∧ w'.cell? ⟨q,1,none⟩ = some (int .u64 ma) ∧ w'.cell? ⟨q,2,none⟩ = some (int i64 ow) ∧ w'.cell? ⟨q,3,none⟩ = some (int i64 ta) ∧ w'.cell? ⟨q,4,none⟩ = some (int i64 ol) ∧ w'.cell? ⟨q,5,none⟩ = some (int i64 ge) ∧ w'.cell? ⟨q,6,none⟩ = some (int i64 ph) ∧ w'.cell? ⟨q,7,none⟩ = some (int i64 ve) ∧ w'.cell? ⟨q,8,none⟩ = some (int i64 si):=rv_cells (hb.chg h id)
theorem ms_cells {w : World} {q : Nat} {kd po ma ow ta ol ge ph ve si pt vr : Int} {A : Option Addr} {n c : Nat} {T : TypeId} (hb : Blk w q T (msC kd po ma ow ta ol ge ph ve si pt vr A n c)) :
  w.cell? ⟨q,0,none⟩ = some (int i64 kd) ∧ w.cell? ⟨q,1,none⟩ = some (int i64 po) ∧ w.cell? ⟨q,2,none⟩ = some (int .u64 ma) ∧ w.cell? ⟨q,3,none⟩ = some (int i64 ow) ∧ w.cell? ⟨q,4,none⟩ = some (int i64 ta) ∧ w.cell? ⟨q,5,none⟩ = some (int i64 ol) ∧ w.cell? ⟨q,6,none⟩ = some (int i64 ge) ∧ w.cell? ⟨q,7,none⟩ = some (int i64 ph) ∧ w.cell? ⟨q,8,none⟩ = some (int i64 ve) ∧ w.cell? ⟨q,9,none⟩ = some (int i64 si) ∧ w.cell? ⟨q,10,none⟩ = some (int i64 pt) ∧ w.cell? ⟨q,11,none⟩ = some (int i64 vr) ∧ w.cell? ⟨q,12,none⟩ = some (.slice A n c):=by
 have x0:=hb.cell 0
 have x1:=hb.cell 1
 have x2:=hb.cell 2
 have x3:=hb.cell 3
 have x4:=hb.cell 4
 have x5:=hb.cell 5
 have x6:=hb.cell 6
 have x7:=hb.cell 7
 have x8:=hb.cell 8
 have x9:=hb.cell 9
 have x10:=hb.cell 10
 have x11:=hb.cell 11
 have x12:=hb.cell 12
 simp only [msC,List.getElem?_toArray,List.getElem?_cons_zero,List.getElem?_cons_succ] at x0 x1 x2 x3 x4 x5 x6 x7 x8 x9 x10 x11 x12
 exact ⟨x0,x1,x2,x3,x4,x5,x6,x7,x8,x9,x10,x11,x12⟩
theorem ms_kept {w w' : World} {q : Nat} {kd po ma ow ta ol ge ph ve si pt vr : Int} {A : Option Addr} {n c : Nat} {T : TypeId} (hb : Blk w q T (msC kd po ma ow ta ol ge ph ve si pt vr A n c)) (h : Chg (fun _=>False) w w') :
  w'.cell? ⟨q,0,none⟩ = some (int i64 kd) ∧ w'.cell? ⟨q,1,none⟩ = some (int i64 po) ∧ w'.cell? ⟨q,2,none⟩ = some (int .u64 ma) ∧ w'.cell? ⟨q,3,none⟩ = some (int i64 ow) ∧ w'.cell? ⟨q,4,none⟩ = some (int i64 ta) ∧ w'.cell? ⟨q,5,none⟩ = some (int i64 ol) ∧ w'.cell? ⟨q,6,none⟩ = some (int i64 ge) ∧ w'.cell? ⟨q,7,none⟩ = some (int i64 ph) ∧ w'.cell? ⟨q,8,none⟩ = some (int i64 ve) ∧ w'.cell? ⟨q,9,none⟩ = some (int i64 si) ∧ w'.cell? ⟨q,10,none⟩ = some (int i64 pt) ∧ w'.cell? ⟨q,11,none⟩ = some (int i64 vr) ∧ w'.cell? ⟨q,12,none⟩ = some (.slice A n c):=ms_cells (hb.chg h id)
theorem rc_cells {w : World} {q : Nat} {pr sr ds sp dp un : Int} {T : TypeId} (hb : Blk w q T (rcC pr sr ds sp dp un)) :
  w.cell? ⟨q,0,none⟩ = some (int i64 pr) ∧ w.cell? ⟨q,1,none⟩ = some (int .u32 sr) ∧ w.cell? ⟨q,2,none⟩ = some (int .u32 ds) ∧ w.cell? ⟨q,3,none⟩ = some (int i64 sp) ∧ w.cell? ⟨q,4,none⟩ = some (int i64 dp) ∧ w.cell? ⟨q,5,none⟩ = some (int i64 un):=by
 have x0:=hb.cell 0
 have x1:=hb.cell 1
 have x2:=hb.cell 2
 have x3:=hb.cell 3
 have x4:=hb.cell 4
 have x5:=hb.cell 5
 simp only [rcC,List.getElem?_toArray,List.getElem?_cons_zero,List.getElem?_cons_succ] at x0 x1 x2 x3 x4 x5
 exact ⟨x0,x1,x2,x3,x4,x5⟩
theorem rc_kept {w w' : World} {q : Nat} {pr sr ds sp dp un : Int} {T : TypeId} (hb : Blk w q T (rcC pr sr ds sp dp un)) (h : Chg (fun _=>False) w w') :
  w'.cell? ⟨q,0,none⟩ = some (int i64 pr) ∧ w'.cell? ⟨q,1,none⟩ = some (int .u32 sr) ∧ w'.cell? ⟨q,2,none⟩ = some (int .u32 ds) ∧ w'.cell? ⟨q,3,none⟩ = some (int i64 sp) ∧ w'.cell? ⟨q,4,none⟩ = some (int i64 dp) ∧ w'.cell? ⟨q,5,none⟩ = some (int i64 un):=rc_cells (hb.chg h id)
def heldB (ph ow ta ol : Int) : Bool :=
 if ph = 0 then withinB 0 15 [ow] && withinB (-1) (-1) [ta,ol]
 else if ph = 1 then withinB 0 15 [ow,ta] && (!(ow == ta) && withinB (-1) (-1) [ol])
 else if ph = 2 then withinB 0 15 [ow,ol] && (!(ow == ol) && withinB (-1) (-1) [ta])
 else if ph = 3 then withinB (-1) (-1) [ow,ta,ol]
 else false
def namedB (p v : Int) : Bool:=withinB 0 31 [p] && withinB 1 1099511627776 [v]
def rwR (po ma ow ta ol ge ph ve si : Int) : Bool:=namedB po ve && (decide (ma ≤ 281474976710655) && (withinB 1 4294967296 [ge] && (withinB 0 1099511627776 [si] && heldB ph ow ta ol)))
theorem cwithin_t (lo hi : Int) (l : List Int) (A : Option Addr) (n c : Nat) (S : Nat → Prop) (w : World) (hn : n = l.length) (hr : Rds w S A n (l.map (Value.int .i64))) (hb : n ≤ 1000) :
  Calls Tryz.prog 256 #[int i64 lo,int i64 hi, .slice A n c] w fun e w'=>e = .returned (.bool (withinB lo hi l)) ∧ w = w':=by
 have HN:=hd_ hn
 clear hn
 go_in
 go_wp2
 go_loop [8,11] (fun _ i => ∃ k : Nat,k ≤ n ∧ i = int i64 k ∧ ∀ j (hj : j < l.length),j < k → lo ≤ l[j] ∧ l[j] ≤ hi) (fun _ i=>n - (intOf i).toNat)
 case atStart=>exact ⟨0,Nat.zero_le _,rfl,fun j _ h=>absurd h (Nat.not_lt_zero _)⟩
 case round =>
  obtain ⟨k,hk,rfl,hall⟩:=hrel
  have HA:=hd_ hall
  clear hall
  by_cases hlt : k < n
  ·obtain ⟨ad,rfl,_,_,hc⟩:=hr.cellAt hlt
   have hkl : k < l.length:=by have:=HN.out; omega
   rw [List.getElem?_map,List.getElem?_eq_getElem hkl] at hc
   simp only [Option.map_some] at hc
   have hv : ∃ x,x = l[k]:=⟨_,rfl⟩
   obtain ⟨x,hxe⟩:=hv
   rw [← hxe] at hc
   have HX:=hd_ hxe
   clear hxe
   by_cases h1 : x < lo
   ·go_wp2
    go_ret
    exact ⟨ret_b (within_false k hkl (by have:=HX.out; omega)).symm,rfl⟩
   ·by_cases h2 : hi < x
    ·go_wp2
     go_ret
     exact ⟨ret_b (within_false k hkl (by have:=HX.out; omega)).symm,rfl⟩
    ·go_wp2
     go_round
     case rel=>exact ⟨k + 1,by omega,by go_num,fun j hj hjk=>by
      by_cases e : j < k
      ·exact HA.out j hj e
      ·have : j = k:=by omega
       subst this
       have:=HX.out
       omega⟩
     case measure=>simp [intOf]; omega
  ·have : k = n:=by omega
   subst this
   go_wp2
   go_ret
   exact ⟨ret_b (within_true (fun j hj=>HA.out j hj (by have:=HN.out; omega))).symm,rfl⟩
theorem chassis_t (l : List Int) (A : Option Addr) (n c : Nat) (S : Nat → Prop) (w : World) (hn : n = l.length) (hr : Rds w S A n (l.map (Value.int .i64))) (hb : n ≤ 1000) :
  Calls Tryz.prog 274 #[.slice A n c] w fun e w'=>e = .returned (.bool (withinB 0 15 l)) ∧ w = w':=by
 have HW:=hd_ (cwithin_t 0 15 l A n c S w hn hr hb)
 clear hn hr
 go_in
 go_wp2_with fail
 refine HW.out.mono ?_
 rintro e w' ⟨rfl,rfl⟩
 go_wp2_with fail
 go_ret
 exact ⟨rfl,rfl⟩
theorem nobody_t (l : List Int) (A : Option Addr) (n c : Nat) (S : Nat → Prop) (w : World) (hn : n = l.length) (hr : Rds w S A n (l.map (Value.int .i64))) (hb : n ≤ 1000) :
  Calls Tryz.prog 275 #[.slice A n c] w fun e w'=>e = .returned (.bool (withinB (-1) (-1) l)) ∧ w = w':=by
 have HW:=hd_ (cwithin_t (-1) (-1) l A n c S w hn hr hb)
 clear hn hr
 go_in
 go_wp2_with fail
 refine HW.out.mono ?_
 rintro e w' ⟨rfl,rfl⟩
 go_wp2_with fail
 go_ret
 exact ⟨rfl,rfl⟩
theorem named_any (p v : Int) (w : World) : Calls Tryz.prog 227 #[int i64 p,int i64 v] w fun e w'=>e = .returned (.bool (namedB p v)) ∧ Chg (fun _=>False) w w':=by
 have HX:=hd_ (Chg.refl (fun _=>False) w)
 unfold namedB
 generalize hb1 : withinB 0 31 [p] = b1
 generalize hb2 : withinB 1 1099511627776 [v] = b2
 have HB1:=hd_ hb1
 have HB2:=hd_ hb2
 clear hb1 hb2
 cases b1 with
 | false =>
  go_in
  go_wp2_with fail
  refine (cwithin_t 0 31 [p] _ 1 1 _ _ rfl (rds_new1 _ _ _ _ _ rfl _ _ rfl rfl) (by decide)).mono ?_
  rw [HB1.out]
  rintro e w1 ⟨rfl,hw⟩
  have HX:=hd_ (chg_eq6 HX.out hw)
  clear hw
  go_wp2_with fail
  go_ret
  exact ⟨rfl,HX.out⟩
 | true =>
  go_in
  go_wp2_with fail
  refine (cwithin_t 0 31 [p] _ 1 1 _ _ rfl (rds_new1 _ _ _ _ _ rfl _ _ rfl rfl) (by decide)).mono ?_
  rw [HB1.out]
  rintro e w1 ⟨rfl,hw⟩
  have HX:=hd_ (chg_eq6 HX.out hw)
  clear hw
  go_wp2_with fail
  refine (cwithin_t 1 1099511627776 [v] _ 1 1 _ _ rfl (rds_new1 _ _ _ _ _ rfl _ _ rfl rfl) (by decide)).mono ?_
  rw [HB2.out]
  rintro e w2 ⟨rfl,hw⟩
  have HX:=hd_ (chg_eq6 HX.out hw)
  clear hw
  go_wp2_with fail
  go_ret
  exact ⟨rfl,HX.out⟩
theorem held_any (po ma ow ta ol ge ph ve si : Int) (w : World) : Calls Tryz.prog 257 #[.agg (rvC po ma ow ta ol ge ph ve si)] w fun e w'=>e = .returned (.bool (heldB ph ow ta ol)) ∧ Chg (fun _=>False) w w':=by
 have HX:=hd_ (Chg.refl (fun _=>False) (w.alloc (.cells #[int i64 po,int .u64 ma,int i64 ow,int i64 ta,int i64 ol,int i64 ge,int i64 ph,int i64 ve,int i64 si] 60)))
 have HB0 : Hid (Blk (w.alloc (.cells #[int i64 po,int .u64 ma,int i64 ow,int i64 ta,int i64 ol,int i64 ge,int i64 ph,int i64 ve,int i64 si] 60)) w.heap.size 60 (rvC po ma ow ta ol ge ph ve si)):=hd_ (blk_new rfl)
 have HC0:=hd_ ((Chg.refl (fun _=>False) w).alloc (.cells #[int i64 po,int .u64 ma,int i64 ow,int i64 ta,int i64 ol,int i64 ge,int i64 ph,int i64 ve,int i64 si] 60))
 unfold rvC
 by_cases h0 : ph = 0
 case pos =>
  subst h0
  have hh : heldB 0 ow ta ol = (withinB 0 15 [ow] && withinB (-1) (-1) [ta,ol]):=rfl
  rw [hh]
  clear hh
  generalize hb1 : withinB 0 15 [ow] = b1
  have HB1:=hd_ hb1
  clear hb1
  generalize hb2 : withinB (-1) (-1) [ta,ol] = b2
  have HB2:=hd_ hb2
  clear hb2
  cases b1 with
  | false =>
   go_in
   go_wp2_with fail
   refine (chassis_t  [ow] _ 1 1 _ _ rfl (rds_new1 _ _ _ _ _ (by simp) _ _ rfl rfl) (by decide)).mono ?_
   rw [HB1.out]
   rintro e w1 ⟨rfl,hw⟩
   have HX:=hd_ (chg_eq6 HX.out hw)
   clear hw
   obtain ⟨y0,y1,y2,y3,y4,y5,y6,y7,y8⟩:=rv_kept HB0.out HX.out
   go_wp2_with fail
   go_ret
   exact ⟨rfl,HC0.out.tr HX.out⟩
  | true =>
   go_in
   go_wp2_with fail
   refine (chassis_t  [ow] _ 1 1 _ _ rfl (rds_new1 _ _ _ _ _ (by simp) _ _ rfl rfl) (by decide)).mono ?_
   rw [HB1.out]
   rintro e w1 ⟨rfl,hw⟩
   have HX:=hd_ (chg_eq6 HX.out hw)
   clear hw
   obtain ⟨y0,y1,y2,y3,y4,y5,y6,y7,y8⟩:=rv_kept HB0.out HX.out
   go_wp2_with fail
   refine (nobody_t  [ta,ol] _ 2 2 _ _ rfl (rds_new1 _ _ _ _ _ rfl _ _ rfl rfl) (by decide)).mono ?_
   rw [HB2.out]
   rintro e w2 ⟨rfl,hw⟩
   have HX:=hd_ (chg_eq6 HX.out hw)
   clear hw
   clear y0 y1 y2 y3 y4 y5 y6 y7 y8
   obtain ⟨y0,y1,y2,y3,y4,y5,y6,y7,y8⟩:=rv_kept HB0.out HX.out
   go_wp2_with fail
   go_ret
   exact ⟨rfl,HC0.out.tr HX.out⟩
 by_cases h1 : ph = 1
 case pos =>
  subst h1
  have hh : heldB 1 ow ta ol = (withinB 0 15 [ow,ta] && (!(ow == ta) && withinB (-1) (-1) [ol])):=rfl
  rw [hh]
  clear hh
  generalize hb1 : withinB 0 15 [ow,ta] = b1
  have HB1:=hd_ hb1
  clear hb1
  generalize hb2 : withinB (-1) (-1) [ol] = b2
  have HB2:=hd_ hb2
  clear hb2
  cases b1 with
  | false =>
   go_in
   go_wp2_with fail
   refine (chassis_t  [ow,ta] _ 2 2 _ _ rfl (rds_new1 _ _ _ _ _ (by simp) _ _ rfl rfl) (by decide)).mono ?_
   rw [HB1.out]
   rintro e w1 ⟨rfl,hw⟩
   have HX:=hd_ (chg_eq6 HX.out hw)
   clear hw
   obtain ⟨y0,y1,y2,y3,y4,y5,y6,y7,y8⟩:=rv_kept HB0.out HX.out
   go_wp2_with fail
   go_ret
   exact ⟨rfl,HC0.out.tr HX.out⟩
  | true =>
   by_cases he : ow = ta
   ·subst he
    have hR:=hd_ (show (true && (!(ow == ow) && b2)) = false by simp)
    go_in
    go_wp2_with fail
    refine (chassis_t  [ow,ow] _ 2 2 _ _ rfl (rds_new1 _ _ _ _ _ (by simp) _ _ rfl rfl) (by decide)).mono ?_
    rw [HB1.out]
    rintro e w1 ⟨rfl,hw⟩
    have HX:=hd_ (chg_eq6 HX.out hw)
    clear hw
    obtain ⟨y0,y1,y2,y3,y4,y5,y6,y7,y8⟩:=rv_kept HB0.out HX.out
    go_wp2_with fail
    go_ret
    exact ⟨ret_b hR.out.symm,HC0.out.tr HX.out⟩
   ·have te : (ow == ta) = false:=by simpa using he
    have se : (ow != ta) = true:=by simpa using he
    have hR:=hd_ (show (true && (!(ow == ta) && b2)) = b2 by rw [te]; rfl)
    clear he
    go_in
    go_wp2_with fail
    refine (chassis_t  [ow,ta] _ 2 2 _ _ rfl (rds_new1 _ _ _ _ _ (by simp) _ _ rfl rfl) (by decide)).mono ?_
    rw [HB1.out]
    rintro e w1 ⟨rfl,hw⟩
    have HX:=hd_ (chg_eq6 HX.out hw)
    clear hw
    obtain ⟨y0,y1,y2,y3,y4,y5,y6,y7,y8⟩:=rv_kept HB0.out HX.out
    go_wp2_with fail
    refine (nobody_t  [ol] _ 1 1 _ _ rfl (rds_new1 _ _ _ _ _ rfl _ _ rfl rfl) (by decide)).mono ?_
    rw [HB2.out]
    rintro e w2 ⟨rfl,hw⟩
    have HX:=hd_ (chg_eq6 HX.out hw)
    clear hw
    clear y0 y1 y2 y3 y4 y5 y6 y7 y8
    obtain ⟨y0,y1,y2,y3,y4,y5,y6,y7,y8⟩:=rv_kept HB0.out HX.out
    go_wp2_with fail
    go_ret
    exact ⟨ret_b hR.out.symm,HC0.out.tr HX.out⟩
 by_cases h2 : ph = 2
 case pos =>
  subst h2
  have hh : heldB 2 ow ta ol = (withinB 0 15 [ow,ol] && (!(ow == ol) && withinB (-1) (-1) [ta])):=rfl
  rw [hh]
  clear hh
  generalize hb1 : withinB 0 15 [ow,ol] = b1
  have HB1:=hd_ hb1
  clear hb1
  generalize hb2 : withinB (-1) (-1) [ta] = b2
  have HB2:=hd_ hb2
  clear hb2
  cases b1 with
  | false =>
   go_in
   go_wp2_with fail
   refine (chassis_t  [ow,ol] _ 2 2 _ _ rfl (rds_new1 _ _ _ _ _ (by simp) _ _ rfl rfl) (by decide)).mono ?_
   rw [HB1.out]
   rintro e w1 ⟨rfl,hw⟩
   have HX:=hd_ (chg_eq6 HX.out hw)
   clear hw
   obtain ⟨y0,y1,y2,y3,y4,y5,y6,y7,y8⟩:=rv_kept HB0.out HX.out
   go_wp2_with fail
   go_ret
   exact ⟨rfl,HC0.out.tr HX.out⟩
  | true =>
   by_cases he : ow = ol
   ·subst he
    have hR:=hd_ (show (true && (!(ow == ow) && b2)) = false by simp)
    go_in
    go_wp2_with fail
    refine (chassis_t  [ow,ow] _ 2 2 _ _ rfl (rds_new1 _ _ _ _ _ (by simp) _ _ rfl rfl) (by decide)).mono ?_
    rw [HB1.out]
    rintro e w1 ⟨rfl,hw⟩
    have HX:=hd_ (chg_eq6 HX.out hw)
    clear hw
    obtain ⟨y0,y1,y2,y3,y4,y5,y6,y7,y8⟩:=rv_kept HB0.out HX.out
    go_wp2_with fail
    go_ret
    exact ⟨ret_b hR.out.symm,HC0.out.tr HX.out⟩
   ·have te : (ow == ol) = false:=by simpa using he
    have se : (ow != ol) = true:=by simpa using he
    have hR:=hd_ (show (true && (!(ow == ol) && b2)) = b2 by rw [te]; rfl)
    clear he
    go_in
    go_wp2_with fail
    refine (chassis_t  [ow,ol] _ 2 2 _ _ rfl (rds_new1 _ _ _ _ _ (by simp) _ _ rfl rfl) (by decide)).mono ?_
    rw [HB1.out]
    rintro e w1 ⟨rfl,hw⟩
    have HX:=hd_ (chg_eq6 HX.out hw)
    clear hw
    obtain ⟨y0,y1,y2,y3,y4,y5,y6,y7,y8⟩:=rv_kept HB0.out HX.out
    go_wp2_with fail
    refine (nobody_t  [ta] _ 1 1 _ _ rfl (rds_new1 _ _ _ _ _ rfl _ _ rfl rfl) (by decide)).mono ?_
    rw [HB2.out]
    rintro e w2 ⟨rfl,hw⟩
    have HX:=hd_ (chg_eq6 HX.out hw)
    clear hw
    clear y0 y1 y2 y3 y4 y5 y6 y7 y8
    obtain ⟨y0,y1,y2,y3,y4,y5,y6,y7,y8⟩:=rv_kept HB0.out HX.out
    go_wp2_with fail
    go_ret
    exact ⟨ret_b hR.out.symm,HC0.out.tr HX.out⟩
 by_cases h3 : ph = 3
 case pos =>
  subst h3
  have hh : heldB 3 ow ta ol = withinB (-1) (-1) [ow,ta,ol]:=rfl
  rw [hh]
  clear hh
  generalize hb1 : withinB (-1) (-1) [ow,ta,ol] = b1
  have HB1:=hd_ hb1
  clear hb1
  go_in
  go_wp2_with fail
  refine (nobody_t  [ow,ta,ol] _ 3 3 _ _ rfl (rds_new1 _ _ _ _ _ (by simp) _ _ rfl rfl) (by decide)).mono ?_
  rw [HB1.out]
  rintro e w1 ⟨rfl,hw⟩
  have HX:=hd_ (chg_eq6 HX.out hw)
  clear hw
  go_wp2_with fail
  go_ret
  exact ⟨rfl,HC0.out.tr HX.out⟩
 have t0 : (ph == 0) = false:=by simpa using h0
 have t1 : (ph == 1) = false:=by simpa using h1
 have t2 : (ph == 2) = false:=by simpa using h2
 have t3 : (ph == 3) = false:=by simpa using h3
 have hR:=hd_ (show heldB ph ow ta ol = false by unfold heldB; rw [if_neg h0,if_neg h1,if_neg h2,if_neg h3])
 clear h0 h1 h2 h3
 go_in
 go_wp2_with fail
 go_ret
 exact ⟨ret_b hR.out.symm,HC0.out.tr HX.out⟩
theorem crow_any (po ma ow ta ol ge ph ve si : Int) (w : World) : Calls Tryz.prog 226 #[.agg (rvC po ma ow ta ol ge ph ve si)] w fun e w'=>e = .returned (.bool (rwR po ma ow ta ol ge ph ve si)) ∧ Chg (fun _=>False) w w':=by
 have HX:=hd_ (Chg.refl (fun _=>False) (w.alloc (.cells #[int i64 po,int .u64 ma,int i64 ow,int i64 ta,int i64 ol,int i64 ge,int i64 ph,int i64 ve,int i64 si] 60)))
 have HB0 : Hid (Blk (w.alloc (.cells #[int i64 po,int .u64 ma,int i64 ow,int i64 ta,int i64 ol,int i64 ge,int i64 ph,int i64 ve,int i64 si] 60)) w.heap.size 60 (rvC po ma ow ta ol ge ph ve si)):=hd_ (blk_new rfl)
 have HC0:=hd_ ((Chg.refl (fun _=>False) w).alloc (.cells #[int i64 po,int .u64 ma,int i64 ow,int i64 ta,int i64 ol,int i64 ge,int i64 ph,int i64 ve,int i64 si] 60))
 have hn:=fun W=>named_any po ve W
 have hh:=fun W=>held_any po ma ow ta ol ge ph ve si W
 unfold rwR
 generalize namedB po ve = b1 at *
 generalize heldB ph ow ta ol = b4 at *
 generalize hb2 : withinB 1 4294967296 [ge] = b2
 have HB2:=hd_ hb2
 clear hb2
 generalize hb3 : withinB 0 1099511627776 [si] = b3
 have HB3:=hd_ hb3
 clear hb3
 unfold rvC at hh ⊢
 have HN:=hd_ hn
 have HH:=hd_ hh
 clear hn hh
 cases b1 with
 | false =>
  have hR:=hd_ (show (false && (decide (ma ≤ 281474976710655) && (b2 && (b3 && b4)))) = false from rfl)
  go_in
  go_wp2_with fail
  refine (HN.out _).mono ?_
  rintro e w1 ⟨rfl,hc'⟩
  have HX:=hd_ (HX.out.tr hc')
  clear hc'
  obtain ⟨y0,y1,y2,y3,y4,y5,y6,y7,y8⟩:=rv_kept HB0.out HX.out
  go_wp2_with fail
  go_ret
  exact ⟨ret_b hR.out.symm,HC0.out.tr HX.out⟩
 | true =>
  by_cases hm : ma ≤ 281474976710655
  case neg =>
   have hR:=hd_ (show (true && (decide (ma ≤ 281474976710655) && (b2 && (b3 && b4)))) = false by simp [hm])
   go_in
   go_wp2_with fail
   refine (HN.out _).mono ?_
   rintro e w1 ⟨rfl,hc'⟩
   have HX:=hd_ (HX.out.tr hc')
   clear hc'
   obtain ⟨y0,y1,y2,y3,y4,y5,y6,y7,y8⟩:=rv_kept HB0.out HX.out
   go_wp2_with fail
   go_ret
   exact ⟨ret_b hR.out.symm,HC0.out.tr HX.out⟩
  cases b2 with
  | false =>
   have hR:=hd_ (show (true && (decide (ma ≤ 281474976710655) && (false && (b3 && b4)))) = false by simp [hm])
   go_in
   go_wp2_with fail
   refine (HN.out _).mono ?_
   rintro e w1 ⟨rfl,hc'⟩
   have HX:=hd_ (HX.out.tr hc')
   clear hc'
   obtain ⟨y0,y1,y2,y3,y4,y5,y6,y7,y8⟩:=rv_kept HB0.out HX.out
   go_wp2_with fail
   refine (cwithin_t 1 4294967296 [ge] _ 1 1 _ _ rfl (rds_new1 _ _ _ _ _ rfl _ _ rfl rfl) (by decide)).mono ?_
   rw [HB2.out]
   rintro e w2 ⟨rfl,hw⟩
   have HX:=hd_ (chg_eq6 HX.out hw)
   clear hw
   clear y0 y1 y2 y3 y4 y5 y6 y7 y8
   obtain ⟨y0,y1,y2,y3,y4,y5,y6,y7,y8⟩:=rv_kept HB0.out HX.out
   go_wp2_with fail
   go_ret
   exact ⟨ret_b hR.out.symm,HC0.out.tr HX.out⟩
  | true =>
   cases b3 with
   | false =>
    have hR:=hd_ (show (true && (decide (ma ≤ 281474976710655) && (true && (false && b4)))) = false by simp [hm])
    go_in
    go_wp2_with fail
    refine (HN.out _).mono ?_
    rintro e w1 ⟨rfl,hc'⟩
    have HX:=hd_ (HX.out.tr hc')
    clear hc'
    obtain ⟨y0,y1,y2,y3,y4,y5,y6,y7,y8⟩:=rv_kept HB0.out HX.out
    go_wp2_with fail
    refine (cwithin_t 1 4294967296 [ge] _ 1 1 _ _ rfl (rds_new1 _ _ _ _ _ rfl _ _ rfl rfl) (by decide)).mono ?_
    rw [HB2.out]
    rintro e w2 ⟨rfl,hw⟩
    have HX:=hd_ (chg_eq6 HX.out hw)
    clear hw
    clear y0 y1 y2 y3 y4 y5 y6 y7 y8
    obtain ⟨y0,y1,y2,y3,y4,y5,y6,y7,y8⟩:=rv_kept HB0.out HX.out
    go_wp2_with fail
    refine (cwithin_t 0 1099511627776 [si] _ 1 1 _ _ rfl (rds_new1 _ _ _ _ _ rfl _ _ rfl rfl) (by decide)).mono ?_
    rw [HB3.out]
    rintro e w3 ⟨rfl,hw⟩
    have HX:=hd_ (chg_eq6 HX.out hw)
    clear hw
    clear y0 y1 y2 y3 y4 y5 y6 y7 y8
    obtain ⟨y0,y1,y2,y3,y4,y5,y6,y7,y8⟩:=rv_kept HB0.out HX.out
    go_wp2_with fail
    go_ret
    exact ⟨ret_b hR.out.symm,HC0.out.tr HX.out⟩
   | true =>
    have hR:=hd_ (show (true && (decide (ma ≤ 281474976710655) && (true && (true && b4)))) = b4 by simp [hm])
    go_in
    go_wp2_with fail
    refine (HN.out _).mono ?_
    rintro e w1 ⟨rfl,hc'⟩
    have HX:=hd_ (HX.out.tr hc')
    clear hc'
    obtain ⟨y0,y1,y2,y3,y4,y5,y6,y7,y8⟩:=rv_kept HB0.out HX.out
    go_wp2_with fail
    refine (cwithin_t 1 4294967296 [ge] _ 1 1 _ _ rfl (rds_new1 _ _ _ _ _ rfl _ _ rfl rfl) (by decide)).mono ?_
    rw [HB2.out]
    rintro e w2 ⟨rfl,hw⟩
    have HX:=hd_ (chg_eq6 HX.out hw)
    clear hw
    clear y0 y1 y2 y3 y4 y5 y6 y7 y8
    obtain ⟨y0,y1,y2,y3,y4,y5,y6,y7,y8⟩:=rv_kept HB0.out HX.out
    go_wp2_with fail
    refine (cwithin_t 0 1099511627776 [si] _ 1 1 _ _ rfl (rds_new1 _ _ _ _ _ rfl _ _ rfl rfl) (by decide)).mono ?_
    rw [HB3.out]
    rintro e w3 ⟨rfl,hw⟩
    have HX:=hd_ (chg_eq6 HX.out hw)
    clear hw
    clear y0 y1 y2 y3 y4 y5 y6 y7 y8
    obtain ⟨y0,y1,y2,y3,y4,y5,y6,y7,y8⟩:=rv_kept HB0.out HX.out
    go_wp2_with fail
    refine (HH.out _).mono ?_
    rintro e w4 ⟨rfl,hc'⟩
    have HX:=hd_ (HX.out.tr hc')
    clear hc'
    go_wp2_with fail
    go_ret
    exact ⟨ret_b hR.out.symm,HC0.out.tr HX.out⟩
structure Rc where
 pr : Int
 sr : Int
 ds : Int
 sp : Int
 dp : Int
 un : Int
def Rc.cs (x : Rc) : Array Value:=rcC x.pr x.sr x.ds x.sp x.dp x.un
def RcR (w : World) (S : Nat → Prop) (L : Option Addr) (m : Nat) (l : List Rc) : Prop :=
 m = l.length ∧ (0 < m → ∃ ad,L = some ad ∧ S ad.block ∧ ad.block < w.heap.size ∧ ∀ (i : Nat) (x : Rc),l[i]? = some x → ∀ (j : Nat) (u : Value),x.cs[j]? = some u → w.cell? (ad.add (i * 6 + j)) = some u)
section
variable {w w' : World} {S S' : Nat → Prop} {L : Option Addr} {m : Nat} {l : List Rc}
theorem RcR.keep (h : RcR w S L m l) (hz : w.heap.size ≤ w'.heap.size) (hk : ∀ k,S k → k < w.heap.size → w'.heap[k]? = w.heap[k]?) : RcR w' S L m l:=by
 refine ⟨h.1,fun hm => ?_⟩
 obtain ⟨ad,e,hs,hb,hc⟩:=h.2 hm
 refine ⟨ad,e,hs,Nat.lt_of_lt_of_le hb hz,fun i x hi j u hu => ?_⟩
 rw [← hc i x hi j u hu]
 exact World.cell?_of_block (by rw [block_add]; exact hk _ hs hb)
theorem RcR.chg (h : RcR w S L m l) (hc : Chg S' w w') (hd : ∀ k,S k → ¬ S' k) : RcR w' S L m l:=h.keep hc.size fun k hs hk=>hc.block k hk (hd k hs)
theorem RcR.alloc (h : RcR w S L m l) (o : Obj) : RcR (w.alloc o) S L m l:=h.chg ((Chg.refl (fun _=>False) w).alloc o) (fun _ _=>id)
theorem RcR.mono (h : RcR w S L m l) (hs : ∀ k,S k → S' k) : RcR w S' L m l :=
 ⟨h.1,fun hm=>by obtain ⟨ad,e,h1,h2⟩:=h.2 hm; exact ⟨ad,e,hs _ h1,h2⟩⟩
theorem RcR.nil (w : World) (S : Nat → Prop) (L : Option Addr) : RcR w S L 0 []:=⟨rfl,fun h=>absurd h (by omega)⟩
theorem RcR.old (h : RcR w S L m l) : RcR w (fun k=>S k ∧ k < w.heap.size) L m l :=
 ⟨h.1,fun hm=>by obtain ⟨ad,e,h1,h2,h3⟩:=h.2 hm; exact ⟨ad,e,⟨h1,h2⟩,h2,h3⟩⟩
theorem RcR.back {w0 : World} (h : RcR w' S L m l) (hc : Chg S' w0 w') (hS : ∀ k,S k → k < w0.heap.size ∧ ¬ S' k) : RcR w0 S L m l:=by
 refine ⟨h.1,fun hm => ?_⟩
 obtain ⟨ad,e,hs,hb,hcell⟩:=h.2 hm
 obtain ⟨h1,h2⟩:=hS _ hs
 refine ⟨ad,e,hs,h1,fun i x hi j u hu => ?_⟩
 rw [← hcell i x hi j u hu]
 exact (World.cell?_of_block (by rw [block_add]; exact hc.block _ h1 h2)).symm
theorem RcR.at {ad : Addr} {i : Nat} {x : Rc} (h : RcR w S (some ad) m l) (hi : l[i]? = some x) :
  w.cell? (ad.add (i * 6)) = some (int i64 x.pr) ∧ w.cell? ⟨(ad.add (i * 6)).block,(ad.add (i * 6)).off + 1,none⟩ = some (int .u32 x.sr) ∧ w.cell? ⟨(ad.add (i * 6)).block,(ad.add (i * 6)).off + 2,none⟩ = some (int .u32 x.ds) ∧
  w.cell? ⟨(ad.add (i * 6)).block,(ad.add (i * 6)).off + 3,none⟩ = some (int i64 x.sp) ∧ w.cell? ⟨(ad.add (i * 6)).block,(ad.add (i * 6)).off + 4,none⟩ = some (int i64 x.dp) ∧ w.cell? ⟨(ad.add (i * 6)).block,(ad.add (i * 6)).off + 5,none⟩ = some (int i64 x.un):=by
 have hl : i < l.length:=(List.getElem?_eq_some_iff.1 hi).1
 obtain ⟨ad',e,_,_,hc⟩:=h.2 (by have:=h.1; omega)
 injection e with e
 subst e
 have h2:=hc i x hi
 have g0:=h2 0 (int i64 x.pr) rfl
 have g1:=h2 1 (int .u32 x.sr) rfl
 have g2:=h2 2 (int .u32 x.ds) rfl
 have g3:=h2 3 (int i64 x.sp) rfl
 have g4:=h2 4 (int i64 x.dp) rfl
 have g5:=h2 5 (int i64 x.un) rfl
 rw [← off_add] at g0 g1 g2 g3 g4 g5
 exact ⟨g0,g1,g2,g3,g4,g5⟩
end
def rcR1 (pr sp dp un : Int) : Bool:=flR pr sp dp && withinB 0 1099511627776 [un]
def rcR (x : Rc) : Bool:=rcR1 x.pr x.sp x.dp x.un
theorem kept1_any (pr sr ds sp dp un : Int) (w : World) : Calls Tryz.prog 258 #[.agg (rcC pr sr ds sp dp un)] w fun e w'=>e = .returned (.bool (!rcR1 pr sp dp un)) ∧ Chg (fun _=>False) w w':=by
 have HX:=hd_ (Chg.refl (fun _=>False) (w.alloc (.cells #[int i64 pr,int .u32 sr,int .u32 ds,int i64 sp,int i64 dp,int i64 un] 219)))
 have HB0 : Hid (Blk (w.alloc (.cells #[int i64 pr,int .u32 sr,int .u32 ds,int i64 sp,int i64 dp,int i64 un] 219)) w.heap.size 219 (rcC pr sr ds sp dp un)):=hd_ (blk_new rfl)
 have HC0:=hd_ ((Chg.refl (fun _=>False) w).alloc (.cells #[int i64 pr,int .u32 sr,int .u32 ds,int i64 sp,int i64 dp,int i64 un] 219))
 have hf:=fun W=>iright_any pr sr ds sp dp W
 unfold rcR1
 generalize flR pr sp dp = b1 at *
 generalize hb2 : withinB 0 1099511627776 [un] = b2
 have HB2:=hd_ hb2
 clear hb2
 unfold rcC
 unfold flC at hf
 have HF:=hd_ hf
 clear hf
 cases b1 with
 | false =>
  go_in
  go_wp2_with fail
  refine (HF.out _).mono ?_
  rintro e w1 ⟨rfl,hc1⟩
  have HX:=hd_ (HX.out.tr hc1)
  clear hc1
  obtain ⟨y0,y1,y2,y3,y4,y5⟩:=rc_kept HB0.out HX.out
  go_wp2_with fail
  go_ret
  exact ⟨rfl,HC0.out.tr HX.out⟩
 | true =>
  go_in
  go_wp2_with fail
  refine (HF.out _).mono ?_
  rintro e w1 ⟨rfl,hc1⟩
  have HX:=hd_ (HX.out.tr hc1)
  clear hc1
  obtain ⟨y0,y1,y2,y3,y4,y5⟩:=rc_kept HB0.out HX.out
  go_wp2_with fail
  refine (cwithin_t 0 1099511627776 [un] _ 1 1 _ _ rfl (rds_new1 _ _ _ _ _ rfl _ _ rfl rfl) (by decide)).mono ?_
  rw [HB2.out]
  rintro e w2 ⟨rfl,hw⟩
  have HX:=hd_ (chg_eq6 HX.out hw)
  clear hw
  go_wp2_with fail
  go_ret
  exact ⟨ret_b (by simp),HC0.out.tr HX.out⟩
theorem cindex_any (L : Option Addr) (m lc : Nat) (l : List Rc) (w : World) (S : Nat → Prop) (h : RcR w S L m l) (hmc : m ≤ 9223372036854775807) :
  Calls Tryz.prog 277 #[.slice L m lc, .func (.func 258) #[] #[]] w fun e w' => ∃ z : Int,e = .returned (int i64 z) ∧ decide (0 ≤ z) = !(l.all rcR) ∧ Chg (fun _=>False) w w':=by
 have HH:=hd_ h
 have hl:=h.1
 have HL:=hd_ hl
 clear h hl
 go_in
 go_wp2_with fail
 go_loopg [5,8] m (fun g s5 i wr => ∃ j : Nat,g = m - j ∧ j ≤ m ∧ i = int i64 (j : Int) ∧ Hid (∀ (i : Nat) (x : Rc),i < j → l[i]? = some x → rcR x = true) ∧ Hid (Chg (fun _=>False) w wr))
 case atStart=>exact ⟨0,rfl,Nat.zero_le _,rfl,fun i x hi=>absurd hi (by omega),Chg.refl _ _⟩
 case round =>
  obtain ⟨j,rfl,hj,rfl,HA,HX⟩:=hrel
  by_cases hlt : j < m
  ·have hh:=HH.out.chg HX.out (fun _ _=>id)
   obtain ⟨ad,rfl,_,_,_⟩:=hh.2 (by omega)
   have hjl : j < l.length:=by have:=HL.out; omega
   have hx : l[j]? = some l[j]:=List.getElem?_eq_getElem hjl
   generalize l[j] = x at *
   obtain ⟨z0,z1,z2,z3,z4,z5⟩:=hh.at hx
   have hk:=fun W=>kept1_any x.pr x.sr x.ds x.sp x.dp x.un W
   have hr : rcR1 x.pr x.sp x.dp x.un = rcR x:=rfl
   rw [hr] at hk
   clear hr
   have HJ:=hd_ hx
   clear hx hh
   unfold rcC at hk
   cases hb : rcR x with
   | false =>
    rw [hb] at hk
    have HK:=hd_ hk
    clear hk
    go_wp2_with fail
    refine (HK.out _).mono ?_
    rintro e w1 ⟨rfl,hc1⟩
    have HX:=hd_ (HX.out.tr hc1)
    clear hc1
    go_wp2_with fail
    go_ret
    refine ⟨(j : Int),rfl, ?_,HX.out⟩
    have e1 : l.all rcR = false:=List.all_eq_false.2 ⟨x,List.mem_of_getElem? HJ.out,by rw [hb]; decide⟩
    rw [e1]
    simp
   | true =>
    rw [hb] at hk
    have HK:=hd_ hk
    clear hk
    go_wp2_with fail
    refine (HK.out _).mono ?_
    rintro e w1 ⟨rfl,hc1⟩
    have HX:=hd_ (HX.out.tr hc1)
    clear hc1
    go_wp2_with fail
    go_roundg (m - (j + 1))
    case measure=>omega
    case rel =>
     refine ⟨j + 1,rfl,by omega,by go_num,fun i y hi hy => ?_,HX.out⟩
     by_cases e : i < j
     ·exact HA.out i y e hy
     ·have : i = j:=by omega
      subst this
      have:=HJ.out
      rw [hy] at this
      injection this with this
      subst this
      exact hb
  ·have : j = m:=by omega
   subst this
   go_wp2_with fail
   go_ret
   refine ⟨-1,rfl, ?_,HX.out⟩
   have e1 : l.all rcR = true:=List.all_eq_true.2 (fun y hy=>by
    obtain ⟨i,hi⟩:=List.getElem?_of_mem hy
    have:=(List.getElem?_eq_some_iff.1 hi).1
    have:=HL.out
    exact HA.out i y (by omega) hi)
   rw [e1]
   rfl
theorem ccontains_any (L : Option Addr) (m lc : Nat) (l : List Rc) (w : World) (S : Nat → Prop) (h : RcR w S L m l) (hmc : m ≤ 9223372036854775807) :
  Calls Tryz.prog 260 #[.slice L m lc, .func (.func 258) #[] #[]] w fun e w'=>e = .returned (.bool (!(l.all rcR))) ∧ Chg (fun _=>False) w w':=by
 have HK:=hd_ (cindex_any L m lc l w S h hmc)
 clear h hmc
 go_in
 go_wp2_with fail
 refine HK.out.mono ?_
 rintro e w1 ⟨z,rfl,hz,hc⟩
 have HZ:=hd_ hz
 have HC:=hd_ hc
 clear hz hc
 go_wp2_with fail
 go_ret
 exact ⟨ret_b HZ.out,HC.out⟩
def keptB (l : List Rc) : Bool:=decide (l.length ≤ 16) && l.all rcR
theorem ckept_any (L : Option Addr) (m lc : Nat) (l : List Rc) (w : World) (S : Nat → Prop) (h : RcR w S L m l) (hmc : m ≤ 9223372036854775807) :
  Calls Tryz.prog 228 #[.slice L m lc] w fun e w'=>e = .returned (.bool (keptB l)) ∧ Chg (fun _=>False) w w':=by
 have HK:=hd_ (ccontains_any L m lc l w S h hmc)
 have HL:=hd_ h.1
 clear h
 by_cases hm : m ≤ 16
 ·have hR:=hd_ (show keptB l = l.all rcR by unfold keptB; rw [← HL.out]; simp [hm])
  generalize l.all rcR = b at *
  go_in
  go_wp2_with fail
  refine HK.out.mono ?_
  rintro e w1 ⟨rfl,hc⟩
  have HC:=hd_ hc
  clear hc
  go_wp2_with fail
  go_ret
  exact ⟨ret_b (by rw [hR.out]),HC.out⟩
 ·have hR:=hd_ (show keptB l = false by unfold keptB; rw [← HL.out]; simp [hm])
  go_in
  go_wp2_with fail
  go_ret
  exact ⟨ret_b hR.out.symm,Chg.refl _ _⟩
def rvE (po ma ow ta ol ge ph ve si po2 ma2 ow2 ta2 ol2 ge2 ph2 ve2 si2 : Int) : Bool:=po == po2 && (ma == ma2 && (ow == ow2 && (ta == ta2 && (ol == ol2 && (ge == ge2 && (ph == ph2 && (ve == ve2 && si == si2)))))))
theorem stRow : Tryz.prog.underlying 60 = some (.struct (Tryz.prog.fieldsOf 60)):=by kernel_rfl
theorem hpRow : Tryz.prog.stoodInHeld 60 = false:=by kernel_rfl
theorem eqRow (W : World) (po ma ow ta ol ge ph ve si po2 ma2 ow2 ta2 ol2 ge2 ph2 ve2 si2 : Int) : (binOp .eql 60 (.agg #[int i64 po,int .u64 ma,int i64 ow,int i64 ta,int i64 ol,int i64 ge,int i64 ph,int i64 ve,int i64 si]) (.agg #[int i64 po2,int .u64 ma2,int i64 ow2,int i64 ta2,int i64 ol2,int i64 ge2,int i64 ph2,int i64 ve2,int i64 si2])).run Tryz.prog W = .ok (.bool (rvE po ma ow ta ol ge ph ve si po2 ma2 ow2 ta2 ol2 ge2 ph2 ve2 si2)) W:=by
 rw [run_eql_struct,show (10000 : Nat) = 9999 + 1 from rfl,run_equalIn_agg W 9999 60 _ _ stRow hpRow]
 unfold rvE
 go_simp
 by_cases h0 : po = po2
 case neg=>simp [h0]
 subst h0
 by_cases h1 : ma = ma2
 case neg=>simp [h1]
 subst h1
 by_cases h2 : ow = ow2
 case neg=>simp [h2]
 subst h2
 by_cases h3 : ta = ta2
 case neg=>simp [h3]
 subst h3
 by_cases h4 : ol = ol2
 case neg=>simp [h4]
 subst h4
 by_cases h5 : ge = ge2
 case neg=>simp [h5]
 subst h5
 by_cases h6 : ph = ph2
 case neg=>simp [h6]
 subst h6
 by_cases h7 : ve = ve2
 case neg=>simp [h7]
 subst h7
 by_cases h8 : si = si2
 case neg=>simp [h8]
 subst h8
 simp
def msR (kd po ma ow ta ol ge ph ve si pt vr : Int) (l : List Rc) : Bool :=
 if kd = 1 then rwR po ma ow ta ol ge ph ve si && (pt == 0 && (vr == 0 && l.length == 0))
 else if kd = 2 then rvE po ma ow ta ol ge ph ve si 0 0 0 0 0 0 0 0 0 && (namedB pt vr && l.length == 0)
 else if kd = 3 then rvE po ma ow ta ol ge ph ve si 0 0 0 0 0 0 0 0 0 && (namedB pt vr && keptB l)
 else false
theorem len0 (n : Nat) : (n == 0) = ((n : Int) == 0):=by
 by_cases h : n = 0
 ·subst h; rfl
 ·have h2 : (n == 0) = false:=by simpa using h
  have h3 : ((n : Int) == 0) = false:=by simp; omega
  rw [h2,h3]
theorem cright_any (kd po ma ow ta ol ge ph ve si pt vr : Int) (A : Option Addr) (n c : Nat) (l : List Rc) (S : Nat → Prop) (w : World) (h : RcR w S A n l) (hn2 : n ≤ 9223372036854775807) :
  Calls Tryz.prog 188 #[.agg (msC kd po ma ow ta ol ge ph ve si pt vr A n c)] w fun e w'=>e = .returned (.bool (msR kd po ma ow ta ol ge ph ve si pt vr l)) ∧ Chg (fun _=>False) w w':=by
 have HX:=hd_ (Chg.refl (fun _=>False) (w.alloc (.cells #[int i64 kd,int i64 po,int .u64 ma,int i64 ow,int i64 ta,int i64 ol,int i64 ge,int i64 ph,int i64 ve,int i64 si,int i64 pt,int i64 vr, .slice A n c] 74)))
 have HB0 : Hid (Blk (w.alloc (.cells #[int i64 kd,int i64 po,int .u64 ma,int i64 ow,int i64 ta,int i64 ol,int i64 ge,int i64 ph,int i64 ve,int i64 si,int i64 pt,int i64 vr, .slice A n c] 74)) w.heap.size 74 (msC kd po ma ow ta ol ge ph ve si pt vr A n c)):=hd_ (blk_new rfl)
 have HC0:=hd_ ((Chg.refl (fun _=>False) w).alloc (.cells #[int i64 kd,int i64 po,int .u64 ma,int i64 ow,int i64 ta,int i64 ol,int i64 ge,int i64 ph,int i64 ve,int i64 si,int i64 pt,int i64 vr, .slice A n c] 74))
 have HL:=hd_ h.1
 have HH:=hd_ h
 have HN2:=hd_ hn2
 clear h
 unfold msC
 by_cases h1 : kd = 1
 case pos =>
  subst h1
  have hh : msR 1 po ma ow ta ol ge ph ve si pt vr l = (rwR po ma ow ta ol ge ph ve si && (pt == 0 && (vr == 0 && l.length == 0))):=rfl
  rw [hh, ← HL.out,len0]
  clear hh
  have hr:=fun W=>crow_any po ma ow ta ol ge ph ve si W
  generalize rwR po ma ow ta ol ge ph ve si = b1 at *
  unfold rvC at hr
  have HR:=hd_ hr
  clear hr
  cases b1 with
  | false =>
   have hR:=hd_ (show (false && (pt == 0 && (vr == 0 && (n : Int) == 0))) = false from rfl)
   go_in
   go_wp2_with fail
   refine (HR.out _).mono ?_
   rintro e w1 ⟨rfl,hc'⟩
   have HX:=hd_ (HX.out.tr hc')
   clear hc'
   obtain ⟨y0,y1,y2,y3,y4,y5,y6,y7,y8,y9,y10,y11,y12⟩:=ms_kept HB0.out HX.out
   go_wp2_with fail
   go_ret
   exact ⟨ret_b hR.out.symm,HC0.out.tr HX.out⟩
  | true =>
   by_cases hpt : pt = 0
   case neg =>
    have tpt : (pt == 0) = false:=by simpa using hpt
    have hR:=hd_ (show (true && (pt == 0 && (vr == 0 && (n : Int) == 0))) = false by rw [tpt]; rfl)
    clear hpt
    go_in
    go_wp2_with fail
    refine (HR.out _).mono ?_
    rintro e w1 ⟨rfl,hc'⟩
    have HX:=hd_ (HX.out.tr hc')
    clear hc'
    obtain ⟨y0,y1,y2,y3,y4,y5,y6,y7,y8,y9,y10,y11,y12⟩:=ms_kept HB0.out HX.out
    go_wp2_with fail
    go_ret
    exact ⟨ret_b hR.out.symm,HC0.out.tr HX.out⟩
   subst hpt
   by_cases hvr : vr = 0
   case neg =>
    have tvr : (vr == 0) = false:=by simpa using hvr
    have hR:=hd_ (show (true && ((0 : Int) == 0 && (vr == 0 && (n : Int) == 0))) = false by rw [tvr]; rfl)
    clear hvr
    go_in
    go_wp2_with fail
    refine (HR.out _).mono ?_
    rintro e w1 ⟨rfl,hc'⟩
    have HX:=hd_ (HX.out.tr hc')
    clear hc'
    obtain ⟨y0,y1,y2,y3,y4,y5,y6,y7,y8,y9,y10,y11,y12⟩:=ms_kept HB0.out HX.out
    go_wp2_with fail
    go_ret
    exact ⟨ret_b hR.out.symm,HC0.out.tr HX.out⟩
   subst hvr
   go_in
   go_wp2_with fail
   refine (HR.out _).mono ?_
   rintro e w1 ⟨rfl,hc'⟩
   have HX:=hd_ (HX.out.tr hc')
   clear hc'
   obtain ⟨y0,y1,y2,y3,y4,y5,y6,y7,y8,y9,y10,y11,y12⟩:=ms_kept HB0.out HX.out
   go_wp2_with fail
   go_ret
   exact ⟨ret_b (by simp),HC0.out.tr HX.out⟩
 by_cases h2 : kd = 2
 case pos =>
  subst h2
  have hh : msR 2 po ma ow ta ol ge ph ve si pt vr l = (rvE po ma ow ta ol ge ph ve si 0 0 0 0 0 0 0 0 0 && (namedB pt vr && l.length == 0)):=rfl
  rw [hh, ← HL.out,len0]
  clear hh
  have he:=fun W=>eqRow W po ma ow ta ol ge ph ve si 0 0 0 0 0 0 0 0 0
  generalize rvE po ma ow ta ol ge ph ve si 0 0 0 0 0 0 0 0 0 = b0 at *
  have hn:=fun W=>named_any pt vr W
  generalize namedB pt vr = b1 at *
  have HN:=hd_ hn
  clear hn
  cases b0 with
  | false =>
   go_in
   go_wp2_with fail
   go_ret
   exact ⟨rfl,HC0.out.tr HX.out⟩
  | true =>
   cases b1 with
   | false =>
    go_in
    go_wp2_with fail
    refine (HN.out _).mono ?_
    rintro e w1 ⟨rfl,hc'⟩
    have HX:=hd_ (HX.out.tr hc')
    clear hc'
    obtain ⟨y0,y1,y2,y3,y4,y5,y6,y7,y8,y9,y10,y11,y12⟩:=ms_kept HB0.out HX.out
    go_wp2_with fail
    go_ret
    exact ⟨rfl,HC0.out.tr HX.out⟩
   | true =>
    go_in
    go_wp2_with fail
    refine (HN.out _).mono ?_
    rintro e w1 ⟨rfl,hc'⟩
    have HX:=hd_ (HX.out.tr hc')
    clear hc'
    obtain ⟨y0,y1,y2,y3,y4,y5,y6,y7,y8,y9,y10,y11,y12⟩:=ms_kept HB0.out HX.out
    go_wp2_with fail
    go_ret
    exact ⟨ret_b (by simp),HC0.out.tr HX.out⟩
 by_cases h3 : kd = 3
 case pos =>
  subst h3
  have hh : msR 3 po ma ow ta ol ge ph ve si pt vr l = (rvE po ma ow ta ol ge ph ve si 0 0 0 0 0 0 0 0 0 && (namedB pt vr && keptB l)):=rfl
  rw [hh]
  clear hh
  have he:=fun W=>eqRow W po ma ow ta ol ge ph ve si 0 0 0 0 0 0 0 0 0
  generalize rvE po ma ow ta ol ge ph ve si 0 0 0 0 0 0 0 0 0 = b0 at *
  have hn:=fun W=>named_any pt vr W
  generalize namedB pt vr = b1 at *
  have HN:=hd_ hn
  clear hn
  cases b0 with
  | false =>
   go_in
   go_wp2_with fail
   go_ret
   exact ⟨rfl,HC0.out.tr HX.out⟩
  | true =>
   cases b1 with
   | false =>
    go_in
    go_wp2_with fail
    refine (HN.out _).mono ?_
    rintro e w1 ⟨rfl,hc'⟩
    have HX:=hd_ (HX.out.tr hc')
    clear hc'
    obtain ⟨y0,y1,y2,y3,y4,y5,y6,y7,y8,y9,y10,y11,y12⟩:=ms_kept HB0.out HX.out
    go_wp2_with fail
    go_ret
    exact ⟨rfl,HC0.out.tr HX.out⟩
   | true =>
    have HK:=hd_ (fun (W : World) (hc : Chg (fun _=>False) (w.alloc (.cells #[int i64 3,int i64 po,int .u64 ma,int i64 ow,int i64 ta,int i64 ol,int i64 ge,int i64 ph,int i64 ve,int i64 si,int i64 pt,int i64 vr, .slice A n c] 74)) W)=>ckept_any A n c l W S ((HH.out.alloc _).chg hc (fun _ _=>id)) HN2.out)
    generalize keptB l = b2 at *
    go_in
    go_wp2_with fail
    refine (HN.out _).mono ?_
    rintro e w1 ⟨rfl,hc'⟩
    have HX:=hd_ (HX.out.tr hc')
    clear hc'
    obtain ⟨y0,y1,y2,y3,y4,y5,y6,y7,y8,y9,y10,y11,y12⟩:=ms_kept HB0.out HX.out
    go_wp2_with fail
    refine (HK.out _ HX.out).mono ?_
    rintro e w2 ⟨rfl,hc'⟩
    have HX:=hd_ (HX.out.tr hc')
    clear hc'
    go_wp2_with fail
    go_ret
    exact ⟨rfl,HC0.out.tr HX.out⟩
 have t1 : (kd == 1) = false:=by simpa using h1
 have t2 : (kd == 2) = false:=by simpa using h2
 have t3 : (kd == 3) = false:=by simpa using h3
 have hR:=hd_ (show msR kd po ma ow ta ol ge ph ve si pt vr l = false by unfold msR; rw [if_neg h1,if_neg h2,if_neg h3])
 clear h1 h2 h3
 go_in
 go_wp2_with fail
 go_ret
 exact ⟨ret_b hR.out.symm,HC0.out.tr HX.out⟩
theorem wi_one (lo hi x : Int) : withinB lo hi [x] = (decide (lo ≤ x) && decide (x ≤ hi)):=by simp [withinB]
def Kp6 (w w' : World) : Prop := ∀ (q : Nat) (T : TypeId) (cs : Array Value),T ≠ 243 → T ≠ 5 → Blk w q T cs → Blk w' q T cs
theorem Kp6.refl (w : World) : Kp6 w w:=fun _ _ _ _ _ h=>h
theorem Kp6.trans {a w w' : World} (h : Kp6 a w) (k : Kp6 w w') : Kp6 a w':=fun q T cs h1 h2 hb=>k q T cs h1 h2 (h q T cs h1 h2 hb)
theorem Kp6.chg {a w w' : World} (h : Kp6 a w) (k : Chg (fun _=>False) w w') : Kp6 a w':=fun q T cs h1 h2 hb=>(h q T cs h1 h2 hb).chg k id
theorem Kp6.alloc {a w : World} (h : Kp6 a w) (o : Obj) : Kp6 a (w.alloc o):=h.chg ((Chg.refl _ w).alloc o)
theorem Kp6.kp {w w' : World} (h : Kp6 w w') : Kp w w':=fun q cs hb=>h q _ cs (by decide) (by decide) hb
theorem wat_put6 (p q N : Nat) (n : Int) (l : List Int) (st : Option (List UInt8)) (w1 W : World) (h : Wat w1 p st N W) (hq : Blk W q 3 (ics l).toArray) (hw : ∀ x ∈ l, -9223372036854775808 ≤ x ∧ x ≤ 9223372036854775807) (hN : N + 8 * l.length ≤ 1000000) :
  Calls Tryz.prog 155 #[.pointer (some ⟨p,0,none⟩),int i64 n, .slice (some ⟨q,0,none⟩) l.length l.length] W fun e w'=>e = .returned (.pointer (some ⟨p,0,none⟩)) ∧ Wat w1 p (putS n l st) (N + 8 * l.length) w' ∧ Kp6 W w':=by
 obtain ⟨o,hwr,hC,hp,ho⟩:=h
 have hkeep : ∀ (q : Nat) (T : TypeId) (cs : Array Value),T ≠ 243 → T ≠ 5 → Blk W q T cs → q ≠ p ∧ o ≠ some q:=by
  intro q T cs hT1 hT2 hq
  obtain ⟨bs,f,A,c,hob,_⟩:=hwr
  refine ⟨?_, ?_⟩
  ·rintro rfl
   have h : Blk W q _ _:=hob.blk
   have h:=h.symm.trans hq
   simp only [Option.some.injEq,Obj.cells.injEq] at h
   exact hT1 h.2.1.symm
  ·rintro rfl
   have ha:=hob.at_
   rcases hob.own.2 with ⟨e,_⟩ | ⟨g,cap,cur,e,_,hh,_⟩
   ·injection e with e
    subst e
    cases ha
   ·injection e with e
    subst e
    injection ha with ha
    have ha : g = q:=ha
    subst ha
    have h:=hh.symm.trans hq
    simp only [Option.some.injEq,Obj.cells.injEq] at h
    exact hT2 h.2.1.symm
 have hr:=hq.rds
 rw [List.size_toArray,List.toList_toArray,ics_len] at hr
 have hput:=put_any p o st N n l (some ⟨q,0,none⟩) l.length l.length W (fun k=>k = q) hwr rfl hr (fun k hk=>by subst hk; exact hkeep _ _ _ (by decide) (by decide) hq) hw (by omega)
 refine hput.mono fun e w' ⟨he,o',hw',hm'⟩ => ?_
 obtain ⟨h1,h2⟩:=fresh_mvd hC hm' hp ho
 refine ⟨he,⟨o',hw',h1,hp,h2⟩,fun q' T cs hT1 hT2 hb=>hb.chg hm'.1 ?_⟩
 obtain ⟨e1,e2⟩:=hkeep q' T cs hT1 hT2 hb
 rintro (h | h)
 ·exact e1 h
 ·exact e2 h
theorem Wat.mono {w1 w : World} {p N N' : Nat} {st : Option (List UInt8)} (h : Wat w1 p st N w) (hN : N ≤ N') : Wat w1 p st N' w:=by
 obtain ⟨o,⟨bs,f,A,c,h1,h2,h3⟩,hr⟩:=h
 exact ⟨o,⟨bs,f,A,c,h1,Nat.le_trans h2 hN,h3⟩,hr⟩
theorem i64_wrap {x : Int} (h : -9223372036854775808 ≤ x ∧ x ≤ 9223372036854775807) : IntKind.i64.wrap x = x:=by
 rw [IntKind.wrap_i64]
 omega
def rowP (po ma ow ta ol ge ph ve si : Int) (st : Option (List UInt8)) : Option (List UInt8):=putS 6 [ve,si] (putS 5 [ge] (putS 1 [ow + 1,ta + 1,ol + 1,ph] (putS 6 [ma] (putS 1 [po] st))))
def recP (x : Rc) (st : Option (List UInt8)) : Option (List UInt8):=putS 6 [x.un] (putS 2 [x.sp,x.dp] (putS 4 [x.sr,x.ds] (putS 1 [x.pr] st)))
def recsP (l : List Rc) (st : Option (List UInt8)) : Option (List UInt8):=l.foldl (fun s x=>recP x s) st
def rowB (po ma ow ta ol ge ph ve si : Int) : List UInt8:=be 1 po.toNat ++ (be 6 ma.toNat ++ (be 1 (ow + 1).toNat ++ (be 1 (ta + 1).toNat ++ (be 1 (ol + 1).toNat ++ (be 1 ph.toNat ++ (be 5 ge.toNat ++ (be 6 ve.toNat ++ be 6 si.toNat)))))))
def recB (x : Rc) : List UInt8:=be 1 x.pr.toNat ++ (be 4 x.sr.toNat ++ (be 4 x.ds.toNat ++ (be 2 x.sp.toNat ++ (be 2 x.dp.toNat ++ be 6 x.un.toNat))))
def recsB (l : List Rc) : List UInt8:=l.flatMap recB
def msB (kd po ma ow ta ol ge ph ve si pt vr : Int) (l : List Rc) : List UInt8 :=
 be 1 kd.toNat ++ (if kd = 1 then rowB po ma ow ta ol ge ph ve si else be 1 pt.toNat ++ (be 6 vr.toNat ++ (if kd = 3 then be 1 l.length ++ recsB l else [])))
def RcN (x : Rc) : Prop:=(0 ≤ x.sr ∧ x.sr ≤ 4294967295) ∧ (0 ≤ x.ds ∧ x.ds ≤ 4294967295)
theorem fits_w6 (n : Nat) {x : Int} (h : 0 ≤ x) (h2 : x < 256 ^ n) : fits n x = true:=by
 unfold fits
 simp only [Bool.and_eq_true,decide_eq_true_eq]
 exact ⟨h,h2⟩
theorem wi_mem {lo hi : Int} {l : List Int} (h : withinB lo hi l = true) : ∀ x ∈ l,lo ≤ x ∧ x ≤ hi:=by
 intro x hx
 unfold withinB at h
 have:=List.all_eq_true.1 h x hx
 simpa using this
theorem wi_one' {lo hi x : Int} (h : withinB lo hi [x] = true) : lo ≤ x ∧ x ≤ hi:=wi_mem h x (by simp)
theorem held_parts {ph ow ta ol : Int} (h : heldB ph ow ta ol = true) : (0 ≤ ph ∧ ph ≤ 3) ∧ (-1 ≤ ow ∧ ow ≤ 15) ∧ (-1 ≤ ta ∧ ta ≤ 15) ∧ (-1 ≤ ol ∧ ol ≤ 15):=by
 unfold heldB at h
 by_cases h0 : ph = 0
 ·rw [if_pos h0] at h
  simp only [Bool.and_eq_true] at h
  have a:=wi_mem h.1 ow (by simp)
  have b:=wi_mem h.2 ta (by simp)
  have c:=wi_mem h.2 ol (by simp)
  omega
 rw [if_neg h0] at h
 by_cases h1 : ph = 1
 ·rw [if_pos h1] at h
  simp only [Bool.and_eq_true] at h
  have a:=wi_mem h.1 ow (by simp)
  have b:=wi_mem h.1 ta (by simp)
  have c:=wi_mem h.2.2 ol (by simp)
  omega
 rw [if_neg h1] at h
 by_cases h2 : ph = 2
 ·rw [if_pos h2] at h
  simp only [Bool.and_eq_true] at h
  have a:=wi_mem h.1 ow (by simp)
  have b:=wi_mem h.1 ol (by simp)
  have c:=wi_mem h.2.2 ta (by simp)
  omega
 rw [if_neg h2] at h
 by_cases h3 : ph = 3
 ·rw [if_pos h3] at h
  have a:=wi_mem h ow (by simp)
  have b:=wi_mem h ta (by simp)
  have c:=wi_mem h ol (by simp)
  omega
 rw [if_neg h3] at h
 cases h
theorem row_parts {po ma ow ta ol ge ph ve si : Int} (h : rwR po ma ow ta ol ge ph ve si = true) : (0 ≤ po ∧ po ≤ 31) ∧ ma ≤ 281474976710655 ∧ (-1 ≤ ow ∧ ow ≤ 15) ∧ (-1 ≤ ta ∧ ta ≤ 15) ∧ (-1 ≤ ol ∧ ol ≤ 15) ∧ (1 ≤ ge ∧ ge ≤ 4294967296) ∧ (0 ≤ ph ∧ ph ≤ 3) ∧ (1 ≤ ve ∧ ve ≤ 1099511627776) ∧ (0 ≤ si ∧ si ≤ 1099511627776):=by
 unfold rwR namedB at h
 simp only [Bool.and_eq_true,decide_eq_true_eq] at h
 obtain ⟨⟨h1,h2⟩,h3,h4,h5,h6⟩:=h
 obtain ⟨a,b,c,d⟩:=held_parts h6
 exact ⟨wi_one' h1,h3,b,c,d,wi_one' h4,a,wi_one' h2,wi_one' h5⟩
theorem rec_parts {x : Rc} (h : rcR x = true) : (x.pr = 6 ∨ x.pr = 17) ∧ (0 ≤ x.sp ∧ x.sp ≤ 65535) ∧ (0 ≤ x.dp ∧ x.dp ≤ 65535) ∧ (0 ≤ x.un ∧ x.un ≤ 1099511627776):=by
 unfold rcR rcR1 flR portB at h
 simp only [Bool.and_eq_true,Bool.or_eq_true,beq_iff_eq,decide_eq_true_eq] at h
 exact ⟨h.1.1,h.1.2.1,h.1.2.2,wi_one' h.2⟩
theorem rowP_eq {po ma ow ta ol ge ph ve si : Int} (h : rwR po ma ow ta ol ge ph ve si = true) (hm : 0 ≤ ma) (b : List UInt8) : rowP po ma ow ta ol ge ph ve si (some b) = some (b ++ rowB po ma ow ta ol ge ph ve si):=by
 obtain ⟨h1,h2,h3,h4,h5,h6,h7,h8,h9⟩:=row_parts h
 have e1 : fits 1 po = true:=fits_w6 1 (by omega) (by omega)
 have e2 : fits 6 ma = true:=fits_w6 6 (by omega) (by omega)
 have e3 : fits 1 (ow + 1) = true:=fits_w6 1 (by omega) (by omega)
 have e4 : fits 1 (ta + 1) = true:=fits_w6 1 (by omega) (by omega)
 have e5 : fits 1 (ol + 1) = true:=fits_w6 1 (by omega) (by omega)
 have e6 : fits 1 ph = true:=fits_w6 1 (by omega) (by omega)
 have e7 : fits 5 ge = true:=fits_w6 5 (by omega) (by omega)
 have e8 : fits 6 ve = true:=fits_w6 6 (by omega) (by omega)
 have e9 : fits 6 si = true:=fits_w6 6 (by omega) (by omega)
 simp [rowP,rowB,putS,puts,put1,e1,e2,e3,e4,e5,e6,e7,e8,e9]
theorem recP_eq {x : Rc} (h : rcR x = true) (hn : RcN x) (b : List UInt8) : recP x (some b) = some (b ++ recB x):=by
 obtain ⟨h1,h2,h3,h4⟩:=rec_parts h
 obtain ⟨h5,h6⟩:=hn
 have e1 : fits 1 x.pr = true:=fits_w6 1 (by omega) (by omega)
 have e2 : fits 4 x.sr = true:=fits_w6 4 (by omega) (by omega)
 have e3 : fits 4 x.ds = true:=fits_w6 4 (by omega) (by omega)
 have e4 : fits 2 x.sp = true:=fits_w6 2 (by omega) (by omega)
 have e5 : fits 2 x.dp = true:=fits_w6 2 (by omega) (by omega)
 have e6 : fits 6 x.un = true:=fits_w6 6 (by omega) (by omega)
 simp [recP,recB,putS,puts,put1,e1,e2,e3,e4,e5,e6]
theorem recsP_eq : ∀ {l : List Rc} (h : l.all rcR = true) (hn : ∀ x ∈ l,RcN x) (b : List UInt8),recsP l (some b) = some (b ++ recsB l)
 | [],_,_,b=>by simp [recsP,recsB]
 | x :: r,h,hn,b=>by
  simp only [List.all_cons,Bool.and_eq_true] at h
  have e:=recsP_eq (l:=r) h.2 (fun y hy=>hn y (by simp [hy])) (b ++ recB x)
  have e2:=recP_eq h.1 (hn x (by simp)) b
  unfold recsP at e ⊢
  rw [List.foldl_cons,e2,e]
  simp [recsB]
theorem recsP_take {l : List Rc} {k : Nat} {x : Rc} (h : l[k]? = some x) (st : Option (List UInt8)) : recsP (l.take (k + 1)) st = recP x (recsP (l.take k) st):=by
 obtain ⟨hk,rfl⟩:=List.getElem?_eq_some_iff.1 h
 unfold recsP
 rw [List.take_succ_eq_append_getElem hk,List.foldl_append]
 rfl
end Go.Proofs.YtnojmbejedlilaaGreat
end
