/-
  What rows mean at a chassis, and their entries, plain: what the table tells is what the first row means which means something; rows in memory. No condition.
-/
import Derived.Test.YtfajcdobikjcdaaGreatDoorOa
import Derived.Test.YtfajcdobikjcdaaGreatDoorM8
import Derived.Deep.LoopGhost
import Derived.Lib.SmallJoins
import Derived.Deep.Cut
import Derived.Deep.DeepCutAuto
import Derived.Deep.RegionHeld3
import Derived.BigQuiet
set_option maxRecDepth 100000
set_option maxHeartbeats 40000000
set_option linter.unusedVariables false
set_option linter.unusedSimpArgs false
section
namespace Go.Proofs.YtfajcdobikjcdaaGreatDoor
open Go.Value (int)
open Go.IntKind (i64)
open Go.RowKit
def isB14 (ma po ki km kp : Int) : Bool:=if ki = 0 then km == ma else (decide (ki = 1) || decide (ki = 2)) && kp == po
def lfB14 (ph ol c : Int) : Bool:=ph == 2 && c == ol
def mk14 (po ma ow ol ge ph c ki km kp ks ko : Int) : Int :=
 if isB14 ma po ki km kp = false then 0 else if ph = 3 then 0 else if ge < ks then 0 else if c = ow then 1 else if ki = 0 then 2 else if ki = 1 ∧ lfB14 ph ol c = true ∧ ¬ ko = ow then 2 else 0
def RV.kd (r : RV) (c : Int) (k : Ky) : Int:=mk14 r.po r.ma r.ow r.ol r.ge r.ph c k.ki k.km k.kp k.ks k.ko
def as14 (ki ks ko : Int) : Bool:=(ki == 0 && (ks == 0 && ko == -1)) || ((ki == 1 || ki == 2) && (decide (0 ≤ ko) && (decide (ko ≤ 15) && decide (0 ≤ ks))))
theorem as14_cases {ki ks ko : Int} (h : as14 ki ks ko = true) : (ki = 0 ∧ ks = 0 ∧ ko = -1) ∨ ((ki = 1 ∨ ki = 2) ∧ 0 ≤ ko ∧ ko ≤ 15 ∧ 0 ≤ ks):=by
 simpa [as14] using h
def ent14 (po ma ow ge ins no kd : Int) : En:=⟨0,ins,ma,po, -9223372036854775808,ge,no,kd,po,ow,ge⟩
def es14 (po ma ow ol ge ph c : Int) : List En :=
 if ph = 3 then [] else if c = ow then [ent14 po ma ow ge 7 (-9223372036854775808) 1] else if lfB14 ph ol c = true then [ent14 po ma ow ge 1 (-9223372036854775808) 2,ent14 po ma ow ge 2 ow 2] else [ent14 po ma ow ge 1 (-9223372036854775808) 2]
def RV.es (r : RV) (c : Int) : List En:=es14 r.po r.ma r.ow r.ol r.ge r.ph c
theorem es14_len (po ma ow ol ge ph c : Int) : (es14 po ma ow ol ge ph c).length ≤ 2:=by
 unfold es14
 split
 ·simp
 ·split
  ·simp
  ·split <;> simp
theorem es14_pr {po ma ow ol ge ph c : Int} : ∀ e ∈ es14 po ma ow ol ge ph c,e.pr = 0:=by
 intro e he
 unfold es14 at he
 split at he
 ·simp at he
 ·split at he
  ·simp only [List.mem_singleton] at he; subst he; rfl
  ·split at he
   ·simp only [List.mem_cons,List.not_mem_nil,or_false] at he
    rcases he with rfl | rfl <;> rfl
   ·simp only [List.mem_singleton] at he; subst he; rfl
def cp14 (c : Int) (l : List RV) : List En:=l.flatMap fun r=>r.es c
theorem cp14_len (c : Int) : ∀ l : List RV,(cp14 c l).length ≤ 2 * l.length
 | []=>Nat.le_refl _
 | r :: l=>by
  have h1:=cp14_len c l
  have h2:=es14_len r.po r.ma r.ow r.ol r.ge r.ph c
  unfold cp14 at *
  simp only [List.flatMap_cons,List.length_append,List.length_cons]
  unfold RV.es at *
  omega
theorem cp14_pr (c : Int) (l : List RV) : ∀ e ∈ cp14 c l,e.pr = 0:=by
 intro e he
 unfold cp14 at he
 simp only [List.mem_flatMap] at he
 obtain ⟨r,_,hr⟩:=he
 exact es14_pr e hr
theorem cp14_take {c : Int} {l : List RV} {j : Nat} {r : RV} (h : l[j]? = some r) : cp14 c (l.take (j + 1)) = cp14 c (l.take j) ++ r.es c:=by
 unfold cp14
 rw [List.take_add_one,h,List.flatMap_append]
 simp
theorem find14_congr {f g : En → Bool} : ∀ l : List En,(∀ e ∈ l,f e = g e) → l.find? f = l.find? g
 | [],_=>rfl
 | x :: l,h=>by
  have ih:=find14_congr l (fun e he=>h e (by simp [he]))
  have hx:=h x (by simp)
  rw [List.find?_cons,List.find?_cons,hx,ih]
theorem beq14 (a b : Int) : (a == b) = (b == a):=by
 by_cases h : a = b
 ·subst h; rfl
 ·have h2 : ¬ b = a:=fun e=>h e.symm
  rw [beq_eq_false_iff_ne.2 h,beq_eq_false_iff_ne.2 h2]
theorem lk14_find (k : Ky) : ∀ (l : List En),(∀ e ∈ l,e.pr = 0) → lk13 k l = l.find? (fun e=>fit13 e k):=by
 intro l h
 cases hf : l.find? (fun e=>fit13 e k) with
 | some b =>
  refine lk13_find (m:=0) (fun e he _=>by rw [h e he]; exact Int.le_refl _) ?_
  rw [← hf]
  refine find14_congr l fun e he => ?_
  show (fit13 e k && decide (e.pr = 0)) = fit13 e k
  rw [h e he]
  simp
 | none =>
  have hn:=List.find?_eq_none.1 hf
  clear h hf
  unfold lk13
  induction l with
  | nil=>rfl
  | cons x l ih =>
   rw [List.foldl_cons,up13_no (by simpa using hn x (by simp))]
   exact ih (fun e he=>hn e (by simp [he]))
theorem fit14 (po ma ow ge ins no kd : Int) {k : Ky} (h : as14 k.ki k.ks k.ko = true) : fit13 (ent14 po ma ow ge ins no kd) k = (inB13 ins k.ki && (isB14 ma po k.ki k.km k.kp && (decide (k.ks ≤ ge) && (no != k.ko)))):=by
 have hm : decide ((-9223372036854775808 : Int) ≤ k.ks) = true:=by
  rcases as14_cases h with h | h <;> simp <;> omega
 have ht : toB13 ma po k.ki k.km k.kp = isB14 ma po k.ki k.km k.kp:=by
  unfold toB13 isB14
  rcases as14_cases h with ⟨h0,_⟩ | ⟨h0 | h0,_⟩
  ·rw [h0,if_pos rfl,if_pos rfl,beq14]
  ·rw [h0,if_neg (by decide),if_neg (by decide),beq14]; rfl
  ·rw [h0,if_neg (by decide),if_neg (by decide),beq14]; rfl
 unfold fit13 fB13 ent14
 dsimp only
 rw [hm,ht,Bool.true_and]
theorem bits14 : (∀ i,inB13 7 i = (decide (i = 0) || decide (i = 1) || decide (i = 2))) ∧ (∀ i,inB13 1 i = decide (i = 0)) ∧ (∀ i,inB13 2 i = decide (i = 1)):=by
 refine ⟨fun i => ?_,fun i => ?_,fun i => ?_⟩
 ·have h0 : bit13 7 0 = true:=by decide
  have h1 : bit13 7 1 = true:=by decide
  have h2 : bit13 7 2 = true:=by decide
  simp [inB13,h0,h1,h2]
 ·have h0 : bit13 1 0 = true:=by decide
  have h1 : bit13 1 1 = false:=by decide
  have h2 : bit13 1 2 = false:=by decide
  simp [inB13,h0,h1,h2]
 ·have h0 : bit13 2 0 = false:=by decide
  have h1 : bit13 2 1 = true:=by decide
  have h2 : bit13 2 2 = false:=by decide
  simp [inB13,h0,h1,h2]
theorem row14 (r : RV) (c : Int) {k : Ky} (h : as14 k.ki k.ks k.ko = true) :
  ((r.es c).find? (fun e=>fit13 e k) = none ∧ r.kd c k = 0) ∨ ∃ e,(r.es c).find? (fun e=>fit13 e k) = some e ∧ ¬ r.kd c k = 0 ∧ e.ac = acC (r.kd c k) r.po r.ow r.ge:=by
 have hko : (-9223372036854775808 : Int) ≠ k.ko:=by rcases as14_cases h with h | h <;> omega
 have hno : ((-9223372036854775808 : Int) != k.ko) = true:=by simpa using hko
 have h3 : k.ki = 0 ∨ k.ki = 1 ∨ k.ki = 2:=by rcases as14_cases h with h | ⟨h,_⟩ <;> omega
 obtain ⟨b7,b1,b2⟩:=bits14
 unfold RV.es es14 RV.kd mk14
 by_cases hp : r.ph = 3
 ·rw [if_pos hp]
  simp [hp]
 rw [if_neg hp]
 by_cases hc : c = r.ow
 ·rw [if_pos hc]
  have hin : inB13 7 k.ki = true:=by rw [b7]; rcases h3 with h3 | h3 | h3 <;> simp [h3]
  cases hi : isB14 r.ma r.po k.ki k.km k.kp with
  | false =>
   left
   refine ⟨?_,by simp⟩
   rw [List.find?_cons_of_neg (by rw [fit14 _ _ _ _ _ _ _ h,hi]; simp)]
   rfl
  | true =>
   by_cases hg : r.ge < k.ks
   ·left
    refine ⟨?_,by simp [hg]⟩
    rw [List.find?_cons_of_neg (by rw [fit14 _ _ _ _ _ _ _ h]; simp; omega)]
    rfl
   ·right
    refine ⟨_,List.find?_cons_of_pos (by rw [fit14 _ _ _ _ _ _ _ h,hi,hin,hno]; simp; omega),by simp [hg,hp,hc], ?_⟩
    simp [hg,hp,hc,En.ac,ent14]
 rw [if_neg hc]
 by_cases hl : lfB14 r.ph r.ol c = true
 ·rw [if_pos hl]
  cases hi : isB14 r.ma r.po k.ki k.km k.kp with
  | false =>
   left
   refine ⟨?_,by simp⟩
   rw [List.find?_cons_of_neg (by rw [fit14 _ _ _ _ _ _ _ h,hi]; simp),List.find?_cons_of_neg (by rw [fit14 _ _ _ _ _ _ _ h,hi]; simp)]
   rfl
  | true =>
   by_cases hg : r.ge < k.ks
   ·left
    refine ⟨?_,by simp [hg]⟩
    rw [List.find?_cons_of_neg (by rw [fit14 _ _ _ _ _ _ _ h]; simp; omega),List.find?_cons_of_neg (by rw [fit14 _ _ _ _ _ _ _ h]; simp; omega)]
    rfl
   ·have hd : decide (k.ks ≤ r.ge) = true:=by simp; omega
    rcases h3 with h3 | h3 | h3
    ·right
     refine ⟨_,List.find?_cons_of_pos (by rw [fit14 _ _ _ _ _ _ _ h,hi,b1,hno,hd,h3]; rfl),by simp [hg,hp,hc,h3], ?_⟩
     simp [hg,hp,hc,h3,En.ac,ent14]
    ·have n1 : ¬ fit13 (ent14 r.po r.ma r.ow r.ge 1 (-9223372036854775808) 2) k = true:=by rw [fit14 _ _ _ _ _ _ _ h,b1,h3]; simp
     by_cases ho : k.ko = r.ow
     ·left
      refine ⟨?_,by simp [hg,hp,hc,h3,ho]⟩
      rw [List.find?_cons_of_neg (by exact n1),List.find?_cons_of_neg (by rw [fit14 _ _ _ _ _ _ _ h,ho]; simp)]
      rfl
     ·right
      have ho2 : (r.ow != k.ko) = true:=by simp; exact fun e=>ho e.symm
      refine ⟨ent14 r.po r.ma r.ow r.ge 2 r.ow 2, ?_,by simp [hg,hp,hc,h3,ho,hl], ?_⟩
      ·rw [List.find?_cons_of_neg (by exact n1),List.find?_cons_of_pos (by rw [fit14 _ _ _ _ _ _ _ h,hi,b2,hd,ho2,h3]; rfl)]
      ·simp [hg,hp,hc,h3,ho,hl,En.ac,ent14]
    ·left
     refine ⟨?_,by simp [hg,hp,hc,h3]⟩
     rw [List.find?_cons_of_neg (by rw [fit14 _ _ _ _ _ _ _ h,b1,h3]; simp),List.find?_cons_of_neg (by rw [fit14 _ _ _ _ _ _ _ h,b2,h3]; simp)]
     rfl
 ·rw [if_neg hl]
  cases hi : isB14 r.ma r.po k.ki k.km k.kp with
  | false =>
   left
   refine ⟨?_,by simp⟩
   rw [List.find?_cons_of_neg (by rw [fit14 _ _ _ _ _ _ _ h,hi]; simp)]
   rfl
  | true =>
   by_cases hg : r.ge < k.ks
   ·left
    refine ⟨?_,by simp [hg]⟩
    rw [List.find?_cons_of_neg (by rw [fit14 _ _ _ _ _ _ _ h]; simp; omega)]
    rfl
   ·have hd : decide (k.ks ≤ r.ge) = true:=by simp; omega
    by_cases h0 : k.ki = 0
    ·right
     refine ⟨_,List.find?_cons_of_pos (by rw [fit14 _ _ _ _ _ _ _ h,hi,b1,hno,hd,h0]; rfl),by simp [hg,hp,hc,h0], ?_⟩
     simp [hg,hp,hc,h0,En.ac,ent14]
    ·left
     refine ⟨?_,by simp [hg,hp,hc,h0,hl]⟩
     rw [List.find?_cons_of_neg (by rw [fit14 _ _ _ _ _ _ _ h,b1]; simp [h0])]
     rfl
def fr14 (c : Int) (k : Ky) (l : List RV) : Option RV:=l.find? fun r=>r.kd c k != 0
def fA14 (c : Int) (k : Ky) : Option RV → Array Value
 | none=>acC 0 0 0 0
 | some r=>acC (r.kd c k) r.po r.ow r.ge
theorem tab14 (c : Int) {k : Ky} (h : as14 k.ki k.ks k.ko = true) (l : List RV) : acO13 (lk13 k (cp14 c l)) = fA14 c k (fr14 c k l) ∧ (lk13 k (cp14 c l)).isSome = (fr14 c k l).isSome:=by
 rw [lk14_find k _ (cp14_pr c l)]
 induction l with
 | nil=>exact ⟨rfl,rfl⟩
 | cons r l ih =>
  unfold cp14 fr14 at *
  rw [List.flatMap_cons,List.find?_append]
  rcases row14 r c h with ⟨h1,h2⟩ | ⟨e,h1,h2,h3⟩
  ·rw [h1,List.find?_cons_of_neg (by simp [h2]),Option.none_or]
   exact ih
  ·rw [h1,List.find?_cons_of_pos (by simpa using h2),Option.some_or]
   exact ⟨h3,rfl⟩
theorem fr14_some {c : Int} {k : Ky} {l : List RV} {r : RV} (h : fr14 c k l = some r) : r ∈ l ∧ ¬ r.kd c k = 0:=by
 refine ⟨List.mem_of_find?_eq_some h, ?_⟩
 have h2:=List.find?_some h
 simpa using h2
/-! ### rows stand -/
/-! ### memory -/
def RwR (w : World) (L : Option Addr) (m : Nat) (l : List RV) : Prop :=
 m = l.length ∧ (0 < m → ∃ ad,L = some ad ∧ ad.block < w.heap.size ∧ ∀ (i : Nat) (x : RV),l[i]? = some x → ∀ (j : Nat) (u : Value),x.cs[j]? = some u → w.cell? (ad.add (i * 9 + j)) = some u)
section
variable {w w' : World} {L : Option Addr} {m : Nat} {l : List RV}
theorem RwR.chg (h : RwR w L m l) (hc : Chg (fun _=>False) w w') : RwR w' L m l:=by
 refine ⟨h.1,fun hm => ?_⟩
 obtain ⟨ad,e,hb,hcell⟩:=h.2 hm
 refine ⟨ad,e,Nat.lt_of_lt_of_le hb hc.size,fun i x hi j u hu => ?_⟩
 rw [← hcell i x hi j u hu]
 exact World.cell?_of_block (by rw [block_add]; exact hc.block _ hb id)
theorem RwR.at {ad : Addr} {i : Nat} {x : RV} (h : RwR w (some ad) m l) (hi : l[i]? = some x) :
  w.cell? (ad.add (i * 9)) = some (int i64 x.po) ∧ w.cell? ⟨(ad.add (i * 9)).block,(ad.add (i * 9)).off + 1,none⟩ = some (int .u64 x.ma) ∧ w.cell? ⟨(ad.add (i * 9)).block,(ad.add (i * 9)).off + 2,none⟩ = some (int i64 x.ow) ∧ w.cell? ⟨(ad.add (i * 9)).block,(ad.add (i * 9)).off + 3,none⟩ = some (int i64 x.ta) ∧ w.cell? ⟨(ad.add (i * 9)).block,(ad.add (i * 9)).off + 4,none⟩ = some (int i64 x.ol) ∧ w.cell? ⟨(ad.add (i * 9)).block,(ad.add (i * 9)).off + 5,none⟩ = some (int i64 x.ge) ∧ w.cell? ⟨(ad.add (i * 9)).block,(ad.add (i * 9)).off + 6,none⟩ = some (int i64 x.ph) ∧ w.cell? ⟨(ad.add (i * 9)).block,(ad.add (i * 9)).off + 7,none⟩ = some (int i64 x.ve) ∧ w.cell? ⟨(ad.add (i * 9)).block,(ad.add (i * 9)).off + 8,none⟩ = some (int i64 x.si):=by
 have hl : i < l.length:=(List.getElem?_eq_some_iff.1 hi).1
 obtain ⟨ad',e,_,hc⟩:=h.2 (by have:=h.1; omega)
 injection e with e
 subst e
 have k : ∀ j u,x.cs[j]? = some u → w.cell? ((ad.add (i * 9)).add j) = some u:=fun j u hu=>by rw [off_add]; exact hc i x hi j u hu
 exact ⟨k 0 _ rfl,k 1 _ rfl,k 2 _ rfl,k 3 _ rfl,k 4 _ rfl,k 5 _ rfl,k 6 _ rfl,k 7 _ rfl,k 8 _ rfl⟩
end
theorem bleft14_any (po ma ow ta ol ge ph ve si c : Int) (w : World) : Calls Tryz.prog 142 #[.agg (rvC po ma ow ta ol ge ph ve si),int i64 c] w fun e w'=>e = .returned (.bool (lfB14 ph ol c)) ∧ Chg (fun _=>False) w w':=by
 have HB0 : Hid (Blk (w.alloc (.cells #[int i64 po,int .u64 ma,int i64 ow,int i64 ta,int i64 ol,int i64 ge,int i64 ph,int i64 ve,int i64 si] 63)) w.heap.size 63 (rvC po ma ow ta ol ge ph ve si)):=hd_ (blk_new rfl)
 have HC0:=hd_ ((Chg.refl (fun _=>False) w).alloc (.cells #[int i64 po,int .u64 ma,int i64 ow,int i64 ta,int i64 ol,int i64 ge,int i64 ph,int i64 ve,int i64 si] 63))
 obtain ⟨y0,y1,y2,y3,y4,y5,y6,y7,y8⟩:=rv_cells HB0.out
 unfold rvC
 by_cases h2 : ph = 2
 ·skip
  have tp : (ph == 2) = true:=by simp [h2]
  have HH:=hd_ h2
  clear h2
  go_enter Tryz.func142,Tryz.ntmps142
  go_upto_region 1 with fail
  generalize w.alloc (.cells #[int i64 po,int .u64 ma,int i64 ow,int i64 ta,int i64 ol,int i64 ge,int i64 ph,int i64 ve,int i64 si] 63) = w1 at *
  generalize w.heap.size = q at *
  go_wp2_with fail
  go_ret
  exact ⟨ret_b13 (by simp [lfB14,HH.out]),HC0.out⟩
 ·skip
  have tp : (ph == 2) = false:=by simp [h2]
  have HH:=hd_ h2
  clear h2
  go_enter Tryz.func142,Tryz.ntmps142
  go_upto_region 1 with fail
  generalize w.alloc (.cells #[int i64 po,int .u64 ma,int i64 ow,int i64 ta,int i64 ol,int i64 ge,int i64 ph,int i64 ve,int i64 si] 63) = w1 at *
  generalize w.heap.size = q at *
  go_wp2_with fail
  go_ret
  exact ⟨ret_b13 (by simp [lfB14,HH.out]),HC0.out⟩
theorem bact14_any (kd po ma ow ta ol ge ph ve si : Int) (w : World) : Calls Tryz.prog 145 #[int i64 kd, .agg (rvC po ma ow ta ol ge ph ve si)] w fun e w'=>e = .returned (.agg (acC kd po ow ge)) ∧ Chg (fun _=>False) w w':=by
 unfold rvC acC
 go_enter Tryz.func145,Tryz.ntmps145
 go_wp2_with fail
 have hb : Blk ((w.alloc (.cells #[int i64 po,int .u64 ma,int i64 ow,int i64 ta,int i64 ol,int i64 ge,int i64 ph,int i64 ve,int i64 si] 63)).alloc (.cells #[int i64 kd,int i64 po,int i64 ow,int i64 ge] 188)) (w.heap.size + 1) 188 (acC kd po ow ge):=blk_new (by simp)
 obtain ⟨r0,r1,r2,r3⟩:=ac_cells13 hb
 exact bodyPost_ret (v := .agg #[int i64 kd,int i64 po,int i64 ow,int i64 ge]) (by simp [results,Tryz.results145,go_sem,r0,r1,r2,r3]) rfl ⟨rfl,((Chg.refl (fun _=>False) w).alloc _).alloc _⟩
theorem en_res14 {w : World} {q : Nat} {T : TypeId} {cs : Array Value} (hb : Blk w q T cs) (hs : cs.size = 11) (x : En) :
  (w.setCell ⟨q,0,none⟩ (int i64 x.pr)).cell? ⟨q,0,none⟩ = some (int i64 x.pr) ∧ ((w.setCell ⟨q,0,none⟩ (int i64 x.pr)).setCell ⟨q,1,none⟩ (int i64 x.ins)).cell? ⟨q,1,none⟩ = some (int i64 x.ins) ∧ (((w.setCell ⟨q,0,none⟩ (int i64 x.pr)).setCell ⟨q,1,none⟩ (int i64 x.ins)).setCell ⟨q,2,none⟩ (int .u64 x.ma)).cell? ⟨q,2,none⟩ = some (int .u64 x.ma) ∧ ((((w.setCell ⟨q,0,none⟩ (int i64 x.pr)).setCell ⟨q,1,none⟩ (int i64 x.ins)).setCell ⟨q,2,none⟩ (int .u64 x.ma)).setCell ⟨q,3,none⟩ (int i64 x.po)).cell? ⟨q,3,none⟩ = some (int i64 x.po) ∧ (((((w.setCell ⟨q,0,none⟩ (int i64 x.pr)).setCell ⟨q,1,none⟩ (int i64 x.ins)).setCell ⟨q,2,none⟩ (int .u64 x.ma)).setCell ⟨q,3,none⟩ (int i64 x.po)).setCell ⟨q,4,none⟩ (int i64 x.fr)).cell? ⟨q,4,none⟩ = some (int i64 x.fr) ∧ ((((((w.setCell ⟨q,0,none⟩ (int i64 x.pr)).setCell ⟨q,1,none⟩ (int i64 x.ins)).setCell ⟨q,2,none⟩ (int .u64 x.ma)).setCell ⟨q,3,none⟩ (int i64 x.po)).setCell ⟨q,4,none⟩ (int i64 x.fr)).setCell ⟨q,5,none⟩ (int i64 x.up)).cell? ⟨q,5,none⟩ = some (int i64 x.up) ∧ (((((((w.setCell ⟨q,0,none⟩ (int i64 x.pr)).setCell ⟨q,1,none⟩ (int i64 x.ins)).setCell ⟨q,2,none⟩ (int .u64 x.ma)).setCell ⟨q,3,none⟩ (int i64 x.po)).setCell ⟨q,4,none⟩ (int i64 x.fr)).setCell ⟨q,5,none⟩ (int i64 x.up)).setCell ⟨q,6,none⟩ (int i64 x.no)).cell? ⟨q,6,none⟩ = some (int i64 x.no) ∧ ((((((((w.setCell ⟨q,0,none⟩ (int i64 x.pr)).setCell ⟨q,1,none⟩ (int i64 x.ins)).setCell ⟨q,2,none⟩ (int .u64 x.ma)).setCell ⟨q,3,none⟩ (int i64 x.po)).setCell ⟨q,4,none⟩ (int i64 x.fr)).setCell ⟨q,5,none⟩ (int i64 x.up)).setCell ⟨q,6,none⟩ (int i64 x.no)).setCell ⟨q,7,none⟩ (int i64 x.ak)).cell? ⟨q,7,none⟩ = some (int i64 x.ak) ∧ (((((((((w.setCell ⟨q,0,none⟩ (int i64 x.pr)).setCell ⟨q,1,none⟩ (int i64 x.ins)).setCell ⟨q,2,none⟩ (int .u64 x.ma)).setCell ⟨q,3,none⟩ (int i64 x.po)).setCell ⟨q,4,none⟩ (int i64 x.fr)).setCell ⟨q,5,none⟩ (int i64 x.up)).setCell ⟨q,6,none⟩ (int i64 x.no)).setCell ⟨q,7,none⟩ (int i64 x.ak)).setCell ⟨q,8,none⟩ (int i64 x.ap)).cell? ⟨q,8,none⟩ = some (int i64 x.ap) ∧ ((((((((((w.setCell ⟨q,0,none⟩ (int i64 x.pr)).setCell ⟨q,1,none⟩ (int i64 x.ins)).setCell ⟨q,2,none⟩ (int .u64 x.ma)).setCell ⟨q,3,none⟩ (int i64 x.po)).setCell ⟨q,4,none⟩ (int i64 x.fr)).setCell ⟨q,5,none⟩ (int i64 x.up)).setCell ⟨q,6,none⟩ (int i64 x.no)).setCell ⟨q,7,none⟩ (int i64 x.ak)).setCell ⟨q,8,none⟩ (int i64 x.ap)).setCell ⟨q,9,none⟩ (int i64 x.ao)).cell? ⟨q,9,none⟩ = some (int i64 x.ao) ∧ (((((((((((w.setCell ⟨q,0,none⟩ (int i64 x.pr)).setCell ⟨q,1,none⟩ (int i64 x.ins)).setCell ⟨q,2,none⟩ (int .u64 x.ma)).setCell ⟨q,3,none⟩ (int i64 x.po)).setCell ⟨q,4,none⟩ (int i64 x.fr)).setCell ⟨q,5,none⟩ (int i64 x.up)).setCell ⟨q,6,none⟩ (int i64 x.no)).setCell ⟨q,7,none⟩ (int i64 x.ak)).setCell ⟨q,8,none⟩ (int i64 x.ap)).setCell ⟨q,9,none⟩ (int i64 x.ao)).setCell ⟨q,10,none⟩ (int i64 x.ag)).cell? ⟨q,10,none⟩ = some (int i64 x.ag) ∧ Chg (fun k=>k = q) w (((((((((((w.setCell ⟨q,0,none⟩ (int i64 x.pr)).setCell ⟨q,1,none⟩ (int i64 x.ins)).setCell ⟨q,2,none⟩ (int .u64 x.ma)).setCell ⟨q,3,none⟩ (int i64 x.po)).setCell ⟨q,4,none⟩ (int i64 x.fr)).setCell ⟨q,5,none⟩ (int i64 x.up)).setCell ⟨q,6,none⟩ (int i64 x.no)).setCell ⟨q,7,none⟩ (int i64 x.ak)).setCell ⟨q,8,none⟩ (int i64 x.ap)).setCell ⟨q,9,none⟩ (int i64 x.ao)).setCell ⟨q,10,none⟩ (int i64 x.ag)):=by
 have h0:=hb.set 0 (int i64 x.pr)
 have r0:=h0.cell 0
 rw [Array.getElem?_setIfInBounds_self_of_lt (by simp [hs])] at r0
 have h1:=h0.set 1 (int i64 x.ins)
 have r1:=h1.cell 1
 rw [Array.getElem?_setIfInBounds_self_of_lt (by simp [hs])] at r1
 have h2:=h1.set 2 (int .u64 x.ma)
 have r2:=h2.cell 2
 rw [Array.getElem?_setIfInBounds_self_of_lt (by simp [hs])] at r2
 have h3:=h2.set 3 (int i64 x.po)
 have r3:=h3.cell 3
 rw [Array.getElem?_setIfInBounds_self_of_lt (by simp [hs])] at r3
 have h4:=h3.set 4 (int i64 x.fr)
 have r4:=h4.cell 4
 rw [Array.getElem?_setIfInBounds_self_of_lt (by simp [hs])] at r4
 have h5:=h4.set 5 (int i64 x.up)
 have r5:=h5.cell 5
 rw [Array.getElem?_setIfInBounds_self_of_lt (by simp [hs])] at r5
 have h6:=h5.set 6 (int i64 x.no)
 have r6:=h6.cell 6
 rw [Array.getElem?_setIfInBounds_self_of_lt (by simp [hs])] at r6
 have h7:=h6.set 7 (int i64 x.ak)
 have r7:=h7.cell 7
 rw [Array.getElem?_setIfInBounds_self_of_lt (by simp [hs])] at r7
 have h8:=h7.set 8 (int i64 x.ap)
 have r8:=h8.cell 8
 rw [Array.getElem?_setIfInBounds_self_of_lt (by simp [hs])] at r8
 have h9:=h8.set 9 (int i64 x.ao)
 have r9:=h9.cell 9
 rw [Array.getElem?_setIfInBounds_self_of_lt (by simp [hs])] at r9
 have h10:=h9.set 10 (int i64 x.ag)
 have r10:=h10.cell 10
 rw [Array.getElem?_setIfInBounds_self_of_lt (by simp [hs])] at r10
 exact ⟨r0,r1,r2,r3,r4,r5,r6,r7,r8,r9,r10,(((((((((((Chg.refl (fun k=>k = q) w).put q 0 (fun _=>rfl) _).put q 1 (fun _=>rfl) _).put q 2 (fun _=>rfl) _).put q 3 (fun _=>rfl) _).put q 4 (fun _=>rfl) _).put q 5 (fun _=>rfl) _).put q 6 (fun _=>rfl) _).put q 7 (fun _=>rfl) _).put q 8 (fun _=>rfl) _).put q 9 (fun _=>rfl) _).put q 10 (fun _=>rfl) _⟩
theorem bentry14_any (po ma ow ta ol ge ph ve si ins no kd : Int) (w : World) : Calls Tryz.prog 141 #[.agg (rvC po ma ow ta ol ge ph ve si),int i64 ins,int i64 no,int i64 kd] w fun e w'=>e = .returned (.agg (ent14 po ma ow ge ins no kd).cs) ∧ Chg (fun _=>False) w w':=by
 have HB0 : Hid (Blk ((w.alloc (.cells #[int i64 po,int .u64 ma,int i64 ow,int i64 ta,int i64 ol,int i64 ge,int i64 ph,int i64 ve,int i64 si] 63)).alloc (.cells #[int i64 0,int i64 0,int .u64 0,int i64 0,int i64 0,int i64 0,int i64 0,int i64 0,int i64 0,int i64 0,int i64 0] 217)) w.heap.size 63 (rvC po ma ow ta ol ge ph ve si)):=hd_ (Blk.alloc (blk_new rfl) _)
 have HZ : Hid (Blk ((w.alloc (.cells #[int i64 po,int .u64 ma,int i64 ow,int i64 ta,int i64 ol,int i64 ge,int i64 ph,int i64 ve,int i64 si] 63)).alloc (.cells #[int i64 0,int i64 0,int .u64 0,int i64 0,int i64 0,int i64 0,int i64 0,int i64 0,int i64 0,int i64 0,int i64 0] 217)) (w.heap.size + 1) 217 (enC 0 0 0 0 0 0 0 0 0 0 0)):=hd_ (blk_new (by simp))
 have HX:=hd_ (((Chg.refl (fun _=>False) w).alloc (.cells #[int i64 po,int .u64 ma,int i64 ow,int i64 ta,int i64 ol,int i64 ge,int i64 ph,int i64 ve,int i64 si] 63)).alloc (.cells #[int i64 0,int i64 0,int .u64 0,int i64 0,int i64 0,int i64 0,int i64 0,int i64 0,int i64 0,int i64 0,int i64 0] 217))
 have HQ : Hid (w.heap.size ≤ w.heap.size + 1):=hd_ (by omega)
 have HN : Hid (¬ w.heap.size = w.heap.size + 1):=hd_ (by omega)
 have HA:=hd_ (show ∀ W,Calls _ _ #[int i64 kd, .agg #[int i64 po,int .u64 ma,int i64 ow,int i64 ta,int i64 ol,int i64 ge,int i64 ph,int i64 ve,int i64 si]] W (fun e w'=>e = .returned (.agg #[int i64 kd,int i64 po,int i64 ow,int i64 ge]) ∧ Chg (fun _=>False) W w') from fun W=>bact14_any kd po ma ow ta ol ge ph ve si W)
 unfold rvC
 go_enter Tryz.func141,Tryz.ntmps141
 go_upto_region 1 with fail
 generalize (w.alloc (.cells #[int i64 po,int .u64 ma,int i64 ow,int i64 ta,int i64 ol,int i64 ge,int i64 ph,int i64 ve,int i64 si] 63)).alloc (.cells #[int i64 0,int i64 0,int .u64 0,int i64 0,int i64 0,int i64 0,int i64 0,int i64 0,int i64 0,int i64 0,int i64 0] 217) = w1 at *
 generalize w.heap.size + 1 = Q1 at *
 generalize w.heap.size = Q0 at HB0 HN ⊢
 have HKEEP : Hid (∀ W : World,Chg (fun k=>k = Q1) w1 W → (W.cell? ⟨Q0,0,none⟩ = some (int i64 po) ∧ W.cell? ⟨Q0,1,none⟩ = some (int .u64 ma) ∧ W.cell? ⟨Q0,2,none⟩ = some (int i64 ow) ∧ W.cell? ⟨Q0,3,none⟩ = some (int i64 ta) ∧ W.cell? ⟨Q0,4,none⟩ = some (int i64 ol) ∧ W.cell? ⟨Q0,5,none⟩ = some (int i64 ge) ∧ W.cell? ⟨Q0,6,none⟩ = some (int i64 ph) ∧ W.cell? ⟨Q0,7,none⟩ = some (int i64 ve) ∧ W.cell? ⟨Q0,8,none⟩ = some (int i64 si))):=hd_ (fun W hw=>rv_cells (HB0.out.chg hw HN.out))
 have HXA:=hd_ ((Chg.refl (fun k=>k = Q1) w1).drew)
 have HX1:=hd_ ((Chg.refl (fun _=>False) w1).drew)
 obtain ⟨y0,y1,y2,y3,y4,y5,y6,y7,y8⟩:=HKEEP.out _ HXA.out
 go_region_held3 (fun w'=>w'.cell? ⟨Q0,0,none⟩ = some (int i64 po) ∧ w'.cell? ⟨Q0,1,none⟩ = some (int .u64 ma) ∧ w'.cell? ⟨Q0,2,none⟩ = some (int i64 ow) ∧ w'.cell? ⟨Q0,3,none⟩ = some (int i64 ta) ∧ w'.cell? ⟨Q0,4,none⟩ = some (int i64 ol) ∧ w'.cell? ⟨Q0,5,none⟩ = some (int i64 ge) ∧ w'.cell? ⟨Q0,6,none⟩ = some (int i64 ph) ∧ w'.cell? ⟨Q0,7,none⟩ = some (int i64 ve) ∧ w'.cell? ⟨Q0,8,none⟩ = some (int i64 si))
  (first | with_reducible exact HKEEP.out _ HXA.out | with_reducible exact HKEEP.out _ HXB.out | with_reducible exact HKEEP.out _ HXC.out | fail)
  (first
   | (go_at_call 145; (with_reducible refine (HA.out _).mono ?_); rintro e wz ⟨rfl,hc⟩; have HX2:=hd_ (HX1.out.trans hc (fun _ _ e=>e)); have HXB:=hd_ (HXA.out.trans (hc.mono (S':=fun k=>k = Q1) (fun _ _ h=>h.elim)) (fun _ _ e=>e)); replace HX:=hd_ (HX.out.trans HX2.out (fun _ _ e=>e)); replace HZ:=hd_ (HZ.out.chg HX2.out id); clear hc HX2; obtain ⟨c0,c1,c2,c3,c4,c5,c6,c7,c8,c9,c10⟩:=en_cells13 HZ.out; obtain ⟨f0,f1,f2,f3,f4,f5,f6,f7,f8,f9,f10⟩:=en_free13 HZ.out; obtain ⟨r0,r1,r2,r3,r4,r5,r6,r7,r8,r9,r10,hcs⟩:=en_res14 HZ.out rfl (⟨0,ins,ma,po, -9223372036854775808,ge,no,kd,po,ow,ge⟩ : En); have HXC:=hd_ (HXB.out.trans hcs (fun _ _ e=>e)); have HF:=hd_ (fresh_set HX.out hcs HQ.out); have RR:=hd_ (And.intro r0 (And.intro r1 (And.intro r2 (And.intro r3 (And.intro r4 (And.intro r5 (And.intro r6 (And.intro r7 (And.intro r8 (And.intro r9 r10)))))))))); clear r0 r1 r2 r3 r4 r5 r6 r7 r8 r9 r10 hcs HX)
   | fail)
 all_goals
  go_wp2_with fail
  obtain ⟨r0,r1,r2,r3,r4,r5,r6,r7,r8,r9,r10⟩:=RR.out
  exact bodyPost_ret (v := .agg #[int i64 0,int i64 ins,int .u64 ma,int i64 po,int i64 (-9223372036854775808),int i64 ge,int i64 no,int i64 kd,int i64 po,int i64 ow,int i64 ge]) (by simp [results,Tryz.results141,go_sem,r0,r1,r2,r3,r4,r5,r6,r7,r8,r9,r10]) rfl ⟨rfl,HF.out⟩
def EsP14 (l : List En) (w : World) (e : Ending) (w' : World) : Prop := ∃ (E : Option Addr) (n d : Nat),e = .returned (.slice E n d) ∧ EnR w' E n l ∧ (E = none → d = 0) ∧ Chg (fun _=>False) w w'
theorem bents14_any (po ma ow ta ol ge ph ve si c : Int) (w : World) : Calls Tryz.prog 130 #[.agg (rvC po ma ow ta ol ge ph ve si),int i64 c] w (EsP14 (es14 po ma ow ol ge ph c) w):=by
 have HB0 : Hid (Blk (w.alloc (.cells #[int i64 po,int .u64 ma,int i64 ow,int i64 ta,int i64 ol,int i64 ge,int i64 ph,int i64 ve,int i64 si] 63)) w.heap.size 63 (rvC po ma ow ta ol ge ph ve si)):=hd_ (blk_new rfl)
 have HX:=hd_ ((Chg.refl (fun _=>False) w).alloc (.cells #[int i64 po,int .u64 ma,int i64 ow,int i64 ta,int i64 ol,int i64 ge,int i64 ph,int i64 ve,int i64 si] 63))
 have HE1:=hd_ (show ∀ W,Calls _ _ #[.agg #[int i64 po,int .u64 ma,int i64 ow,int i64 ta,int i64 ol,int i64 ge,int i64 ph,int i64 ve,int i64 si],int i64 7,int i64 (-9223372036854775808),int i64 1] W (fun e w'=>e = .returned (.agg #[int i64 0,int i64 7,int .u64 ma,int i64 po,int i64 (-9223372036854775808),int i64 ge,int i64 (-9223372036854775808),int i64 1,int i64 po,int i64 ow,int i64 ge]) ∧ Chg (fun _=>False) W w') from fun W=>bentry14_any po ma ow ta ol ge ph ve si 7 (-9223372036854775808) 1 W)
 have HE2:=hd_ (show ∀ W,Calls _ _ #[.agg #[int i64 po,int .u64 ma,int i64 ow,int i64 ta,int i64 ol,int i64 ge,int i64 ph,int i64 ve,int i64 si],int i64 1,int i64 (-9223372036854775808),int i64 2] W (fun e w'=>e = .returned (.agg #[int i64 0,int i64 1,int .u64 ma,int i64 po,int i64 (-9223372036854775808),int i64 ge,int i64 (-9223372036854775808),int i64 2,int i64 po,int i64 ow,int i64 ge]) ∧ Chg (fun _=>False) W w') from fun W=>bentry14_any po ma ow ta ol ge ph ve si 1 (-9223372036854775808) 2 W)
 have HE3:=hd_ (show ∀ W,Calls _ _ #[.agg #[int i64 po,int .u64 ma,int i64 ow,int i64 ta,int i64 ol,int i64 ge,int i64 ph,int i64 ve,int i64 si],int i64 2,int i64 ow,int i64 2] W (fun e w'=>e = .returned (.agg #[int i64 0,int i64 2,int .u64 ma,int i64 po,int i64 (-9223372036854775808),int i64 ge,int i64 ow,int i64 2,int i64 po,int i64 ow,int i64 ge]) ∧ Chg (fun _=>False) W w') from fun W=>bentry14_any po ma ow ta ol ge ph ve si 2 ow 2 W)
 have hlf:=(show ∀ W,Calls _ _ #[.agg #[int i64 po,int .u64 ma,int i64 ow,int i64 ta,int i64 ol,int i64 ge,int i64 ph,int i64 ve,int i64 si],int i64 c] W _ from fun W=>bleft14_any po ma ow ta ol ge ph ve si c W)
 unfold rvC
 go_enter Tryz.func130,Tryz.ntmps130
 go_upto_region 1 with fail
 generalize w.alloc (.cells #[int i64 po,int .u64 ma,int i64 ow,int i64 ta,int i64 ol,int i64 ge,int i64 ph,int i64 ve,int i64 si] 63) = w1 at *
 generalize w.heap.size = Q0 at HB0 ⊢
 obtain ⟨y0,y1,y2,y3,y4,y5,y6,y7,y8⟩:=rv_cells HB0.out
 by_cases h3 : ph = 3
 ·skip
  have tp : (ph == 3) = true:=by simp [h3]
  have HV:=hd_ (show es14 po ma ow ol ge ph c = [] from by simp [es14,h3])
  clear h3 hlf
  go_wp2_with fail
  go_ret
  refine ⟨none,0,0,rfl, ?_,fun _=>rfl,HX.out⟩
  rw [HV.out]
  exact EnR.nil _ _
 ·skip
  have tp : (ph == 3) = false:=by simp [h3]
  by_cases hcw : c = ow
  ·skip
   have tc : (c == ow) = true:=by simp [hcw]
   have HV:=hd_ (show es14 po ma ow ol ge ph c = [(ent14 po ma ow ge 7 (-9223372036854775808) 1)] from by simp [es14,h3,hcw])
   clear h3 hcw hlf
   go_wp2_with fail
   refine (HE1.out _).mono ?_
   rintro e wz ⟨rfl,hc⟩
   replace HX:=hd_ (HX.out.trans hc (fun _ _ e=>e))
   clear hc
   go_wp2_with fail
   go_ret
   refine ⟨_,1,1,rfl, ?_,(fun e=>by cases e),HX.out.alloc _⟩
   rw [HV.out]
   exact enr_blk13 (l := [(ent14 po ma ow ge 7 (-9223372036854775808) 1)]) (T:=217) (by have h : Blk (wz.alloc (.cells #[int i64 0,int i64 7,int .u64 ma,int i64 po,int i64 (-9223372036854775808),int i64 ge,int i64 (-9223372036854775808),int i64 1,int i64 po,int i64 ow,int i64 ge] 217)) wz.heap.size 217 #[int i64 0,int i64 7,int .u64 ma,int i64 po,int i64 (-9223372036854775808),int i64 ge,int i64 (-9223372036854775808),int i64 1,int i64 po,int i64 ow,int i64 ge]:=blk_new rfl; exact h)
  ·skip
   have tc : (c == ow) = false:=by simp [hcw]
   cases hl : lfB14 ph ol c with
   | false =>
    rw [hl] at hlf
    have HLF:=hd_ hlf
    have HV:=hd_ (show es14 po ma ow ol ge ph c = [(ent14 po ma ow ge 1 (-9223372036854775808) 2)] from by simp [es14,h3,hcw,hl])
    clear hlf hl hcw h3
    go_wp2_with fail
    refine (HLF.out _).mono ?_
    rintro e w2 ⟨rfl,hc⟩
    clear y0 y1 y2 y3 y4 y5 y6 y7 y8
    replace HB0:=hd_ (HB0.out.chg hc id)
    replace HX:=hd_ (HX.out.trans hc (fun _ _ e=>e))
    clear hc
    obtain ⟨y0,y1,y2,y3,y4,y5,y6,y7,y8⟩:=rv_cells HB0.out
    go_wp2_with fail
    refine (HE2.out _).mono ?_
    rintro e wz ⟨rfl,hc⟩
    replace HX:=hd_ (HX.out.trans hc (fun _ _ e=>e))
    clear hc
    go_wp2_with fail
    go_ret
    refine ⟨_,1,1,rfl, ?_,(fun e=>by cases e),HX.out.alloc _⟩
    rw [HV.out]
    exact enr_blk13 (l := [(ent14 po ma ow ge 1 (-9223372036854775808) 2)]) (T:=217) (by have h : Blk (wz.alloc (.cells #[int i64 0,int i64 1,int .u64 ma,int i64 po,int i64 (-9223372036854775808),int i64 ge,int i64 (-9223372036854775808),int i64 2,int i64 po,int i64 ow,int i64 ge] 217)) wz.heap.size 217 #[int i64 0,int i64 1,int .u64 ma,int i64 po,int i64 (-9223372036854775808),int i64 ge,int i64 (-9223372036854775808),int i64 2,int i64 po,int i64 ow,int i64 ge]:=blk_new rfl; exact h)
   | true =>
    rw [hl] at hlf
    have HV:=hd_ (show es14 po ma ow ol ge ph c = [(ent14 po ma ow ge 1 (-9223372036854775808) 2),(ent14 po ma ow ge 2 ow 2)] from by simp [es14,h3,hcw,hl])
    have HLF:=hd_ hlf
    clear hlf hl hcw h3
    go_wp2_with fail
    refine (HLF.out _).mono ?_
    rintro e w2 ⟨rfl,hc⟩
    clear y0 y1 y2 y3 y4 y5 y6 y7 y8
    replace HB0:=hd_ (HB0.out.chg hc id)
    replace HX:=hd_ (HX.out.trans hc (fun _ _ e=>e))
    clear hc
    obtain ⟨y0,y1,y2,y3,y4,y5,y6,y7,y8⟩:=rv_cells HB0.out
    have HKEEP : Hid (∀ W : World,Chg (fun _=>False) w2 W → (W.cell? ⟨Q0,0,none⟩ = some (int i64 po) ∧ W.cell? ⟨Q0,1,none⟩ = some (int .u64 ma) ∧ W.cell? ⟨Q0,2,none⟩ = some (int i64 ow) ∧ W.cell? ⟨Q0,3,none⟩ = some (int i64 ta) ∧ W.cell? ⟨Q0,4,none⟩ = some (int i64 ol) ∧ W.cell? ⟨Q0,5,none⟩ = some (int i64 ge) ∧ W.cell? ⟨Q0,6,none⟩ = some (int i64 ph) ∧ W.cell? ⟨Q0,7,none⟩ = some (int i64 ve) ∧ W.cell? ⟨Q0,8,none⟩ = some (int i64 si))):=hd_ (fun W hw=>rv_cells (HB0.out.chg hw id))
    have HXA:=hd_ ((Chg.refl (fun _=>False) w2).drew)
    go_wp2_with fail
    go_region_held3 (fun w'=>w'.cell? ⟨Q0,0,none⟩ = some (int i64 po) ∧ w'.cell? ⟨Q0,1,none⟩ = some (int .u64 ma) ∧ w'.cell? ⟨Q0,2,none⟩ = some (int i64 ow) ∧ w'.cell? ⟨Q0,3,none⟩ = some (int i64 ta) ∧ w'.cell? ⟨Q0,4,none⟩ = some (int i64 ol) ∧ w'.cell? ⟨Q0,5,none⟩ = some (int i64 ge) ∧ w'.cell? ⟨Q0,6,none⟩ = some (int i64 ph) ∧ w'.cell? ⟨Q0,7,none⟩ = some (int i64 ve) ∧ w'.cell? ⟨Q0,8,none⟩ = some (int i64 si))
     (first | with_reducible exact HKEEP.out _ HXA.out | with_reducible exact HKEEP.out _ HXB.out | with_reducible exact HKEEP.out _ HXC.out | with_reducible exact HKEEP.out _ (HXC.out.alloc _) | fail)
     (first
      | (go_at_call 141; (with_reducible refine (HE2.out _).mono ?_); rintro e wy ⟨rfl,hc⟩; have HXB:=hd_ (HXA.out.trans hc (fun _ _ e=>e)); clear hc)
      | (go_at_call 141; (with_reducible refine (HE3.out _).mono ?_); rintro e wz ⟨rfl,hc⟩; have HXC:=hd_ (HXB.out.trans hc (fun _ _ e=>e)); clear hc)
      | fail)
    all_goals
     go_wp2_with fail
     go_ret
     refine ⟨_,2,2,rfl, ?_,(fun e=>by cases e),(HX.out.trans HXC.out (fun _ _ e=>e)).alloc _⟩
     rw [HV.out]
     exact enr_blk13 (l := [(ent14 po ma ow ge 1 (-9223372036854775808) 2),(ent14 po ma ow ge 2 ow 2)]) (T:=217) (by have h : Blk (wz.alloc (.cells #[int i64 0,int i64 1,int .u64 ma,int i64 po,int i64 (-9223372036854775808),int i64 ge,int i64 (-9223372036854775808),int i64 2,int i64 po,int i64 ow,int i64 ge,int i64 0,int i64 2,int .u64 ma,int i64 po,int i64 (-9223372036854775808),int i64 ge,int i64 ow,int i64 2,int i64 po,int i64 ow,int i64 ge] 217)) wz.heap.size 217 #[int i64 0,int i64 1,int .u64 ma,int i64 po,int i64 (-9223372036854775808),int i64 ge,int i64 (-9223372036854775808),int i64 2,int i64 po,int i64 ow,int i64 ge,int i64 0,int i64 2,int .u64 ma,int i64 po,int i64 (-9223372036854775808),int i64 ge,int i64 ow,int i64 2,int i64 po,int i64 ow,int i64 ge]:=blk_new rfl; exact h)
theorem bcomp14_any {w : World} {L : Option Addr} {m lc : Nat} {l : List RV} (h : RwR w L m l) (hb : m ≤ 100) (c : Int) : Calls Tryz.prog 106 #[int i64 c, .slice L m lc] w (EsP14 (cp14 c l) w):=by
 obtain ⟨i0,hi0,hz0,hz1,hz2⟩:=info_parts infoEn13
 have HL:=hd_ h.1
 have HRD:=hd_ h
 clear h
 go_enter Tryz.func106,Tryz.ntmps106
 go_wp2_with fail
 go_loopg [5,7,10] m (fun g s5 s7 i wr => ∃ (j n d : Nat) (E : Option Addr),g = m - j ∧ j ≤ m ∧ i = int i64 (j : Int) ∧ s5 = .slice E n d ∧ Hid (n = (cp14 c (l.take j)).length ∧ n ≤ 2 * j) ∧ Hid (wr.ownsRow w.heap.size 217 11 (.slice E n d) n (enF (cp14 c (l.take j)))) ∧ Hid (Chg (fun _=>False) w wr))
 case atStart=>exact ⟨0,0,0,none,rfl,Nat.zero_le _,rfl,rfl,hd_ ⟨rfl,Nat.le_refl _⟩,hd_ (World.ownsRow_nil _ _ _ _),hd_ (Chg.refl _ _)⟩
 case round =>
  obtain ⟨j,n,d,E,rfl,hj,rfl,rfl,HNN,HO,HX0⟩:=hrel
  by_cases hlt : j < m
  ·have hh:=HRD.out.chg HX0.out
   obtain ⟨ad,rfl, -⟩:=hh.2 (by omega)
   have hjl : j < l.length:=by have:=HL.out; omega
   have hx : l[j]? = some l[j]:=List.getElem?_eq_getElem hjl
   generalize l[j] = x at *
   obtain ⟨z0,z1,z2,z3,z4,z5,z6,z7,z8⟩:=hh.at hx
   have HTK:=hd_ (cp14_take (c:=c) hx)
   clear hx hh hjl
   have hca:=(Chg.refl (fun _=>False) wr).alloc (.cells #[int i64 x.po,int .u64 x.ma,int i64 x.ow,int i64 x.ta,int i64 x.ol,int i64 x.ge,int i64 x.ph,int i64 x.ve,int i64 x.si] 63)
   have HEA : Hid (Blk (wr.alloc (.cells #[int i64 x.po,int .u64 x.ma,int i64 x.ow,int i64 x.ta,int i64 x.ol,int i64 x.ge,int i64 x.ph,int i64 x.ve,int i64 x.si] 63)) wr.heap.size 63 (rvC x.po x.ma x.ow x.ta x.ol x.ge x.ph x.ve x.si)):=hd_ (blk_new rfl)
   replace HX0:=hd_ (HX0.out.trans hca (fun _ _ e=>e))
   replace HO:=hd_ (own_chg HO.out hca (fun _ _=>id))
   have hac:=fun W=>bents14_any x.po x.ma x.ow x.ta x.ol x.ge x.ph x.ve x.si c W
   unfold rvC at hac
   have HAC:=hd_ (show ∀ W,Calls _ _ _ W (EsP14 (x.es c) W) from hac)
   have HE2:=hd_ (show (x.es c).length ≤ 2 from es14_len ..)
   clear hca hac
   go_upto_region 5 with fail
   generalize wr.alloc (.cells #[int i64 x.po,int .u64 x.ma,int i64 x.ow,int i64 x.ta,int i64 x.ol,int i64 x.ge,int i64 x.ph,int i64 x.ve,int i64 x.si] 63) = wa at *
   generalize wr.heap.size = Q at *
   clear z0 z1 z2 z3 z4 z5 z6 z7 z8
   obtain ⟨y0,y1,y2,y3,y4,y5,y6,y7,y8⟩:=rv_cells HEA.out
   go_wp2_with fail
   refine (HAC.out _).mono ?_
   rintro e wz ⟨E2,n2,d2,rfl,hr,hz,hc⟩
   have HR2:=hd_ hr
   have HN2:=hd_ hr.1
   have HNO:=hd_ (enr_none hr)
   have HFL:=hd_ (enr_flat hr)
   replace HX0:=hd_ (HX0.out.trans hc (fun _ _ e=>e))
   replace HO:=hd_ (own_chg HO.out hc (fun _ _=>id))
   clear hr hz hc y0 y1 y2 y3 y4 y5 y6 y7 y8
   generalize hxs : enF (cp14 c (l.take j)) = xs at *
   have HXS:=hd_ hxs
   clear hxs
   go_wp2_with (at_builtin; refine wpList_app13 _ rfl (.tmp 14) (.tmp 17) 195 rfl w.heap.size 217 i0 _ 11 88 Tryz.underlying195 hi0 hz0 hz1 hz2 rfl (by decide) (.slice E n d) n xs rfl HO.out E2 n2 d2 (enF (x.es c)) rfl (by rw [enF_len,HN2.out]) HNO.out HFL.out (enF_one _) (by have:=HNN.out.2; have:=HN2.out; have:=HE2.out; unfold maxLen; omega) (by have:=HNN.out.2; have:=HN2.out; have:=HE2.out; omega) HX0.out.size ?_; intro v6 w6 hown6 hg6 hat6; obtain ⟨E6,d6,rfl, -, -⟩:=own_form hown6; have HO6:=hd_ hown6; have HX6:=hd_ (grown_fresh HX0.out hg6 HO.out (Nat.le_refl _)); clear hown6 hg6 hat6)
   go_roundg (m - (j + 1))
   case measure=>omega
   case rel=>exact ⟨j + 1,n + n2,d6,E6,rfl,by omega,by go_num,rfl,hd_ ⟨by rw [HTK.out,List.length_append, ← HN2.out, ← HNN.out.1],by have:=HNN.out.2; have:=HN2.out; have:=HE2.out; omega⟩,hd_ (by rw [HTK.out,enF_app,HXS.out]; exact HO6.out),HX6⟩
  ·have hjm : j = m:=by omega
   subst hjm
   have HTK:=hd_ (show l.take j = l from List.take_of_length_le (by have:=HL.out; omega))
   go_wp2_with fail
   go_ret
   exact ⟨E,n,d,rfl,own_enr (by rw [← HTK.out]; exact HO.out) (by rw [← HTK.out]; exact HNN.out.1),own_nil13 HO.out,HX0.out⟩
theorem btable14_any {w : World} {L : Option Addr} {m lc : Nat} {l : List RV} (h : RwR w L m l) (hb : m ≤ 100) (c : Int) : Calls Tryz.prog 65 #[int i64 c, .slice L m lc] w (NwP13 (cp14 c l) w):=by
 have HC:=hd_ (bcomp14_any (lc:=lc) h hb c)
 have HLN:=hd_ (show (cp14 c l).length ≤ 256 from by have:=cp14_len c l; have:=h.1; omega)
 clear h
 go_enter Tryz.func65,Tryz.ntmps65
 go_wp2_with fail
 refine HC.out.mono ?_
 rintro e w1 ⟨E,n,d,rfl,hr,hz,hc⟩
 have HN:=hd_ (fnew13_any hr hz (by have:=hr.1; have:=HLN.out; omega))
 have HX:=hd_ hc
 clear hr hz hc
 go_wp2_with fail
 refine HN.out.mono ?_
 rintro e w2 ⟨p,rfl,hT,hc⟩
 have HT:=hd_ hT
 replace HX:=hd_ (HX.out.trans hc (fun _ _ e=>e))
 clear hT hc
 go_wp2_with fail
 go_ret2
 exact ⟨p,rfl,HT.out,HX.out⟩
end Go.Proofs.YtfajcdobikjcdaaGreatDoor
end
