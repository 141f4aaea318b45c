/-
  Walk: agent.Take. Conditions: the agent, and the bytes, lie in memory.
-/
import Derived.Test.YtfajcdobikjcdaaGreatDoorAg
import Derived.Test.YtfajcdobikjcdaaGreatDoorM7
import Derived.Deep.Cut
import Derived.Deep.DeepCutAuto
set_option maxRecDepth 100000
set_option maxHeartbeats 40000000
set_option linter.unusedVariables false
set_option linter.unusedSimpArgs false
namespace Go.Proofs.YtfajcdobikjcdaaGreatDoor
open Go.Value (int)
open Go.IntKind (i64)
open Go.RowKit
theorem wpList_clear16 {P : Program} {w w' : World} {ops : Array Oper} {rest : List Oper} {o : Oper} {a : Act} {Q : Exit → Act → World → Prop} (hg : o.guard = none) (m : Operand) (t : TypeId) (hop : o.op = Op.call { callee:=Callee.builtin Builtin.clear,args:=#[m],argTypes:=#[t] })
  (b : Nat) (hm : a.eval m = .map (some b)) (hrun : ∀ ty,(Builtin.clear_ #[t] ty #[.map (some b)]).run P w = .ok (.tuple #[]) w') (hK : wpList P ops Q rest (a.put o.dst (.tuple #[])) w') : wpList P ops Q (o :: rest) a w:=by
 refine wpList_plain hg fun K' hK' => ?_
 unfold Oper.wp
 simp [execOp,hop,resolve,invoke,builtin,hm,hrun,Result.andThen]
 exact hK' _ _ hK
def tkA16 (x : AV) (l : LV) : AV := { x with s:=tkS x.s l }
def tkC16 (x : AV) (res : Bool) : AV:=if res then { x with td:=fun _ _=>none } else x
def tkH16 (x : AV) (got : Bool) (b : List UInt8) (now : Int) : AV:=if got then hear16 x b now else x
def tkZ16 (x : AV) (l : LV) (now : Int) : AV:=settle16 (tkH16 (tkC16 (tkA16 x l) (tkRes x.s l)) (tkGot x.s l) (tkB x.s l) now) now
def take16 (x : AV) (b : List UInt8) (now : Int) : AV × Int :=
 if tmB now = true then
  if jX b = 0 then
   if tkE x.s (jL b) = 0 then (tkZ16 x (jL b) now,0) else (x,tkE x.s (jL b))
  else (x,jX b)
 else (x,1)
theorem take_time {x : AV} {b : List UInt8} {now : Int} (h : tmB now = false) : take16 x b now = (x,1):=by unfold take16; rw [h]; rfl
theorem take_form {x : AV} {b : List UInt8} {now : Int} (h : tmB now = true) (h2 : ¬ jX b = 0) : take16 x b now = (x,jX b):=by unfold take16; rw [if_pos h,if_neg h2]
theorem take_err {x : AV} {b : List UInt8} {now : Int} (h : tmB now = true) (h2 : jX b = 0) (h3 : ¬ tkE x.s (jL b) = 0) : take16 x b now = (x,tkE x.s (jL b)):=by unfold take16; rw [if_pos h,if_pos h2,if_neg h3]
theorem take_ok {x : AV} {b : List UInt8} {now : Int} (h : tmB now = true) (h2 : jX b = 0) (h3 : tkE x.s (jL b) = 0) : take16 x b now = (tkZ16 x (jL b) now,0):=by unfold take16; rw [if_pos h,if_pos h2,if_pos h3]
theorem tkE_no {s : SV} {l : LV} (h : ¬ tkE s l = 0) : tkS s l = s:=by
 unfold tkS
 rw [if_neg]
 intro hok
 apply h
 unfold tkOk at hok
 rw [Bool.and_eq_true,decide_eq_true_eq] at hok
 unfold tkE
 rw [if_pos hok.1,if_neg (by have:=hok.2; omega)]
theorem AOk.told {j : Nat} {x : AV} (h : AOk j x) (f : Int → Int → Option Int) : AOk j { x with td:=f }:=⟨h.c0,h.s,h.lf,h.fl,h.rn,h.rw⟩
theorem AOk.tkZ {j : Nat} {x : AV} (h : AOk j x) (l : LV) (now : Int) : AOk (j + 1) (tkZ16 x l now):=by
 have h1 : AOk (j + 1) (tkA16 x l):=⟨h.c0,h.s.take l,h.lf,h.fl,h.rn,h.rw⟩
 have h2 : AOk (j + 1) (tkC16 (tkA16 x l) (tkRes x.s l)):=by
  unfold tkC16
  split
  ·exact h1.told _
  ·exact h1
 have h3 : AOk (j + 1) (tkH16 (tkC16 (tkA16 x l) (tkRes x.s l)) (tkGot x.s l) (tkB x.s l) now):=by
  unfold tkH16
  split
  ·exact h2.hear _ _
  ·exact h2
 unfold tkZ16
 exact h3.settle now
theorem AOk.take {j : Nat} {x : AV} (h : AOk j x) (b : List UInt8) (now : Int) : AOk (j + 1) (take16 x b now).1:=by
 unfold take16
 split
 ·split
  ·split
   ·dsimp only
    exact h.tkZ _ _
   ·exact h.le (by omega)
  ·exact h.le (by omega)
 ·exact h.le (by omega)
theorem take_up (x : AV) (b : List UInt8) (now : Int) : Up16 x (take16 x b now).1:=by
 unfold take16
 split
 ·split
  ·split
   ·have h1 : Up16 x (tkA16 x (jL b)):=⟨rfl,fun _ _ => .inl rfl⟩
    have h2 : Up16 x (tkC16 (tkA16 x (jL b)) (tkRes x.s (jL b))):=by
     unfold tkC16
     split
     ·exact ⟨rfl,fun _ _ => .inl rfl⟩
     ·exact h1
    have h3 : Up16 x (tkH16 (tkC16 (tkA16 x (jL b)) (tkRes x.s (jL b))) (tkGot x.s (jL b)) (tkB x.s (jL b)) now):=by
     unfold tkH16
     split
     ·exact h2.trans (hear_up _ _ _)
     ·exact h2
    dsimp only
    unfold tkZ16
    exact h3.trans (settle_up _ _)
   ·exact Up16.refl x
  ·exact Up16.refl x
 ·exact Up16.refl x
theorem AP.apart {w : World} {a ps : Nat} {o : Option Nat} {q : Nat} {oq : Option Nat} {m : Nat} {x : AV} (h : AP w a ps o q oq m x) {Q : Nat} {T : TypeId} {cs : Array Value} (hb : Blk w Q T cs) (h1 : T ≠ 67) (h2 : T ≠ 104) (h3 : T ≠ 31) (h4 : T ≠ 106) (h5 : T ≠ 131) : ¬ agD a ps o q oq m Q:=by
 obtain ⟨A,c,vs,hs,hown,ho,_⟩:=h.sn
 obtain ⟨A2,c2,hs2,hown2,ho2,_⟩:=h.tn
 rintro (e | e | e | e | e | e)
 ·exact blk_two16 hb h.ab h1 e
 ·exact blk_two16 hb hs h2 e
 ·rw [← ho] at e; exact own_ne_blk hown hb h3 e
 ·exact blk_two16 hb hs2 h4 e
 ·rw [← ho2] at e; exact own_ne_blk hown2 hb h5 e
 ·exact h.tm.ne hb e
theorem AM.apart {w : World} {a ps q m : Nat} {D : Nat → Prop} {x : AV} (h : AM w a ps q m D x) {Q : Nat} {T : TypeId} {cs : Array Value} (hb : Blk w Q T cs) (h1 : T ≠ 67) (h2 : T ≠ 104) (h3 : T ≠ 31) (h4 : T ≠ 106) (h5 : T ≠ 131) : ¬ D Q:=by
 obtain ⟨o,oq,rfl,h⟩:=h
 exact h.apart hb h1 h2 h3 h4 h5
theorem SM.wide16 {p : Nat} {o : Option Nat} {G : Nat → Prop} {x y : SV} {w w' : World} {B : Nat} (h : SM p o (fun k=>G k ∧ k < B) y w w') (hs : SN w p o G x) : SM p o G y w w':=by
 obtain ⟨o',hsn,hm⟩:=h
 obtain ⟨g1,g2⟩:=GN.ok hs hm
 exact ⟨o',hsn.mono (fun k hk _=>hk.imp (fun e=>⟨e.1.1,e.2⟩) id) g1 g2,hm⟩
theorem SM.put16 {p Q : Nat} {o : Option Nat} {G : Nat → Prop} {x y : SV} {w W w1 w2 : World} (h : SM p o (fun k=>G k ∧ k < w.heap.size) y W w1) (hs : SN w p o G x) (hc : Chg (fun _=>False) w W) (hQ1 : w.heap.size ≤ Q) (hQ2 : Q < W.heap.size) (hc2 : Chg (fun k=>k = Q) w1 w2) : SM p o G y w w2:=by
 have hl:=hs.lt
 obtain ⟨o',hsn,hm⟩:=h
 have hm2 : Mvd p o o' w w2:=(Mvd.pre hc hm).put hc2 hQ1
 have ho : ∀ k,o' = some k → ¬ k = Q:=fun k hk e=>by
  rcases hm.2 with e2 | e2 | ⟨j,e2,hj⟩
  ·have:=hl.2 k (by rw [← e2]; exact hk); omega
  ·rw [e2] at hk; cases hk
  ·rw [e2] at hk; injection hk with hk; omega
 obtain ⟨g1,g2⟩:=GN.ok hs hm2
 refine ⟨o',(hsn.chg hc2 (fun e=>by have:=hl.1; omega) ho ?_).mono (fun k hk _ => ?_) g1 g2,hm2⟩
 ·rintro k (e | e) e2
  ·have:=e.1.2; omega
  ·have:=e.1; omega
 ·rcases hk with e | e
  ·exact .inl ⟨e.1.1,e.1.2⟩
  ·exact .inr ⟨by have:=hc.size; have:=e.1; omega,e.2⟩
def TkX16 (base a ps q m : Nat) (D : Nat → Prop) (y : AV) (b : List UInt8) (got res : Bool) (er : Int) (wr : World) (s9 s8 : Value) (wx : World) : Prop :=
 ∃ Q A c D1,s9 = .pointer (some ⟨Q,0,none⟩) ∧ s8 = int i64 er ∧ Blk wx Q 89 (tkC A b.length c got res) ∧ (A = none → c = 0) ∧ Rds wx (fun k=>base ≤ k) A b.length (bcs b) ∧ AM wx a ps q m D1 y ∧ Mv16 D D1 wr wx ∧ base ≤ Q ∧ ¬ D1 Q
theorem atake_any {w : World} {a ps q m : Nat} {D : Nat → Prop} {x : AV} {n0 : Nat} (h : AM w a ps q m D x) (hok : AOk n0 x) (h0 : n0 ≤ 1000) (A : Option Addr) (n c : Nat) (b : List UInt8) (S : Nat → Prop) (hn : n = b.length) (hr : Rds w S A n (bcs b)) (hz : A = none → c = 0) (hn2 : n ≤ 9223372036854775807) (now : Int) : Calls Tryz.prog 8 #[.pointer (some ⟨a,0,none⟩), .slice A n c,int i64 now] w fun e w'=>e = .returned (int i64 (take16 x b now).2) ∧ AMv a ps q m D (take16 x b now).1 w w':=by
 have HM:=hd_ h
 have HOK:=hd_ hok
 have HLT:=hd_ h.lt
 have HTM:=hd_ (fun W=>atime_any now W)
 have HD:=hd_ (fun W hW=>dec11_any A n c b S W hn (hr.old.chg hW (fun _ _=>id) |>.mono (S':=S) (fun k hk=>hk.1)) hz hn2)
 have H0:=hd_ h0
 clear h hok hr hz hn hn2 h0
 cases htm : tmB now with
 | false =>
  rw [htm] at HTM
  have HT:=hd_ (take_time (x:=x) (b:=b) htm)
  clear htm
  go_enter Tryz.func8,Tryz.ntmps8
  go_wp2_with fail
  refine (HTM.out _).mono ?_
  rintro e w3 ⟨rfl,rfl⟩
  go_wp2_with fail
  go_ret
  exact ⟨by rw [HT.out]; rfl,by rw [HT.out]; exact AMv.refl HM.out⟩
 | true =>
  rw [htm] at HTM
  have HTT:=hd_ htm
  clear htm
  go_enter Tryz.func8,Tryz.ntmps8
  go_wp2_with fail
  refine (HTM.out _).mono ?_
  rintro e w3 ⟨rfl,rfl⟩
  have HDW:=hd_ (HD.out _ (Chg.refl _ w))
  clear HTM HD
  go_wp2_with fail
  refine HDW.out.mono ?_
  rintro e w4 hp
  unfold Dec11 at hp
  have HTE:=hd_ (take_form (x:=x) (b:=b) HTT.out)
  have HTR:=hd_ (take_err (x:=x) (b:=b) HTT.out)
  have HTO:=hd_ (take_ok (x:=x) (b:=b) HTT.out)
  have hlb:=jL_len b
  generalize jX b = xb at *
  generalize jL b = l at *
  obtain ⟨lm,lp,la,ls,lb⟩:=l
  obtain ⟨B,kc,rfl,hrd,hc⟩:=hp
  simp only at hrd
  have HLB:=hd_ (show lb.length ≤ 1000 from hlb)
  have HM4:=hd_ (HM.out.new hc)
  have HX:=hd_ (Mv16.of (D:=D) hc)
  have HSZ:=hd_ hc.size
  have HRD:=hd_ hrd
  clear hlb hrd hc HDW
  generalize hk : lb.length = k at *
  have HK:=hd_ hk
  clear hk
  unfold ltC
  go_upto_region 4 with fail
  have HB : Hid (Blk (w4.alloc (.cells #[int i64 lm,int i64 lp,int i64 la,int i64 ls, .slice B k kc] 85)) w4.heap.size 85 (ltC lm lp la ls B k kc)):=hd_ (blk_new rfl)
  have hc:=(Chg.refl (fun _=>False) w4).alloc (.cells #[int i64 lm,int i64 lp,int i64 la,int i64 ls, .slice B k kc] 85)
  replace HM:=hd_ (HM4.out.new hc)
  replace HX:=hd_ (HX.out.trans (Mv16.of hc))
  replace HRD:=hd_ (HRD.out.chg hc (fun _ _=>id))
  have HQB : Hid (∀ k,D k → ¬ k = w4.heap.size):=hd_ (fun k e h=>by have:=HLT.out k e; have:=HSZ.out; omega)
  replace HSZ:=hd_ (show w.heap.size ≤ (w4.alloc (.cells #[int i64 lm,int i64 lp,int i64 la,int i64 ls, .slice B k kc] 85)).heap.size from by have:=HSZ.out; simp; omega)
  clear hc HM4
  generalize w4.alloc (.cells #[int i64 lm,int i64 lp,int i64 la,int i64 ls, .slice B k kc] 85) = wr at *
  generalize w4.heap.size = Q at *
  by_cases hx : xb = 0
  case neg =>
   have tx : (xb != 0) = true:=by simpa using hx
   have HT:=hd_ (HTE.out hx)
   clear hx
   go_wp2_with fail
   go_ret
   exact ⟨by rw [HT.out]; rfl,by rw [HT.out]; exact ⟨D,HM.out,HX.out⟩⟩
  case pos =>
   subst hx
   replace HTR:=hd_ (fun e=>HTR.out rfl e)
   replace HTO:=hd_ (fun e=>HTO.out rfl e)
   obtain ⟨o,oq,hDD,hP⟩:=HM.out
   have HP:=hd_ hP
   have HDD:=hd_ hDD
   clear hP hDD HTE
   have htk:=fun W (hW : Chg (fun _=>False) wr W)=>stake_any ps o (fun k => ¬ agD a ps o q oq m k ∧ k < wr.heap.size) x.s ⟨lm,lp,la,ls,lb⟩ B k kc (fun j=>w.heap.size ≤ j) W (HP.out.sn.old.new hW) (HOK.out.s.ok (by have:=H0.out; omega)) HK.out.symm (HRD.out.chg hW (fun _ _=>id)) (fun h1 h2=>by
    obtain ⟨ad,e,_⟩:=HRD.out.2 (by omega)
    rw [h2] at e
    cases e) (by have:=HLB.out; omega) (fun e=>by have:=HLT.out ps (by rw [HDD.out]; exact .inr (.inl rfl)); omega) (fun j hj e=>by have:=HLT.out j (by rw [HDD.out]; exact .inr (.inr (.inl hj))); omega)
   unfold ltC TakeP TkR tkC at htk
   have HTKN:=hd_ (fun h=>tkE_no (s:=x.s) (l:=⟨lm,lp,la,ls,lb⟩) h)
   have HZZ:=hd_ (show tkZ16 x ⟨lm,lp,la,ls,lb⟩ now = settle16 (tkH16 (tkC16 { x with s:=tkS x.s ⟨lm,lp,la,ls,lb⟩ } (tkRes x.s ⟨lm,lp,la,ls,lb⟩)) (tkGot x.s ⟨lm,lp,la,ls,lb⟩) (tkB x.s ⟨lm,lp,la,ls,lb⟩) now) now from rfl)
   have HSI:=hd_ (show AOk (n0 + 1) { x with s:=tkS x.s ⟨lm,lp,la,ls,lb⟩ } from ⟨HOK.out.c0,HOK.out.s.take _,HOK.out.lf,HOK.out.fl,HOK.out.rn,HOK.out.rw⟩)
   have HBL:=hd_ (show (tkB x.s ⟨lm,lp,la,ls,lb⟩).length ≤ 1000 from by
    unfold tkB
    split
    ·have:=HLB.out; have:=HK.out; simp only; omega
    ·simp)
   generalize tkE x.s ⟨lm,lp,la,ls,lb⟩ = er at *
   generalize tkRes x.s ⟨lm,lp,la,ls,lb⟩ = res at *
   generalize tkGot x.s ⟨lm,lp,la,ls,lb⟩ = got at *
   generalize tkB x.s ⟨lm,lp,la,ls,lb⟩ = bb at *
   generalize tkS x.s ⟨lm,lp,la,ls,lb⟩ = sy at *
   generalize tkZ16 x ⟨lm,lp,la,ls,lb⟩ now = zz at *
   have HTK:=hd_ htk
   clear htk
   have HKEEP : Hid (∀ W : World,Chg (fun _=>False) wr W → (W.cell? ⟨Q,0,none⟩ = some (int i64 lm) ∧ W.cell? ⟨Q,1,none⟩ = some (int i64 lp) ∧ W.cell? ⟨Q,2,none⟩ = some (int i64 la) ∧ W.cell? ⟨Q,3,none⟩ = some (int i64 ls) ∧ W.cell? ⟨Q,4,none⟩ = some (.slice B k kc) ∧ W.cell? ⟨a,0,none⟩ = some (.pointer (some ⟨ps,0,none⟩)))):=hd_ (fun W hW=>by
    obtain ⟨y0,y1,y2,y3,y4⟩:=lt_cells (HB.out.chg hW id)
    exact ⟨y0,y1,y2,y3,y4,(HM.out.new hW).ab.c0⟩)
   have HXA:=hd_ (Chg.refl (fun _=>False) wr).drew
   have HXA2:=hd_ (((Chg.refl (fun _=>False) wr).alloc (.cells #[.slice none 0 0, .bool false, .bool false] 89)).drew)
   have HNA : Hid (Blk (wr.alloc (.cells #[.slice none 0 0, .bool false, .bool false] 89)).drew wr.heap.size 89 (tkC none 0 0 false false)):=hd_ (blk_new rfl).drew
   have HNQ : Hid (∀ k,D k → ¬ k = wr.heap.size):=hd_ (fun k e h=>by have:=HLT.out k e; have:=HSZ.out; omega)
   have HQW : Hid (¬ Q = wr.heap.size):=hd_ (fun e=>by have:=HB.out.lt; omega)
   have HLM : Hid (m < w.heap.size):=hd_ (HLT.out m (by rw [HDD.out]; exact .inr (.inr (.inr (.inr (.inr rfl))))))
   have HMA : Hid (D a):=hd_ HM.out.own_ne
   obtain ⟨y0,y1,y2,y3,y4,c0⟩:=HKEEP.out _ HXA.out
   go_upto_region 6 with fail
   clear y0 y1 y2 y3 y4 c0
   go_cut [9,8] (fun s9 s8 wx=>TkX16 w.heap.size a ps q m D { x with s:=sy } bb got res er wr s9 s8 wx)
   case first =>
    obtain ⟨y0,y1,y2,y3,y4,c0⟩:=HKEEP.out _ HXA.out
    go_region_held3 (fun w'=>(w'.cell? ⟨Q,0,none⟩ = some (int i64 lm) ∧ w'.cell? ⟨Q,1,none⟩ = some (int i64 lp) ∧ w'.cell? ⟨Q,2,none⟩ = some (int i64 la) ∧ w'.cell? ⟨Q,3,none⟩ = some (int i64 ls) ∧ w'.cell? ⟨Q,4,none⟩ = some (.slice B k kc) ∧ w'.cell? ⟨a,0,none⟩ = some (.pointer (some ⟨ps,0,none⟩))))
     (first | with_reducible exact HKEEP.out _ HXA.out | with_reducible exact HKEEP.out _ HXA2.out | with_reducible exact HSB.out | with_reducible exact HSN.out _ | with_reducible exact HSC.out | with_reducible exact HSD.out | fail)
     (first
      | (go_at_call 27; (with_reducible refine (HTK.out wr.drew HXA.out).mono ?_); rintro e wz ⟨E,ec,rfl,hz1,hr1,hsm⟩; obtain ⟨o',hP1,hc1,hD1⟩:=(HP.out.new HXA.out).sess (hsm.sm.wide16 (HP.out.new HXA.out).sn); have HP1:=hd_ hP1; have HMV:=hd_ ((Mv16.of HXA.out).trans ⟨hc1,hD1⟩); have HZ1:=hd_ hz1; have HR1:=hd_ hr1; have HBZ:=hd_ (HB.out.chg HMV.out.1 (fun e=>HQB.out _ (by rw [HDD.out]; exact e) rfl)); have HSB : Hid (wz.cell? ⟨Q,0,none⟩ = some (int i64 lm) ∧ wz.cell? ⟨Q,1,none⟩ = some (int i64 lp) ∧ wz.cell? ⟨Q,2,none⟩ = some (int i64 la) ∧ wz.cell? ⟨Q,3,none⟩ = some (int i64 ls) ∧ wz.cell? ⟨Q,4,none⟩ = some (.slice B k kc) ∧ wz.cell? ⟨a,0,none⟩ = some (.pointer (some ⟨ps,0,none⟩))):=hd_ (by obtain ⟨y0,y1,y2,y3,y4⟩:=lt_cells HBZ.out; exact ⟨y0,y1,y2,y3,y4,hP1.ab.c0⟩); have HSN : Hid (∀ ob : Obj,((wz.alloc ob).cell? ⟨Q,0,none⟩ = some (int i64 lm) ∧ (wz.alloc ob).cell? ⟨Q,1,none⟩ = some (int i64 lp) ∧ (wz.alloc ob).cell? ⟨Q,2,none⟩ = some (int i64 la) ∧ (wz.alloc ob).cell? ⟨Q,3,none⟩ = some (int i64 ls) ∧ (wz.alloc ob).cell? ⟨Q,4,none⟩ = some (.slice B k kc) ∧ (wz.alloc ob).cell? ⟨a,0,none⟩ = some (.pointer (some ⟨ps,0,none⟩)))):=hd_ (fun ob=>by obtain ⟨y0,y1,y2,y3,y4⟩:=lt_cells (HBZ.out.alloc ob); exact ⟨y0,y1,y2,y3,y4,(hP1.new ((Chg.refl (fun _=>False) wz).alloc ob)).ab.c0⟩); clear hP1 hc1 hD1 hsm hz1 hr1)
      | (go_at_call 27; (with_reducible refine (HTK.out (wr.alloc (.cells #[.slice none 0 0, .bool false, .bool false] 89)).drew HXA2.out).mono ?_); rintro e wz ⟨E,ec,rfl,hz1,hr1,hsm⟩; have HSM:=hd_ hsm.sm; obtain ⟨o',hP1,hc1,hD1⟩:=(HP.out.new HXA2.out).sess (hsm.sm.wide16 (HP.out.new HXA2.out).sn); have HP1:=hd_ hP1; have HMV:=hd_ ((Mv16.of HXA2.out).trans ⟨hc1,hD1⟩); have HZ1:=hd_ hz1; have HR1:=hd_ hr1; have HBZ:=hd_ (HB.out.chg HMV.out.1 (fun e=>HQB.out _ (by rw [HDD.out]; exact e) rfl)); have HNC:=hd_ (HNA.out.chg hc1 (fun e=>HNQ.out _ (by rw [HDD.out]; exact e) rfl)); have HSC : Hid (wz.cell? ⟨Q,0,none⟩ = some (int i64 lm) ∧ wz.cell? ⟨Q,1,none⟩ = some (int i64 lp) ∧ wz.cell? ⟨Q,2,none⟩ = some (int i64 la) ∧ wz.cell? ⟨Q,3,none⟩ = some (int i64 ls) ∧ wz.cell? ⟨Q,4,none⟩ = some (.slice B k kc) ∧ wz.cell? ⟨a,0,none⟩ = some (.pointer (some ⟨ps,0,none⟩))):=hd_ (by obtain ⟨y0,y1,y2,y3,y4⟩:=lt_cells HBZ.out; exact ⟨y0,y1,y2,y3,y4,hP1.ab.c0⟩); clear hP1 hc1 hD1 hsm hz1 hr1; obtain ⟨n0,n1,n2⟩:=tk_cells HNC.out; obtain ⟨f0,f1,f2⟩:=tk_free HNC.out; obtain ⟨-, -, -,hN2,hcs⟩:=tk_put HNC.out E bb.length ec got res; have HND:=hd_ hN2; have HCS:=hd_ hcs; have HSD : Hid ((((wz.setCell ⟨wr.heap.size,0,none⟩ (.slice E bb.length ec)).setCell ⟨wr.heap.size,1,none⟩ (.bool got)).setCell ⟨wr.heap.size,2,none⟩ (.bool res)).cell? ⟨Q,0,none⟩ = some (int i64 lm) ∧ (((wz.setCell ⟨wr.heap.size,0,none⟩ (.slice E bb.length ec)).setCell ⟨wr.heap.size,1,none⟩ (.bool got)).setCell ⟨wr.heap.size,2,none⟩ (.bool res)).cell? ⟨Q,1,none⟩ = some (int i64 lp) ∧ (((wz.setCell ⟨wr.heap.size,0,none⟩ (.slice E bb.length ec)).setCell ⟨wr.heap.size,1,none⟩ (.bool got)).setCell ⟨wr.heap.size,2,none⟩ (.bool res)).cell? ⟨Q,2,none⟩ = some (int i64 la) ∧ (((wz.setCell ⟨wr.heap.size,0,none⟩ (.slice E bb.length ec)).setCell ⟨wr.heap.size,1,none⟩ (.bool got)).setCell ⟨wr.heap.size,2,none⟩ (.bool res)).cell? ⟨Q,3,none⟩ = some (int i64 ls) ∧ (((wz.setCell ⟨wr.heap.size,0,none⟩ (.slice E bb.length ec)).setCell ⟨wr.heap.size,1,none⟩ (.bool got)).setCell ⟨wr.heap.size,2,none⟩ (.bool res)).cell? ⟨Q,4,none⟩ = some (.slice B k kc) ∧ (((wz.setCell ⟨wr.heap.size,0,none⟩ (.slice E bb.length ec)).setCell ⟨wr.heap.size,1,none⟩ (.bool got)).setCell ⟨wr.heap.size,2,none⟩ (.bool res)).cell? ⟨a,0,none⟩ = some (.pointer (some ⟨ps,0,none⟩))):=hd_ (by obtain ⟨y0,y1,y2,y3,y4⟩:=lt_cells (HBZ.out.chg hcs (fun e=>HQW.out e)); exact ⟨y0,y1,y2,y3,y4,(HP1.out.ab.chg hcs (fun e=>HNQ.out a HMA.out e)).c0⟩); have HWB : Hid (TkX16 w.heap.size a ps q m D { x with s:=sy } bb got res er wr (.pointer (some ⟨wr.heap.size,0,none⟩)) (int i64 er) (((wz.setCell ⟨wr.heap.size,0,none⟩ (.slice E bb.length ec)).setCell ⟨wr.heap.size,1,none⟩ (.bool got)).setCell ⟨wr.heap.size,2,none⟩ (.bool res))):=hd_ (by obtain ⟨o2,hP2,hc2,hD2⟩:=HP.out.sess (HSM.out.put16 HP.out.sn HXA2.out (Nat.le_refl _) (by simp) hcs); exact ⟨wr.heap.size,E,ec,_,rfl,rfl,hN2,HZ1.out,(HR1.out.chg hcs (fun j hj e=>by simp at hj; omega)).mono (fun j hj=>by have:=HSZ.out; simp at hj; omega),⟨o2,oq,rfl,hP2⟩,by rw [HDD.out]; exact ⟨hc2,hD2⟩,HSZ.out,hP2.apart hN2 (by decide) (by decide) (by decide) (by decide) (by decide)⟩); clear hN2 hcs)
      | fail)
    all_goals
     go_wp2_with fail
     go_meet
     first
      | exact HWB.out
      | exact ⟨wz.heap.size,E,ec,_,rfl,rfl,blk_new rfl,HZ1.out,(HR1.out.mono (fun j hj=>Nat.le_trans HSZ.out hj)).alloc _,⟨o',oq,rfl,HP1.out.new ((Chg.refl (fun _=>False) wz).alloc _)⟩,by rw [HDD.out]; exact HMV.out.trans (Mv16.of ((Chg.refl (fun _=>False) wz).alloc _)),by have h1:=HMV.out.1.size; have h2:=HSZ.out; omega,fun e=>Nat.lt_irrefl _ (HP1.out.lt _ e)⟩
   case rest =>
    obtain ⟨QT,E,ec,D1,rfl,rfl,hb,hz1,hr1,hm1,hmv,hbq,hnq⟩:=hcut
    have HBT:=hd_ hb
    have HZ1:=hd_ hz1
    have HR1:=hd_ hr1
    have HM1:=hd_ hm1
    have HX1:=hd_ (HX.out.trans hmv)
    have HNQ1:=hd_ hnq
    clear hb hz1 hr1 hm1 hmv hbq hnq HKEEP HXA HXA2 HNA HNQ HM HX HRD HB HP HTK
    obtain ⟨t0,t1,t2⟩:=tk_cells HBT.out
    by_cases her : er = 0
    case neg =>
     have te : (er != 0) = true:=by simpa using her
     have HT:=hd_ (HTR.out her)
     have HSY:=hd_ (HTKN.out her)
     rw [HSY.out] at HM1
     clear her
     go_wp2_with fail
     go_ret
     exact ⟨by rw [HT.out]; rfl,by rw [HT.out]; exact ⟨D1,HM1.out,HX1.out⟩⟩
    case pos =>
     subst her
     have HT:=hd_ (HTO.out rfl)
     clear HTO HTR HTKN
     cases res with
     | false =>
      have HOC:=hd_ (show AOk (n0 + 1) (tkC16 { x with s:=sy } false) from HSI.out)
      replace HM1 : Hid (AM wc a ps q m D1 (tkC16 { x with s:=sy } false)):=HM1
      cases got with
      | false =>
       have HOS:=hd_ (show AOk (n0 + 1) (tkH16 (tkC16 { x with s:=sy } false) false bb now) from HOC.out)
       have HMS : Hid (AM _ a ps q m D1 (tkH16 (tkC16 { x with s:=sy } false) false bb now)):=HM1
       have HXS:=HX1
       have HST:=hd_ (asettle_any HMS.out HOS.out now)
       go_wp2_with fail
       refine HST.out.mono ?_
       rintro e w9 ⟨rfl,D9,hM9,hmv9⟩
       go_wp2_with fail
       go_ret
       exact ⟨by rw [HT.out]; rfl,by
        rw [HT.out]
        show AMv a ps q m D zz w w9
        rw [HZZ.out]
        exact ⟨D9,hM9,HXS.out.trans hmv9⟩⟩
      | true =>
       have HOS:=hd_ (show AOk (n0 + 1) (tkH16 (tkC16 { x with s:=sy } false) true bb now) from HOC.out.hear bb now)
       have hhe:=ahear_any HM1.out HOC.out E bb.length ec bb _ rfl HR1.out HZ1.out (by have:=HBL.out; omega) now
       have HHE:=hd_ hhe
       clear hhe
       go_wp2_with fail
       refine HHE.out.mono ?_
       rintro e w8 ⟨rfl,D8,hM8,hmv8⟩
       have HMS : Hid (AM w8 a ps q m D8 (tkH16 (tkC16 { x with s:=sy } false) true bb now)):=hd_ hM8
       have HXS:=hd_ (HX1.out.trans hmv8)
       clear hM8 hmv8 HHE
       have HST:=hd_ (asettle_any HMS.out HOS.out now)
       go_wp2_with fail
       refine HST.out.mono ?_
       rintro e w9 ⟨rfl,D9,hM9,hmv9⟩
       go_wp2_with fail
       go_ret
       exact ⟨by rw [HT.out]; rfl,by
        rw [HT.out]
        show AMv a ps q m D zz w w9
        rw [HZZ.out]
        exact ⟨D9,hM9,HXS.out.trans hmv9⟩⟩
     | true =>
      have HOC:=hd_ (show AOk (n0 + 1) (tkC16 { x with s:=sy } true) from HSI.out.told _)
      obtain ⟨o1,oq1,hD1,hP1⟩:=HM1.out
      obtain ⟨w7,hcl,htm,hcc⟩:=hP1.tm.clear
      have c323:=hP1.ab.c323
      have HRUN:=hd_ hcl
      have HM7 : Hid (AM w7 a ps q m D1 (tkC16 { x with s:=sy } true)):=hd_ ⟨o1,oq1,hD1,hP1.told hcc htm⟩
      have HX7:=hd_ (HX1.out.trans (show Mv16 D1 D1 _ w7 from ⟨by rw [hD1]; exact hcc.mono (fun k _ e => .inr (.inr (.inr (.inr (.inr e))))),fun k e => .inl e⟩))
      replace HBT:=hd_ (HBT.out.chg hcc (fun e=>HNQ1.out (by rw [hD1,e]; exact .inr (.inr (.inr (.inr (.inr rfl)))))))
      replace HR1:=hd_ (HR1.out.chg hcc (fun k hk e=>by have h1:=hP1.lt m (.inr (.inr (.inr (.inr (.inr rfl))))); have h2:=HLM.out; omega))
      clear hcl htm hcc hD1 hP1
      cases got with
      | false =>
       go_wp2_with (refine wpList_clear16 rfl _ 60 rfl m rfl HRUN.out ?_; clear HRUN c323 t0 t1 t2; replace HM1:=HM7; replace HX1:=HX7; obtain ⟨t0,t1,t2⟩:=tk_cells HBT.out)
       have HOS:=hd_ (show AOk (n0 + 1) (tkH16 (tkC16 { x with s:=sy } true) false bb now) from HOC.out)
       have HMS : Hid (AM _ a ps q m D1 (tkH16 (tkC16 { x with s:=sy } true) false bb now)):=HM1
       have HXS:=HX1
       have HST:=hd_ (asettle_any HMS.out HOS.out now)
       go_wp2_with fail
       refine HST.out.mono ?_
       rintro e w9 ⟨rfl,D9,hM9,hmv9⟩
       go_wp2_with fail
       go_ret
       exact ⟨by rw [HT.out]; rfl,by
        rw [HT.out]
        show AMv a ps q m D zz w w9
        rw [HZZ.out]
        exact ⟨D9,hM9,HXS.out.trans hmv9⟩⟩
      | true =>
       go_wp2_with (refine wpList_clear16 rfl _ 60 rfl m rfl HRUN.out ?_; clear HRUN c323 t0 t1 t2; replace HM1:=HM7; replace HX1:=HX7; obtain ⟨t0,t1,t2⟩:=tk_cells HBT.out)
       have HOS:=hd_ (show AOk (n0 + 1) (tkH16 (tkC16 { x with s:=sy } true) true bb now) from HOC.out.hear bb now)
       have hhe:=ahear_any HM1.out HOC.out E bb.length ec bb _ rfl HR1.out HZ1.out (by have:=HBL.out; omega) now
       have HHE:=hd_ hhe
       clear hhe
       go_wp2_with fail
       refine HHE.out.mono ?_
       rintro e w8 ⟨rfl,D8,hM8,hmv8⟩
       have HMS : Hid (AM w8 a ps q m D8 (tkH16 (tkC16 { x with s:=sy } true) true bb now)):=hd_ hM8
       have HXS:=hd_ (HX1.out.trans hmv8)
       clear hM8 hmv8 HHE
       have HST:=hd_ (asettle_any HMS.out HOS.out now)
       go_wp2_with fail
       refine HST.out.mono ?_
       rintro e w9 ⟨rfl,D9,hM9,hmv9⟩
       go_wp2_with fail
       go_ret
       exact ⟨by rw [HT.out]; rfl,by
        rw [HT.out]
        show AMv a ps q m D zz w w9
        rw [HZZ.out]
        exact ⟨D9,hM9,HXS.out.trans hmv9⟩⟩
end Go.Proofs.YtfajcdobikjcdaaGreatDoor
