/-
  Walks: agent.New, Idle, Out; rutterlaw16.say. Conditions: what they look at lies in memory.
-/
import Derived.Test.YtfajcdobikjcdaaGreatDoorAn
import Derived.Test.YtfajcdobikjcdaaGreatDoorM7
import Derived.Test.YtfajcdobikjcdaaGreatDoorM6
import Derived.Deep.LoopGhost
set_option maxRecDepth 100000
set_option maxHeartbeats 40000000
set_option linter.unusedVariables false
set_option linter.unusedSimpArgs false
namespace Go.Proofs.YtfajcdobikjcdaaGreatDoor
open Go.Value (int)
open Go.IntKind (i64)
open Go.RowKit
def new16 (c mi life : Int) : AV:=⟨c,⟨mi,0,1,0, []⟩,fun _=>z9,fun _=>0,life, [],fun _ _=>none⟩
theorem new16_ok {c mi life : Int} (hc : 0 ≤ c ∧ c ≤ 15) (hl : 1 ≤ life ∧ life ≤ 2147483648) : AOk 0 (new16 c mi life):=⟨hc,SIn16.new _ _,hl,by simp [new16],fun r hr=>by simp [new16] at hr,fun _ _ => .inl rfl⟩
theorem wpList_build16 {P : Program} {ops : Array Oper} {rest : List Oper} {op : Oper} {a : Act} {w : World} {Q : Exit → Act → World → Prop} (hgd : op.guard = none) (t : TypeId) (x0 x1 x4 x5 : Operand) (ho : op.op = .build t #[(0,x0),(1,x1),(4,x4),(5,x5)]) (A0 A1 A4 A5 : Value) (h0 : a.eval x0 = A0) (h1 : a.eval x1 = A1) (h4 : a.eval x4 = A4) (h5 : a.eval x5 = A5) (cells : Array Value) (hb : P.built t [(0,A0),(1,A1),(4,A4),(5,A5)] = some cells)
  (h : wpList P ops Q rest (a.put op.dst (.agg cells)) w) : wpList P ops Q (op :: rest) a w:=by
 refine wpList_plain hgd fun _ hK => ?_
 unfold Oper.wp execOp
 simp only [ho,List.map_toArray,List.map_cons,List.map_nil,h0,h1,h4,h5,Sem.run_bind,run_build w t #[(0,A0),(1,A1),(4,A4),(5,A5)] cells hb,Result.andThen_ok]
 exact hK _ _ h
theorem built16 (ps : Nat) (c : Int) (q m : Nat) : Tryz.prog.built 67 [(0, .pointer (some ⟨ps,0,none⟩)),(1,int i64 c),(4, .pointer (some ⟨q,0,none⟩)),(5, .map (some m))] = some (agL ps c (fun _=>z9) (fun _=>0) q m).toArray:=by kernel_rfl
theorem anew_any (c mi life : Int) (w : World) (hc : 0 ≤ c ∧ c ≤ 15) (hm : 1 ≤ mi ∧ mi ≤ 4294967296) (hl : 1 ≤ life ∧ life ≤ 2147483648) : Calls Tryz.prog 5 #[int i64 c,int i64 mi,int i64 life] w fun e w' => ∃ a ps q m D,e = .returned (.tuple #[.pointer (some ⟨a,0,none⟩),int i64 0]) ∧ AM w' a ps q m D (new16 c mi life) ∧ Chg (fun _=>False) w w' ∧ ∀ k,D k → w.heap.size ≤ k:=by
 have hsn:=snew11_any mi w
 unfold NewSP at hsn
 have hwi : withinB 1 4294967296 [mi] = true:=by simp [withinB,hm]
 simp only [hwi,if_true] at hsn
 clear hwi
 have HSN:=hd_ hsn
 have HTB:=hd_ (tnew_ok life hl.1 hl.2)
 have hc1 : ¬ c < 0:=by omega
 have hc2 : ¬ 16 ≤ c:=by omega
 clear hsn hm hl hc
 go_enter Tryz.func5,Tryz.ntmps5
 go_wp2_with fail
 refine HSN.out.mono ?_
 rintro e w1 ⟨ps,rfl,hps,hbs,hx1⟩
 have HPS:=hd_ hps
 have HBS:=hd_ hbs
 have HX:=hd_ hx1
 clear hps hbs hx1 HSN
 go_wp2_with fail
 refine (HTB.out w1).mono ?_
 rintro e w2 ⟨rfl,hw2⟩
 have HTN : Hid (TN 106 w2 w1.heap.size none life []):=hd_ (by rw [hw2]; exact TN.made)
 have hx2 : Chg (fun _=>False) w1 w2:=by rw [hw2]; exact (Chg.refl _ w1).alloc _
 have HQ : Hid (w.heap.size ≤ w1.heap.size):=hd_ HX.out.size
 replace HX:=hd_ (HX.out.trans hx2 (fun _ _ e=>e))
 replace HBS:=hd_ (HBS.out.chg hx2 id)
 clear hw2 hx2 HTB
 generalize w1.heap.size = q at *
 have hmm := @run_makeMap
 go_wp2_with (first | (refine wpList_build16 rfl 67 _ _ _ _ rfl (.pointer (some ⟨ps,0,none⟩)) (int i64 c) (.pointer (some ⟨q,0,none⟩)) (.map (some w2.heap.size)) rfl rfl rfl rfl _ (built16 ps c q w2.heap.size) ?_; generalize hAG : (agL ps c (fun _=>z9) (fun _=>0) q w2.heap.size).toArray = AGC))
 go_ret2
 have hag:=hAG
 have hxa:=((Chg.refl (fun _=>False) w2).alloc (.map #[] 0)).alloc (.cells AGC 67)
 have hs:=HX.out.size
 refine ⟨w2.heap.size + 1,ps,q,w2.heap.size,agD (w2.heap.size + 1) ps none q none w2.heap.size,rfl,⟨none,none,rfl, ?_, ?_, ?_, ?_⟩,HX.out.trans hxa (fun _ _ e=>e), ?_⟩
 ·show Blk _ _ _ (agL ps c (fun _=>z9) (fun _=>0) q w2.heap.size).toArray
  rw [hag]
  exact blk_new (by simp)
 ·exact ⟨none,0, [],HBS.out.chg hxa id,World.ownsRow_nil _ _ _ _,rfl,by simp,BQ.nil _ _,fun e=>e (.inr (.inl rfl)),fun k hk=>by cases hk⟩
 ·exact HTN.out.new hxa
 ·exact (TM.new w2).chg ((Chg.refl (fun _=>False) (w2.alloc (.map #[] 0))).alloc (.cells AGC 67)) id
 ·rintro k (rfl | rfl | hk | rfl | hk | rfl)
  ·omega
  ·exact HPS.out
  ·cases hk
  ·exact HQ.out
  ·cases hk
  ·exact hs
theorem aidle_any {w : World} {a ps q m : Nat} {D : Nat → Prop} {x : AV} (h : AM w a ps q m D x) : Calls Tryz.prog 23 #[.pointer (some ⟨a,0,none⟩)] w fun e w'=>e = .returned (.bool (decide (x.s.q.length = 0) && decide (0 < x.s.pe))) ∧ Chg (fun _=>False) w w':=by
 obtain ⟨o,oq,hDD,hP⟩:=h
 have HP:=hd_ hP
 have HLE:=hd_ (slen_any ps o _ x.s w hP.sn)
 have HPE:=hd_ (speer_any ps o _ x.s w hP.sn)
 have c0:=hP.ab.c0
 clear hP hDD
 generalize x.s.q.length = n at *
 by_cases hn : n = 0
 ·subst hn
  go_enter Tryz.func23,Tryz.ntmps23
  go_wp2_with fail
  refine HLE.out.mono ?_
  rintro e w2 ⟨rfl,rfl⟩
  go_wp2_with fail
  refine HPE.out.mono ?_
  rintro e w3 ⟨rfl,rfl⟩
  go_wp2_with fail
  go_ret
  exact ⟨ret_b (by simp),Chg.refl _ _⟩
 ·have hn2 : ((n : Int) == 0) = false:=by simpa using hn
  have HN:=hd_ hn
  clear hn
  go_enter Tryz.func23,Tryz.ntmps23
  go_wp2_with fail
  refine HLE.out.mono ?_
  rintro e w2 ⟨rfl,rfl⟩
  go_wp2_with fail
  go_ret
  exact ⟨ret_b (by simp [HN.out]),Chg.refl _ _⟩
def encL16 (l : LV) : List UInt8:=if ltR l.mi l.pe l.ac l.se l.b.length = true then ltB l.mi l.pe l.ac l.se l.b else []
def outB16 (s : SV) : List (List UInt8):=(outS s).map encL16
def OutB16 (ls : List (List UInt8)) (w : World) (e : Ending) (w' : World) : Prop := ∃ E n d vs,e = .returned (.slice E n d) ∧ n = ls.length ∧ w'.ownsRow w.heap.size 31 1 (.slice E n d) n vs ∧ BQ w' (fun k=>w.heap.size ≤ k ∧ E.map (·.block) ≠ some k) vs ls ∧ Chg (fun _=>False) w w'
theorem outS_len {s : SV} (h : SOk s) : (outS s).length ≤ 8:=by
 unfold outS
 split
 ·simp
 ·rw [List.length_map,List.length_range]; omega
theorem aout_any {w : World} {a ps q m : Nat} {D : Nat → Prop} {x : AV} {n0 : Nat} (h : AM w a ps q m D x) (hok : AOk n0 x) (hn0 : n0 ≤ 1000) : Calls Tryz.prog 20 #[.pointer (some ⟨a,0,none⟩)] w (OutB16 (outB16 x.s) w):=by
 obtain ⟨o,oq,hDD,hP⟩:=h
 have HP:=hd_ hP
 have hso:=hok.s.ok (show n0 ≤ 1000000 from by omega)
 have HOU:=hd_ (sout_any ps o _ x.s w hP.sn hso)
 have HL8:=hd_ (outS_len hso)
 have c0:=hP.ab.c0
 have HOB:=hd_ (show outB16 x.s = (outS x.s).map encL16 from rfl)
 have HBL:=hd_ (show ∀ l ∈ outS x.s,l.b.length ≤ 1000 from fun l hl=>by
  unfold outS at hl
  split at hl
  ·rw [List.mem_singleton.1 hl]; simp
  ·obtain ⟨i,hi,rfl⟩:=List.mem_map.1 hl
   have hi2:=List.mem_range.1 hi
   show (x.s.q.getD i []).length ≤ 1000
   have hil : i < x.s.q.length:=by omega
   rw [List.getD_eq_getElem?_getD,List.getElem?_eq_getElem hil]
   exact (hso.bod _ (List.getElem_mem hil)).2)
 unfold OutP at HOU
 generalize outS x.s = os at *
 generalize outB16 x.s = ob at *
 obtain ⟨i0,hi0,hz0,hz1,hz2⟩:=info_parts infoSl11
 clear hP hDD hso hok hn0
 go_enter Tryz.func20,Tryz.ntmps20
 go_wp2_with fail
 refine HOU.out.mono ?_
 rintro e w2 ⟨LA_,ln,lc,ys,rfl,hln,hown,hlb,hc⟩
 have HLN:=hd_ hln
 have HOW:=hd_ hown
 have HLB:=hd_ hlb
 have HX:=hd_ hc
 clear hln hown hlb hc HOU c0
 go_wp2_with fail
 go_loopg [3,5,6,7,16] ln (fun g s3 s5 s6 s7 i wr => ∃ (j n d : Nat) (E : Option Addr) (vs : List Value),g = ln - j ∧ j ≤ ln ∧ i = int i64 (j : Int) ∧ s3 = .slice E n d ∧ Hid (n = j) ∧ Hid (wr.ownsRow w2.heap.size 31 1 (.slice E n d) n vs) ∧ Hid (BQ wr (fun k=>w2.heap.size ≤ k ∧ E.map (·.block) ≠ some k) vs ((os.take j).map encL16)) ∧ Hid (Chg (fun _=>False) w2 wr))
 case atStart=>exact ⟨0,0,0,none, [],rfl,Nat.zero_le _,rfl,rfl,hd_ rfl,hd_ (World.ownsRow_nil _ _ _ _),hd_ (BQ.nil _ _),hd_ (Chg.refl _ _)⟩
 case round =>
  obtain ⟨j,n,d,E,vs,rfl,hj,rfl,rfl,HN,HO,HB,HY⟩:=hrel
  by_cases hlt : j < ln
  ·have hjo : j < os.length:=by have:=HLN.out; omega
   have hjy : j < ys.length:=by have:=HLB.out.1; omega
   have hx : os[j]? = some os[j]:=List.getElem?_eq_getElem hjo
   have hy : ys[j]? = some ys[j]:=List.getElem?_eq_getElem hjy
   have his:=HLB.out.2 j _ _ hy hx
   have HBO:=hd_ (HBL.out _ (List.getElem_mem hjo))
   have HTK:=hd_ (show (os.take (j + 1)).map encL16 = (os.take j).map encL16 ++ [encL16 os[j]] from by rw [List.take_succ_eq_append_getElem hjo,List.map_append]; rfl)
   have hcl : ∀ g,LA_ = some ⟨g,0,none⟩ → ∀ (k : Nat) (v : Value),k < 5 → (ys[j]).cs[k]? = some v → wr.cell? ⟨g,j * 5 + k,none⟩ = some v:=fun g hg k v hk hv=>by
    have hlt2:=HOW.out.lt g (by rw [hg]; rfl)
    rw [HY.out.cell (p:=⟨g,j * 5 + k,none⟩) hlt2.2 id]
    have hz:=HOW.out.cells (g:=g) (by rw [hg]; rfl) (j * 5 + k) v (by rw [flatL_at ys j _ hy k hk]; exact hv)
    rwa [show (⟨g,0,none⟩ : Addr).add (j * 5 + k) = ⟨g,j * 5 + k,none⟩ from by unfold Addr.add; split <;> simp_all] at hz
   obtain ⟨g,hg⟩ : ∃ g,LA_ = some ⟨g,0,none⟩:=by
    rcases HOW.out.2 with ⟨hv,h0⟩ | ⟨g,cap,cur,hv,_⟩
    ·omega
    ·injection hv with hv; exact ⟨g,hv⟩
   have hc5:=hcl g hg
   generalize ys[j] = yj at *
   generalize os[j] = oj at *
   obtain ⟨ym,yp,ya,yq,B,k,kc⟩:=yj
   obtain ⟨lm,lp,la,ls,lb⟩:=oj
   obtain ⟨e1,e2,e3,e4,e5,e6,e7⟩:=his
   simp only at e1 e2 e3 e4 e5 e6 e7
   subst e1 e2 e3 e4 hg
   have z0 : wr.cell? ⟨g,j * 5 + 0,none⟩ = some (int i64 ym):=hc5 0 _ (by decide) rfl
   have z1 : wr.cell? ⟨g,j * 5 + 1,none⟩ = some (int i64 yp):=hc5 1 _ (by decide) rfl
   have z2 : wr.cell? ⟨g,j * 5 + 2,none⟩ = some (int i64 ya):=hc5 2 _ (by decide) rfl
   have z3 : wr.cell? ⟨g,j * 5 + 3,none⟩ = some (int i64 yq):=hc5 3 _ (by decide) rfl
   have z4 : wr.cell? ⟨g,j * 5 + 4,none⟩ = some (.slice B k kc):=hc5 4 _ (by decide) rfl
   rw [Nat.add_zero] at z0
   have HE5:=hd_ e5
   have HRD:=hd_ e7
   have HELT:=hd_ (fun k hk=>HO.out.lt k hk)
   have hnw:=(Chg.refl (fun _=>False) wr).alloc (.cells #[int i64 ym,int i64 yp,int i64 ya,int i64 yq, .slice B k kc] 85)
   have HBX : Hid (Blk (wr.alloc (.cells #[int i64 ym,int i64 yp,int i64 ya,int i64 yq, .slice B k kc] 85)) wr.heap.size 85 (ltC ym yp ya yq B k kc)):=hd_ (blk_new rfl)
   have HSW:=hd_ HY.out.size
   replace HY:=hd_ (HY.out.trans hnw (fun _ _ e=>e))
   replace HO:=hd_ (own_chg HO.out hnw (fun _ _=>id))
   replace HB:=hd_ (HB.out.chg hnw (fun _ _=>id))
   clear hcl hc5 hnw e5 e6 e7 hx hy hjo hjy
   go_upto_region 7 with fail
   have hws : wr.heap.size ≤ (wr.alloc (.cells #[int i64 ym,int i64 yp,int i64 ya,int i64 yq, .slice B k kc] 85)).heap.size:=by simp
   generalize wr.alloc (.cells #[int i64 ym,int i64 yp,int i64 ya,int i64 yq, .slice B k kc] 85) = w3 at *
   generalize wr.heap.size = QL at *
   clear z0 z1 z2 z3 z4
   obtain ⟨y0,y1,y2,y3,y4⟩:=lt_cells HBX.out
   have henc:=enc11_any ym yp ya yq B k kc lb _ w3 HE5.out (HRD.out.chg HY.out (fun _ _=>id)) (by have h1:=HE5.out; have h2 : lb.length ≤ 1000:=HBO.out; omega)
   rw [HE5.out] at henc
   replace henc : Calls _ _ _ w3 (Mk5 (encL16 ⟨ym,yp,ya,yq,lb⟩) (if ltR ym yp ya yq lb.length = true then 0 else 1) w3):=henc
   generalize (if ltR ym yp ya yq lb.length = true then (0 : Int) else 1) = er at *
   have HEL:=hd_ (show (encL16 ⟨ym,yp,ya,yq,lb⟩).length ≤ 2000 from by
    unfold encL16
    split
    ·rw [ltB_len]; have : lb.length ≤ 1000:=HBO.out; show 24 + lb.length ≤ 2000; omega
    ·simp)
   rw [← HE5.out] at henc
   generalize encL16 ⟨ym,yp,ya,yq,lb⟩ = bb at *
   unfold ltC Mk5 at henc
   have HENC:=hd_ henc
   clear henc
   go_wp2_with fail
   refine HENC.out.mono ?_
   rintro e w4 ⟨F,fc,rfl,hfo,hc⟩
   have HFN:=hd_ (own_nil hfo)
   have HFR:=hd_ (own_rds2 hfo)
   have HW34:=hd_ hc.size
   replace HY:=hd_ (HY.out.trans hc (fun _ _ e=>e))
   replace HO:=hd_ (own_chg HO.out hc (fun _ _=>id))
   replace HB:=hd_ ((HB.out.chg hc (fun _ _=>id)).old)
   have HBS : Hid (BQ w4 (fun k=>w2.heap.size ≤ k ∧ E.map (·.block) ≠ some k ∧ k < w4.heap.size) (vs ++ [.slice F bb.length fc]) ((os.take j).map encL16 ++ [bb])):=hd_ ((HB.out.mono (fun k hk=>⟨hk.1.1,hk.1.2,hk.2⟩)).snoc rfl HFN.out (HFR.out.mono (fun k hk=>⟨by have:=HSW.out; omega,fun e=>by have:=HELT.out k (by rw [own_block]; exact e); omega,hk.2⟩)))
   clear hfo hc HENC y0 y1 y2 y3 y4
   go_wp2_with (at_builtin; refine wpList_app12 _ rfl (.tmp 25) (.tmp 27) 74 rfl w2.heap.size 31 i0 _ 1 24 Tryz.underlying74 hi0 hz0 hz1 hz2 rfl (by decide) (.slice E n d) n vs rfl (own_chg HO.out ((Chg.refl (fun _=>False) w4).alloc _) (fun _ _=>id)) ⟨w4.heap.size,0,none⟩ 1 1 [.slice F bb.length fc] rfl rfl (fun k u hu=>by rw [show (⟨w4.heap.size,0,none⟩ : Addr).add k = ⟨w4.heap.size,k,none⟩ from by unfold Addr.add; split <;> simp_all]; exact ((Blk.new w4 31 #[.slice F bb.length fc]).cell k).trans (by simpa using hu)) (by simp [Value.oneCell']) (by have:=HN.out; have:=HL8.out; have:=HLN.out; unfold maxLen; omega) (by have:=HN.out; have:=HL8.out; have:=HLN.out; omega) (by have:=HY.out.size; simp; omega) ?_; intro v5 w5 hown5 hg5 hat5; obtain ⟨E5,d5,rfl,_,_⟩:=own_form hown5; have HO5:=hd_ hown5; have HY5:=hd_ (grown_fresh (HY.out.alloc (.cells #[.slice F bb.length fc] 31)) hg5 (own_chg HO.out ((Chg.refl (fun _=>False) w4).alloc (.cells #[.slice F bb.length fc] 31)) (fun _ _=>id)) (Nat.le_refl _)); have HB5 : Hid (BQ w5 (fun k=>w2.heap.size ≤ k ∧ E5.map (·.block) ≠ some k) (vs ++ [.slice F bb.length fc]) ((os.take j).map encL16 ++ [bb])):=hd_ ((HBS.out.chg (((Chg.refl (fun k=>E.map (·.block) = some k) w4).alloc (.cells #[.slice F bb.length fc] 31)).grown hg5 (fun k hk _=>by rw [own_block] at hk; exact hk)) (fun k hk e=>hk.2.1 e)).mono (fun k hk=>⟨hk.1,fun e=>by rw [own_block,own_block] at hat5; rcases hat5 with h | h; exact hk.2.1 (by rw [← h]; exact e); rw [h] at e; injection e with e; have:=hk.2.2; simp at e; omega⟩)); clear hown5 hg5 hat5)
   go_roundg (ln - (j + 1))
   case measure=>omega
   case rel=>exact ⟨j + 1,n + 1,d5,E5,vs ++ [.slice F bb.length fc],rfl,by omega,congrArg (Value.int .i64) (by have h1:=HLN.out; have h2:=HL8.out; unfold wrap64; omega),rfl,hd_ (by have:=HN.out; omega),HO5,hd_ (by rw [HTK.out]; exact HB5.out),HY5⟩
  ·have hjl : j = ln:=by omega
   subst hjl
   have HTK:=hd_ (show os.take j = os from List.take_of_length_le (by have:=HLN.out; omega))
   go_wp2_with fail
   go_ret
   refine ⟨E,n,d,vs,rfl,by rw [HOB.out,List.length_map, ← HLN.out]; exact HN.out,own_base HO.out HX.out.size, ?_,HX.out.trans HY.out (fun _ _ e=>e)⟩
   have hb:=HB.out
   rw [HTK.out, ← HOB.out] at hb
   exact hb.mono (fun k hk=>⟨Nat.le_trans HX.out.size hk.1,hk.2⟩)
theorem asay_any (bo to_ sq : Int) (kd po ma ow ta ol ge ph ve si pt vr : Int) (A : Option Addr) (n c : Nat) (l : List Rc) (S : Nat → Prop) (w : World) (h : RcR w S A n l) (hn2 : n ≤ 1000) (hN : MsN kd po ma ow ta ol ge ph ve si pt vr l) (hr : msR kd po ma ow ta ol ge ph ve si pt vr l = true) (hl : ltR bo to_ 0 sq (msB kd po ma ow ta ol ge ph ve si pt vr l).length = true) : Calls Tryz.prog 18 #[int i64 bo,int i64 to_,int i64 sq, .agg (msC kd po ma ow ta ol ge ph ve si pt vr A n c)] w fun e w' => ∃ E k d,e = .returned (.slice E k d) ∧ k = (ltB bo to_ 0 sq (msB kd po ma ow ta ol ge ph ve si pt vr l)).length ∧ w'.ownsRow w.heap.size 5 1 (.slice E k d) k (bcs (ltB bo to_ 0 sq (msB kd po ma ow ta ol ge ph ve si pt vr l))) ∧ Chg (fun _=>False) w w':=by
 have hx0:=(Chg.refl (fun _=>False) w).alloc (.cells #[int i64 kd,int i64 po,int .u64 ma,int i64 ow,int i64 ta,int i64 ol,int i64 ge,int i64 ph,int i64 ve,int i64 si,int i64 pt,int i64 vr, .slice A n c] 71)
 have HB : Hid (Blk (w.alloc (.cells #[int i64 kd,int i64 po,int .u64 ma,int i64 ow,int i64 ta,int i64 ol,int i64 ge,int i64 ph,int i64 ve,int i64 si,int i64 pt,int i64 vr, .slice A n c] 71)) w.heap.size 71 (msC kd po ma ow ta ol ge ph ve si pt vr A n c)):=hd_ (blk_new rfl)
 have hb6:=rbytes6_any kd po ma ow ta ol ge ph ve si pt vr A n c l S (w.alloc (.cells #[int i64 kd,int i64 po,int .u64 ma,int i64 ow,int i64 ta,int i64 ol,int i64 ge,int i64 ph,int i64 ve,int i64 si,int i64 pt,int i64 vr, .slice A n c] 71)) (h.alloc _) (by omega) hN hr
 generalize msB kd po ma ow ta ol ge ph ve si pt vr l = mb at *
 unfold Bt at hb6
 have HRB:=hd_ (fun W=>rbytes11_any bo to_ 0 sq mb W hl)
 generalize ltB bo to_ 0 sq mb = lb at *
 unfold rlC at HRB
 generalize hml : mb.length = ml at *
 have HX:=hd_ hx0
 clear h hN hr hl hx0
 unfold msC at hb6 ⊢
 have HB6:=hd_ hb6
 clear hb6
 go_enter Tryz.func18,Tryz.ntmps18
 go_upto_region 1 with fail
 generalize w.alloc (.cells #[int i64 kd,int i64 po,int .u64 ma,int i64 ow,int i64 ta,int i64 ol,int i64 ge,int i64 ph,int i64 ve,int i64 si,int i64 pt,int i64 vr, .slice A n c] 71) = w1 at *
 generalize w.heap.size = QM at HB ⊢
 obtain ⟨y0,y1,y2,y3,y4,y5,y6,y7,y8,y9,y10,y11,y12⟩:=ms_cells HB.out
 go_wp2_with fail
 refine HB6.out.mono ?_
 rintro e w2 ⟨E,d,rfl,hrd,hz,hc⟩
 have hcv:=conv_any (c:=d) hrd
 replace HX:=hd_ (HX.out.trans hc (fun _ _ e=>e))
 clear hrd hz hc HB6 y0 y1 y2 y3 y4 y5 y6 y7 y8 y9 y10 y11 y12
 go_upto_region 2 with fail
 have HBL : Hid (Blk (w2.alloc (.cells #[int i64 bo,int i64 to_,int i64 0,int i64 sq, .string ⟨mb.toArray⟩] 77)) w2.heap.size 77 #[int i64 bo,int i64 to_,int i64 0,int i64 sq, .string ⟨mb.toArray⟩]):=hd_ (blk_new rfl)
 replace HX:=hd_ (HX.out.alloc (.cells #[int i64 bo,int i64 to_,int i64 0,int i64 sq, .string ⟨mb.toArray⟩] 77))
 clear hcv
 generalize w2.alloc (.cells #[int i64 bo,int i64 to_,int i64 0,int i64 sq, .string ⟨mb.toArray⟩] 77) = w3 at *
 generalize w2.heap.size = QL at *
 have z0:=HBL.out.cell 0
 have z1:=HBL.out.cell 1
 have z2:=HBL.out.cell 2
 have z3:=HBL.out.cell 3
 have z4:=HBL.out.cell 4
 simp only [List.getElem?_toArray,List.getElem?_cons_zero,List.getElem?_cons_succ] at z0 z1 z2 z3 z4
 go_wp2_with fail
 refine (HRB.out _).mono ?_
 rintro e w4 ⟨E2,k2,d2,rfl,hk,hown,hc⟩
 have HOW:=hd_ (own_base hown HX.out.size)
 have HKK:=hd_ hk
 replace HX:=hd_ (HX.out.trans hc (fun _ _ e=>e))
 clear hk hown hc z0 z1 z2 z3 z4
 go_wp2_with fail
 go_ret
 exact ⟨E2,k2,d2,rfl,HKK.out,HOW.out,HX.out⟩
end Go.Proofs.YtfajcdobikjcdaaGreatDoor
