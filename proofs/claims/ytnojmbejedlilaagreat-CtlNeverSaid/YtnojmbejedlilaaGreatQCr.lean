/-
  Walk: ctl.hear. Conditions: the controller lies in memory, and holds what always holds; the body can be read.
-/
import Derived.Test.YtnojmbejedlilaaGreatQCq
import Derived.Test.YtnojmbejedlilaaGreatQCo
import Derived.Test.YtnojmbejedlilaaGreatQM4
import Derived.Deep.Cut
import Derived.Deep.DeepCutAuto
set_option maxRecDepth 100000
set_option maxHeartbeats 40000000
set_option linter.unusedVariables false
set_option linter.unusedSimpArgs false
namespace Go.Proofs.YtnojmbejedlilaaGreat
open Go.Value (int)
open Go.IntKind (i64)
open Go.RowKit
def HrP17 (lab : Nat → Nat) (c pj pf : Nat) (P : Nat → Nat) (r : MV × KV) (w : World) (e : Ending) (w' : World) : Prop :=
 ∃ (ps' : Nat) (lab' : Nat → Nat) (A : Option Addr) (rc : Nat),e = .returned (.agg (msC r.1.kd r.1.po r.1.ma r.1.ow r.1.ta r.1.ol r.1.ge r.1.ph r.1.ve r.1.si r.1.pt r.1.vr A r.1.l.length rc)) ∧ RcR w' (fun k=>w.heap.size ≤ k) A r.1.l.length r.1.l ∧ KP w' lab' c ps' pj pf P r.2 ∧ Mv17 (fun n=>1 ≤ n ∧ n ≤ 20) lab lab' w w'
theorem RcR.nil17 (w : World) (S : Nat → Prop) : RcR w S none 0 []:=⟨rfl,fun h=>absurd h (by omega)⟩
theorem hear17_any {w : World} {lab : Nat → Nat} {c ps pj pf : Nat} {P : Nat → Nat} {x : KV} {j : Nat} (h : KP w lab c ps pj pf P x) (ho : KOk j x) (ch : Int) (A : Option Addr) (n bc : Nat) (b : List UInt8) (got res : Bool) (Sb : Nat → Prop) (hm : n = b.length) (hr : Rds w Sb A n (bcs b)) (hz : A = none → bc = 0) (hm2 : n ≤ 1000) : Calls Tryz.prog 67 #[.pointer (some ⟨c,0,none⟩),int i64 ch, .agg #[.slice A n bc, .bool got, .bool res]] w (HrP17 lab c pj pf P (hearK17 x ch got b) w):=by
 have hc0:=((Chg.refl (fun _=>False) w).alloc (.cells #[.slice A n bc, .bool got, .bool res] 126)).alloc (.cells #[int i64 0,int i64 0,int .u64 0,int i64 0,int i64 0,int i64 0,int i64 0,int i64 0,int i64 0,int i64 0,int i64 0,int i64 0, .slice none 0 0] 74)
 have HK:=hd_ (h.new hc0)
 have HT0 : Hid (Blk ((w.alloc (.cells #[.slice A n bc, .bool got, .bool res] 126)).alloc (.cells #[int i64 0,int i64 0,int .u64 0,int i64 0,int i64 0,int i64 0,int i64 0,int i64 0,int i64 0,int i64 0,int i64 0,int i64 0, .slice none 0 0] 74)) w.heap.size 126 #[.slice A n bc, .bool got, .bool res]):=hd_ ((blk_new rfl).alloc _)
 have HZ : Hid (Blk ((w.alloc (.cells #[.slice A n bc, .bool got, .bool res] 126)).alloc (.cells #[int i64 0,int i64 0,int .u64 0,int i64 0,int i64 0,int i64 0,int i64 0,int i64 0,int i64 0,int i64 0,int i64 0,int i64 0, .slice none 0 0] 74)) (w.heap.size + 1) 74 (msC 0 0 0 0 0 0 0 0 0 0 0 0 none 0 0)):=hd_ (blk_new (by simp))
 have HX:=hd_ hc0
 have HLZ : Hid (lab (w.heap.size + 1) = 0):=hd_ (h.q.lt _ (by omega))
 have HLT:=hd_ h.q.lt
 have HO:=hd_ ho
 have HN:=hd_ hm
 have HN2:=hd_ hm2
 have HR:=hd_ (hr.old.chg hc0 (fun _ _=>id))
 have HZA:=hd_ hz
 have HTT : Hid (hearK17 x ch got b = if got = true then (if cX b = 0 then (cM b,hearM17 x ch (cM b) b) else (MV.zero,x)) else (MV.zero,x)):=hd_ rfl
 clear h ho hm hm2 hr hz hc0
 go_in
 go_upto_region 1 with fail
 have HSW:=hd_ HX.out.size
 have HZL:=hd_ HZ.out.lt
 generalize (w.alloc (.cells #[.slice A n bc, .bool got, .bool res] 126)).alloc (.cells #[int i64 0,int i64 0,int .u64 0,int i64 0,int i64 0,int i64 0,int i64 0,int i64 0,int i64 0,int i64 0,int i64 0,int i64 0, .slice none 0 0] 74) = w1 at *
 generalize hq1 : w.heap.size + 1 = Q1 at HZ HLZ HZL ⊢
 have HQ : Hid (w.heap.size ≤ Q1):=hd_ (by omega)
 clear hq1
 generalize w.heap.size = Q0 at HT0 ⊢
 obtain ⟨t0,t1,t2⟩:=tk_cells (show Blk w1 Q0 126 (tkC A n bc got res) from HT0.out)
 cases got with
 | false =>
  have HT:=hd_ (HTT.out.trans (if_neg (by decide)))
  obtain ⟨x0,x1,x2,x3,x4,x5,x6,x7,x8,x9,x10,x11,x12⟩:=ms_cells HZ.out
  obtain ⟨u0,u1,u2,u3,u4,u5,u6,u7,u8,u9,u10,u11,u12⟩:=ms_free HZ.out
  obtain ⟨r0,r1,r2,r3,r4,r5,r6,r7,r8,r9,r10,r11,r12, -,hcs⟩:=ms_put HZ.out 0 0 0 0 0 0 0 0 0 0 0 0 none 0 0
  have RR:=cj13 r0 r1 r2 r3 r4 r5 r6 r7 r8 r9 r10 r11 r12
  have HCS:=hd_ hcs
  clear r0 r1 r2 r3 r4 r5 r6 r7 r8 r9 r10 r11 r12 hcs
  go_wp2_with fail
  obtain ⟨r0,r1,r2,r3,r4,r5,r6,r7,r8,r9,r10,r11,r12⟩:=RR.out
  obtain ⟨hk,hm⟩:=KP.fr17 HK.out (Mv17.of HX.out) HCS.out HLZ.out HQ.out
  exact bodyPost_ret (v := .agg #[int i64 0,int i64 0,int .u64 0,int i64 0,int i64 0,int i64 0,int i64 0,int i64 0,int i64 0,int i64 0,int i64 0,int i64 0, .slice none 0 0]) (by simp [results,Tryz.results67,go_sem,r0,r1,r2,r3,r4,r5,r6,r7,r8,r9,r10,r11,r12]) rfl ⟨ps,lab,none,0,by rw [HT.out]; first | done | rfl,by rw [HT.out]; exact (RcR.nil17 _ _),by rw [HT.out]; exact hk,hm⟩
 | true =>
  replace HTT:=hd_ (HTT.out.trans (if_pos rfl))
  have hd:=cdec_any A n bc b _ w1 HN.out HR.out HZA.out (by have:=HN2.out; omega)
  unfold Dec6 Hd6 msC at hd
  generalize cX b = xb at *
  generalize hm : cM b = m at *
  obtain ⟨kd,po,ma,ow,ta,ol,ge,ph,ve,si,pt,vr,l⟩:=m
  simp only at hd
  generalize hml : l.length = ml at *
  have HML:=hd_ hml
  have HD:=hd_ hd
  clear hd hml hm
  go_wp2_with fail
  refine HD.out.mono ?_
  rintro e w2 ⟨D,dc,rfl,hrl,hc⟩
  have HRC:=hd_ hrl.old
  replace HK:=hd_ (HK.out.new hc)
  replace HT0:=hd_ (HT0.out.chg hc id)
  replace HZ:=hd_ (HZ.out.chg hc id)
  replace HR:=hd_ (HR.out.chg hc (fun _ _=>id))
  have HS12:=hd_ hc.size
  replace HX:=hd_ (HX.out.tr hc)
  clear hrl hc HD t0 t1 t2
  go_upto_region 4 with fail
  have hc:=(Chg.refl (fun _=>False) w2).alloc (.cells #[int i64 kd,int i64 po,int .u64 ma,int i64 ow,int i64 ta,int i64 ol,int i64 ge,int i64 ph,int i64 ve,int i64 si,int i64 pt,int i64 vr, .slice D ml dc] 74)
  have HM : Hid (Blk (w2.alloc (.cells #[int i64 kd,int i64 po,int .u64 ma,int i64 ow,int i64 ta,int i64 ol,int i64 ge,int i64 ph,int i64 ve,int i64 si,int i64 pt,int i64 vr, .slice D ml dc] 74)) w2.heap.size 74 (msC kd po ma ow ta ol ge ph ve si pt vr D ml dc)):=hd_ (blk_new rfl)
  have HLM : Hid (lab w2.heap.size = 0):=hd_ (HLT.out _ (by have:=HSW.out; have:=HS12.out; omega))
  have HLR : Hid (∀ k,(w1.heap.size ≤ k ∧ k < w2.heap.size) → lab k = 0):=hd_ (fun k hk=>HLT.out _ (by have:=HSW.out; omega))
  have HRQ : Hid (∀ k,(w1.heap.size ≤ k ∧ k < w2.heap.size) → ¬ k = Q1):=hd_ (fun k hk=>by have:=HZL.out; omega)
  have HRW : Hid (∀ k,(w1.heap.size ≤ k ∧ k < w2.heap.size) → w.heap.size ≤ k):=hd_ (fun k hk=>by have:=HSW.out; omega)
  replace HK:=hd_ (HK.out.new hc)
  replace HT0:=hd_ (HT0.out.chg hc id)
  replace HZ:=hd_ (HZ.out.chg hc id)
  replace HR:=hd_ (HR.out.chg hc (fun _ _=>id))
  replace HRC:=hd_ (HRC.out.chg hc (fun _ _=>id))
  replace HX:=hd_ (HX.out.tr hc)
  clear hc
  generalize w2.alloc (.cells #[int i64 kd,int i64 po,int .u64 ma,int i64 ow,int i64 ta,int i64 ol,int i64 ge,int i64 ph,int i64 ve,int i64 si,int i64 pt,int i64 vr, .slice D ml dc] 74) = w3 at *
  generalize hqm : w2.heap.size = QM at HM HLM ⊢
  clear hqm
  by_cases hx : xb = 0
  case neg =>
   have tx : (xb != 0) = true:=by simpa using hx
   have HT:=hd_ (HTT.out.trans (if_neg hx))
   clear hx
   obtain ⟨x0,x1,x2,x3,x4,x5,x6,x7,x8,x9,x10,x11,x12⟩:=ms_cells HZ.out
   obtain ⟨u0,u1,u2,u3,u4,u5,u6,u7,u8,u9,u10,u11,u12⟩:=ms_free HZ.out
   obtain ⟨r0,r1,r2,r3,r4,r5,r6,r7,r8,r9,r10,r11,r12, -,hcs⟩:=ms_put HZ.out 0 0 0 0 0 0 0 0 0 0 0 0 none 0 0
   have RR:=cj13 r0 r1 r2 r3 r4 r5 r6 r7 r8 r9 r10 r11 r12
   have HCS:=hd_ hcs
   clear r0 r1 r2 r3 r4 r5 r6 r7 r8 r9 r10 r11 r12 hcs
   go_wp2_with fail
   obtain ⟨r0,r1,r2,r3,r4,r5,r6,r7,r8,r9,r10,r11,r12⟩:=RR.out
   obtain ⟨hk,hm⟩:=KP.fr17 HK.out (Mv17.of HX.out) HCS.out HLZ.out HQ.out
   exact bodyPost_ret (v := .agg #[int i64 0,int i64 0,int .u64 0,int i64 0,int i64 0,int i64 0,int i64 0,int i64 0,int i64 0,int i64 0,int i64 0,int i64 0, .slice none 0 0]) (by simp [results,Tryz.results67,go_sem,r0,r1,r2,r3,r4,r5,r6,r7,r8,r9,r10,r11,r12]) rfl ⟨ps,lab,none,0,by rw [HT.out]; first | done | rfl,by rw [HT.out]; exact (RcR.nil17 _ _),by rw [HT.out]; exact hk,hm⟩
  case pos =>
   subst hx
   have HTM:=hd_ (HTT.out.trans (if_pos rfl))
   have hrow:=fun (W : World) (hW : Chg (fun _=>False) w3 W)=>(show Calls Tryz.prog 106 #[.pointer (some ⟨ps,0,none⟩),int i64 pt] W (HB (rowB10 (x.t.R pt)) W) from by
    obtain ⟨B,sbc,sbr,hs, -, -, -⟩:=HK.out.q.sr
    exact srow_any (hs.keep hW) pt)
   obtain ⟨rr,hrr⟩ : ∃ rr,rowB10 (x.t.R pt) = rr:=⟨_,rfl⟩
   rw [hrr] at hrow
   obtain ⟨⟨b0,b1,b2,b3,b4,b5,b6,b7,b8⟩,vb⟩:=rr
   have HROW : Hid (∀ W,Chg (fun _=>False) w3 W → Calls _ _ _ W (HB9 b0 b1 b2 b3 b4 b5 b6 b7 b8 vb W)):=hd_ hrow
   have HRB : Hid (x.t.R pt = none → vb = false ∧ True):=hd_ (fun e=>by rw [e] at hrr; unfold rowB10 at hrr; simp only [Option.getD_none,Option.isSome_none,Prod.mk.injEq] at hrr; exact ⟨hrr.2.symm,trivial⟩)
   have HRS : Hid (∀ r,x.t.R pt = some r → vb = true ∧ b0 = r.po ∧ b1 = r.ma ∧ b2 = r.ow ∧ b3 = r.ta ∧ b4 = r.ol ∧ b5 = r.ge ∧ b6 = r.ph ∧ b7 = r.ve ∧ b8 = r.si):=hd_ (fun r e=>by rw [e] at hrr; unfold rowB10 at hrr; simp only [Option.getD_some,Option.isSome_some,Prod.mk.injEq] at hrr; obtain ⟨h1,h2⟩:=hrr; rw [h1]; exact ⟨h2.symm,rfl,rfl,rfl,rfl,rfl,rfl,rfl,rfl,rfl⟩)
   clear hrow hrr
   have HKEEP : Hid (∀ W : World,Chg (fun _=>False) w3 W → ((W.cell? ⟨c,0,none⟩ = some (.pointer (some ⟨ps,0,none⟩)) ∧ W.cell? ⟨QM,10,none⟩ = some (int i64 pt)))):=hd_ (fun W hw=>by
    obtain ⟨d0, -, -, -, -⟩:=(HK.out.q.cb.chg hw id).hd
    exact ⟨d0,(HM.out.chg hw id).cell 10⟩
   )
   have HXA:=hd_ (Chg.refl (fun _=>False) w3).drew
   have HXA2:=hd_ (((Chg.refl (fun _=>False) w3).alloc (.cells #[int i64 0,int .u64 0,int i64 0,int i64 0,int i64 0,int i64 0,int i64 0,int i64 0,int i64 0] 60)).drew)
   have HNA : Hid (Blk (w3.alloc (.cells #[int i64 0,int .u64 0,int i64 0,int i64 0,int i64 0,int i64 0,int i64 0,int i64 0,int i64 0] 60)).drew w3.heap.size 60 (rvC 0 0 0 0 0 0 0 0 0)):=hd_ (blk_new rfl).drew
   go_upto_region 6 with fail
   go_cut [9,10] (fun s9 s10 wx=>BX17 60 #[int i64 b0,int .u64 b1,int i64 b2,int i64 b3,int i64 b4,int i64 b5,int i64 b6,int i64 b7,int i64 b8] (.bool vb) w3 s9 s10 wx)
   case first =>
    have hkk:=HKEEP.out _ HXA.out
    obtain ⟨g0,g1⟩:=hkk
    go_region_held3 (fun w'=>(w'.cell? ⟨c,0,none⟩ = some (.pointer (some ⟨ps,0,none⟩)) ∧ w'.cell? ⟨QM,10,none⟩ = some (int i64 pt)))
     (first | with_reducible exact HKEEP.out _ HXA.out | with_reducible exact HKEEP.out _ HXA2.out | with_reducible exact HKEEP.out _ HXB.out | with_reducible exact HKEEP.out _ (HXB.out.alloc _) | with_reducible exact HKEEP.out _ HXC.out | with_reducible exact HKEEP.out _ HXD.out | fail)
     (first
      | (go_at_call 106; (with_reducible refine (HROW.out w3.drew HXA.out).mono ?_); rintro e wz ⟨rfl,hc⟩; have HXB:=hd_ (HXA.out.tr hc); clear hc)
      | (go_at_call 106; (with_reducible refine (HROW.out (w3.alloc (.cells #[int i64 0,int .u64 0,int i64 0,int i64 0,int i64 0,int i64 0,int i64 0,int i64 0,int i64 0] 60)).drew HXA2.out).mono ?_); rintro e wz ⟨rfl,hc⟩; have HXC:=hd_ (HXA2.out.tr hc); have HNC:=hd_ (HNA.out.chg hc id); obtain ⟨x0,x1,x2,x3,x4,x5,x6,x7,x8⟩:=rv_cells HNC.out; obtain ⟨u0,u1,u2,u3,u4,u5,u6,u7,u8⟩:=rv_free9 HNC.out; obtain ⟨-, -, -, -, -, -, -, -, -,hcs⟩:=rv_put17 HNC.out rfl b0 b1 b2 b3 b4 b5 b6 b7 b8; have hset:=rv_set17 HNC.out b0 b1 b2 b3 b4 b5 b6 b7 b8; have HXD:=hd_ (fresh_set HXC.out hcs (Nat.le_refl _)); have HWB : Hid (BX17 60 #[int i64 b0,int .u64 b1,int i64 b2,int i64 b3,int i64 b4,int i64 b5,int i64 b6,int i64 b7,int i64 b8] (.bool vb) w3 (.pointer (some ⟨w3.heap.size,0,none⟩)) (.bool vb) (((((((((wz.setCell ⟨w3.heap.size,0,none⟩ (int i64 b0)).setCell ⟨w3.heap.size,1,none⟩ (int .u64 b1)).setCell ⟨w3.heap.size,2,none⟩ (int i64 b2)).setCell ⟨w3.heap.size,3,none⟩ (int i64 b3)).setCell ⟨w3.heap.size,4,none⟩ (int i64 b4)).setCell ⟨w3.heap.size,5,none⟩ (int i64 b5)).setCell ⟨w3.heap.size,6,none⟩ (int i64 b6)).setCell ⟨w3.heap.size,7,none⟩ (int i64 b7)).setCell ⟨w3.heap.size,8,none⟩ (int i64 b8))):=hd_ ⟨_,rfl,rfl,hset,HXD.out,Nat.le_refl _⟩; clear hset hcs hc)
      | fail)
    all_goals
     go_wp2_with fail
     go_meet
     first
      | exact HWB.out
      | exact ⟨wz.heap.size,rfl,rfl,blk_new rfl,HXB.out.alloc _,HXB.out.size⟩
   case rest =>
    obtain ⟨QB,rfl,rfl,hbx,hcx,hqx⟩:=hcut
    have HBX:=hd_ hbx
    have HCX:=hd_ hcx
    have HQX:=hd_ hqx
    clear hbx hcx hqx HKEEP HXA HXA2 HNA
    replace HK:=hd_ (HK.out.new HCX.out)
    replace HM:=hd_ (HM.out.chg HCX.out id)
    replace HT0:=hd_ (HT0.out.chg HCX.out id)
    replace HZ:=hd_ (HZ.out.chg HCX.out id)
    replace HRC:=hd_ (HRC.out.chg HCX.out (fun _ _=>id))
    replace HR:=hd_ (HR.out.chg HCX.out (fun _ _=>id))
    have HX2:=hd_ (HX.out.tr HCX.out)
    clear HX
    obtain ⟨y0,y1,y2,y3,y4,y5,y6,y7,y8,y9,y10,y11,y12⟩:=ms_cells HM.out
    cases hR : x.t.R pt with
    | none =>
     have HB:=hd_ (HRB.out hR)
     have HT:=hd_ (HTM.out.trans (by unfold hearM17; rw [hR]))
     obtain ⟨rfl,hb⟩:=HB.out
     clear hb
     clear hR
     by_cases k2 : kd = 2
     ·subst k2
      obtain ⟨y0,y1,y2,y3,y4,y5,y6,y7,y8,y9,y10,y11,y12⟩:=ms_cells HM.out
      obtain ⟨x0,x1,x2,x3,x4,x5,x6,x7,x8,x9,x10,x11,x12⟩:=ms_cells HZ.out
      obtain ⟨u0,u1,u2,u3,u4,u5,u6,u7,u8,u9,u10,u11,u12⟩:=ms_free HZ.out
      obtain ⟨r0,r1,r2,r3,r4,r5,r6,r7,r8,r9,r10,r11,r12, -,hcs⟩:=ms_put HZ.out 2 po ma ow ta ol ge ph ve si pt vr D ml dc
      have RR:=cj13 r0 r1 r2 r3 r4 r5 r6 r7 r8 r9 r10 r11 r12
      have HCS:=hd_ hcs
      clear r0 r1 r2 r3 r4 r5 r6 r7 r8 r9 r10 r11 r12 hcs
      go_wp2_with fail
      obtain ⟨r0,r1,r2,r3,r4,r5,r6,r7,r8,r9,r10,r11,r12⟩:=RR.out
      have hml:=HML.out
      subst hml
      obtain ⟨hk,hm⟩:=KP.fr17 HK.out (Mv17.of HX2.out) HCS.out HLZ.out HQ.out
      exact bodyPost_ret (v := .agg #[int i64 2,int i64 po,int .u64 ma,int i64 ow,int i64 ta,int i64 ol,int i64 ge,int i64 ph,int i64 ve,int i64 si,int i64 pt,int i64 vr, .slice D l.length dc]) (by simp [results,Tryz.results67,go_sem,r0,r1,r2,r3,r4,r5,r6,r7,r8,r9,r10,r11,r12]) rfl ⟨ps,lab,D,dc,by rw [HT.out]; first | done | rfl,by rw [HT.out]; exact ((HRC.out.chg HCS.out HRQ.out).mono HRW.out),by rw [HT.out]; exact hk,hm⟩
     ·have t2 : (kd == 2) = false:=by simpa using k2
      by_cases k3 : kd = 3
      ·subst k3
       obtain ⟨y0,y1,y2,y3,y4,y5,y6,y7,y8,y9,y10,y11,y12⟩:=ms_cells HM.out
       obtain ⟨x0,x1,x2,x3,x4,x5,x6,x7,x8,x9,x10,x11,x12⟩:=ms_cells HZ.out
       obtain ⟨u0,u1,u2,u3,u4,u5,u6,u7,u8,u9,u10,u11,u12⟩:=ms_free HZ.out
       obtain ⟨r0,r1,r2,r3,r4,r5,r6,r7,r8,r9,r10,r11,r12, -,hcs⟩:=ms_put HZ.out 3 po ma ow ta ol ge ph ve si pt vr D ml dc
       have RR:=cj13 r0 r1 r2 r3 r4 r5 r6 r7 r8 r9 r10 r11 r12
       have HCS:=hd_ hcs
       clear r0 r1 r2 r3 r4 r5 r6 r7 r8 r9 r10 r11 r12 hcs
       go_wp2_with fail
       obtain ⟨r0,r1,r2,r3,r4,r5,r6,r7,r8,r9,r10,r11,r12⟩:=RR.out
       have hml:=HML.out
       subst hml
       obtain ⟨hk,hm⟩:=KP.fr17 HK.out (Mv17.of HX2.out) HCS.out HLZ.out HQ.out
       exact bodyPost_ret (v := .agg #[int i64 3,int i64 po,int .u64 ma,int i64 ow,int i64 ta,int i64 ol,int i64 ge,int i64 ph,int i64 ve,int i64 si,int i64 pt,int i64 vr, .slice D l.length dc]) (by simp [results,Tryz.results67,go_sem,r0,r1,r2,r3,r4,r5,r6,r7,r8,r9,r10,r11,r12]) rfl ⟨ps,lab,D,dc,by rw [HT.out]; first | done | rfl,by rw [HT.out]; exact ((HRC.out.chg HCS.out HRQ.out).mono HRW.out),by rw [HT.out]; exact hk,hm⟩
      ·have t3 : (kd == 3) = false:=by simpa using k3
       clear k2 k3
       obtain ⟨y0,y1,y2,y3,y4,y5,y6,y7,y8,y9,y10,y11,y12⟩:=ms_cells HM.out
       obtain ⟨x0,x1,x2,x3,x4,x5,x6,x7,x8,x9,x10,x11,x12⟩:=ms_cells HZ.out
       obtain ⟨u0,u1,u2,u3,u4,u5,u6,u7,u8,u9,u10,u11,u12⟩:=ms_free HZ.out
       obtain ⟨r0,r1,r2,r3,r4,r5,r6,r7,r8,r9,r10,r11,r12, -,hcs⟩:=ms_put HZ.out kd po ma ow ta ol ge ph ve si pt vr D ml dc
       have RR:=cj13 r0 r1 r2 r3 r4 r5 r6 r7 r8 r9 r10 r11 r12
       have HCS:=hd_ hcs
       clear r0 r1 r2 r3 r4 r5 r6 r7 r8 r9 r10 r11 r12 hcs
       go_wp2_with fail
       obtain ⟨r0,r1,r2,r3,r4,r5,r6,r7,r8,r9,r10,r11,r12⟩:=RR.out
       have hml:=HML.out
       subst hml
       obtain ⟨hk,hm⟩:=KP.fr17 HK.out (Mv17.of HX2.out) HCS.out HLZ.out HQ.out
       exact bodyPost_ret (v := .agg #[int i64 kd,int i64 po,int .u64 ma,int i64 ow,int i64 ta,int i64 ol,int i64 ge,int i64 ph,int i64 ve,int i64 si,int i64 pt,int i64 vr, .slice D l.length dc]) (by simp [results,Tryz.results67,go_sem,r0,r1,r2,r3,r4,r5,r6,r7,r8,r9,r10,r11,r12]) rfl ⟨ps,lab,D,dc,by rw [HT.out]; first | done | rfl,by rw [HT.out]; exact ((HRC.out.chg HCS.out HRQ.out).mono HRW.out),by rw [HT.out]; exact hk,hm⟩
    | some r =>
     obtain ⟨q0,q1,q2,q3,q4,q5,q6,q7,q8,rfl⟩:=rv_letters r
     have HB:=hd_ (HRS.out _ hR)
     obtain ⟨rfl,e0,e1,e2,e3,e4,e5,e6,e7,e8⟩:=HB.out
     have hma:=HO.out.ma _ _ hR
     have hok:=(HO.out.wf.row _ _ hR).1
     have HTR : Hid (hearM17 x ch ⟨kd,po,ma,ow,ta,ol,ge,ph,ve,si,pt,vr,l⟩ b = if kd = 2 then awK17 x ⟨q0,q1,q2,q3,q4,q5,q6,q7,q8⟩ ch vr else if kd = 3 then fwK17 x ⟨q0,q1,q2,q3,q4,q5,q6,q7,q8⟩ ch b else x):=hd_ (by unfold hearM17; rw [hR])
     subst e0 e1 e2 e3 e4 e5 e6 e7 e8
     have HBMA:=hd_ hma
     have HBOK:=hd_ hok
     clear hR hma hok HB
     by_cases k2 : kd = 2
     ·subst k2
      have HT:=hd_ (HTM.out.trans (show _ = (_,awK17 x ⟨_,_,_,_,_,_,_,_,_⟩ ch vr) from by rw [HTR.out]; rfl))
      have HAW:=hd_ (awake17_any HK.out HO.out b0 b1 b2 b3 b4 b5 b6 b7 b8 ch vr HBMA.out)
      clear y0 y1 y2 y3 y4 y5 y6 y7 y8 y9 y10 y11 y12
      obtain ⟨y0,y1,y2,y3,y4,y5,y6,y7,y8,y9,y10,y11,y12⟩:=ms_cells HM.out
      obtain ⟨z0,z1,z2,z3,z4,z5,z6,z7,z8⟩:=rv_cells (show Blk _ QB 60 (rvC b0 b1 b2 b3 b4 b5 b6 b7 b8) from HBX.out)
      go_wp2_with fail
      refine HAW.out.mono ?_
      rintro e w5 ⟨rfl,ps3,lab3,hk3,hm3⟩
      replace HM:=hd_ (HM.out.chg hm3.1 (by rw [HLM.out]; decide))
      have HLZ3:=hd_ ((hm3.2 _ HZ.out.lt).trans HLZ.out)
      replace HZ:=hd_ (HZ.out.chg hm3.1 (by rw [HLZ.out]; decide))
      replace HRC:=hd_ (HRC.out.chg hm3.1 (fun k hk=>by rw [HLR.out k hk]; decide))
      have HK3:=hd_ hk3
      have HM3:=hd_ ((Mv17.of (N:=fun n=>1 ≤ n ∧ n ≤ 20) HX2.out).trans hm3)
      clear hk3 hm3
      clear HAW y0 y1 y2 y3 y4 y5 y6 y7 y8 y9 y10 y11 y12 z0 z1 z2 z3 z4 z5 z6 z7 z8
      obtain ⟨y0,y1,y2,y3,y4,y5,y6,y7,y8,y9,y10,y11,y12⟩:=ms_cells HM.out
      obtain ⟨x0,x1,x2,x3,x4,x5,x6,x7,x8,x9,x10,x11,x12⟩:=ms_cells HZ.out
      obtain ⟨u0,u1,u2,u3,u4,u5,u6,u7,u8,u9,u10,u11,u12⟩:=ms_free HZ.out
      obtain ⟨r0,r1,r2,r3,r4,r5,r6,r7,r8,r9,r10,r11,r12, -,hcs⟩:=ms_put HZ.out 2 po ma ow ta ol ge ph ve si pt vr D ml dc
      have RR:=cj13 r0 r1 r2 r3 r4 r5 r6 r7 r8 r9 r10 r11 r12
      have HCS:=hd_ hcs
      clear r0 r1 r2 r3 r4 r5 r6 r7 r8 r9 r10 r11 r12 hcs
      go_wp2_with fail
      obtain ⟨r0,r1,r2,r3,r4,r5,r6,r7,r8,r9,r10,r11,r12⟩:=RR.out
      have hml:=HML.out
      subst hml
      obtain ⟨hk,hm⟩:=KP.fr17 HK3.out HM3.out HCS.out HLZ3.out HQ.out
      exact bodyPost_ret (v := .agg #[int i64 2,int i64 po,int .u64 ma,int i64 ow,int i64 ta,int i64 ol,int i64 ge,int i64 ph,int i64 ve,int i64 si,int i64 pt,int i64 vr, .slice D l.length dc]) (by simp [results,Tryz.results67,go_sem,r0,r1,r2,r3,r4,r5,r6,r7,r8,r9,r10,r11,r12]) rfl ⟨ps3,lab3,D,dc,by rw [HT.out]; first | done | rfl,by rw [HT.out]; exact ((HRC.out.chg HCS.out HRQ.out).mono HRW.out),by rw [HT.out]; exact hk,hm⟩
     ·have t2 : (kd == 2) = false:=by simpa using k2
      by_cases k3 : kd = 3
      ·subst k3
       have HT:=hd_ (HTM.out.trans (show _ = (_,fwK17 x ⟨_,_,_,_,_,_,_,_,_⟩ ch b) from by rw [HTR.out]; rfl))
       clear k2
       have HFW:=hd_ (forward17_any HK.out HO.out b0 b1 b2 b3 b4 b5 b6 b7 b8 ch HBOK.out A n bc b _ HN.out HR.out HZA.out (by have:=HN2.out; omega))
       clear y0 y1 y2 y3 y4 y5 y6 y7 y8 y9 y10 y11 y12
       obtain ⟨y0,y1,y2,y3,y4,y5,y6,y7,y8,y9,y10,y11,y12⟩:=ms_cells HM.out
       obtain ⟨z0,z1,z2,z3,z4,z5,z6,z7,z8⟩:=rv_cells (show Blk _ QB 60 (rvC b0 b1 b2 b3 b4 b5 b6 b7 b8) from HBX.out)
       obtain ⟨t0,t1,t2⟩:=tk_cells (show Blk _ Q0 126 (tkC A n bc true res) from HT0.out)
       go_wp2_with fail
       refine HFW.out.mono ?_
       rintro e w5 ⟨rfl,lab3,hk3,hm3'⟩
       have hm3:=hm3'.mono (N':=fun n=>1 ≤ n ∧ n ≤ 20) (fun n e=>by omega)
       replace HM:=hd_ (HM.out.chg hm3.1 (by rw [HLM.out]; decide))
       have HLZ3:=hd_ ((hm3.2 _ HZ.out.lt).trans HLZ.out)
       replace HZ:=hd_ (HZ.out.chg hm3.1 (by rw [HLZ.out]; decide))
       replace HRC:=hd_ (HRC.out.chg hm3.1 (fun k hk=>by rw [HLR.out k hk]; decide))
       have HK3:=hd_ hk3
       have HM3:=hd_ ((Mv17.of (N:=fun n=>1 ≤ n ∧ n ≤ 20) HX2.out).trans hm3)
       clear hk3 hm3
       clear HFW hm3' y0 y1 y2 y3 y4 y5 y6 y7 y8 y9 y10 y11 y12 z0 z1 z2 z3 z4 z5 z6 z7 z8 t0 t1 t2
       obtain ⟨y0,y1,y2,y3,y4,y5,y6,y7,y8,y9,y10,y11,y12⟩:=ms_cells HM.out
       obtain ⟨x0,x1,x2,x3,x4,x5,x6,x7,x8,x9,x10,x11,x12⟩:=ms_cells HZ.out
       obtain ⟨u0,u1,u2,u3,u4,u5,u6,u7,u8,u9,u10,u11,u12⟩:=ms_free HZ.out
       obtain ⟨r0,r1,r2,r3,r4,r5,r6,r7,r8,r9,r10,r11,r12, -,hcs⟩:=ms_put HZ.out 3 po ma ow ta ol ge ph ve si pt vr D ml dc
       have RR:=cj13 r0 r1 r2 r3 r4 r5 r6 r7 r8 r9 r10 r11 r12
       have HCS:=hd_ hcs
       clear r0 r1 r2 r3 r4 r5 r6 r7 r8 r9 r10 r11 r12 hcs
       go_wp2_with fail
       obtain ⟨r0,r1,r2,r3,r4,r5,r6,r7,r8,r9,r10,r11,r12⟩:=RR.out
       have hml:=HML.out
       subst hml
       obtain ⟨hk,hm⟩:=KP.fr17 HK3.out HM3.out HCS.out HLZ3.out HQ.out
       exact bodyPost_ret (v := .agg #[int i64 3,int i64 po,int .u64 ma,int i64 ow,int i64 ta,int i64 ol,int i64 ge,int i64 ph,int i64 ve,int i64 si,int i64 pt,int i64 vr, .slice D l.length dc]) (by simp [results,Tryz.results67,go_sem,r0,r1,r2,r3,r4,r5,r6,r7,r8,r9,r10,r11,r12]) rfl ⟨ps,lab3,D,dc,by rw [HT.out]; first | done | rfl,by rw [HT.out]; exact ((HRC.out.chg HCS.out HRQ.out).mono HRW.out),by rw [HT.out]; exact hk,hm⟩
      ·have t3 : (kd == 3) = false:=by simpa using k3
       have HT:=hd_ (HTM.out.trans (show _ = (_,x) from by rw [HTR.out,if_neg k2,if_neg k3]))
       clear k2 k3
       obtain ⟨y0,y1,y2,y3,y4,y5,y6,y7,y8,y9,y10,y11,y12⟩:=ms_cells HM.out
       obtain ⟨x0,x1,x2,x3,x4,x5,x6,x7,x8,x9,x10,x11,x12⟩:=ms_cells HZ.out
       obtain ⟨u0,u1,u2,u3,u4,u5,u6,u7,u8,u9,u10,u11,u12⟩:=ms_free HZ.out
       obtain ⟨r0,r1,r2,r3,r4,r5,r6,r7,r8,r9,r10,r11,r12, -,hcs⟩:=ms_put HZ.out kd po ma ow ta ol ge ph ve si pt vr D ml dc
       have RR:=cj13 r0 r1 r2 r3 r4 r5 r6 r7 r8 r9 r10 r11 r12
       have HCS:=hd_ hcs
       clear r0 r1 r2 r3 r4 r5 r6 r7 r8 r9 r10 r11 r12 hcs
       go_wp2_with fail
       obtain ⟨r0,r1,r2,r3,r4,r5,r6,r7,r8,r9,r10,r11,r12⟩:=RR.out
       have hml:=HML.out
       subst hml
       obtain ⟨hk,hm⟩:=KP.fr17 HK.out (Mv17.of HX2.out) HCS.out HLZ.out HQ.out
       exact bodyPost_ret (v := .agg #[int i64 kd,int i64 po,int .u64 ma,int i64 ow,int i64 ta,int i64 ol,int i64 ge,int i64 ph,int i64 ve,int i64 si,int i64 pt,int i64 vr, .slice D l.length dc]) (by simp [results,Tryz.results67,go_sem,r0,r1,r2,r3,r4,r5,r6,r7,r8,r9,r10,r11,r12]) rfl ⟨ps,lab,D,dc,by rw [HT.out]; first | done | rfl,by rw [HT.out]; exact ((HRC.out.chg HCS.out HRQ.out).mono HRW.out),by rw [HT.out]; exact hk,hm⟩
end Go.Proofs.YtnojmbejedlilaaGreat
