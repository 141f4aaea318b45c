/-
  Walks: ctl.Do, Half. Conditions: the controller lies in memory, and holds what always holds; the address is no negative number.
-/
import Derived.Test.YtnojmbejedlilaaGreatQCm
import Derived.Test.YtnojmbejedlilaaGreatQCn
import Derived.Deep.Cut
import Derived.Deep.DeepCutAuto
set_option maxRecDepth 100000
set_option maxHeartbeats 40000000
set_option linter.unusedVariables false
set_option linter.unusedSimpArgs false
namespace Go.Proofs.YtnojmbejedlilaaGreat
open Go.Value (int)
open Go.IntKind (i64)
open Go.RowKit
theorem fin_ma2_17 {x : RV} {now : Int} {may : Bool} {a : RV × Int} (ha : a.2 = 0 → 0 ≤ a.1.ma) : 0 ≤ (fin9 x now may a).1.ma:=by
 unfold fin9
 split
 ·split
  ·rename_i h0
   unfold chk9
   split
   ·exact ha h0
   ·exact Int.le_refl 0
  ·exact Int.le_refl 0
 ·exact Int.le_refl 0
theorem ask_ma17 {R : Int → Option RV} (hR : ∀ z r,R z = some r → 0 ≤ r.ma) (op po c : Int) {ma : Int} (hma : 0 ≤ ma) (now : Int) : 0 ≤ (ask17 R op po c ma now).1.x.ma:=by
 have hl : 0 ≤ (livR17 R po).ma:=by
  unfold livR17
  split
  ·exact Int.le_refl 0
  ·rename_i r hr
   split
   ·exact Int.le_refl 0
   ·exact hR _ _ hr
 have hb : 0 ≤ (bind17 R po c ma now).1.ma:=by
  unfold bind17
  split
  ·unfold new9 chk9
   split
   ·exact hma
   ·exact Int.le_refl 0
  ·split
   ·refine fin_ma2_17 (fun _ => ?_)
    unfold agA
    repeat' (first | exact hma | exact hR _ _ (by assumption) | split)
   ·exact Int.le_refl 0
 have hm : 0 ≤ (move17 R op po c now).1.ma:=by
  unfold move17
  generalize livR17 R po = r at *
  split
  ·split
   ·refine fin_ma2_17 (fun _ => ?_)
    unfold drA
    repeat' (first | exact hl | split)
   ·split
    ·refine fin_ma2_17 (fun _ => ?_)
     unfold stA9
     repeat' (first | exact hl | split)
    ·split
     ·refine fin_ma2_17 (fun _ => ?_)
      unfold coA arr9
      repeat' (first | exact hl | split)
     ·refine fin_ma2_17 (fun _ => ?_)
      unfold abA
      repeat' (first | exact hl | split)
  ·exact Int.le_refl 0
 unfold ask17
 split
 ·exact Int.le_refl 0
 ·split
  ·exact Int.le_refl 0
  ·split
   ·exact hl
   ·split
    ·exact hb
    ·split
     ·exact hm
     ·exact Int.le_refl 0
def DoP17 (lab : Nat → Nat) (c pj pf : Nat) (P : Nat → Nat) (r : RV × Int × KV) (w : World) (e : Ending) (w' : World) : Prop :=
 ∃ (ps' : Nat) (lab' : Nat → Nat),e = .returned (.tuple #[.agg r.1.cs,int i64 r.2.1]) ∧ KP w' lab' c ps' pj pf P r.2.2 ∧ Mv17 (fun n=>1 ≤ n ∧ n ≤ 20) lab lab' w w'
theorem KOk.behind {j : Nat} {x : KV} (h : KOk j x) (B : Nat → Bool) : KOk j { x with B:=B }:=⟨h.wf,h.ma,h.bt,h.sp,h.no,h.s,h.b,h.m,h.sf⟩
theorem KOk.doR {j : Nat} {x : KV} (h : KOk j x) (r : RcV17) (hma : 0 ≤ r.x.ma) (hn : r.n ≤ 4294967296) : KOk j (doR17 x r).2.2:=by
 unfold doR17
 split
 ·split
  ·exact h.chg _ hma
  ·exact h
 ·split
  ·split
   ·exact (h.note r (fun _=>hma) hn).behind _
   ·exact h
  ·split
   ·split
    ·exact h.note r (fun _=>hma) hn
    ·exact h
   ·exact h
theorem ask_n17 (R : Int → Option RV) (op po c ma now : Int) : (ask17 R op po c ma now).1.n = 0:=by
 unfold ask17 rowR17
 repeat' (first | rfl | split)
theorem KOk.do_ {j : Nat} {x : KV} (h : KOk j x) (op po c : Int) {ma : Int} (hma : 0 ≤ ma) : KOk j (doK17 x op po c ma).2.2:=by
 unfold doK17
 split
 ·exact h
 ·unfold doA17
  split
  ·exact h.doR _ (ask_ma17 h.ma op po c hma x.no) (by rw [ask_n17]; decide)
  ·exact h
theorem KOk.half {j : Nat} {x : KV} (h : KOk j x) (op po c ma : Int) : KOk j (halfK17 x op po c ma).2:=by
 unfold halfK17
 split
 ·exact h
 ·unfold halfA17
  split
  ·unfold halfR17
   split
   ·exact h
   ·split
    ·exact (h.put _).stop true
    ·exact h
  ·exact h
theorem KP.fr17 {lab lab1 : Nat → Nat} {w w1 w2 : World} {c ps pj pf : Nat} {P : Nat → Nat} {y : KV} {q : Nat} (h : KP w1 lab1 c ps pj pf P y) (m : Mv17 (fun n=>1 ≤ n ∧ n ≤ 20) lab lab1 w w1) (hc : Chg (fun k=>k = q) w1 w2) (hq : lab1 q = 0) (hw : w.heap.size ≤ q) : KP w2 lab1 c ps pj pf P y ∧ Mv17 (fun n=>1 ≤ n ∧ n ≤ 20) lab lab1 w w2 :=
 ⟨h.mv (N:=fun n=>n = 0) (⟨hc.mono (fun k _ e=>by rw [e]; exact hq),fun _ _=>rfl⟩) (h.q.lt.new hc.size) (by decide) (by decide) (by decide) (by decide) (fun i _=>by omega) (by decide),m.put hc (fun hlt=>absurd hlt (by omega))⟩
theorem doR_1_17 (x : KV) (r : RV) (z n : Int) : doR17 x ⟨1,r,z,n⟩ = if chgX17 x r = 0 then (r,0,chgK17 x r) else (z9,chgX17 x r,x):=rfl
theorem doR_4_17 (x : KV) (r : RV) (z n : Int) : doR17 x ⟨4,r,z,n⟩ = if putX17 x ⟨4,r,z,n⟩ = 0 then (r,0, { noteK17 x ⟨4,r,z,n⟩ with B:=at17 x.B z.toNat true }) else (z9,putX17 x ⟨4,r,z,n⟩,x):=rfl
theorem doR_5_17 (x : KV) (r : RV) (z n : Int) : doR17 x ⟨5,r,z,n⟩ = if putX17 x ⟨5,r,z,n⟩ = 0 then (r,0,noteK17 x ⟨5,r,z,n⟩) else (z9,putX17 x ⟨5,r,z,n⟩,x):=rfl
theorem doR_0_17 (x : KV) (r : RV) (z n : Int) {k : Int} (h1 : ¬ k = 1) (h4 : ¬ k = 4) (h5 : ¬ k = 5) : doR17 x ⟨k,r,z,n⟩ = (r,0,x):=by
 unfold doR17
 rw [if_neg h1,if_neg h4,if_neg h5]
theorem do17_any {w : World} {lab : Nat → Nat} {c ps pj pf : Nat} {P : Nat → Nat} {x : KV} {j : Nat} (h : KP w lab c ps pj pf P x) (ho : KOk j x) (op po ch ma : Int) (hma : 0 ≤ ma) : Calls Tryz.prog 23 #[.pointer (some ⟨c,0,none⟩), .agg #[int i64 op,int i64 po,int i64 ch,int .u64 ma]] w (DoP17 lab c pj pf P (doK17 x op po ch ma) w):=by
 have HMA:=hd_ hma
 have hc0:=((Chg.refl (fun _=>False) w).alloc (.cells #[int i64 op,int i64 po,int i64 ch,int .u64 ma] 44)).alloc (.cells #[int i64 0,int .u64 0,int i64 0,int i64 0,int i64 0,int i64 0,int i64 0,int i64 0,int i64 0] 60)
 have HK:=hd_ (h.new hc0)
 have HB : Hid (Blk ((w.alloc (.cells #[int i64 op,int i64 po,int i64 ch,int .u64 ma] 44)).alloc (.cells #[int i64 0,int .u64 0,int i64 0,int i64 0,int i64 0,int i64 0,int i64 0,int i64 0,int i64 0] 60)) w.heap.size 44 #[int i64 op,int i64 po,int i64 ch,int .u64 ma]):=hd_ ((blk_new rfl).alloc _)
 have HZ : Hid (Blk ((w.alloc (.cells #[int i64 op,int i64 po,int i64 ch,int .u64 ma] 44)).alloc (.cells #[int i64 0,int .u64 0,int i64 0,int i64 0,int i64 0,int i64 0,int i64 0,int i64 0,int i64 0] 60)) (w.heap.size + 1) 60 (rvC 0 0 0 0 0 0 0 0 0)):=hd_ (blk_new (by simp))
 have HX:=hd_ hc0
 have HLZ : Hid (lab (w.heap.size + 1) = 0):=hd_ (h.q.lt _ (by omega))
 have HLT:=hd_ h.q.lt
 have HO:=hd_ ho
 clear h hc0
 clear ho hma
 have HG:=hd_ (goes17_any HK.out)
 have HLC0:=hd_ HK.out.q.lc
 cases hst : x.st with
 | true =>
  have HT : Hid (doK17 x op po ch ma = (z9,13,x)):=hd_ (by unfold doK17; rw [hst]; rfl)
  rw [hst,show goeE17 true = 13 from rfl] at HG
  clear hst
  go_in
  go_upto_region 1 with fail
  have HSW:=hd_ HX.out.size
  generalize (w.alloc (.cells #[int i64 op,int i64 po,int i64 ch,int .u64 ma] 44)).alloc (.cells #[int i64 0,int .u64 0,int i64 0,int i64 0,int i64 0,int i64 0,int i64 0,int i64 0,int i64 0] 60) = w1 at *
  generalize hq1 : w.heap.size + 1 = Q1 at HZ HLZ ⊢
  have HQ : Hid (w.heap.size ≤ Q1):=hd_ (by omega)
  clear hq1
  generalize w.heap.size = Q0 at HB ⊢
  go_wp2_with fail
  refine HG.out.mono ?_
  rintro e w2 ⟨rfl,rfl⟩
  obtain ⟨x0,x1,x2,x3,x4,x5,x6,x7,x8⟩:=rv_cells HZ.out
  obtain ⟨u0,u1,u2,u3,u4,u5,u6,u7,u8⟩:=rv_free9 HZ.out
  obtain ⟨r0,r1,r2,r3,r4,r5,r6,r7,r8, -,hcs⟩:=rv_put9 HZ.out 0 0 0 0 0 0 0 0 0
  have RR:=cj9 r0 r1 r2 r3 r4 r5 r6 r7 r8
  have HCS:=hd_ hcs
  clear r0 r1 r2 r3 r4 r5 r6 r7 r8 hcs
  go_wp2_with fail
  obtain ⟨r0,r1,r2,r3,r4,r5,r6,r7,r8⟩:=RR.out
  refine bodyPost_ret (v := .tuple #[.agg #[int i64 0,int .u64 0,int i64 0,int i64 0,int i64 0,int i64 0,int i64 0,int i64 0,int i64 0],int i64 13]) (by simp [results,Tryz.results23,go_sem,r0,r1,r2,r3,r4,r5,r6,r7,r8]) rfl ?_
  obtain ⟨hk,hm⟩:=KP.fr17 HK.out (Mv17.of HX.out) HCS.out HLZ.out HQ.out
  exact ⟨ps,lab,by rw [HT.out]; first | done | rfl,by rw [HT.out]; exact hk,hm⟩
 | false =>
  have HT : Hid (doK17 x op po ch ma = if (ask17 x.t.R op po ch ma x.no).2 = 0 then doR17 x (ask17 x.t.R op po ch ma x.no).1 else (z9,(ask17 x.t.R op po ch ma x.no).2,x)):=hd_ (by unfold doK17 doA17; rw [hst]; rfl)
  rw [hst,show goeE17 false = 0 from rfl] at HG
  clear hst
  go_in
  go_upto_region 1 with fail
  have HSW:=hd_ HX.out.size
  generalize (w.alloc (.cells #[int i64 op,int i64 po,int i64 ch,int .u64 ma] 44)).alloc (.cells #[int i64 0,int .u64 0,int i64 0,int i64 0,int i64 0,int i64 0,int i64 0,int i64 0,int i64 0] 60) = w1 at *
  generalize hq1 : w.heap.size + 1 = Q1 at HZ HLZ ⊢
  have HQ : Hid (w.heap.size ≤ Q1):=hd_ (by omega)
  clear hq1
  generalize w.heap.size = Q0 at HB ⊢
  go_wp2_with fail
  refine HG.out.mono ?_
  rintro e w2 ⟨rfl,rfl⟩
  generalize hno : x.no = no at HT
  have HNOW:=hd_ hno
  clear hno
  have hask:=fun (W : World) (hW : Chg (fun _=>False) w1 W)=>(show Calls Tryz.prog 58 #[.pointer (some ⟨ps,0,none⟩), .agg #[int i64 op,int i64 po,int i64 ch,int .u64 ma],int i64 no] W (HRc17 (ask17 x.t.R op po ch ma no) W) from by
   obtain ⟨B,bc,br,hs, -, -, -⟩:=HK.out.q.sr
   exact asked17_any (hs.keep hW) op po ch ma no)
  have HAM : Hid (0 ≤ (ask17 x.t.R op po ch ma no).1.x.ma):=hd_ (ask_ma17 HO.out.ma op po ch HMA.out no)
  obtain ⟨ar,har⟩ : ∃ ar,ask17 x.t.R op po ch ma no = ar:=⟨_,rfl⟩
  rw [har] at hask HAM HT
  obtain ⟨⟨k,⟨a0,a1,a2,a3,a4,a5,a6,a7,a8⟩,z,n⟩,ae⟩:=ar
  have HASK : Hid (∀ W,Chg (fun _=>False) w1 W → Calls _ _ _ W (fun e w'=>e = .returned (.tuple #[.agg #[int i64 k,int i64 a0,int .u64 a1,int i64 a2,int i64 a3,int i64 a4,int i64 a5,int i64 a6,int i64 a7,int i64 a8,int i64 z,int i64 n],int i64 ae]) ∧ Chg (fun _=>False) W w')):=hd_ hask
  clear hask har
  have HKEEP : Hid (∀ W : World,Chg (fun _=>False) w1 W → ((W.cell? ⟨c,0,none⟩ = some (.pointer (some ⟨ps,0,none⟩)) ∧ W.cell? ⟨c,4,none⟩ = some (int i64 no) ∧ W.cell? ⟨Q0,0,none⟩ = some (int i64 op) ∧ W.cell? ⟨Q0,1,none⟩ = some (int i64 po) ∧ W.cell? ⟨Q0,2,none⟩ = some (int i64 ch) ∧ W.cell? ⟨Q0,3,none⟩ = some (int .u64 ma)))):=hd_ (fun W hw=>by
   obtain ⟨d0, -, -, -,d4⟩:=(HK.out.q.cb.chg hw id).hd
   rw [HNOW.out] at d4
   exact ⟨d0,d4,cl_cells17 (HB.out.chg hw id)⟩
  )
  have HXA:=hd_ (Chg.refl (fun _=>False) w1).drew
  have HXA2:=hd_ (((Chg.refl (fun _=>False) w1).alloc (.cells #[int i64 0,int i64 0,int .u64 0,int i64 0,int i64 0,int i64 0,int i64 0,int i64 0,int i64 0,int i64 0,int i64 0,int i64 0] 110)).drew)
  have HNA : Hid (Blk (w1.alloc (.cells #[int i64 0,int i64 0,int .u64 0,int i64 0,int i64 0,int i64 0,int i64 0,int i64 0,int i64 0,int i64 0,int i64 0,int i64 0] 110)).drew w1.heap.size 110 #[int i64 0,int i64 0,int .u64 0,int i64 0,int i64 0,int i64 0,int i64 0,int i64 0,int i64 0,int i64 0,int i64 0,int i64 0]):=hd_ (blk_new rfl).drew
  go_upto_region 4 with fail
  go_cut [7,8] (fun s7 s8 wx=>BX17 110 #[int i64 k,int i64 a0,int .u64 a1,int i64 a2,int i64 a3,int i64 a4,int i64 a5,int i64 a6,int i64 a7,int i64 a8,int i64 z,int i64 n] (int i64 ae) w1 s7 s8 wx)
  case first =>
   have hkk:=HKEEP.out _ HXA.out
   obtain ⟨g0,g1,g2,g3,g4,g5⟩:=hkk
   go_region_held3 (fun w'=>(w'.cell? ⟨c,0,none⟩ = some (.pointer (some ⟨ps,0,none⟩)) ∧ w'.cell? ⟨c,4,none⟩ = some (int i64 no) ∧ w'.cell? ⟨Q0,0,none⟩ = some (int i64 op) ∧ w'.cell? ⟨Q0,1,none⟩ = some (int i64 po) ∧ w'.cell? ⟨Q0,2,none⟩ = some (int i64 ch) ∧ w'.cell? ⟨Q0,3,none⟩ = some (int .u64 ma)))
    (first | with_reducible exact HKEEP.out _ HXA.out | with_reducible exact HKEEP.out _ HXA2.out | with_reducible exact HKEEP.out _ HXB.out | with_reducible exact HKEEP.out _ (HXB.out.alloc _) | with_reducible exact HKEEP.out _ HXC.out | with_reducible exact HKEEP.out _ HXD.out | fail)
    (first
     | (go_at_call 58; (with_reducible refine (HASK.out w1.drew HXA.out).mono ?_); rintro e wz ⟨rfl,hc⟩; have HXB:=hd_ (HXA.out.tr hc); clear hc)
     | (go_at_call 58; (with_reducible refine (HASK.out (w1.alloc (.cells #[int i64 0,int i64 0,int .u64 0,int i64 0,int i64 0,int i64 0,int i64 0,int i64 0,int i64 0,int i64 0,int i64 0,int i64 0] 110)).drew HXA2.out).mono ?_); rintro e wz ⟨rfl,hc⟩; have HXC:=hd_ (HXA2.out.tr hc); have HNC:=hd_ (HNA.out.chg hc id); obtain ⟨x0,x1,x2,x3,x4,x5,x6,x7,x8,x9,x10,x11⟩:=rc_cells17 HNC.out; obtain ⟨u0,u1,u2,u3,u4,u5,u6,u7,u8,u9,u10,u11⟩:=rc_free17 HNC.out; obtain ⟨-, -, -, -, -, -, -, -, -, -, -, -,hcs⟩:=rc_put17 HNC.out rfl k a0 a1 a2 a3 a4 a5 a6 a7 a8 z n; have hset:=rc_set17 HNC.out k a0 a1 a2 a3 a4 a5 a6 a7 a8 z n; have HXD:=hd_ (fresh_set HXC.out hcs (Nat.le_refl _)); have HWB : Hid (BX17 110 #[int i64 k,int i64 a0,int .u64 a1,int i64 a2,int i64 a3,int i64 a4,int i64 a5,int i64 a6,int i64 a7,int i64 a8,int i64 z,int i64 n] (int i64 ae) w1 (.pointer (some ⟨w1.heap.size,0,none⟩)) (int i64 ae) ((((((((((((wz.setCell ⟨w1.heap.size,0,none⟩ (int i64 k)).setCell ⟨w1.heap.size,1,none⟩ (int i64 a0)).setCell ⟨w1.heap.size,2,none⟩ (int .u64 a1)).setCell ⟨w1.heap.size,3,none⟩ (int i64 a2)).setCell ⟨w1.heap.size,4,none⟩ (int i64 a3)).setCell ⟨w1.heap.size,5,none⟩ (int i64 a4)).setCell ⟨w1.heap.size,6,none⟩ (int i64 a5)).setCell ⟨w1.heap.size,7,none⟩ (int i64 a6)).setCell ⟨w1.heap.size,8,none⟩ (int i64 a7)).setCell ⟨w1.heap.size,9,none⟩ (int i64 a8)).setCell ⟨w1.heap.size,10,none⟩ (int i64 z)).setCell ⟨w1.heap.size,11,none⟩ (int i64 n))):=hd_ ⟨_,rfl,rfl,hset,HXD.out,Nat.le_refl _⟩; clear hset hcs hc)
     | fail)
   all_goals
    go_wp2_with fail
    go_meet
    first
     | exact HWB.out
     | exact ⟨wz.heap.size,rfl,rfl,blk_new rfl,HXB.out.alloc _,HXB.out.size⟩
  case rest =>
   obtain ⟨QB,rfl,rfl,hbx,hcx,hqx⟩:=hcut
   have HBX:=hd_ hbx
   have HCX:=hd_ hcx
   have HQX:=hd_ hqx
   clear hbx hcx hqx HKEEP HXA HXA2 HNA
   replace HK:=hd_ (HK.out.new HCX.out)
   replace HZ:=hd_ (HZ.out.chg HCX.out id)
   have HX2:=hd_ (HX.out.tr HCX.out)
   have HLB : Hid (lab QB = 0):=hd_ (HLT.out _ (Nat.le_trans HSW.out HQX.out))
   clear HCX HX HB HASK
   by_cases he : ae = 0
   ·subst he
    replace HT:=hd_ (HT.out.trans (if_pos rfl))
    by_cases k1 : k = 1
    ·subst k1
     replace HT:=hd_ (HT.out.trans (doR_1_17 x ⟨a0,a1,a2,a3,a4,a5,a6,a7,a8⟩ z n))
     have HCH:=hd_ (change17_any HK.out HO.out a0 a1 a2 a3 a4 a5 a6 a7 a8 HAM.out)
     obtain ⟨y0,y1,y2,y3,y4,y5,y6,y7,y8,y9,y10,y11⟩:=rc_cells17 HBX.out
     go_wp2_with fail
     refine HCH.out.mono ?_
     rintro e w3 ⟨ps3,lab3,rfl,hk3,hm3⟩
     have HK3:=hd_ hk3
     replace HBX:=hd_ (HBX.out.chg hm3.1 (by rw [HLB.out]; decide))
     have HLZ3:=hd_ ((hm3.2 _ HZ.out.lt).trans HLZ.out)
     replace HZ:=hd_ (HZ.out.chg hm3.1 (by rw [HLZ.out]; decide))
     have HM3:=hd_ ((Mv17.of (N:=fun n=>1 ≤ n ∧ n ≤ 20) HX2.out).trans hm3)
     clear hk3 hm3 HCH y0 y1 y2 y3 y4 y5 y6 y7 y8 y9 y10 y11
     by_cases hx : chgX17 x ⟨a0,a1,a2,a3,a4,a5,a6,a7,a8⟩ = 0
     ·have HT2:=hd_ (HT.out.trans (if_pos hx))
      rw [hx]
      clear hx
      obtain ⟨y0,y1,y2,y3,y4,y5,y6,y7,y8,y9,y10,y11⟩:=rc_cells17 HBX.out
      obtain ⟨x0,x1,x2,x3,x4,x5,x6,x7,x8⟩:=rv_cells HZ.out
      obtain ⟨u0,u1,u2,u3,u4,u5,u6,u7,u8⟩:=rv_free9 HZ.out
      obtain ⟨r0,r1,r2,r3,r4,r5,r6,r7,r8, -,hcs⟩:=rv_put9 HZ.out a0 a1 a2 a3 a4 a5 a6 a7 a8
      have RR:=cj9 r0 r1 r2 r3 r4 r5 r6 r7 r8
      have HCS:=hd_ hcs
      clear r0 r1 r2 r3 r4 r5 r6 r7 r8 hcs
      go_wp2_with fail
      obtain ⟨r0,r1,r2,r3,r4,r5,r6,r7,r8⟩:=RR.out
      refine bodyPost_ret (v := .tuple #[.agg #[int i64 a0,int .u64 a1,int i64 a2,int i64 a3,int i64 a4,int i64 a5,int i64 a6,int i64 a7,int i64 a8],int i64 0]) (by simp [results,Tryz.results23,go_sem,r0,r1,r2,r3,r4,r5,r6,r7,r8]) rfl ?_
      obtain ⟨hk,hm⟩:=KP.fr17 HK3.out HM3.out HCS.out HLZ3.out HQ.out
      exact ⟨ps3,lab3,by rw [HT2.out]; first | done | rfl,by rw [HT2.out]; exact hk,hm⟩
     ·have te : (chgX17 x ⟨a0,a1,a2,a3,a4,a5,a6,a7,a8⟩ != 0) = true:=by simpa using hx
      have HT2:=hd_ (HT.out.trans (if_neg hx))
      have HY : Hid (chgK17 x ⟨a0,a1,a2,a3,a4,a5,a6,a7,a8⟩ = x):=hd_ (if_neg hx)
      rw [HY.out] at HK3
      clear hx
      generalize chgX17 x ⟨a0,a1,a2,a3,a4,a5,a6,a7,a8⟩ = er at *
      obtain ⟨x0,x1,x2,x3,x4,x5,x6,x7,x8⟩:=rv_cells HZ.out
      obtain ⟨u0,u1,u2,u3,u4,u5,u6,u7,u8⟩:=rv_free9 HZ.out
      obtain ⟨r0,r1,r2,r3,r4,r5,r6,r7,r8, -,hcs⟩:=rv_put9 HZ.out 0 0 0 0 0 0 0 0 0
      have RR:=cj9 r0 r1 r2 r3 r4 r5 r6 r7 r8
      have HCS:=hd_ hcs
      clear r0 r1 r2 r3 r4 r5 r6 r7 r8 hcs
      go_wp2_with fail
      obtain ⟨r0,r1,r2,r3,r4,r5,r6,r7,r8⟩:=RR.out
      refine bodyPost_ret (v := .tuple #[.agg #[int i64 0,int .u64 0,int i64 0,int i64 0,int i64 0,int i64 0,int i64 0,int i64 0,int i64 0],int i64 er]) (by simp [results,Tryz.results23,go_sem,r0,r1,r2,r3,r4,r5,r6,r7,r8]) rfl ?_
      obtain ⟨hk,hm⟩:=KP.fr17 HK3.out HM3.out HCS.out HLZ3.out HQ.out
      exact ⟨ps3,lab3,by rw [HT2.out]; first | done | rfl,by rw [HT2.out]; exact hk,hm⟩
    ·have t1 : (k == 1) = false:=by simpa using k1
     by_cases k4 : k = 4
     ·subst k4
      replace HT:=hd_ (HT.out.trans (doR_4_17 x ⟨a0,a1,a2,a3,a4,a5,a6,a7,a8⟩ z n))
      clear k1
      have HNO:=hd_ (note17_any HK.out.q HO.out.wf HO.out.b HO.out.m 4 a0 a1 a2 a3 a4 a5 a6 a7 a8 z n (rc_ok17 HO.out.wf (.inr (.inl rfl)) (fun e=>absurd (show (4 : Int) = 1 from e) (by decide))))
      obtain ⟨y0,y1,y2,y3,y4,y5,y6,y7,y8,y9,y10,y11⟩:=rc_cells17 HBX.out
      go_wp2_with fail
      refine HNO.out.mono ?_
      rintro e w3 ⟨ps3,lab3,rfl,hk3,hm3⟩
      have HK3:=hd_ (HK.out.ofq17 hk3 hm3 (fun i=>by omega) (by decide) (note_S17 _ _))
      have HLC:=hd_ HLC0.out
      have HQC : Hid (¬ Q1 = c):=hd_ (fun e=>by have h1:=HLZ.out; have h2:=HLC.out; rw [e,h2] at h1; cases h1)
      have HBC : Hid (¬ QB = c):=hd_ (fun e=>by have h1:=HLB.out; have h2:=HLC.out; rw [e,h2] at h1; cases h1)
      replace HBX:=hd_ (HBX.out.chg hm3.1 (by rw [HLB.out]; omega))
      have HLZ3:=hd_ ((hm3.2 _ HZ.out.lt).trans HLZ.out)
      replace HZ:=hd_ (HZ.out.chg hm3.1 (by rw [HLZ.out]; omega))
      have HM3:=hd_ ((Mv17.of (N:=fun n=>1 ≤ n ∧ n ≤ 20) HX2.out).trans (hm3.mono (fun n e=>by omega)))
      clear hk3 hm3 HNO y0 y1 y2 y3 y4 y5 y6 y7 y8 y9 y10 y11
      by_cases hx : putX17 x ⟨4,⟨a0,a1,a2,a3,a4,a5,a6,a7,a8⟩,z,n⟩ = 0
      ·have HT2:=hd_ (HT.out.trans (if_pos hx))
       skip
       have hz : 0 ≤ z ∧ z ≤ 15:=by
        have h0:=hx
        unfold putX17 at h0
        split at h0
        ·rename_i hb
         rcases rc_ok17 HO.out.wf (.inr (.inl rfl)) (fun e=>absurd (show (4 : Int) = 1 from e) (by decide)) hb with h | h | h
         ·exact absurd (show (4 : Int) = 1 from h.1) (by decide)
         ·exact absurd (show (4 : Int) = 6 from h.1) (by decide)
         ·exact h.2
        ·rename_i hb
         exact absurd h0 hb
       obtain ⟨i,rfl⟩:=Int.eq_ofNat_of_zero_le hz.1
       have hi : i < 16:=by omega
       have hi2 : (i : Int) < 16:=by omega
       have HI:=hd_ hi
       rw [hx]
       clear hx hz hi
       obtain ⟨y0,y1,y2,y3,y4,y5,y6,y7,y8,y9,y10,y11⟩:=rc_cells17 HBX.out
       have l1:=(HK3.out.q.cb.line HI.out).2
       have f1:=HK3.out.q.cb.free (5 + i * 2 + 1)
       go_upto_region 13 with fail
       have y10d : w3.drew.cell? ⟨QB,10,none⟩ = some (int i64 (i : Int)):=y10
       have hcs:=(Chg.refl (fun k=>k = c) w3).put c (5 + i * 2 + 1) (fun _=>rfl) (.bool true)
       have HK4:=hd_ ((HK3.out.own (y := { noteK17 x ⟨4,⟨a0,a1,a2,a3,a4,a5,a6,a7,a8⟩,(i : Int),n⟩ with B:=at17 (noteK17 x ⟨4,⟨a0,a1,a2,a3,a4,a5,a6,a7,a8⟩,(i : Int),n⟩).B i true }) hcs (HK3.out.q.cb.setB HI.out true) ⟨rfl,rfl⟩ ⟨rfl,rfl,rfl⟩ rfl).new (Chg.refl (fun _=>False) _).drew)
       have HM4:=hd_ (HM3.out.put (hcs.trans ((Chg.refl (fun k=>k = c) _).drew) (fun _ _ e=>e)) (fun _=>by rw [HLC.out]; decide))
       have HZ4:=hd_ (HZ.out.chg (hcs.trans ((Chg.refl (fun k=>k = c) _).drew) (fun _ _ e=>e)) HQC.out)
       have HBX4:=hd_ (HBX.out.chg (hcs.trans ((Chg.refl (fun k=>k = c) _).drew) (fun _ _ e=>e)) HBC.out)
       have HBE : Hid ((noteK17 x ⟨4,⟨a0,a1,a2,a3,a4,a5,a6,a7,a8⟩,(i : Int),n⟩).B = x.B):=hd_ (by unfold noteK17; split <;> rfl)
       rw [HBE.out] at HK4
       clear hcs HK3 HM3 HZ HBX
       go_region
       clear l1 f1 y0 y1 y2 y3 y4 y5 y6 y7 y8 y9 y10 y11 y10d
       generalize (w3.setCell ⟨c,5 + i * 2 + 1,none⟩ (.bool true)).drew = w4 at *
       have HZ:=HZ4
       have HBX:=HBX4
       obtain ⟨y0,y1,y2,y3,y4,y5,y6,y7,y8,y9,y10,y11⟩:=rc_cells17 HBX.out
       obtain ⟨x0,x1,x2,x3,x4,x5,x6,x7,x8⟩:=rv_cells HZ.out
       obtain ⟨u0,u1,u2,u3,u4,u5,u6,u7,u8⟩:=rv_free9 HZ.out
       obtain ⟨r0,r1,r2,r3,r4,r5,r6,r7,r8, -,hcs⟩:=rv_put9 HZ.out a0 a1 a2 a3 a4 a5 a6 a7 a8
       have RR:=cj9 r0 r1 r2 r3 r4 r5 r6 r7 r8
       have HCS:=hd_ hcs
       clear r0 r1 r2 r3 r4 r5 r6 r7 r8 hcs
       go_wp2_with fail
       obtain ⟨r0,r1,r2,r3,r4,r5,r6,r7,r8⟩:=RR.out
       refine bodyPost_ret (v := .tuple #[.agg #[int i64 a0,int .u64 a1,int i64 a2,int i64 a3,int i64 a4,int i64 a5,int i64 a6,int i64 a7,int i64 a8],int i64 0]) (by simp [results,Tryz.results23,go_sem,r0,r1,r2,r3,r4,r5,r6,r7,r8]) rfl ?_
       obtain ⟨hk,hm⟩:=KP.fr17 HK4.out HM4.out HCS.out HLZ3.out HQ.out
       exact ⟨ps3,lab3,by rw [HT2.out]; first | done | rfl,by rw [HT2.out]; exact hk,hm⟩
      ·have te : (putX17 x ⟨4,⟨a0,a1,a2,a3,a4,a5,a6,a7,a8⟩,z,n⟩ != 0) = true:=by simpa using hx
       have te2 : (putX17 x ⟨4,⟨a0,a1,a2,a3,a4,a5,a6,a7,a8⟩,z,n⟩ == 0) = false:=by simpa using hx
       have HT2:=hd_ (HT.out.trans (if_neg hx))
       have HY : Hid (noteK17 x ⟨4,⟨a0,a1,a2,a3,a4,a5,a6,a7,a8⟩,z,n⟩ = x):=hd_ (if_neg hx)
       rw [HY.out] at HK3
       clear hx
       generalize putX17 x ⟨4,⟨a0,a1,a2,a3,a4,a5,a6,a7,a8⟩,z,n⟩ = er at *
       obtain ⟨x0,x1,x2,x3,x4,x5,x6,x7,x8⟩:=rv_cells HZ.out
       obtain ⟨u0,u1,u2,u3,u4,u5,u6,u7,u8⟩:=rv_free9 HZ.out
       obtain ⟨r0,r1,r2,r3,r4,r5,r6,r7,r8, -,hcs⟩:=rv_put9 HZ.out 0 0 0 0 0 0 0 0 0
       have RR:=cj9 r0 r1 r2 r3 r4 r5 r6 r7 r8
       have HCS:=hd_ hcs
       clear r0 r1 r2 r3 r4 r5 r6 r7 r8 hcs
       go_wp2_with fail
       obtain ⟨r0,r1,r2,r3,r4,r5,r6,r7,r8⟩:=RR.out
       refine bodyPost_ret (v := .tuple #[.agg #[int i64 0,int .u64 0,int i64 0,int i64 0,int i64 0,int i64 0,int i64 0,int i64 0,int i64 0],int i64 er]) (by simp [results,Tryz.results23,go_sem,r0,r1,r2,r3,r4,r5,r6,r7,r8]) rfl ?_
       obtain ⟨hk,hm⟩:=KP.fr17 HK3.out HM3.out HCS.out HLZ3.out HQ.out
       exact ⟨ps3,lab3,by rw [HT2.out]; first | done | rfl,by rw [HT2.out]; exact hk,hm⟩
     ·have t4 : (k == 4) = false:=by simpa using k4
      by_cases k5 : k = 5
      ·subst k5
       replace HT:=hd_ (HT.out.trans (doR_5_17 x ⟨a0,a1,a2,a3,a4,a5,a6,a7,a8⟩ z n))
       clear k1 k4
       have HNO:=hd_ (note17_any HK.out.q HO.out.wf HO.out.b HO.out.m 5 a0 a1 a2 a3 a4 a5 a6 a7 a8 z n (rc_ok17 HO.out.wf (.inr (.inr (.inl rfl))) (fun e=>absurd (show (5 : Int) = 1 from e) (by decide))))
       obtain ⟨y0,y1,y2,y3,y4,y5,y6,y7,y8,y9,y10,y11⟩:=rc_cells17 HBX.out
       go_wp2_with fail
       refine HNO.out.mono ?_
       rintro e w3 ⟨ps3,lab3,rfl,hk3,hm3⟩
       have HK3:=hd_ (HK.out.ofq17 hk3 hm3 (fun i=>by omega) (by decide) (note_S17 _ _))
       have HLC:=hd_ HLC0.out
       have HQC : Hid (¬ Q1 = c):=hd_ (fun e=>by have h1:=HLZ.out; have h2:=HLC.out; rw [e,h2] at h1; cases h1)
       have HBC : Hid (¬ QB = c):=hd_ (fun e=>by have h1:=HLB.out; have h2:=HLC.out; rw [e,h2] at h1; cases h1)
       replace HBX:=hd_ (HBX.out.chg hm3.1 (by rw [HLB.out]; omega))
       have HLZ3:=hd_ ((hm3.2 _ HZ.out.lt).trans HLZ.out)
       replace HZ:=hd_ (HZ.out.chg hm3.1 (by rw [HLZ.out]; omega))
       have HM3:=hd_ ((Mv17.of (N:=fun n=>1 ≤ n ∧ n ≤ 20) HX2.out).trans (hm3.mono (fun n e=>by omega)))
       clear hk3 hm3 HNO y0 y1 y2 y3 y4 y5 y6 y7 y8 y9 y10 y11
       by_cases hx : putX17 x ⟨5,⟨a0,a1,a2,a3,a4,a5,a6,a7,a8⟩,z,n⟩ = 0
       ·have HT2:=hd_ (HT.out.trans (if_pos hx))
        rw [hx]; clear hx
        obtain ⟨y0,y1,y2,y3,y4,y5,y6,y7,y8,y9,y10,y11⟩:=rc_cells17 HBX.out
        obtain ⟨x0,x1,x2,x3,x4,x5,x6,x7,x8⟩:=rv_cells HZ.out
        obtain ⟨u0,u1,u2,u3,u4,u5,u6,u7,u8⟩:=rv_free9 HZ.out
        obtain ⟨r0,r1,r2,r3,r4,r5,r6,r7,r8, -,hcs⟩:=rv_put9 HZ.out a0 a1 a2 a3 a4 a5 a6 a7 a8
        have RR:=cj9 r0 r1 r2 r3 r4 r5 r6 r7 r8
        have HCS:=hd_ hcs
        clear r0 r1 r2 r3 r4 r5 r6 r7 r8 hcs
        go_wp2_with fail
        obtain ⟨r0,r1,r2,r3,r4,r5,r6,r7,r8⟩:=RR.out
        refine bodyPost_ret (v := .tuple #[.agg #[int i64 a0,int .u64 a1,int i64 a2,int i64 a3,int i64 a4,int i64 a5,int i64 a6,int i64 a7,int i64 a8],int i64 0]) (by simp [results,Tryz.results23,go_sem,r0,r1,r2,r3,r4,r5,r6,r7,r8]) rfl ?_
        obtain ⟨hk,hm⟩:=KP.fr17 HK3.out HM3.out HCS.out HLZ3.out HQ.out
        exact ⟨ps3,lab3,by rw [HT2.out]; first | done | rfl,by rw [HT2.out]; exact hk,hm⟩
       ·have te : (putX17 x ⟨5,⟨a0,a1,a2,a3,a4,a5,a6,a7,a8⟩,z,n⟩ != 0) = true:=by simpa using hx
        have te2 : (putX17 x ⟨5,⟨a0,a1,a2,a3,a4,a5,a6,a7,a8⟩,z,n⟩ == 0) = false:=by simpa using hx
        have HT2:=hd_ (HT.out.trans (if_neg hx))
        have HY : Hid (noteK17 x ⟨5,⟨a0,a1,a2,a3,a4,a5,a6,a7,a8⟩,z,n⟩ = x):=hd_ (if_neg hx)
        rw [HY.out] at HK3
        clear hx
        generalize putX17 x ⟨5,⟨a0,a1,a2,a3,a4,a5,a6,a7,a8⟩,z,n⟩ = er at *
        obtain ⟨x0,x1,x2,x3,x4,x5,x6,x7,x8⟩:=rv_cells HZ.out
        obtain ⟨u0,u1,u2,u3,u4,u5,u6,u7,u8⟩:=rv_free9 HZ.out
        obtain ⟨r0,r1,r2,r3,r4,r5,r6,r7,r8, -,hcs⟩:=rv_put9 HZ.out 0 0 0 0 0 0 0 0 0
        have RR:=cj9 r0 r1 r2 r3 r4 r5 r6 r7 r8
        have HCS:=hd_ hcs
        clear r0 r1 r2 r3 r4 r5 r6 r7 r8 hcs
        go_wp2_with fail
        obtain ⟨r0,r1,r2,r3,r4,r5,r6,r7,r8⟩:=RR.out
        refine bodyPost_ret (v := .tuple #[.agg #[int i64 0,int .u64 0,int i64 0,int i64 0,int i64 0,int i64 0,int i64 0,int i64 0,int i64 0],int i64 er]) (by simp [results,Tryz.results23,go_sem,r0,r1,r2,r3,r4,r5,r6,r7,r8]) rfl ?_
        obtain ⟨hk,hm⟩:=KP.fr17 HK3.out HM3.out HCS.out HLZ3.out HQ.out
        exact ⟨ps3,lab3,by rw [HT2.out]; first | done | rfl,by rw [HT2.out]; exact hk,hm⟩
      ·have t5 : (k == 5) = false:=by simpa using k5
       have HT2:=hd_ (HT.out.trans (doR_0_17 x ⟨a0,a1,a2,a3,a4,a5,a6,a7,a8⟩ z n k1 k4 k5))
       clear k1 k4 k5
       obtain ⟨y0,y1,y2,y3,y4,y5,y6,y7,y8,y9,y10,y11⟩:=rc_cells17 HBX.out
       obtain ⟨x0,x1,x2,x3,x4,x5,x6,x7,x8⟩:=rv_cells HZ.out
       obtain ⟨u0,u1,u2,u3,u4,u5,u6,u7,u8⟩:=rv_free9 HZ.out
       obtain ⟨r0,r1,r2,r3,r4,r5,r6,r7,r8, -,hcs⟩:=rv_put9 HZ.out a0 a1 a2 a3 a4 a5 a6 a7 a8
       have RR:=cj9 r0 r1 r2 r3 r4 r5 r6 r7 r8
       have HCS:=hd_ hcs
       clear r0 r1 r2 r3 r4 r5 r6 r7 r8 hcs
       go_wp2_with fail
       obtain ⟨r0,r1,r2,r3,r4,r5,r6,r7,r8⟩:=RR.out
       refine bodyPost_ret (v := .tuple #[.agg #[int i64 a0,int .u64 a1,int i64 a2,int i64 a3,int i64 a4,int i64 a5,int i64 a6,int i64 a7,int i64 a8],int i64 0]) (by simp [results,Tryz.results23,go_sem,r0,r1,r2,r3,r4,r5,r6,r7,r8]) rfl ?_
       obtain ⟨hk,hm⟩:=KP.fr17 HK.out (Mv17.of HX2.out) HCS.out HLZ.out HQ.out
       exact ⟨ps,lab,by rw [HT2.out]; first | done | rfl,by rw [HT2.out]; exact hk,hm⟩
   ·have te : (ae != 0) = true:=by simpa using he
    have HT2:=hd_ (HT.out.trans (if_neg he))
    clear he
    obtain ⟨x0,x1,x2,x3,x4,x5,x6,x7,x8⟩:=rv_cells HZ.out
    obtain ⟨u0,u1,u2,u3,u4,u5,u6,u7,u8⟩:=rv_free9 HZ.out
    obtain ⟨r0,r1,r2,r3,r4,r5,r6,r7,r8, -,hcs⟩:=rv_put9 HZ.out 0 0 0 0 0 0 0 0 0
    have RR:=cj9 r0 r1 r2 r3 r4 r5 r6 r7 r8
    have HCS:=hd_ hcs
    clear r0 r1 r2 r3 r4 r5 r6 r7 r8 hcs
    go_wp2_with fail
    obtain ⟨r0,r1,r2,r3,r4,r5,r6,r7,r8⟩:=RR.out
    refine bodyPost_ret (v := .tuple #[.agg #[int i64 0,int .u64 0,int i64 0,int i64 0,int i64 0,int i64 0,int i64 0,int i64 0,int i64 0],int i64 ae]) (by simp [results,Tryz.results23,go_sem,r0,r1,r2,r3,r4,r5,r6,r7,r8]) rfl ?_
    obtain ⟨hk,hm⟩:=KP.fr17 HK.out (Mv17.of HX2.out) HCS.out HLZ.out HQ.out
    exact ⟨ps,lab,by rw [HT2.out]; first | done | rfl,by rw [HT2.out]; exact hk,hm⟩
end Go.Proofs.YtnojmbejedlilaaGreat
