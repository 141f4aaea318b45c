/-
  Walks: agent.Rows, table. Conditions: the agent lies in memory.
-/
import Derived.Test.YtfajcdobikjcdaaGreatDoorAc
import Derived.Test.YtfajcdobikjcdaaGreatDoorM9
import Derived.Deep.LoopGhost
import Derived.Deep.QuietTactic
import Derived.BigQuiet
set_option maxRecDepth 100000
set_option maxHeartbeats 40000000
set_option linter.unusedVariables false
set_option linter.unusedSimpArgs false
namespace Go.Proofs.YtfajcdobikjcdaaGreatDoor
open Go.Value (int)
open Go.IntKind (i64)
open Go.RowKit
theorem infoRow16 : (Tryz.prog.info? 63).map (fun i=>(i.zero,i.size,i.bytes)) = some (some (.agg #[int i64 0,int .u64 0,int i64 0,int i64 0,int i64 0,int i64 0,int i64 0,int i64 0,int i64 0]),9,72):=by kernel_rfl
def rwK (R : Nat → RV) (k : Nat) : List RV:=((List.range k).map R).filter (fun r=>decide (0 < r.ve))
def rwA (R : Nat → RV) : List RV:=rwK R 32
theorem rwK_succ (R : Nat → RV) (k : Nat) : rwK R (k + 1) = rwK R k ++ (if 0 < (R k).ve then [R k] else []):=by
 unfold rwK
 rw [List.range_succ,List.map_append,List.filter_append]
 congr 1
 by_cases h : 0 < (R k).ve <;> simp [h]
theorem rwK_len (R : Nat → RV) (k : Nat) : (rwK R k).length ≤ k:=by
 unfold rwK
 have:=List.length_filter_le (fun r : RV=>decide (0 < r.ve)) ((List.range k).map R)
 rw [List.length_map,List.length_range] at this
 exact this
theorem rwA_mem {R : Nat → RV} {r : RV} (h : r ∈ rwA R) : ∃ i,i < 32 ∧ R i = r ∧ 0 < r.ve:=by
 unfold rwA rwK at h
 rw [List.mem_filter,List.mem_map] at h
 obtain ⟨⟨i,hi,e⟩,hv⟩:=h
 exact ⟨i,List.mem_range.1 hi,e,by simpa using hv⟩
theorem rwA_in {R : Nat → RV} {i : Nat} (hi : i < 32) (hv : 0 < (R i).ve) : R i ∈ rwA R:=by
 unfold rwA rwK
 rw [List.mem_filter,List.mem_map]
 exact ⟨⟨i,List.mem_range.2 hi,rfl⟩,by simpa using hv⟩
def rwF (l : List RV) : List Value:=l.flatMap (fun x=>x.cs.toList)
def RwsP (l : List RV) (w : World) (e : Ending) (w' : World) : Prop := ∃ E k d,e = .returned (.slice E k d) ∧ k = l.length ∧ w'.ownsRow w.heap.size 63 9 (.slice E k d) k (rwF l) ∧ Chg (fun _=>False) w w'
theorem own_rwr {w : World} {base : Nat} {n c : Nat} {A : Option Addr} {l : List RV} (h : w.ownsRow base 63 9 (.slice A n c) n (rwF l)) (hn : n = l.length) : RwR w A n l:=by
 refine ⟨hn,fun hp => ?_⟩
 have hlt:=h.lt
 rcases h.2 with ⟨hv,rfl⟩ | ⟨g,cap,cur,hv,_⟩
 ·omega
 ·injection hv with hA hn hc
  subst hA
  have:=hlt g rfl
  refine ⟨⟨g,0,none⟩,rfl,this.2,fun i x hi j u hu=>h.cells (g:=g) rfl _ u ?_⟩
  have hj : j < 9:=(Array.getElem?_eq_some_iff.1 hu).1
  rw [rwF,flat9_at l i x hi j hj]
  exact hu
theorem arows_any {w : World} {a ps q m : Nat} {D : Nat → Prop} {x : AV} (h : AM w a ps q m D x) : Calls Tryz.prog 7 #[.pointer (some ⟨a,0,none⟩)] w (RwsP (rwA x.R) w):=by
 have HH:=hd_ h
 obtain ⟨i0,hi0,hz0,hz1,hz2⟩:=info_parts infoRow16
 have HR:=hd_ (show ∀ W,Chg (fun _=>False) w W → ∀ i : Nat,i < 32 → Calls _ _ _ _ (HB (x.R i,decide (0 < (x.R i).ve)) W) from fun W hW i hi=>arow_any (HH.out.new hW) (i : Int) i rfl hi)
 generalize x.R = R at *
 clear h
 go_enter Tryz.func7,Tryz.ntmps7
 go_wp2_with fail
 go_loopg [3,4,5,6,9] 32 (fun g s3 s4 s5 s6 i wr => ∃ (j n d : Nat) (E : Option Addr),g = 32 - j ∧ j ≤ 32 ∧ i = int i64 (j : Int) ∧ s3 = .slice E n d ∧ Hid (n = (rwK R j).length) ∧ Hid (wr.ownsRow w.heap.size 63 9 (.slice E n d) n (rwF (rwK R j))) ∧ Hid (Chg (fun _=>False) w wr))
 case atStart=>exact ⟨0,0,0,none,rfl,by omega,rfl,rfl,hd_ rfl,hd_ (World.ownsRow_nil _ _ _ _),hd_ (Chg.refl _ _)⟩
 case round =>
  obtain ⟨j,n,d,E,rfl,hj,rfl,rfl,HN,HO,HX0⟩:=hrel
  by_cases hlt : j < 32
  ·have hr:=HR.out wr HX0.out j hlt
   have hk:=rwK_succ R j
   have hn32 : n ≤ 32:=by have h1:=rwK_len R j; have h2:=HN.out; omega
   obtain ⟨po,ma,ow,ta,ol,ge,ph,ve,si,hv⟩:=rv_let16 (R j)
   rw [hv] at hr hk
   clear hv
   by_cases h0 : 0 < ve
   ·rw [if_pos h0] at hk
    replace hr : Calls _ _ _ _ (HB9 po ma ow ta ol ge ph ve si (decide (0 < ve)) wr):=hr
    rw [show decide (0 < ve) = true from by simpa using h0] at hr
    have HRW:=hd_ hr
    have HK:=hd_ hk
    clear hr hk h0
    go_wp2_with fail
    refine HRW.out.mono ?_
    rintro e w1 ⟨rfl,hc⟩
    replace HX0:=hd_ (HX0.out.trans hc (fun _ _ e=>e))
    replace HO:=hd_ (own_chg HO.out hc (fun _ _=>id))
    clear hc HRW
    go_upto_region 8 with fail
    have HQ0 : Hid (Blk (w1.alloc (.cells #[int i64 po,int .u64 ma,int i64 ow,int i64 ta,int i64 ol,int i64 ge,int i64 ph,int i64 ve,int i64 si] 63)) w1.heap.size 63 (rvC po ma ow ta ol ge ph ve si)):=hd_ (blk_new rfl)
    replace HX0:=hd_ (HX0.out.alloc (.cells #[int i64 po,int .u64 ma,int i64 ow,int i64 ta,int i64 ol,int i64 ge,int i64 ph,int i64 ve,int i64 si] 63))
    replace HO:=hd_ (own_chg HO.out ((Chg.refl (fun _=>False) w1).alloc (.cells #[int i64 po,int .u64 ma,int i64 ow,int i64 ta,int i64 ol,int i64 ge,int i64 ph,int i64 ve,int i64 si] 63)) (fun _ _=>id))
    generalize (w1.alloc (.cells #[int i64 po,int .u64 ma,int i64 ow,int i64 ta,int i64 ol,int i64 ge,int i64 ph,int i64 ve,int i64 si] 63)) = w2 at *
    generalize w1.heap.size = qn at *
    obtain ⟨y0,y1,y2,y3,y4,y5,y6,y7,y8⟩:=rv_cells HQ0.out
    go_wp2_with (at_builtin; refine wpList_app12 _ rfl (.tmp 19) (.tmp 21) 29 rfl w.heap.size 63 i0 _ 9 72 Tryz.underlying29 hi0 hz0 hz1 hz2 rfl (by decide) (.slice E n d) n (rwF (rwK R j)) rfl (own_chg HO.out ((Chg.refl (fun _=>False) w2).alloc _) (fun _ _=>id)) ⟨w2.heap.size,0,none⟩ 1 1 (rvC po ma ow ta ol ge ph ve si).toList rfl rfl (fun k u hu=>by rw [show (⟨w2.heap.size,0,none⟩ : Addr).add k = ⟨w2.heap.size,k,none⟩ from by unfold Addr.add; split <;> simp_all]; exact ((Blk.new w2 63 (rvC po ma ow ta ol ge ph ve si)).cell k).trans (by simpa using hu)) (by simp [rvC,Value.oneCell']) (by unfold maxLen; omega) (by omega) (by have:=HX0.out.size; simp; omega) ?_; intro v3 w3 hown3 hg3 hat3; obtain ⟨E3,d3,rfl,_,_⟩:=own_form hown3; have HX3:=hd_ (HX0.out.trans ((Chg.refl (fun _=>False) w2).alloc (.cells #[int i64 po,int .u64 ma,int i64 ow,int i64 ta,int i64 ol,int i64 ge,int i64 ph,int i64 ve,int i64 si] 63)) (fun _ _ e=>e)); replace HX3:=hd_ (grown_fresh HX3.out hg3 (own_chg HO.out ((Chg.refl (fun _=>False) w2).alloc _) (fun _ _=>id)) (Nat.le_refl _)); have HO3:=hd_ hown3; clear hown3 hg3 hat3)
    go_roundg (32 - (j + 1))
    case measure=>omega
    case rel=>exact ⟨j + 1,n + 1,d3,E3,rfl,by omega,by go_num,rfl,hd_ (by rw [HK.out,List.length_append, ← HN.out]; rfl),hd_ (by rw [HK.out,rwF,List.flatMap_append]; exact HO3.out),HX3⟩
   ·rw [if_neg h0,List.append_nil] at hk
    replace hr : Calls _ _ _ _ (HB9 po ma ow ta ol ge ph ve si (decide (0 < ve)) wr):=hr
    rw [show decide (0 < ve) = false from by simpa using h0] at hr
    have HRW:=hd_ hr
    have HK:=hd_ hk
    clear hr hk h0
    go_wp2_with fail
    refine HRW.out.mono ?_
    rintro e w1 ⟨rfl,hc⟩
    replace HX0:=hd_ (HX0.out.trans hc (fun _ _ e=>e))
    replace HO:=hd_ (own_chg HO.out hc (fun _ _=>id))
    clear hc HRW
    go_upto_region 8 with fail
    have HQ0 : Hid (Blk (w1.alloc (.cells #[int i64 po,int .u64 ma,int i64 ow,int i64 ta,int i64 ol,int i64 ge,int i64 ph,int i64 ve,int i64 si] 63)) w1.heap.size 63 (rvC po ma ow ta ol ge ph ve si)):=hd_ (blk_new rfl)
    replace HX0:=hd_ (HX0.out.alloc (.cells #[int i64 po,int .u64 ma,int i64 ow,int i64 ta,int i64 ol,int i64 ge,int i64 ph,int i64 ve,int i64 si] 63))
    replace HO:=hd_ (own_chg HO.out ((Chg.refl (fun _=>False) w1).alloc (.cells #[int i64 po,int .u64 ma,int i64 ow,int i64 ta,int i64 ol,int i64 ge,int i64 ph,int i64 ve,int i64 si] 63)) (fun _ _=>id))
    generalize (w1.alloc (.cells #[int i64 po,int .u64 ma,int i64 ow,int i64 ta,int i64 ol,int i64 ge,int i64 ph,int i64 ve,int i64 si] 63)) = w2 at *
    generalize w1.heap.size = qn at *
    go_wp2_with fail
    go_roundg (32 - (j + 1))
    case measure=>omega
    case rel=>exact ⟨j + 1,n,d,E,rfl,by omega,by go_num,rfl,hd_ (by rw [HK.out]; exact HN.out),hd_ (by rw [HK.out]; exact HO.out),HX0⟩
  ·have hj2 : j = 32:=by omega
   subst hj2
   go_wp2_with fail
   go_ret
   exact ⟨E,n,d,rfl,HN.out,HO.out,HX0.out⟩
end Go.Proofs.YtfajcdobikjcdaaGreatDoor
