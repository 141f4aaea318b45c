/-
  Walk: rutterlaw17.Owner. Conditions: what is known is the call's own row, the rows lie in memory, apart from it.
-/
import Derived.Test.YtnojmbejedlilaaGreatQIq
set_option maxRecDepth 100000
set_option maxHeartbeats 40000000
set_option linter.unusedVariables false
set_option linter.unusedSimpArgs false
namespace Go.Proofs.YtnojmbejedlilaaGreat
open Go.Value (int)
open Go.IntKind (i64)
open Go.RowKit
def One17 (k r : RV) : Prop := ¬ (k.po = r.po ∧ k.ge = r.ge ∧ k.ow ≠ r.ow ∧ 0 ≤ r.ow ∧ 0 ≤ k.ow)
def OwnP17 (K l : List RV) : Prop := ∀ (i : Nat) (r : RV),l[i]? = some r → ∀ k ∈ K ++ l.take i,One17 k r
def flat17 (l : List RV) : List Value:=l.flatMap fun x=>x.cs.toList
def OwP17 (B : Nat) (v : Value) (n : Nat) (K : List RV) (w : World) (e : Ending) (w' : World) : Prop := ∃ A c,e = .returned (.tuple #[.slice A n c, .bool true]) ∧ w'.ownsRow B 60 9 (.slice A n c) n (flat17 K) ∧ Chg (fun k=>v.ownBlock = some k) w w' ∧ ((Value.slice A n c).ownBlock = v.ownBlock ∨ ∀ k,(Value.slice A n c).ownBlock = some k → w.heap.size ≤ k)
theorem owner17_any {B : Nat} {S2 : Nat → Prop} {A A2 : Option Addr} {n c n2 c2 : Nat} {K l : List RV} {w : World} (ho : w.ownsRow B 60 9 (.slice A n c) n (flat17 K)) (hn : n = K.length) (h2 : SR 9 RV.cs w S2 A2 n2 l) (hB : B ≤ w.heap.size) (hS : ∀ k,S2 k → ¬ (Value.slice A n c).ownBlock = some k) (hnn : n + n2 ≤ 1000000) (hk : OwnP17 K l) : Calls Tryz.prog 30 #[.slice A n c, .slice A2 n2 c2] w (OwP17 B (.slice A n c) (n + n2) (K ++ l) w):=by
 have HO0:=hd_ ho
 have HN:=hd_ hn
 have H2:=hd_ h2
 have HM2:=hd_ h2.1
 have HBS:=hd_ hB
 have HS:=hd_ hS
 have HK:=hd_ hk
 obtain ⟨i0,hi,hz0,hz1,hz2⟩:=info_parts infoRow10
 have HI:=cj4 hi hz0 hz1 hz2
 clear ho hn h2 hB hS hk hi hz0 hz1 hz2
 unfold flat17 at HO0
 generalize hV : (Value.slice A n c).ownBlock = OB at *
 have HV:=hd_ hV
 clear hV
 go_in
 go_wp2_with fail
 go_loopg [0,6,7,8] n2 (fun g s0 s6 s7 s8 wr => ∃ (j c3 : Nat) (A3 : Option Addr),g = n2 - j ∧ j ≤ n2 ∧ s0 = .slice A3 (n + j) c3 ∧ s6 = int i64 (j : Int) ∧ Hid (wr.ownsRow B 60 9 (.slice A3 (n + j) c3) (n + j) ((K ++ l.take j).flatMap fun x=>x.cs.toList)) ∧ Hid (Chg (fun k=>OB = some k) w wr) ∧ Hid ((Value.slice A3 (n + j) c3).ownBlock = OB ∨ ∀ k,(Value.slice A3 (n + j) c3).ownBlock = some k → w.heap.size ≤ k))
 case atStart=>exact ⟨0,c,A,rfl,Nat.zero_le _,rfl,rfl,hd_ (by rw [List.take_zero,List.append_nil]; exact HO0.out),hd_ (Chg.refl _ _),hd_ (.inl HV.out)⟩
 case round =>
  clear HO0
  obtain ⟨j,c3,A3,rfl,hj,rfl,rfl,HO,HX,HOB⟩:=hrel
  by_cases hlt : j < n2
  ·have hll:=HM2.out
   obtain ⟨ad,rfl, -⟩:=H2.out.2 (by omega)
   have hx : l[j]? = some (l[j]'(by omega)):=List.getElem?_eq_getElem (by omega)
   have HXX:=hd_ hx
   have HOK:=hd_ (HK.out j _ hx)
   generalize l[j]'(by omega) = x at *
   obtain ⟨xpo,xma,xow,xta,xol,xge,xph,xve,xsi⟩:=x
   obtain ⟨z0,z1,z2,z3,z4,z5,z6,z7,z8⟩:=sr_at9 (H2.out.chg HX.out HS.out) hx
   clear hx hll
   have HQ : Hid (Blk (wr.alloc (.cells #[int i64 xpo,int .u64 xma,int i64 xow,int i64 xta,int i64 xol,int i64 xge,int i64 xph,int i64 xve,int i64 xsi] 60)) wr.heap.size 60 (rvC xpo xma xow xta xol xge xph xve xsi)):=hd_ (blk_new rfl)
   have hc:=(Chg.refl (fun _=>False) wr).alloc (.cells #[int i64 xpo,int .u64 xma,int i64 xow,int i64 xta,int i64 xol,int i64 xge,int i64 xph,int i64 xve,int i64 xsi] 60)
   have HO2:=hd_ (own_chg HO.out hc (fun _ _=>id))
   have HX2:=hd_ (HX.out.trans hc (fun _ _ e=>False.elim e))
   have HSZ:=hd_ HX.out.size
   clear hc HO HX
   go_upto_region 5 with fail
   clear z0 z1 z2 z3 z4 z5 z6 z7 z8
   generalize (wr.alloc (.cells #[int i64 xpo,int .u64 xma,int i64 xow,int i64 xta,int i64 xol,int i64 xge,int i64 xph,int i64 xve,int i64 xsi] 60)) = w2 at *
   generalize wr.heap.size = q at *
   go_wp2_with fail
   go_loopg [8] (n + j) (fun g s8 wq => ∃ (k : Nat),g = n + j - k ∧ k ≤ n + j ∧ s8 = int i64 (k : Int) ∧ Hid (Chg (fun _=>False) w2 wq))
   case atStart=>exact ⟨0,rfl,Nat.zero_le _,rfl,hd_ (Chg.refl _ _)⟩
   case round =>
    obtain ⟨k,rfl,hkk,rfl,HXI⟩:=hrel
    have HLN : Hid (n + j = (K ++ l.take j).length):=hd_ (by rw [List.length_append,List.length_take]; have:=HN.out; have:=HM2.out; omega)
    by_cases hlt2 : k < n + j
    ·have hll:=HLN.out
     have hsr:=own_sr rv_size (own_chg HO2.out HXI.out (fun _ _=>id)) HLN.out
     obtain ⟨ad3,rfl, -⟩:=hsr.2 (by omega)
     have hy : (K ++ l.take j)[k]? = some ((K ++ l.take j)[k]'(by omega)):=List.getElem?_eq_getElem (by omega)
     have HBAD:=hd_ (HOK.out _ (List.getElem_mem (show k < (K ++ l.take j).length by omega)))
     generalize (K ++ l.take j)[k]'(by omega) = y at *
     obtain ⟨ypo,yma,yow,yta,yol,yge,yph,yve,ysi⟩:=y
     obtain ⟨y0,y1,y2,y3,y4,y5,y6,y7,y8⟩:=sr_at9 hsr hy
     obtain ⟨z0,z1,z2,z3,z4,z5,z6,z7,z8⟩:=rv_cells (HQ.out.chg HXI.out id)
     simp only at y0 y2 y5
     unfold One17 at HBAD
     simp only at HBAD
     clear hsr hy hll y1 y3 y4 y6 y7 y8 z1 z3 z4 z6 z7 z8
     have b2 : (0 : Int) ≤ (k : Int):=by omega
     have b3 : (k : Int) < ((n + j : Nat) : Int):=by omega
     cases h1 : (ypo == xpo) with
     | false =>
      go_wp2_with fail
      go_quiet (fail)
      replace HXI:=hd_ (HXI.out.drewN nq)
      generalize wr.drewN nq = wz at *
      go_wp2_with fail
      go_roundg (n + j - (k + 1))
      case measure=>omega
      case rel=>exact ⟨k + 1,rfl,by omega,by go_num,HXI⟩
     | true =>
      cases h2 : (yge == xge) with
      | false =>
       go_wp2_with fail
       go_quiet (fail)
       replace HXI:=hd_ (HXI.out.drewN nq)
       generalize wr.drewN nq = wz at *
       go_wp2_with fail
       go_roundg (n + j - (k + 1))
       case measure=>omega
       case rel=>exact ⟨k + 1,rfl,by omega,by go_num,HXI⟩
      | true =>
       cases h3 : (yow != xow) with
       | false =>
        go_wp2_with fail
        go_quiet (fail)
        replace HXI:=hd_ (HXI.out.drewN nq)
        generalize wr.drewN nq = wz at *
        go_wp2_with fail
        go_roundg (n + j - (k + 1))
        case measure=>omega
        case rel=>exact ⟨k + 1,rfl,by omega,by go_num,HXI⟩
       | true =>
        cases h4 : decide (0 ≤ xow) with
        | false =>
         go_wp2_with fail
         go_quiet (fail)
         replace HXI:=hd_ (HXI.out.drewN nq)
         generalize wr.drewN nq = wz at *
         go_wp2_with fail
         go_roundg (n + j - (k + 1))
         case measure=>omega
         case rel=>exact ⟨k + 1,rfl,by omega,by go_num,HXI⟩
        | true =>
         cases h5 : decide (0 ≤ yow) with
         | false =>
          go_wp2_with fail
          go_quiet (fail)
          replace HXI:=hd_ (HXI.out.drewN nq)
          generalize wr.drewN nq = wz at *
          go_wp2_with fail
          go_roundg (n + j - (k + 1))
          case measure=>omega
          case rel=>exact ⟨k + 1,rfl,by omega,by go_num,HXI⟩
         | true =>
          exfalso
          exact HBAD.out ⟨by simpa using h1,by simpa using h2,by simpa using h3,by simpa using h4,by simpa using h5⟩
    ·have HQ2:=hd_ (HQ.out.chg HXI.out id)
     have HO3:=hd_ (own_chg HO2.out HXI.out (fun _ _=>id))
     have HX3:=hd_ (HX2.out.trans HXI.out (fun _ _ e=>False.elim e))
     clear HQ HO2 HX2 HXI
     obtain ⟨y0,y1,y2,y3,y4,y5,y6,y7,y8⟩:=rv_cells HQ2.out
     have hc:=(Chg.refl (fun _=>False) wr).alloc (.cells #[int i64 xpo,int .u64 xma,int i64 xow,int i64 xta,int i64 xol,int i64 xge,int i64 xph,int i64 xve,int i64 xsi] 60)
     have hown:=own_chg HO3.out hc (fun _ _=>id)
     have hxa:=HX3.out.trans hc (fun _ _ e=>False.elim e)
     have hsz : B ≤ (wr.alloc (.cells #[int i64 xpo,int .u64 xma,int i64 xow,int i64 xta,int i64 xol,int i64 xge,int i64 xph,int i64 xve,int i64 xsi] 60)).heap.size:=by have h1:=hxa.size; have h2:=HBS.out; omega
     have hwq:=hxa.size
     obtain ⟨hi,hz0,hz1,hz2⟩:=HI.out
     clear hc
     go_wp2_with (at_builtin; refine wpList_own_appendN _ rfl (.tmp 67) (.tmp 69) 54 rfl B 60 i0 _ 9 72 Tryz.underlying54 hi hz0 hz1 hz2 rfl (by decide) (.slice A3 (n + j) c3) (n + j) _ rfl hown ⟨wr.heap.size,0,none⟩ 1 1 [int i64 xpo,int .u64 xma,int i64 xow,int i64 xta,int i64 xol,int i64 xge,int i64 xph,int i64 xve,int i64 xsi] rfl rfl (new_cells rfl) (by simp [Value.oneCell']) (by unfold maxLen; omega) (by omega) hsz ?_; intro v3 w3 hown3 hg3 hat3; obtain ⟨A4,c4,rfl,_,_⟩:=own_form hown3; have HG3:=hd_ hg3; have HAT:=hd_ hat3; have HO4:=hd_ hown3; have HXA:=hd_ hxa; clear hown3 hg3 hat3 hown hxa)
     go_roundg (n2 - (j + 1))
     case measure=>omega
     case rel =>
      refine ⟨j + 1,c4,A4,rfl,by omega,rfl,by go_num,hd_ ?_,hd_ ?_,hd_ ?_⟩
      ·rw [List.take_add_one,HXX.out, ← List.append_assoc,List.flatMap_append]
       exact HO4.out
      ·refine HXA.out.grown HG3.out (fun k hk hlt => ?_)
       rcases HOB.out with e | e
       ·rw [← e]; exact hk.symm ▸ rfl
       ·have:=e k hk; omega
      ·rcases HAT.out with e | e
       ·rcases HOB.out with e2 | e2
        ·exact .inl (e.trans e2)
        ·exact .inr (fun k hk=>e2 k (e.symm.trans hk))
       ·refine .inr (fun k hk => ?_)
        have hk2:=e.symm.trans hk
        injection hk2 with hk2
        omega
  ·have hjm : Hid (j = n2):=by show j = n2; omega
   go_wp2_with fail
   go_ret2
   have h1:=hjm.out
   subst h1
   refine ⟨A3,c3,rfl, ?_,by rw [HV.out]; exact HX.out,by rw [HV.out]; exact HOB.out⟩
   have h3:=HO.out
   rw [List.take_of_length_le (by have:=HM2.out; omega)] at h3
   exact h3
end Go.Proofs.YtnojmbejedlilaaGreat
