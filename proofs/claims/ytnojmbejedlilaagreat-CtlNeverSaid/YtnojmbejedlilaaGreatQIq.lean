/-
  Walk: rutterlaw17.Rises. Conditions: both lists of rows lie in memory.
-/
import Derived.Test.YtnojmbejedlilaaGreatQIp
import Derived.RegionTactic
import Derived.BigQuiet
set_option maxRecDepth 100000
set_option maxHeartbeats 40000000
set_option linter.unusedVariables false
set_option linter.unusedSimpArgs false
namespace Go.Proofs.YtnojmbejedlilaaGreat
open Go.Value (int)
open Go.IntKind (i64)
open Go.RowKit
def RisP17 (l l2 : List RV) : Prop := ∀ r ∈ l, ∃ r2 ∈ l2,r2.po = r.po ∧ r.ve ≤ r2.ve ∧ r.ge ≤ r2.ge
theorem ris_of17 {t u : TS17} (hw : WF t.C t.R) (hu : WF u.C u.R) (h : Ri17 t u) : RisP17 (rowsP t.R) (rowsP u.R):=by
 intro r hr
 obtain ⟨z,hz⟩:=hw.mem.1 hr
 obtain ⟨y,hy,h1,h2⟩:=h.2 z r hz
 refine ⟨y,hu.mem.2 ⟨z,hy⟩, ?_,h1,h2.le⟩
 rw [(hu.row z y hy).2.1,(hw.row z r hz).2.1]
theorem rises17_any {S S2 : Nat → Prop} {A A2 : Option Addr} {n c n2 c2 : Nat} {l l2 : List RV} {w : World} (h : SR 9 RV.cs w S A n l) (h2 : SR 9 RV.cs w S2 A2 n2 l2) (hn : n ≤ 1000) (hn2 : n2 ≤ 1000) (hk : RisP17 l l2) : Calls Tryz.prog 29 #[.slice A n c, .slice A2 n2 c2] w fun e w'=>e = .returned (.bool true) ∧ Chg (fun _=>False) w w':=by
 have HR:=hd_ h
 have HR2:=hd_ h2
 have HM:=hd_ h.1
 have HM2:=hd_ h2.1
 have HK:=hd_ hk
 clear h h2 hk
 go_in
 go_wp2_with fail
 go_loopg [5,6,7] n (fun g s5 s6 s7 wr => ∃ (j : Nat),g = n - j ∧ j ≤ n ∧ s5 = int i64 (j : Int) ∧ Hid (Chg (fun _=>False) w wr))
 case atStart=>exact ⟨0,rfl,Nat.zero_le _,rfl,hd_ (Chg.refl _ _)⟩
 case round =>
  obtain ⟨j,rfl,hj,rfl,HX⟩:=hrel
  by_cases hlt : j < n
  ·have hll:=HM.out
   obtain ⟨ad,rfl, -⟩:=HR.out.2 (by omega)
   have hx : l[j]? = some (l[j]'(by omega)):=List.getElem?_eq_getElem (by omega)
   have HXX:=hd_ hx
   obtain ⟨r2,hr2,hp2,hv2,hg2⟩:=HK.out _ (List.getElem_mem (show j < l.length by omega))
   obtain ⟨k0,hk0,he0⟩:=List.getElem_of_mem hr2
   have HI:=hd_ (show l2[k0]? = some r2 by rw [List.getElem?_eq_getElem hk0,he0])
   generalize l[j]'(by omega) = x at *
   obtain ⟨xpo,xma,xow,xta,xol,xge,xph,xve,xsi⟩:=x
   simp only at hp2 hv2 hg2
   have HP2:=hd_ hp2
   have HV2:=hd_ hv2
   have HG2:=hd_ hg2
   have HK0:=hd_ hk0
   clear hx hr2 hp2 hv2 hg2 he0 hk0 hll
   go_wp2_with fail
   go_loopg [6,7] n2 (fun g s6 s7 wq => ∃ (k : Nat) (s : Bool),g = n2 - k ∧ k ≤ n2 ∧ s6 = .bool s ∧ s7 = int i64 (k : Int) ∧ Hid (s = true ∨ k ≤ k0) ∧ Hid (Chg (fun _=>False) w wq))
   case atStart=>exact ⟨0,false,rfl,Nat.zero_le _,rfl,rfl,hd_ (.inr (Nat.zero_le _)),HX⟩
   case round =>
    clear HX
    obtain ⟨k,s,rfl,hkk,rfl,rfl,HS,HX⟩:=hrel
    by_cases hlt2 : k < n2
    ·have hll2:=HM2.out
     obtain ⟨ad2,rfl, -⟩:=HR2.out.2 (by omega)
     have hx2 : l2[k]? = some (l2[k]'(by omega)):=List.getElem?_eq_getElem (by omega)
     have HXY:=hd_ hx2
     generalize l2[k]'(by omega) = y at *
     obtain ⟨ypo,yma,yow,yta,yol,yge,yph,yve,ysi⟩:=y
     have HJN : Hid (k ≠ k0 ∨ (ypo = xpo ∧ xve ≤ yve ∧ xge ≤ yge)):=hd_ (by
      by_cases hji : k = k0
      ·subst hji
       have h2:=HI.out
       rw [HXY.out] at h2
       injection h2 with h2
       subst h2
       exact .inr ⟨HP2.out,HV2.out,HG2.out⟩
      ·exact .inl hji)
     obtain ⟨z0,z1,z2,z3,z4,z5,z6,z7,z8⟩:=sr_at9 (HR.out.chg HX.out (fun _ _=>id)) HXX.out
     obtain ⟨y0,y1,y2,y3,y4,y5,y6,y7,y8⟩:=sr_at9 (HR2.out.chg HX.out (fun _ _=>id)) HXY.out
     simp only at z0 z5 z7 y0 y5 y7
     clear hx2 z1 y1 z2 y2 z3 y3 z4 y4 z6 y6 z8 y8 hll2
     have b0 : (0 : Int) ≤ (j : Int):=by omega
     have b1 : (j : Int) < (n : Int):=by omega
     have b2 : (0 : Int) ≤ (k : Int):=by omega
     have b3 : (k : Int) < (n2 : Int):=by omega
     cases s with
     | true =>
      go_wp2_with fail
      go_quiet (fail)
      replace HX:=hd_ (HX.out.drewN nq)
      generalize wr.drewN nq = wz at *
      go_wp2_with fail
      go_roundg (n2 - (k + 1))
      case measure=>omega
      case rel=>exact ⟨k + 1,true,rfl,by omega,rfl,by go_num,hd_ (.inl rfl),HX⟩
     | false =>
      have HS2:=hd_ (show k ≤ k0 from HS.out.resolve_left (by simp))
      cases h1 : (ypo == xpo) with
      | false =>
       have HN:=hd_ (show k ≠ k0 from HJN.out.resolve_right (fun e=>by rw [e.1] at h1; simp at h1))
       go_wp2_with fail
       go_quiet (fail)
       replace HX:=hd_ (HX.out.drewN nq)
       generalize wr.drewN nq = wz at *
       go_wp2_with fail
       go_roundg (n2 - (k + 1))
       case measure=>omega
       case rel=>exact ⟨k + 1,false,rfl,by omega,rfl,by go_num,hd_ (.inr (by have:=HN.out; have:=HS2.out; omega)),HX⟩
      | true =>
       cases h3 : decide (xve ≤ yve) with
       | false =>
        have HN:=hd_ (show k ≠ k0 from HJN.out.resolve_right (fun e=>by have:=of_decide_eq_false h3; exact this e.2.1))
        go_wp2_with fail
        go_quiet (fail)
        replace HX:=hd_ (HX.out.drewN nq)
        generalize wr.drewN nq = wz at *
        go_wp2_with fail
        go_roundg (n2 - (k + 1))
        case measure=>omega
        case rel=>exact ⟨k + 1,false,rfl,by omega,rfl,by go_num,hd_ (.inr (by have:=HN.out; have:=HS2.out; omega)),HX⟩
       | true =>
        cases h4 : decide (xge ≤ yge) with
        | false =>
         have HN:=hd_ (show k ≠ k0 from HJN.out.resolve_right (fun e=>by have:=of_decide_eq_false h4; exact this e.2.2))
         go_wp2_with fail
         go_quiet (fail)
         replace HX:=hd_ (HX.out.drewN nq)
         generalize wr.drewN nq = wz at *
         go_wp2_with fail
         go_roundg (n2 - (k + 1))
         case measure=>omega
         case rel=>exact ⟨k + 1,false,rfl,by omega,rfl,by go_num,hd_ (.inr (by have:=HN.out; have:=HS2.out; omega)),HX⟩
        | true =>
         go_wp2_with fail
         go_quiet (fail)
         replace HX:=hd_ (HX.out.drewN nq)
         generalize wr.drewN nq = wz at *
         go_wp2_with fail
         go_roundg (n2 - (k + 1))
         case measure=>omega
         case rel=>exact ⟨k + 1,true,rfl,by omega,rfl,by go_num,hd_ (.inl rfl),HX⟩
    ·have hs : s = true:=HS.out.resolve_right (by have:=HK0.out; have:=HM2.out; omega)
     subst hs
     go_wp2_with fail
     go_roundg (n - (j + 1))
     case measure=>omega
     case rel=>exact ⟨j + 1,rfl,by omega,by go_num,HX⟩
  ·go_wp2_with fail
   go_ret
   exact ⟨rfl,HX.out⟩
end Go.Proofs.YtnojmbejedlilaaGreat
