/-
  Walk: rutterlaw17.say. Conditions: the message's records lie in memory.
-/
import Derived.Test.YtnojmbejedlilaaGreatKQIs
import Derived.Test.YtnojmbejedlilaaGreatKQGy
import Derived.Test.YtnojmbejedlilaaGreatKQM4
import Derived.Deep.LoopGhost
set_option maxRecDepth 100000
set_option maxHeartbeats 40000000
set_option linter.unusedVariables false
set_option linter.unusedSimpArgs false
namespace Go.Proofs.YtnojmbejedlilaaGreat
open Go.Value renaming int→U
open Go.IntKind renaming i64→Z
open Go.RowKit
theorem th(bo to_ sq:Int)(kd po ma ow ta ol ge ph ve si pt vr:Int)(A:Option Addr)(n c:Nat)(l:List Rc)(S:Nat→Prop)(w:World)(h:RcR w S A n l)(hn2:n≤1000)(hN:MsN kd po ma ow ta ol ge ph ve si pt vr l)(hr:msR kd po ma ow ta ol ge ph ve si pt vr l=true)(hl:ltR bo to_ 0 sq (msB kd po ma ow ta ol ge ph ve si pt vr l).length=true):Calls Tryz.prog 32 #[U Z bo,U Z to_,U Z sq,.agg (msC kd po ma ow ta ol ge ph ve si pt vr A n c)] w fun e w'=>∃E k d,e=.returned (.slice E k d)∧k=(ltB bo to_ 0 sq (msB kd po ma ow ta ol ge ph ve si pt vr l)).length∧w'.ownsRow w.heap.size 5 1 (.slice E k d) k (bcs (ltB bo to_ 0 sq (msB kd po ma ow ta ol ge ph ve si pt vr l)))∧Chg (fun _=>False) w w':=by
 have hx0:=(Chg.refl (fun _=>False) w).alloc (.cells #[U Z kd,U Z po,U .u64 ma,U Z ow,U Z ta,U Z ol,U Z ge,U Z ph,U Z ve,U Z si,U Z pt,U Z vr,.slice A n c] 74);have HB:Hid (Blk (w.alloc (.cells #[U Z kd,U Z po,U .u64 ma,U Z ow,U Z ta,U Z ol,U Z ge,U Z ph,U Z ve,U Z si,U Z pt,U Z vr,.slice A n c] 74)) w.heap.size 74 (msC kd po ma ow ta ol ge ph ve si pt vr A n c)):=hd_ (af rfl);have hb6:=nN kd po ma ow ta ol ge ph ve si pt vr A n c l S (w.alloc (.cells #[U Z kd,U Z po,U .u64 ma,U Z ow,U Z ta,U Z ol,U Z ge,U Z ph,U Z ve,U Z si,U Z pt,U Z vr,.slice A n c] 74)) (h.alloc _) (by omega) hN hr;generalize msB kd po ma ow ta ol ge ph ve si pt vr l=mb at*;unfold Bt at hb6;have HRB:=hd_ (fun W=>nA bo to_ 0 sq mb W hl);generalize ltB bo to_ 0 sq mb=lb at*;unfold rlC at HRB;generalize hml:mb.length=ml at*;have HX:=hd_ hx0;clear h hN hr hl hx0;unfold msC at hb6⊢;have HB6:=hd_ hb6;clear hb6;go_in;go_upto_region 1 with fail;generalize w.alloc (.cells #[U Z kd,U Z po,U .u64 ma,U Z ow,U Z ta,U Z ol,U Z ge,U Z ph,U Z ve,U Z si,U Z pt,U Z vr,.slice A n c] 74)=w1 at*;generalize w.heap.size=QM at HB⊢;obtain⟨y0,y1,y2,y3,y4,y5,y6,y7,y8,y9,y10,y11,y12⟩:=ai HB.out;go_wp2_with fail;refine HB6.out.mono ?_;rintro e w2 ⟨E,d,rfl,hrd,hz,hc⟩;have hcv:=tQ (c:=d) hrd;replace HX:=hd_ (HX.out.tr hc);clear hrd hz hc HB6 y0 y1 y2 y3 y4 y5 y6 y7 y8 y9 y10 y11 y12;go_upto_region 2 with fail;have HBL:Hid (Blk (w2.alloc (.cells #[U Z bo,U Z to_,U Z 0,U Z sq,.string ⟨mb.toArray⟩] 133)) w2.heap.size 133 #[U Z bo,U Z to_,U Z 0,U Z sq,.string ⟨mb.toArray⟩]):=hd_ (af rfl);replace HX:=hd_ (HX.out.alloc (.cells #[U Z bo,U Z to_,U Z 0,U Z sq,.string ⟨mb.toArray⟩] 133));clear hcv;generalize w2.alloc (.cells #[U Z bo,U Z to_,U Z 0,U Z sq,.string ⟨mb.toArray⟩] 133)=w3 at*;generalize w2.heap.size=QL at*;have z0:=HBL.out.cell 0;have z1:=HBL.out.cell 1;have z2:=HBL.out.cell 2;have z3:=HBL.out.cell 3;have z4:=HBL.out.cell 4;simp only[List.getElem?_toArray,List.getElem?_cons_zero,List.getElem?_cons_succ]at z0 z1 z2 z3 z4;go_wp2_with fail;refine(HRB.out _).mono ?_;rintro e w4 ⟨E2,k2,d2,rfl,hk,hown,hc⟩;have HOW:=hd_ (cT hown HX.out.size);have HKK:=hd_ hk;replace HX:=hd_ (HX.out.tr hc);clear hk hown hc z0 z1 z2 z3 z4;go_wp2_with fail;go_ret;exact⟨E2,k2,d2,rfl,HKK.out,HOW.out,HX.out⟩
def nB(b:List UInt8)(w:World)(e:Ending)(w':World):Prop:=∃E k d,e=.returned (.slice E k d)∧iJ w' E k d b∧Chg (fun _=>False) w w'
theorem zd{f:Nat}{xs:Array Value}{w:World}{b:List UInt8}(hb:b.length≤1000000)(h:Calls Tryz.prog f xs w fun e w'=>∃E k d,e=.returned (.slice E k d)∧k=b.length∧w'.ownsRow w.heap.size 5 1 (.slice E k d) k (bcs b)∧Chg (fun _=>False) w w'):Calls Tryz.prog f xs w (nB b w):=by
 refine h.mono ?_;rintro e w' ⟨E,k,d,rfl,hk,ho,hc⟩;exact⟨E,k,d,rfl,⟨d7 ho,hk,by omega,(d5 ho).mono (fun _ _=>trivial)⟩,hc⟩
theorem zf:ltR 4 1 0 1 (msB 2 0 0 0 0 0 0 0 0 0 3 2 []).length=true:=by kernel_rfl
theorem zg:msR 2 0 0 0 0 0 0 0 0 0 3 2 []=true:=by kernel_rfl
theorem yl(W:World):Calls Tryz.prog 32 #[U Z 4,U Z 1,U Z 1,.agg #[U Z 2,U Z 0,U .u64 0,U Z 0,U Z 0,U Z 0,U Z 0,U Z 0,U Z 0,U Z 0,U Z 3,U Z 2,.slice none 0 0]] W (nB jx W):=
 zd (by decide) (th 4 1 1 2 0 0 0 0 0 0 0 0 0 3 2 none 0 0 [] (fun _=>True) W (RcR.nil _ _ _) (by decide) ⟨⟨by decide,by decide⟩,fun x hx=>by cases hx⟩ zg zf)
end Go.Proofs.YtnojmbejedlilaaGreat
