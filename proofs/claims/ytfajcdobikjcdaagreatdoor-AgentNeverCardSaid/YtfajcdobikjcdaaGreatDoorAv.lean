/-
  Proved: rutterlaw16.AgentNever returns true for every input, and its arguments read behind the call as before it; the table of widths, which the row lists, is tied to the program's text. No other condition.
-/
import Derived.Test.YtfajcdobikjcdaaGreatDoorAt
import Derived.Test.YtfajcdobikjcdaaGreatDoorAu
import Derived.Test.YtfajcdobikjcdaaGreatDoorKl
import Derived.Test.YtfajcdobikjcdaaGreatDoorTie
import Derived.Test.YtfajcdobikjcdaaGreatDoorCards
import Derived.SevenTiedAt
import Derived.ChangeOld
set_option maxRecDepth 100000
set_option maxHeartbeats 40000000
set_option linter.unusedVariables false
set_option linter.unusedSimpArgs false
namespace Go.Proofs.YtfajcdobikjcdaaGreatDoor.agentNever
open Go.Value (int)
open Go.IntKind (i64)
open Go.ChangeShapes Go.WideShapes Go.ChangeAt Go.RowKit
theorem lifted (os : Os) (started : os.Started) (H : Type) (enc : TypeId × Value → H) :
  ReturnsInHanded {} Tryz.checked os 3 .any (fun w args=>(Rows.agentNeverSpec.pre enc Tryz.prog Tryz.f3 [] false w args ∧ laidMetH Tryz.prog laidW w) ∧ sizedMet enc Tryz.prog Tryz.f3 (OpenSpec.ofChange Rows.agentNeverSpec) false w args)
   (Rows.agentNeverSpec.post enc Tryz.prog Tryz.f3 false true false false):=by
 refine returnsInHanded_of_change_and (C:=Tryz.checked) (X:=fun w _=>laidMetH Tryz.prog laidW w) (fun _ _ _ hh h=>h.of_heap hh) ownK started (by kernel_rfl) Tryz.func3
  (ChangeSpec.witness_shaped (enc:=enc) (C:=Tryz.checked) (os:=os) (X:=fun w _=>laidMetH Tryz.prog laidW w) false (World.doorLaid Tryz.prog 14 os) #[int .u8 0, .slice none 0 0] 8 rfl (World.shaped_of_RefB (by kernel_rfl) (by kernel_rfl)) (by kernel_rfl) (by kernel_rfl) (by kernel_rfl) (door_met os _)) ?_
 intro W base args ds gs before hval0 hW _ _ hL _
 have hval : ∀ (j : Nat) t v,Tryz.f3.params[j]? = some t → args[j]? = some v → Value.okWide Tryz.prog W .any base t v:=hval0
 have hW':=hW
 obtain ⟨p,q,hA0,hV,rfl,hfz,hnd⟩:=hW
 have hA : DataW.TrodAll enc Tryz.prog W 0 (fun _=>true) true Tryz.f3.params.toList args.toList ds p:=hA0
 rw [Tryz.params3] at hA hval
 obtain ⟨v0,vs0,d0,ds0,p0,q0,hargs,rfl,rfl,h0,r0⟩:=trodAll_cons hA
 obtain ⟨v1,vs1,d1,ds1,p1,q1,rfl,rfl,rfl,h1,r1⟩:=trodAll_cons r0
 obtain ⟨rfl,rfl,rfl⟩:=trodAll_nil r1
 obtain rfl : args = #[v0,v1]:=by cases args; simp_all
 obtain ⟨rfl,rfl⟩:=trodVars_none hV
 have k1:=h1
 have lt1 : ∀ x ∈ p1,x.block < W.heap.size:=by obtain ⟨m,hm⟩:=k1; exact DataW.trod_lt m _ _ _ hm
 obtain ⟨a1,len1,cap1,rfl⟩:=okWide_slice Tryz.underlying22 (hval 1 22 v1 rfl rfl)
 obtain ⟨AL,m,c,l,hv,hmm,hact⟩:=acts16_open h1 ⟨_,_,_,rfl⟩
 injection hv with e1 e2 e3
 subst e1
 subst e2
 subst e3
 obtain ⟨ch,rfl,rfl,rfl,wch⟩:=open_int Tryz.underlying5 (hval 0 5 v0 rfl rfl) h0
 have hg:=gw_of_laid hL
 clear hA0 hval0
 refine (agentNever_any ch (u8_range wch) a1 len1 cap1 l W hg hact hmm).mono fun e W' ⟨he,hc⟩ => ?_
 subst he
 have bel : Below W.heap.size W W':=hc.below (Nat.le_refl _) (fun _ h=>h.elim)
 exact ⟨_,rfl,_,_,_, [],_, [],hW',trodAll_mk1 (shut_bool Tryz.underlying4 _),(trodAll_cons_mk (shut_int Tryz.underlying5 wch) (trodAll_cons_mk (Below.trod laidOutK (by kernel_rfl) (of_decide_eq_true (by kernel_rfl)) k1 bel lt1) trodAll_mk0)),rfl,bel.frame _,fun h=>by cases h⟩
theorem row_holds : Rows.AgentNeverSaid :=
 OpenClaim.holds_of_wide 3 Tryz.f3 rfl rfl rfl rfl rfl rfl rfl ⟨rfl,rfl,rfl,rfl,rfl⟩ rfl rfl rfl rfl rfl (by kernel_rfl) Tryz.func3 (by kernel_rfl)
  (of_decide_eq_true (by kernel_rfl)) (by unfold Func.isWrapper; first | (rw [if_pos (by decide +kernel)]; kernel_rfl) | (rw [if_neg (by decide +kernel)]; exact ⟨rfl,rfl⟩))
  (fun os started H enc _=>lifted os started H enc)
theorem proved : Rows.AgentNeverCardSaid :=
 Claim7.holds_tied_plain_at .later [] [.data] true (true, "7a512ecbadfde248b6c27c4bd9972c6cb31735118960662e35f79739fce05931") false
  row_holds (fun _ h=>by cases h) (by kernel_rfl) (fun _ h=>by cases h) agentNever_row_tie rfl ⟨rfl,rfl⟩ (by kernel_rfl) rfl
  (fun f fn hf hfn=>by
   obtain rfl : f = 3 := Option.some.inj ((show Tryz.prog.funcNamed "rutter/rutterlaw16.AgentNever" = some 3 by kernel_rfl).symm.trans hf) |>.symm
   obtain rfl : fn = Tryz.f3:=(Option.some.inj (Tryz.func3.symm.trans hfn)).symm
   exact ⟨by kernel_rfl,fun j t ht=>by
    rw [Tryz.params3] at ht
    have hm : t ∈ [5,22]:=by simpa using Array.mem_of_getElem? ht
    have hall : ([5,22].all fun u => !Tryz.prog.wantsStandIn u) = true:=by kernel_rfl
    exact (show Tryz.prog.wantsStandIn t = false by simpa using List.all_eq_true.1 hall t hm)⟩)
  (by kernel_rfl)
end Go.Proofs.YtfajcdobikjcdaaGreatDoor.agentNever
