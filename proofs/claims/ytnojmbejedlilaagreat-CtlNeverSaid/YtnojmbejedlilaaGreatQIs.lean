/-
  The live question of a controller, plain: each state, what each call tells. No condition.
-/
import Derived.Test.YtnojmbejedlilaaGreatQIp
set_option linter.unusedVariables false
set_option linter.unusedSimpArgs false
namespace Go.Proofs.YtnojmbejedlilaaGreat
open Go.Value (int)
open Go.IntKind (i64)
open Go.RowKit
theorem opn_kok17 {bs : List UInt8} {sf rm : Nat} {sp no : Int} (hb : bs.length ≤ rm) (hm : rm ≤ 16777216) (hs : sf ≤ bs.length) (hsp : 1 ≤ sp ∧ sp ≤ 2147483648) (hno : 0 ≤ no ∧ no ≤ 1099511627776) (h : opnE17 bs sf rm sp no = 0) : KOk 0 (opnK17 bs sf rm sp no):=by
 unfold opnE17 at h
 rw [if_pos (opnA_yes17 hsp hno)] at h
 split at h
 ·cases h
 ·exact (sta_ok17 hb hm hs hsp hno h).exp
def lvB17 : List UInt8:=ltB 4 1 0 1 (msB 2 0 0 0 0 0 0 0 0 0 3 2 [])
def lvA0 : KV:=opnK17 [] 0 65536 10 5
def lvA1 : KV:=(doK17 lvA0 0 0 1 0).2.2
def lvA2 : KV:=(doK17 lvA1 0 0 2 0).2.2
def lvA3 : KV:=(doK17 lvA2 2 3 1 7).2.2
def lvA4 : RV × Int × KV:=doK17 lvA3 4 3 2 0
def lvA5 : RV × Int × KV:=doK17 lvA4.2.2 4 3 2 0
def lvA6 : MV × Int × KV:=takeK17 lvA5.2.2 2 lvB17
def lvA7 : Int × KV:=halfK17 lvA6.2.2 5 3 0 0
def lvA8 : RV × Int × KV:=doK17 lvA7.2 7 3 0 0
def lvA9 : KV:=reK17 lvA8.2.2 9 10 6
def lvA10 : RV × Int × KV:=doK17 lvA9 7 3 0 0
def lvA11 : Int × KV:=tickK17 lvA10.2.2 15
def lvA12 : RV × Int × KV:=doK17 lvA11.2 7 3 0 0
theorem lvE0 : opnE17 [] 0 65536 10 5 = 0:=by kernel_rfl
theorem lvE4 : lvA4.2.1 = 0:=by kernel_rfl
theorem lvE5 : lvA5.2.1 = 8:=by kernel_rfl
theorem lvE6 : lvA6.2.1 = 0:=by kernel_rfl
theorem lvE7 : lvA7.1 = 0:=by kernel_rfl
theorem lvE8 : lvA8.2.1 = 13:=by kernel_rfl
theorem lvE9 : reE17 lvA8.2.2 9 10 6 = 0:=by kernel_rfl
theorem lvE10 : lvA10.2.1 = 0:=by kernel_rfl
theorem lvV10 : lvA10.1 = ⟨3,7,2, -1,1,2,2,3,5⟩:=by kernel_rfl
theorem lvE11 : lvA11.1 = 0:=by kernel_rfl
theorem lvE12 : lvA12.2.1 = 0:=by kernel_rfl
theorem lvC12 : chasP lvA12.2.2.t.C = [1,2]:=by kernel_rfl
end Go.Proofs.YtnojmbejedlilaaGreat
