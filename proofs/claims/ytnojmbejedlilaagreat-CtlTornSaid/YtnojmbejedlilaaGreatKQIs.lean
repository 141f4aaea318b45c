/-
  The live question of a controller, plain: each state, what each call tells. No condition.
-/
import Derived.Test.YtnojmbejedlilaaGreatKQIp
set_option linter.unusedVariables false
set_option linter.unusedSimpArgs false
namespace Go.Proofs.YtnojmbejedlilaaGreat
open Go.Value renaming int→U
open Go.IntKind renaming i64→Z
open Go.RowKit
theorem mf{bs:List UInt8}{sf rm:Nat}{sp no:Int}(hb:bs.length≤rm)(hm:rm≤16777216)(hs:sf≤bs.length)(hsp:1≤sp∧sp≤2147483648)(hno:0≤no∧no≤1099511627776)(h:ck bs sf rm sp no=0):KOk 0 (bz bs sf rm sp no):=by
 unfold ck at h;rw[if_pos (iF hsp hno)]at h
 split at h
 ·cases h
 ·exact(kb hb hm hs hsp hno h).exp
def jx:List UInt8:=ltB 4 1 0 1 (msB 2 0 0 0 0 0 0 0 0 0 3 2 [])
def uY:KV:=bz [] 0 65536 10 5
def uZ:KV:=(aP uY 0 0 1 0).2.2
def u_:KV:=(aP uZ 0 0 2 0).2.2
def va:KV:=(aP u_ 2 3 1 7).2.2
def nz:RV×Int×KV:=aP va 4 3 2 0
def kh:RV×Int×KV:=aP nz.2.2 4 3 2 0
def jm:MV×Int×KV:=au kh.2.2 2 jx
def qQ:Int×KV:=aB jm.2.2 5 3 0 0
def ki:RV×Int×KV:=aP qQ.2 7 3 0 0
def qR:KV:=bQ ki.2.2 9 10 6
def gV:RV×Int×KV:=aP qR 7 3 0 0
def mw:Int×KV:=bG gV.2.2 15
def kV:RV×Int×KV:=aP mw.2 7 3 0 0
theorem yj:ck [] 0 65536 10 5=0:=by kernel_rfl
theorem zu:nz.2.1=0:=by kernel_rfl
theorem zw:kh.2.1=8:=by kernel_rfl
theorem zx:jm.2.1=0:=by kernel_rfl
theorem zy:qQ.1=0:=by kernel_rfl
theorem zA:ki.2.1=13:=by kernel_rfl
theorem yk:gS ki.2.2 9 10 6=0:=by kernel_rfl
theorem yZ:gV.2.1=0:=by kernel_rfl
theorem y_:gV.1=⟨3,7,2,-1,1,2,2,3,5⟩:=by kernel_rfl
theorem za:mw.1=0:=by kernel_rfl
theorem zb:kV.2.1=0:=by kernel_rfl
theorem zc:bw kV.2.2.t.C=[1,2]:=by kernel_rfl
end Go.Proofs.YtnojmbejedlilaaGreat
