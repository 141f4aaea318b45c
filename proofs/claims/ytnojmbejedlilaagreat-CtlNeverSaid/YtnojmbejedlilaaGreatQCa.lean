/-
  A controller, plain: records, what they make of a state, what is noted, told, expires, is asked, taken, opened. No condition.
-/
import Derived.Test.YtnojmbejedlilaaGreatQM8
import Derived.Test.YtnojmbejedlilaaGreatQM6
import Derived.Test.YtnojmbejedlilaaGreatQM9
import Derived.Test.YtnojmbejedlilaaGreatQMA
import Derived.Test.YtnojmbejedlilaaGreatQM4
set_option linter.unusedVariables false
set_option linter.unusedSimpArgs false
namespace Go.Proofs.YtnojmbejedlilaaGreat
open Go.Value (int)
open Go.IntKind (i64)
open Go.RowKit
def rwM17 (x : RV) : List UInt8:=msB 1 x.po x.ma x.ow x.ta x.ol x.ge x.ph x.ve x.si 0 0 []
def rcB17 (k : Int) (x : RV) (z n : Int) : List UInt8:=if k = 1 then rwM17 x else be 1 k.toNat ++ (if k = 6 then be 5 n.toNat else be 1 z.toNat)
structure RcV17 where
 k : Int
 x : RV
 z : Int
 n : Int
def RcV17.bs (r : RcV17) : List UInt8:=rcB17 r.k r.x r.z r.n
structure TS17 where
 C : Int → Bool
 R : Int → Option RV
 bt : Int
def bcE17 (t : TS17) (r : RcV17) : Int:=if r.k = 1 then wrongP t.C t.R ⟨r.x,verP t.R r.x.po⟩ else if r.k = 4 then addP t.C r.z else if r.k = 5 then remP t.C t.R r.z else if r.n ≤ t.bt then 2 else 0
def bcS17 (t : TS17) (r : RcV17) : TS17 :=
 if r.k = 1 then { t with R:=doR t.C t.R ⟨r.x,verP t.R r.x.po⟩ } else if r.k = 4 then { t with C:=addK t.C r.z } else if r.k = 5 then { t with C:=remK t.C t.R r.z } else if r.n ≤ t.bt then t else { t with bt:=r.n }
structure KV where
 t : TS17
 sp : Int
 no : Int
 S : Nat → SV
 B : Nat → Bool
 st : Bool
 bs : List UInt8
 sf : Nat
 rm : Nat
def at17 {α : Type} (f : Nat → α) (i : Nat) (v : α) : Nat → α:=fun k=>if k = i then v else f k
theorem at17_self {α : Type} (f : Nat → α) (i : Nat) (v : α) : at17 f i v i = v:=if_pos rfl
theorem at17_ne {α : Type} (f : Nat → α) {i k : Nat} (v : α) (h : k ≠ i) : at17 f i v k = f k:=if_neg h
theorem at17_id {α : Type} (f : Nat → α) (i : Nat) : at17 f i (f i) = f:=by
 funext k
 unfold at17
 split
 ·rename_i h; rw [h]
 ·rfl
def putX17 (x : KV) (r : RcV17) : Int:=if bcE17 x.t r = 0 then putE x.rm x.bs r.bs else bcE17 x.t r
def putK17 (x : KV) (r : RcV17) : KV:=if putX17 x r = 0 then { x with bs:=putB x.rm x.bs r.bs } else x
def noteK17 (x : KV) (r : RcV17) : KV:=if putX17 x r = 0 then { x with t:=bcS17 x.t r,bs:=putB x.rm x.bs r.bs,sf:=(putB x.rm x.bs r.bs).length } else x
def goes17 (x : KV) (i : Nat) : Bool:=x.t.C (i : Int) && decide (0 < (x.S i).pe)
def tellK17 (x : KV) (r : RV) : KV := { x with S:=fun i=>if goes17 x i then pushS (x.S i) (rwM17 r) else x.S i,B:=fun i=>x.B i || (goes17 x i && pushE (x.S i) (rwM17 r) != 0) }
def rowR17 (r : RV) : RcV17:=⟨1,r,0,0⟩
def chgX17 (x : KV) (r : RV) : Int:=putX17 x (rowR17 r)
def chgK17 (x : KV) (r : RV) : KV:=if chgX17 x r = 0 then tellK17 (noteK17 x (rowR17 r)) r else x
def expL17 (x : KV) (l : List CV) : KV:=l.foldl (fun y c=>chgK17 y c.r) x
def expK17 (x : KV) : KV:=expL17 x (lateP x.t.R x.no x.sp)
def livE17 (R : Int → Option RV) (po : Int) : Int:=match R po with
 | none=>4
 | some r=>if r.ph = 3 then 4 else 0
def livR17 (R : Int → Option RV) (po : Int) : RV:=match R po with
 | none=>z9
 | some r=>if r.ph = 3 then z9 else r
def bind17 (R : Int → Option RV) (po c ma now : Int) : RV × Int:=match R po with
 | none=>new9 po ma c now
 | some r=>if r.ph = 3 then ag9 r ma c now else (z9,5)
def move17 (R : Int → Option RV) (op po c now : Int) : RV × Int :=
 if livE17 R po = 0 then
  (if op = 3 then dr9 (livR17 R po) now else if op = 4 then st9 (livR17 R po) c now else if op = 5 then co9 (livR17 R po) now else ab9 (livR17 R po) now)
 else (z9,livE17 R po)
def ask17 (R : Int → Option RV) (op po c ma now : Int) : RcV17 × Int :=
 if op = 0 then (⟨4,z9,c,0⟩,0) else if op = 1 then (⟨5,z9,c,0⟩,0)
 else if op = 7 then (⟨0,livR17 R po,0,0⟩,livE17 R po)
 else if op = 2 then (rowR17 (bind17 R po c ma now).1,(bind17 R po c ma now).2)
 else if op = 3 ∨ op = 4 ∨ op = 5 ∨ op = 6 then (rowR17 (move17 R op po c now).1,(move17 R op po c now).2)
 else (⟨0,z9,0,0⟩,1)
def doR17 (x : KV) (r : RcV17) : RV × Int × KV :=
 if r.k = 1 then (if chgX17 x r.x = 0 then (r.x,0,chgK17 x r.x) else (z9,chgX17 x r.x,x))
 else if r.k = 4 then (if putX17 x r = 0 then (r.x,0, { noteK17 x r with B:=at17 x.B r.z.toNat true }) else (z9,putX17 x r,x))
 else if r.k = 5 then (if putX17 x r = 0 then (r.x,0,noteK17 x r) else (z9,putX17 x r,x))
 else (r.x,0,x)
def doA17 (x : KV) (op po c ma : Int) : RV × Int × KV :=
 if (ask17 x.t.R op po c ma x.no).2 = 0 then doR17 x (ask17 x.t.R op po c ma x.no).1 else (z9,(ask17 x.t.R op po c ma x.no).2,x)
def doK17 (x : KV) (op po c ma : Int) : RV × Int × KV:=if x.st then (z9,13,x) else doA17 x op po c ma
def halfR17 (x : KV) (r : RcV17) : Int × KV:=if r.k = 0 then (0,x) else if putX17 x r = 0 then (0, { putK17 x r with st:=true }) else (putX17 x r,x)
def halfA17 (x : KV) (op po c ma : Int) : Int × KV:=if (ask17 x.t.R op po c ma x.no).2 = 0 then halfR17 x (ask17 x.t.R op po c ma x.no).1 else ((ask17 x.t.R op po c ma x.no).2,x)
def halfK17 (x : KV) (op po c ma : Int) : Int × KV:=if x.st then (13,x) else halfA17 x op po c ma
def tickK17 (x : KV) (now : Int) : Int × KV:=if x.st then (13,x) else if now < x.no ∨ 1099511627776 < now then (1,x) else (0,expK17 { x with no:=now })
def refS17 (s : SV) (l : List RV) : SV:=l.foldl (fun s r=>pushS s (rwM17 r)) s
def refK17 (x : KV) (i : Nat) : KV:=if x.B i = true ∧ (x.S i).q.length = 0 then { x with S:=at17 x.S i (refS17 (x.S i) (rowsP x.t.R)),B:=at17 x.B i false } else x
def awK17 (x : KV) (r : RV) (c ve : Int) : KV:=if (aw9 r c ve x.no).2 = 0 then chgK17 x (aw9 r c ve x.no).1 else x
def fwK17 (x : KV) (r : RV) (c : Int) (b : List UInt8) : KV:=if r.ph = 3 ∨ r.ow = c then x else if 0 < (x.S r.ow.toNat).pe then { x with S:=at17 x.S r.ow.toNat (pushS (x.S r.ow.toNat) b) } else x
def hearM17 (x : KV) (c : Int) (m : MV) (b : List UInt8) : KV:=match x.t.R m.pt with
 | none=>x
 | some r=>if m.kd = 2 then awK17 x r c m.vr else if m.kd = 3 then fwK17 x r c b else x
def hearK17 (x : KV) (c : Int) (got : Bool) (b : List UInt8) : MV × KV:=if got = true then (if cX b = 0 then (cM b,hearM17 x c (cM b) b) else (MV.zero,x)) else (MV.zero,x)
def tkK17 (x : KV) (i : Nat) (l : LV) : KV := { x with S:=at17 x.S i (tkS (x.S i) l),B:=at17 x.B i (x.B i || tkRes (x.S i) l) }
def takeL17 (x : KV) (c : Int) (l : LV) : MV × Int × KV :=
 if tkE (x.S c.toNat) l = 0 then ((hearK17 (refK17 (tkK17 x c.toNat l) c.toNat) c (tkGot (x.S c.toNat) l) (tkB (x.S c.toNat) l)).1,0,(hearK17 (refK17 (tkK17 x c.toNat l) c.toNat) c (tkGot (x.S c.toNat) l) (tkB (x.S c.toNat) l)).2)
 else (MV.zero,tkE (x.S c.toNat) l,x)
def frE17 (C : Int → Bool) (c : Int) : Int:=if (decide (c < 0) || decide (15 < c)) = true then 1 else if C c = true then 0 else 4
def takeA17 (x : KV) (c : Int) (b : List UInt8) : MV × Int × KV :=
 if frE17 x.t.C c = 0 then (if jX b = 0 then takeL17 x c (jL b) else (MV.zero,jX b,x)) else (MV.zero,frE17 x.t.C c,x)
def takeK17 (x : KV) (c : Int) (b : List UInt8) : MV × Int × KV:=if x.st then (MV.zero,13,x) else takeA17 x c b
def rdK17 (b : List UInt8) : Int:=gv 1 (some b)
def rdS17 (b : List UInt8) : Option (List UInt8):=gn 1 (some b)
def rdV17 (b : List UInt8) : RcV17 × Bool :=
 if cX b = 0 then (rowR17 ⟨(cM b).po,(cM b).ma,(cM b).ow,(cM b).ta,(cM b).ol,(cM b).ge,(cM b).ph,(cM b).ve,(cM b).si⟩,(cM b).kd == 1)
 else if rdK17 b = 4 ∨ rdK17 b = 5 then (⟨rdK17 b,z9,gv 1 (rdS17 b),0⟩,doneS (gn 1 (rdS17 b)) == 0)
 else if rdK17 b = 6 then (⟨6,z9,0,gv 5 (rdS17 b)⟩,doneS (gn 5 (rdS17 b)) == 0)
 else (⟨0,z9,0,0⟩,false)
def failE17 (t : TS17) (b : List UInt8) : Bool := !((rdV17 b).2 && bcE17 t (rdV17 b).1 == 0)
def failS17 (t : TS17) (b : List UInt8) : TS17:=if (rdV17 b).2 = true then bcS17 t (rdV17 b).1 else t
def rep17 : TS17 → List (List UInt8) → Bool × TS17
 | t, []=>(false,t)
 | t,b :: l=>if failE17 t b = true then (true,failS17 t b) else rep17 (failS17 t b) l
def ts0 : TS17:=⟨fun _=>false,fun _=>none,0⟩
def btR17 (n : Int) : RcV17:=⟨6,z9,0,n⟩
def newS17 (n : Int) : SV:=⟨n,0,1,0, []⟩
def opn17 (bs : List UInt8) (sf rm : Nat) (sp no : Int) : KV:=⟨(rep17 ts0 (scan8 bs)).2,sp,no,fun _=>newS17 0,fun _=>false,false,recs8 (scan8 bs),opS bs sf,rm⟩
def staX17 (x : KV) : Int:=if 4294967296 ≤ x.t.bt then 10 else putX17 x (btR17 (x.t.bt + 1))
def staK17 (x : KV) : KV := { noteK17 x (btR17 (x.t.bt + 1)) with S:=fun _=>newS17 (x.t.bt + 1) }
def opnA17 (sp no : Int) : Bool:=decide (1 ≤ sp) && (decide (sp ≤ 2147483648) && (decide (0 ≤ no) && decide (no ≤ 1099511627776)))
def opnE17 (bs : List UInt8) (sf rm : Nat) (sp no : Int) : Int:=if opnA17 sp no = true then (if (rep17 ts0 (scan8 bs)).1 = true then 2 else staX17 (opn17 bs sf rm sp no)) else 1
def opnK17 (bs : List UInt8) (sf rm : Nat) (sp no : Int) : KV:=expK17 (staK17 (opn17 bs sf rm sp no))
def opnF17 (bs : List UInt8) (sp no : Int) : List UInt8:=if opnA17 sp no = true then recs8 (scan8 bs) else bs
def opnS17 (bs : List UInt8) (sf : Nat) (sp no : Int) : Nat:=if opnA17 sp no = true then opS bs sf else sf
end Go.Proofs.YtnojmbejedlilaaGreat
