/-
  The sum of bytes, plain. Walks: journal.Sum, rutterref08.Sum. Condition: the bytes are read in memory.
-/
import Derived.Test.YtnojmbejedlilaaGreatQM1
import Derived.Test.YtnojmbejedlilaaGreatQM5
import Derived.Laws.BitsAllLaws
import Derived.Test.YtnojmbejedlilaaGreatQLg
set_option maxRecDepth 100000
set_option maxHeartbeats 40000000
set_option linter.unusedVariables false
set_option linter.unusedSimpArgs false
section
namespace Go.Proofs.YtnojmbejedlilaaGreat
open Go.Value (int)
open Go.IntKind (i64)
open Go.RowKit
def sT (x : Nat) : Nat:=if x % 2 = 1 then (x / 2) ^^^ 3988292384 else x / 2
def sTs : Nat → Nat → Nat
 | 0,x=>x
 | k + 1,x=>sT (sTs k x)
def sBy (x : Nat) (c : UInt8) : Nat:=sTs 8 (x ^^^ c.toNat)
def sumS (l : List UInt8) : Nat:=l.foldl sBy 4294967295
def sumN (l : List UInt8) : Nat:=4294967295 - sumS l
theorem sT_lt (x : Nat) (h : x < 4294967296) : sT x < 4294967296:=by
 unfold sT
 split
 ·exact Nat.xor_lt_two_pow (n:=32) (by omega) (by decide)
 ·omega
theorem sX_lt (x : Nat) (c : UInt8) (h : x < 4294967296) : x ^^^ c.toNat < 4294967296:=Nat.xor_lt_two_pow (n:=32) h (by have:=c.toNat_lt; omega)
theorem sumS_take (l : List UInt8) (k : Nat) (h : k < l.length) : sumS (l.take (k + 1)) = sTs 8 (sumS (l.take k) ^^^ (l[k]).toNat):=by
 unfold sumS
 rw [List.take_succ_eq_append_getElem h,List.foldl_append]
 rfl
theorem sumN_le (l : List UInt8) : sumN l ≤ 4294967295:=by unfold sumN; omega
theorem sT_one (x : Nat) (h : x % 2 = 1) : sT x = (x / 2) ^^^ 3988292384:=if_pos h
theorem sT_zero (x : Nat) (h : x % 2 = 0) : sT x = x / 2:=if_neg (by omega)
theorem and_one (x : Nat) (h : x < 4294967296) : bits .and .u32 (x : Int) 1 = ((x % 2 : Nat) : Int):=by
 have e:=u32_and_nat x 1 h (by decide)
 rw [nat_mask1] at e
 exact e
theorem xor_turn (x : Nat) (h : x < 4294967296) : bits .xor .u32 (x : Int) 3988292384 = ((x ^^^ 3988292384 : Nat) : Int):=u32_xor_nat x 3988292384 h (by decide)
theorem xor_all (y : Nat) (h : y < 4294967296) : bits .xor .u32 IntKind.u32.max (y : Int) = ((4294967295 - y : Nat) : Int):=by
 have e:=u32_xor_nat 4294967295 y (by decide) h
 have h2 : 4294967295 ^^^ y = 4294967295 - y:=by
  have h3 : (BitVec.allOnes 32 ^^^ BitVec.ofNat 32 y).toNat = (~~~ (BitVec.ofNat 32 y)).toNat:=by rw [BitVec.allOnes_xor]
  rw [BitVec.toNat_xor,BitVec.toNat_not,BitVec.toNat_allOnes,BitVec.toNat_ofNat,Nat.mod_eq_of_lt (by omega)] at h3
  have h4 : (2 ^ 32 - 1 : Nat) = 4294967295:=by decide
  rw [h4] at h3
  omega
 rw [h2] at e
 exact e
theorem wrap64_small {x : Int} (h : -9223372036854775808 ≤ x) (h2 : x ≤ 9223372036854775807) : wrap64 x = x:=by
 unfold wrap64
 omega
theorem sum_any (A : Option Addr) (n c : Nat) (b : List UInt8) (S : Nat → Prop) (w : World) (hn : n = b.length) (h : Rds w S A n (bcs b)) (hb : n ≤ 9223372036854775807) :
  Calls Tryz.prog 159 #[.slice A n c] w fun e w'=>e = .returned (int i64 (sumN b : Int)) ∧ w = w':=by
 have HN:=hd_ hn
 clear hn
 go_in
 go_wp2_with fail
 go_loopg [3,9] n (fun g v i wr => ∃ k y : Nat,g = n - k ∧ k ≤ n ∧ i = int i64 (k : Int) ∧ v = int .u32 (y : Int) ∧ Hid (y = sumS (b.take k)) ∧ y < 4294967296 ∧ w = wr)
 case atStart=>exact ⟨0,4294967295,rfl,Nat.zero_le _,rfl,rfl,rfl,by omega,rfl⟩
 case round =>
  obtain ⟨k,y,rfl,hk,rfl,rfl,HY,hy,rfl⟩:=hrel
  by_cases hlt : k < n
  ·obtain ⟨ad,rfl,hs,hbk,hcl⟩:=h.cellAt hlt
   have hkl : k < b.length:=by have:=HN.out; omega
   rw [bcs_at b k hkl] at hcl
   have hc8 : (b[k]).toNat < 256:=(b[k]).toNat_lt
   have HE:=hd_ (sumS_take b k hkl)
   have hxl:=sX_lt y b[k] hy
   generalize (b[k]).toNat = x at *
   have hxr:=u32_xor_nat y x hy (by omega)
   generalize hz : y ^^^ x = z at *
   have HZ:=hd_ hz
   clear hz
   go_wp2_with fail
   clear hcl hc8 hxr hs hbk hkl
   go_loopg [3,17] 8 (fun g v i wr => ∃ t q : Nat,g = 8 - t ∧ t ≤ 8 ∧ i = int i64 (t : Int) ∧ v = int .u32 (q : Int) ∧ Hid (q = sTs t z) ∧ q < 4294967296 ∧ w = wr)
   case atStart=>exact ⟨0,z,rfl,Nat.zero_le _,rfl,rfl,rfl,hxl,rfl⟩
   case round =>
    obtain ⟨t,q,rfl,ht,rfl,rfl,HQ,hq,rfl⟩:=hrel
    by_cases ht8 : t < 8
    ·have ha:=and_one q hq
     have hlt2:=sT_lt q hq
     have hx:=xor_turn (q / 2) (by omega)
     have e2 : ((q / 2 : Nat) : Int) = (q : Int) / 2:=by omega
     rw [e2] at hx
     rcases Nat.mod_two_eq_zero_or_one q with h0 | h0
     ·have HT:=hd_ (sT_zero q h0)
      rw [h0] at ha
      clear h0
      go_wp2_with fail
      go_roundg (8 - (t + 1))
      case measure=>omega
      case rel=>exact ⟨t + 1,q / 2,rfl,by omega,by go_num,by go_num,(by unfold Hid; rw [← HT.out,HQ.out]; rfl),by omega,rfl⟩
     ·have HT:=hd_ (sT_one q h0)
      rw [h0] at ha
      rw [HT.out] at hlt2
      clear h0
      go_wp2_with fail
      go_roundg (8 - (t + 1))
      case measure=>omega
      case rel=>exact ⟨t + 1,(q / 2) ^^^ 3988292384,rfl,by omega,by go_num,rfl,(by unfold Hid; rw [← HT.out,HQ.out]; rfl),hlt2,rfl⟩
    ·obtain rfl : t = 8:=by omega
     go_wp2_with fail
     go_roundg (n - (k + 1))
     case measure=>omega
     case rel=>exact ⟨k + 1,q,rfl,by omega,by go_num,rfl,(by unfold Hid; rw [HE.out, ← HY.out,HZ.out,HQ.out]),hq,rfl⟩
  ·obtain rfl : k = n:=by omega
   have hfull : Hid (y = sumS b):=by
    unfold Hid
    have:=HN.out
    rw [HY.out,List.take_of_length_le (by omega)]
   clear HY h HN
   have hxr : bits .xor .u32 IntKind.u32.max (y : Int) = ((4294967295 - y : Nat) : Int):=xor_all y hy
   have hw : wrap64 ((4294967295 - y : Nat) : Int) = ((4294967295 - y : Nat) : Int):=wrap64_small (by omega) (by omega)
   go_wp2_with fail
   go_ret
   refine ⟨?_,rfl⟩
   have:=hfull.out
   unfold sumN
   rw [← this]
   rfl
def Bok (b : List UInt8) : Prop:=1 ≤ b.length ∧ b.length ≤ 200
def jrB (b : List UInt8) : List UInt8:=be 2 b.length ++ (b ++ be 4 (sumN b))
theorem recB_len (b : List UInt8) : (jrB b).length = b.length + 6:=by
 unfold jrB
 simp only [List.length_append,be_len]
 omega
def head8 (r : List UInt8) : Option (List UInt8) :=
 if 2 ≤ r.length ∧ 1 ≤ num (r.take 2) ∧ num (r.take 2) ≤ 200 ∧ num (r.take 2) + 6 ≤ r.length ∧ num ((r.drop (num (r.take 2) + 2)).take 4) = sumN ((r.drop 2).take (num (r.take 2))) then some ((r.drop 2).take (num (r.take 2))) else none
theorem rec_of (r x : List UInt8) (n : Nat) (hn : n = num (r.take 2)) (hx : x = (r.drop 2).take n) (h : n + 6 ≤ r.length) (hs : num ((r.drop (n + 2)).take 4) = sumN x) : jrB x = r.take (n + 6):=by
 have hl : x.length = n:=by rw [hx,List.length_take,List.length_drop]; omega
 have e1 : be 2 n = r.take 2:=by rw [hn]; exact be_num_take r 2 (by omega)
 have e2 : be 4 (sumN x) = (r.drop (n + 2)).take 4:=by rw [← hs]; exact be_num_take _ 4 (by rw [List.length_drop]; omega)
 unfold jrB
 rw [hl,e1,e2]
 have e3 : r.take (n + 6) = r.take 2 ++ (r.drop 2).take (n + 4):=by rw [show n + 6 = 2 + (n + 4) by omega,List.take_add]
 have e4 : (r.drop 2).take (n + 4) = (r.drop 2).take n ++ (r.drop (n + 2)).take 4:=by rw [List.take_add,List.drop_drop,Nat.add_comm 2 n]
 rw [e3,e4, ← hx]
theorem head_some {r x : List UInt8} (h : head8 r = some x) : Bok x ∧ x.length + 6 ≤ r.length ∧ jrB x = r.take (x.length + 6):=by
 unfold head8 at h
 split at h
 ·rename_i hc
  obtain ⟨h1,h2,h3,h4,h5⟩:=hc
  injection h with h
  have hl : x.length = num (r.take 2):=by rw [← h,List.length_take,List.length_drop]; omega
  have hr:=rec_of r x _ rfl h.symm h4 (by rw [h5,h])
  rw [← hl] at hr
  exact ⟨⟨by omega,by omega⟩,by omega,hr⟩
 ·cases h
theorem num_rec (x y : List UInt8) (h : Bok x) : num ((jrB x ++ y).take 2) = x.length:=by
 have e : jrB x ++ y = be 2 x.length ++ ((x ++ be 4 (sumN x)) ++ y):=by unfold jrB; simp only [List.append_assoc]
 rw [e,take_be,num_be_lt]
 have:=h.2
 omega
theorem head_rec (x y : List UInt8) (h : Bok x) : head8 (jrB x ++ y) = some x:=by
 have hn:=num_rec x y h
 have e : jrB x ++ y = be 2 x.length ++ (x ++ (be 4 (sumN x) ++ y)):=by unfold jrB; simp only [List.append_assoc]
 have e1 : ((jrB x ++ y).drop 2).take x.length = x:=by rw [e,drop_be]; exact List.take_left' rfl
 have e2 : ((jrB x ++ y).drop (x.length + 2)).take 4 = be 4 (sumN x):=by
  rw [Nat.add_comm, ← List.drop_drop,e,drop_be,List.drop_left' rfl,take_be]
 have hlen : (jrB x ++ y).length = x.length + 6 + y.length:=by rw [List.length_append,recB_len]
 have hs:=sumN_le x
 unfold head8
 rw [hn,e1,e2,num_be_lt _ _ (by omega)]
 exact if_pos ⟨by omega,h.1,h.2,by omega,rfl⟩
theorem head_short (r : List UInt8) (h : r.length < 2 ∨ r.length < num (r.take 2) + 6) : head8 r = none:=by
 unfold head8
 refine if_neg ?_
 rintro ⟨h1,h2,h3,h4,h5⟩
 omega
theorem head_cut (x : List UInt8) (k : Nat) (h : Bok x) (hk : k < x.length + 6) : head8 ((jrB x).take k) = none:=by
 have hlen : ((jrB x).take k).length = k:=by rw [List.length_take,recB_len]; omega
 refine head_short _ ?_
 rw [hlen]
 by_cases h2 : k < 2
 ·exact .inl h2
 ·right
  have hn:=num_rec x [] h
  rw [List.append_nil] at hn
  rw [List.take_take,Nat.min_eq_left (by omega),hn]
  exact hk
def scanF : Nat → List UInt8 → List (List UInt8)
 | 0,_ => []
 | f + 1,r=>match head8 r with
  | none => []
  | some x=>x :: scanF f (r.drop (x.length + 6))
def scan8 (r : List UInt8) : List (List UInt8):=scanF r.length r
theorem scanF_none {r : List UInt8} (f : Nat) (h : head8 r = none) : scanF f r = []:=by
 cases f with
 | zero=>rfl
 | succ f=>unfold scanF; rw [h]
theorem scanF_some {r x : List UInt8} (f : Nat) (h : head8 r = some x) : scanF (f + 1) r = x :: scanF f (r.drop (x.length + 6)):=by
 rw [scanF,h]
theorem scanF_same : ∀ (f g : Nat) (r : List UInt8),r.length ≤ f → r.length ≤ g → scanF f r = scanF g r:=by
 intro f
 induction f with
 | zero =>
  intro g r h1 h2
  have : r = []:=List.eq_nil_of_length_eq_zero (by omega)
  subst this
  rw [scanF_none 0 (head_short [] (.inl (by decide))),scanF_none g (head_short [] (.inl (by decide)))]
 | succ f ih =>
  intro g r h1 h2
  rcases hh : head8 r with _ | x
  ·rw [scanF_none _ hh,scanF_none _ hh]
  ·obtain ⟨hb,hl,_⟩:=head_some hh
   rcases g with _ | g
   ·omega
   ·rw [scanF_some _ hh,scanF_some _ hh,ih g _ (by rw [List.length_drop]; omega) (by rw [List.length_drop]; omega)]
theorem scan_none {r : List UInt8} (h : head8 r = none) : scan8 r = []:=scanF_none _ h
theorem scan_some {r x : List UInt8} (h : head8 r = some x) : scan8 r = x :: scan8 (r.drop (x.length + 6)):=by
 obtain ⟨hb,hl,_⟩:=head_some h
 unfold scan8
 rw [scanF_same r.length (r.length + 1) r (Nat.le_refl _) (by omega),scanF_some _ h,scanF_same r.length (r.drop (x.length + 6)).length _ (by rw [List.length_drop]; omega) (Nat.le_refl _)]
def recs8 (l : List (List UInt8)) : List UInt8:=l.flatMap jrB
theorem recs_cons (x : List UInt8) (l : List (List UInt8)) : recs8 (x :: l) = jrB x ++ recs8 l:=by unfold recs8; rw [List.flatMap_cons]
theorem recs_app (l m : List (List UInt8)) : recs8 (l ++ m) = recs8 l ++ recs8 m:=by unfold recs8; rw [List.flatMap_append]
theorem recs_snoc (l : List (List UInt8)) (x : List UInt8) : recs8 (l ++ [x]) = recs8 l ++ jrB x:=by rw [recs_app,recs_cons]; simp [recs8]
theorem scan_recs (l : List (List UInt8)) (y : List UInt8) (h : ∀ x ∈ l,Bok x) : scan8 (recs8 l ++ y) = l ++ scan8 y:=by
 induction l with
 | nil=>rfl
 | cons x l ih =>
  have hx:=h x (by simp)
  rw [recs_cons,List.append_assoc,scan_some (head_rec x _ hx),List.drop_left' (recB_len x),ih (fun z hz=>h z (by simp [hz]))]
  rfl
theorem scan_nil : scan8 [] = []:=rfl
theorem scan_of (l : List (List UInt8)) (h : ∀ x ∈ l,Bok x) : scan8 (recs8 l) = l:=by
 have:=scan_recs l [] h
 rwa [List.append_nil,scan_nil,List.append_nil] at this
theorem scan_facts : ∀ (f : Nat) (r : List UInt8),r.length ≤ f → (∀ x ∈ scan8 r,Bok x) ∧ (recs8 (scan8 r)).length ≤ r.length ∧ recs8 (scan8 r) = r.take (recs8 (scan8 r)).length:=by
 intro f
 induction f with
 | zero =>
  intro r h
  have : r = []:=List.eq_nil_of_length_eq_zero (by omega)
  subst this
  exact ⟨fun x hx=>by simp [scan_nil] at hx,Nat.le_refl _,rfl⟩
 | succ f ih =>
  intro r h
  rcases hh : head8 r with _ | x
  ·rw [scan_none hh]
   exact ⟨fun x hx=>by simp at hx,Nat.zero_le _,rfl⟩
  ·obtain ⟨hb,hl,hr⟩:=head_some hh
   obtain ⟨h1,h2,h3⟩:=ih (r.drop (x.length + 6)) (by rw [List.length_drop]; omega)
   rw [scan_some hh]
   have hlen : (recs8 (x :: scan8 (r.drop (x.length + 6)))).length = x.length + 6 + (recs8 (scan8 (r.drop (x.length + 6)))).length:=by rw [recs_cons,List.length_append,recB_len]
   rw [List.length_drop] at h2
   refine ⟨fun z hz => ?_,by omega, ?_⟩
   ·rcases List.mem_cons.1 hz with rfl | hz
    ·exact hb
    ·exact h1 z hz
   ·rw [hlen,List.take_add,recs_cons,hr]
    congr 1
theorem scan_ok {r x : List UInt8} (h : x ∈ scan8 r) : Bok x:=(scan_facts _ r (Nat.le_refl _)).1 x h
theorem scan_le (r : List UInt8) : (recs8 (scan8 r)).length ≤ r.length:=(scan_facts _ r (Nat.le_refl _)).2.1
theorem scan_take (r : List UInt8) : r.take (recs8 (scan8 r)).length = recs8 (scan8 r):=(scan_facts _ r (Nat.le_refl _)).2.2.symm
def keep8 : List (List UInt8) → Nat → Nat
 | [],_=>0
 | x :: l,N=>if x.length + 6 ≤ N then keep8 l (N - (x.length + 6)) + 1 else 0
theorem keep_le (l : List (List UInt8)) : ∀ N,keep8 l N ≤ l.length:=by
 induction l with
 | nil=>intro N; exact Nat.le_refl _
 | cons x l ih =>
  intro N
  unfold keep8
  split
  ·have:=ih (N - (x.length + 6))
   rw [List.length_cons]
   omega
  ·exact Nat.zero_le _
theorem keep_scan (l : List (List UInt8)) : ∀ N,(∀ x ∈ l,Bok x) → scan8 ((recs8 l).take N) = l.take (keep8 l N):=by
 induction l with
 | nil=>intro N _; simp [recs8,keep8,scan_nil]
 | cons x l ih =>
  intro N h
  have hx:=h x (by simp)
  unfold keep8
  rw [recs_cons]
  by_cases hN : x.length + 6 ≤ N
  ·rw [if_pos hN,List.take_append,List.take_of_length_le (by rw [recB_len]; exact hN),recB_len,List.take_succ_cons]
   have:=scan_recs [x] ((recs8 l).take (N - (x.length + 6))) (fun z hz=>by simp only [List.mem_singleton] at hz; subst hz; exact hx)
   rw [recs_cons,show recs8 [] = [] from rfl,List.append_nil,ih _ (fun z hz=>h z (by simp [hz]))] at this
   exact this
  ·rw [if_neg hN,List.take_append_of_le_length (by rw [recB_len]; omega),scan_none (head_cut x N hx (by omega))]
   rfl
theorem keep_ge (l : List (List UInt8)) : ∀ N k,k ≤ l.length → (recs8 (l.take k)).length ≤ N → k ≤ keep8 l N:=by
 induction l with
 | nil =>
  intro N k h1 h2
  have : k = 0:=by simpa using h1
  subst this
  exact Nat.zero_le _
 | cons x l ih =>
  intro N k h1 h2
  rcases k with _ | k
  ·exact Nat.zero_le _
  ·rw [List.length_cons] at h1
   rw [List.take_succ_cons,recs_cons,List.length_append,recB_len] at h2
   have:=ih (N - (x.length + 6)) k (by omega) (by omega)
   unfold keep8
   rw [if_pos (by omega)]
   omega
theorem keep_eq (l : List (List UInt8)) : ∀ k,k ≤ l.length → keep8 l (recs8 (l.take k)).length = k:=by
 induction l with
 | nil =>
  intro k h1
  have : k = 0:=by simpa using h1
  subst this
  rfl
 | cons x l ih =>
  intro k h1
  unfold keep8
  rcases k with _ | k
  ·have : (recs8 ((x :: l).take 0)).length = 0:=rfl
   rw [this,if_neg (by omega)]
  ·rw [List.length_cons] at h1
   have:=ih k (by omega)
   rw [List.take_succ_cons,recs_cons,List.length_append,recB_len,if_pos (by omega),show x.length + 6 + (recs8 (l.take k)).length - (x.length + 6) = (recs8 (l.take k)).length by omega,this]
theorem sc_read (r : List UInt8) : (head8 r = none ∧ ∃ st,bytesR 200 (some r) = ([],st)) ∨
  (∃ x y,bytesR 200 (some r) = (x,some y) ∧ Bok x ∧ y = r.drop (x.length + 2) ∧ x.length + 2 ≤ r.length ∧
   ((r.length < x.length + 6 ∧ head8 r = none) ∨ (x.length + 6 ≤ r.length ∧ ∃ z : Nat,getS 4 (some y) = ((z : Int),some (r.drop (x.length + 6))) ∧ ((z ≠ sumN x ∧ head8 r = none) ∨ (z = sumN x ∧ head8 r = some x))))):=by
 by_cases h2 : 2 ≤ r.length
 ·have hg : getS 2 (some r) = ((num (r.take 2) : Int),some (r.drop 2)):=get_nat r 2 (by omega) (by omega) h2
  unfold bytesR
  rw [hg]
  have e2 : head8 r = if 2 ≤ r.length ∧ 1 ≤ num (r.take 2) ∧ num (r.take 2) ≤ 200 ∧ num (r.take 2) + 6 ≤ r.length ∧ num ((r.drop (num (r.take 2) + 2)).take 4) = sumN ((r.drop 2).take (num (r.take 2))) then some ((r.drop 2).take (num (r.take 2))) else none:=rfl
  generalize num (r.take 2) = n at *
  by_cases h200 : 200 < n
  ·refine .inl ⟨?_,none,if_pos (by simp only; omega)⟩
   rw [e2]
   exact if_neg (by omega)
  ·by_cases hz : n = 0
   ·subst hz
    refine .inl ⟨?_,some (r.drop 2), ?_⟩
    ·rw [e2]
     exact if_neg (by omega)
    ·rw [if_neg (by simp only; omega)]
     simp only [Int.toNat_natCast,takeS]
     rw [if_pos (Nat.zero_le _)]
     rfl
   ·have hne : ¬ (200 : Int) < (n : Int):=by omega
    simp only [if_neg hne,Int.toNat_natCast,takeS,List.length_drop]
    by_cases hl : n ≤ r.length - 2
    ·rw [if_pos hl,List.drop_drop]
     refine .inr ⟨_,_,rfl, ?_⟩
     have hlen : ((r.drop 2).take n).length = n:=by rw [List.length_take,List.length_drop]; omega
     rw [hlen]
     refine ⟨⟨by omega,by omega⟩,by rw [Nat.add_comm 2 n],by omega, ?_⟩
     by_cases h6 : n + 6 ≤ r.length
     ·right
      refine ⟨h6,num ((r.drop (n + 2)).take 4), ?_, ?_⟩
      ·have hg4 : getS 4 (some (r.drop (n + 2))) = ((num ((r.drop (n + 2)).take 4) : Int),some ((r.drop (n + 2)).drop 4)):=get_nat (r.drop (n + 2)) 4 (by omega) (by omega) (by rw [List.length_drop]; omega)
       rw [Nat.add_comm 2 n,hg4,List.drop_drop]
      ·by_cases hs : num ((r.drop (n + 2)).take 4) = sumN ((r.drop 2).take n)
       ·right
        refine ⟨hs, ?_⟩
        rw [e2]
        exact if_pos ⟨h2,by omega,by omega,h6,hs⟩
       ·left
        refine ⟨hs, ?_⟩
        rw [e2]
        exact if_neg (fun h=>hs h.2.2.2.2)
     ·left
      refine ⟨by omega, ?_⟩
      rw [e2]
      exact if_neg (by omega)
    ·rw [if_neg hl]
     refine .inl ⟨?_,none,rfl⟩
     rw [e2]
     exact if_neg (by omega)
 ·refine .inl ⟨head_short r (.inl (by omega)),none, ?_⟩
  have hg : getS 2 (some r) = (0,none):=if_neg (by intro h; have:=h.2.2.1; simp at this; omega)
  unfold bytesR
  rw [hg]
  rfl
def Mk8 (m : List UInt8) (w : World) (e : Ending) (w' : World) : Prop :=
 ∃ A c,e = .returned (.tuple #[.slice A m.length c,int i64 0]) ∧ w'.ownsRow w.heap.size 5 1 (.slice A m.length c) m.length (bcs m) ∧ Chg (fun _=>False) w w'
theorem wat_bytes8 (p N : Nat) (st : Option (List UInt8)) (A : Option Addr) (n c : Nat) (l : List UInt8) (S : Nat → Prop) (w0 w1 W : World) (hN : N + 8 + n ≤ 1000000) (h : Wat w1 p st N W) (hn : n = l.length) (hr : Rds w0 S A n (bcs l)) (h01 : Chg (fun _=>False) w0 w1) :
  Calls Tryz.prog 156 #[.pointer (some ⟨p,0,none⟩), .slice A n c] W fun e w'=>e = .returned (.pointer (some ⟨p,0,none⟩)) ∧ Wat w1 p (bytesS l st) (N + 8 + n) w':=by
 obtain ⟨o,hw,hC,hp,ho⟩:=h
 have hr2:=hr.old.chg (h01.tr hC) (fun _ _=>id)
 have hs:=h01.size
 refine (wbytes_any p o st N A n c l _ W hw hn hr2 (fun k hk=>⟨by have:=hk.2; omega,fun e=>by have:=ho k e; have:=hk.2; omega⟩) (by omega)).mono fun e w' ⟨he,o',hw',hm⟩ => ?_
 obtain ⟨h1,h2⟩:=fresh_mvd hC hm hp ho
 exact ⟨he,o',hw',h1,hp,h2⟩
theorem wat_done8 (p N : Nat) (b : List UInt8) (w1 W : World) (hN : N ≤ 1000000) (h : Wat w1 p (some b) N W) :
  Calls Tryz.prog 157 #[.pointer (some ⟨p,0,none⟩)] W fun e w' => ∃ A c,e = .returned (.tuple #[.slice A b.length c,int i64 0]) ∧ w'.ownsRow w1.heap.size 5 1 (.slice A b.length c) b.length (bcs b) ∧ Chg (fun _=>False) w1 w':=by
 obtain ⟨o,hw,hC,_,_⟩:=h
 refine (wdone_some p o b N W hw (by omega)).mono ?_
 rintro e w' ⟨A',k,c',rfl,rfl,hown,hc⟩
 exact ⟨A',c',rfl,own_base hown hC.size,hC.tr hc⟩
theorem rec_state (b : List UInt8) (h : Bok b) : putS 4 [(sumN b : Int)] (bytesS b (some [])) = some (jrB b):=by
 have h1:=h.2
 have hs:=sumN_le b
 have hf : fits 4 (sumN b : Int) = true:=(fits_iff _ _).2 ⟨by omega,by omega⟩
 rw [bytes_enc,if_pos (by omega)]
 simp [putS,puts,put1,hf,jrB]
theorem jenc_bad (A : Option Addr) (n c : Nat) (w : World) (h : n = 0 ∨ 200 < n) (hm : n ≤ 9223372036854775807) :
  Calls Tryz.prog 178 #[.slice A n c] w fun e w'=>e = .returned (.tuple #[.slice none 0 0,int i64 1]) ∧ w = w':=by
 rcases h with h | h
 ·subst h
  go_in
  go_wp2_with fail
  go_ret2
  exact ⟨rfl,rfl⟩
 ·have h0 : ((n : Int) == 0) = false:=by simp; omega
  go_in
  go_wp2_with fail
  go_ret2
  exact ⟨rfl,rfl⟩
theorem jenc_ok (A : Option Addr) (n c : Nat) (b : List UInt8) (S : Nat → Prop) (w : World) (hn : n = b.length) (h : Rds w S A n (bcs b)) (hb : Bok b) :
  Calls Tryz.prog 178 #[.slice A n c] w (Mk8 (jrB b) w):=by
 have h1 : 1 ≤ n ∧ n ≤ 200:=⟨by have:=hb.1; omega,by have:=hb.2; omega⟩
 have HST:=hd_ (rec_state b hb)
 have HN:=hd_ hn
 have HR:=hd_ h
 have h0 : ((n : Int) == 0) = false:=by simp; omega
 have h2 : ¬ (200 : Int) < (n : Int):=by omega
 have HB:=hd_ (wat_bytes8 w.heap.size 0 (some []) A n c b S w w (w.alloc (.cells #[.slice none 0 0, .bool false] 243)) (by omega) (Wat.start ((Chg.refl _ _).alloc _) (Nat.le_refl _) (blk_new rfl)) hn h (Chg.refl _ w))
 clear hn h hb
 go_in
 go_wp2_with fail
 refine HB.out.mono ?_
 rintro e w2 ⟨rfl,hw2⟩
 have HW2:=hd_ hw2
 have HS:=hd_ (sum_any A n c b _ w2 HN.out (HR.out.old.chg hw2.was (fun _ _=>id)) (by omega))
 clear hw2 HB
 go_wp2_with fail
 refine HS.out.mono ?_
 rintro e w3 ⟨rfl,rfl⟩
 have hs:=sumN_le b
 have HP:=hd_ (wat_one w.heap.size w2.heap.size (0 + 8 + n) 4 (sumN b : Int) _ w (w2.alloc (.cells #[int i64 (sumN b : Int)] 3)) ⟨by omega,by omega⟩ (by omega) (HW2.out.alloc _) (blk_new rfl))
 rw [HST.out] at HP
 clear HS HW2
 go_wp2_with fail
 refine HP.out.mono ?_
 rintro e w4 ⟨rfl,hw4,_⟩
 have HD:=hd_ (wat_done8 w.heap.size _ _ w w4 (by omega) hw4)
 clear hw4 HP
 go_wp2_with fail
 refine HD.out.mono ?_
 rintro e w5 ⟨D,dc,rfl,hown,hc⟩
 go_wp2_with fail
 go_ret2
 exact ⟨D,dc,rfl,hown,hc⟩
theorem infoSl8 : (Tryz.prog.info? 23).map (fun i=>(i.zero,i.size,i.bytes)) = some (some (.slice none 0 0),1,24):=by kernel_rfl
def BL (w : World) (S : Nat → Prop) (vs : List Value) (ls : List (List UInt8)) : Prop :=
 vs.length = ls.length ∧ ∀ (i : Nat) (l : List UInt8),ls[i]? = some l → ∃ A c,vs[i]? = some (.slice A l.length c) ∧ Rds w S A l.length (bcs l)
section
variable {w w' : World} {S S' : Nat → Prop} {vs : List Value} {ls : List (List UInt8)}
theorem BL.nil (w : World) (S : Nat → Prop) : BL w S [] []:=⟨rfl,fun i l h=>by simp at h⟩
theorem BL.mono (h : BL w S vs ls) (hs : ∀ k,S k → S' k) : BL w S' vs ls :=
 ⟨h.1,fun i l hl=>by obtain ⟨A,c,h1,h2⟩:=h.2 i l hl; exact ⟨A,c,h1,h2.mono hs⟩⟩
theorem BL.chg (h : BL w S vs ls) (hc : Chg S' w w') (hd : ∀ k,S k → ¬ S' k) : BL w' S vs ls :=
 ⟨h.1,fun i l hl=>by obtain ⟨A,c,h1,h2⟩:=h.2 i l hl; exact ⟨A,c,h1,h2.chg hc hd⟩⟩
theorem BL.keep (h : BL w S vs ls) (hz : w.heap.size ≤ w'.heap.size) (hk : ∀ k,S k → k < w.heap.size → w'.heap[k]? = w.heap[k]?) : BL w' S vs ls :=
 ⟨h.1,fun i l hl=>by obtain ⟨A,c,h1,h2⟩:=h.2 i l hl; exact ⟨A,c,h1,h2.keep hz hk⟩⟩
theorem BL.old (h : BL w S vs ls) : BL w (fun k=>S k ∧ k < w.heap.size) vs ls :=
 ⟨h.1,fun i l hl=>by obtain ⟨A,c,h1,h2⟩:=h.2 i l hl; exact ⟨A,c,h1,h2.old⟩⟩
theorem BL.snoc (h : BL w S vs ls) {A : Option Addr} {l : List UInt8} {n c : Nat} (hn : n = l.length) (hr : Rds w S A n (bcs l)) : BL w S (vs ++ [.slice A n c]) (ls ++ [l]):=by
 subst hn
 have h1:=h.1
 refine ⟨by simp [h1],fun i x hx => ?_⟩
 by_cases hi : i < ls.length
 ·rw [List.getElem?_append_left hi] at hx
  obtain ⟨A',c',h2,h3⟩:=h.2 i x hx
  exact ⟨A',c',by rw [List.getElem?_append_left (by omega)]; exact h2,h3⟩
 ·have hi2 : i < (ls ++ [l]).length:=(List.getElem?_eq_some_iff.1 hx).1
  rw [List.length_append,List.length_singleton] at hi2
  have hij : i = ls.length:=by omega
  subst hij
  rw [List.getElem?_append_right (Nat.le_refl _),Nat.sub_self,List.getElem?_cons_zero,Option.some.injEq] at hx
  subst hx
  exact ⟨A,c,by rw [List.getElem?_append_right (by omega),h1,Nat.sub_self]; rfl,hr⟩
theorem BL.take (h : BL w S vs ls) (k : Nat) : BL w S (vs.take k) (ls.take k):=by
 refine ⟨by rw [List.length_take,List.length_take,h.1],fun i l hl => ?_⟩
 rw [List.getElem?_take] at hl
 split at hl
 ·rename_i hik
  obtain ⟨A,c,h1,h2⟩:=h.2 i l hl
  exact ⟨A,c,by rw [List.getElem?_take,if_pos hik]; exact h1,h2⟩
 ·cases hl
end
def used8 (b : List UInt8) : Nat:=(recs8 (scan8 b)).length
def ScanP (b : List UInt8) (w : World) (e : Ending) (w' : World) : Prop :=
 ∃ A m c vs,e = .returned (.tuple #[.slice A m c,int i64 (used8 b : Int)]) ∧ m = (scan8 b).length ∧ w'.ownsRow w.heap.size 23 1 (.slice A m c) m vs ∧ BL w' (fun k=>w.heap.size ≤ k) vs (scan8 b) ∧ Chg (fun _=>False) w w'
theorem scan_step {b : List UInt8} {ls : List (List UInt8)} {x : List UInt8} (h : scan8 b = ls ++ scan8 (b.drop (recs8 ls).length)) (hh : head8 (b.drop (recs8 ls).length) = some x) :
  scan8 b = (ls ++ [x]) ++ scan8 (b.drop (recs8 (ls ++ [x])).length) ∧ (recs8 (ls ++ [x])).length = (recs8 ls).length + x.length + 6:=by
 have e : (recs8 (ls ++ [x])).length = (recs8 ls).length + x.length + 6:=by rw [recs_snoc,List.length_append,recB_len]; omega
 refine ⟨?_,e⟩
 rw [e,h,scan_some hh,List.drop_drop,List.append_assoc,Nat.add_assoc]
 rfl
theorem scan_end {b : List UInt8} {ls : List (List UInt8)} (h : scan8 b = ls ++ scan8 (b.drop (recs8 ls).length)) (hh : head8 (b.drop (recs8 ls).length) = none) : ls = scan8 b ∧ (recs8 ls).length = used8 b:=by
 rw [scan_none hh,List.append_nil] at h
 unfold used8
 rw [h]
 exact ⟨rfl,rfl⟩
theorem beq0_no {n : Nat} (h : 1 ≤ n) : ((n : Int) == 0) = false:=by simp; omega
theorem jscan_any (A : Option Addr) (n c : Nat) (b : List UInt8) (S : Nat → Prop) (w : World) (hn : n = b.length) (h : Rds w S A n (bcs b)) (hz : A = none → c = 0) (hbig : n ≤ 16777216) :
  Calls Tryz.prog 97 #[.slice A n c] w (ScanP b w):=by
 obtain ⟨i0,hi0,hz0,hz1,hz2⟩:=info_parts infoSl8
 have HN:=hd_ hn
 have HRD:=hd_ (read_any A n c b S w hn h hz (by omega))
 clear hn h hz
 go_in
 go_wp2_with fail
 refine HRD.out.mono ?_
 rintro e w1 ⟨p,rfl,hp,hrd,hc1⟩
 have HR1:=hd_ hrd
 have HC1:=hd_ hc1
 have hp1:=hrd.lt
 clear hrd hc1 HRD
 go_wp2_with fail
 go_loopg [4,5] b.length (fun g v i wr => ∃ (ls : List (List UInt8)) (at_ m c' : Nat) (D : Option Addr) (vs : List Value),g = b.length - at_ ∧ at_ ≤ n ∧ m ≤ at_ ∧ i = int i64 (at_ : Int) ∧ v = .slice D m c' ∧
  Hid (m = ls.length ∧ at_ = (recs8 ls).length ∧ scan8 b = ls ++ scan8 (b.drop (recs8 ls).length)) ∧ Hid (wr.ownsRow w1.heap.size 23 1 (.slice D m c') m vs) ∧
  Hid (BL wr (fun k=>w.heap.size ≤ k ∧ k < p) vs ls) ∧ Hid (Rd 259 true wr p (fun k=>w.heap.size ≤ k ∧ k < p) (some (b.drop at_))) ∧ Hid (Chg (fun k=>k = p) w1 wr))
 case atStart=>exact ⟨[],0,0,0,none, [],rfl,Nat.zero_le _,Nat.zero_le _,rfl,rfl,⟨rfl,rfl,rfl⟩,World.ownsRow_nil _ _ _ _,BL.nil _ _,HR1.out,Chg.refl _ _⟩
 case round =>
  obtain ⟨ls,at_,m,c',D,vs,rfl,hat,hma,rfl,rfl,HLS,HOWN,HBL,HR,HC⟩:=hrel
  have HB:=hd_ (rbytes_any p _ _ 200 wr HR.out)
  have hlen : (b.drop at_).length = n - at_:=by rw [List.length_drop, ← HN.out]
  rcases sc_read (b.drop at_) with ⟨hh,st,hbr⟩ | ⟨x,y,hbr,hbok,hy,hl2,hrest⟩
  ·rw [hbr] at HB
   have HH:=hd_ hh
   clear hh hbr hlen
   go_wp2_with fail
   refine HB.out.mono ?_
   rintro e w2 ⟨X,k,xc,rfl,hk,_,_,_,_,hc2⟩
   have hk0 : k = 0:=hk
   subst hk0
   clear hk
   replace HC:=hd_ (HC.out.tr hc2)
   have HO2:=hd_ (own_chg HOWN.out hc2 (fun k hk e=>by
    have:=(HOWN.out.lt k (by rw [own_block]; exact hk)).1
    omega))
   have HBL2:=hd_ (HBL.out.chg hc2 (fun k hk=>by have:=hk.2; omega))
   clear hc2 HB HOWN HBL
   go_wp2_with fail
   go_ret2
   obtain ⟨q1,q2,q3⟩:=HLS.out
   subst q2
   obtain ⟨q4,q5⟩:=scan_end q3 HH.out
   rw [q5]
   subst q4
   exact ⟨D,m,c',vs,rfl,q1,own_base HO2.out HC1.out.size,HBL2.out.mono (fun k hk=>hk.1),fresh_set HC1.out HC.out hp⟩
  ·rw [hbr] at HB
   have HXO:=hd_ hbok
   have hx0 : ((x.length : Int) == 0) = false:=beq0_no hbok.1
   have hx200:=hbok.2
   clear hbr
   go_wp2_with fail
   refine HB.out.mono ?_
   rintro e w2 ⟨X,k,xc,rfl,hk,hkc,hcm,hxr,hrd2,hc2⟩
   have hk0 : k = x.length:=hk
   subst hk0
   clear hk
   have hrd2 : Rd 259 true w2 p _ (some y):=hrd2
   have hxr : Rds w2 (fun k=>w.heap.size ≤ k ∧ k < p) X x.length (bcs x):=hxr
   have hat2 : at_ + x.length + 2 ≤ n:=by omega
   replace HC:=hd_ (HC.out.tr hc2)
   have HO2:=hd_ (own_chg HOWN.out hc2 (fun k hk e=>by
    have:=(HOWN.out.lt k (by rw [own_block]; exact hk)).1
    omega))
   have HBL2:=hd_ (HBL.out.chg hc2 (fun k hk=>by have:=hk.2; omega))
   have HXR:=hd_ hxr
   have HR2:=hd_ hrd2
   have HY:=hd_ hy
   clear hc2 HB HOWN HBL hrd2 hxr hy hl2
   rcases hrest with ⟨hl6,hh⟩ | ⟨hl6,z,hgz,hcmp⟩
   ·have hgt : (n : Int) < (at_ : Int) + (x.length : Int) + 6:=by omega
    have HH:=hd_ hh
    clear hh hl6 hlen
    go_wp2_with fail
    go_ret2
    obtain ⟨q1,q2,q3⟩:=HLS.out
    subst q2
    obtain ⟨q4,q5⟩:=scan_end q3 HH.out
    rw [q5]
    subst q4
    exact ⟨D,m,c',vs,rfl,q1,own_base HO2.out HC1.out.size,HBL2.out.mono (fun k hk=>hk.1),fresh_set HC1.out HC.out hp⟩
   ·have hgt : ¬ (n : Int) < (at_ : Int) + (x.length : Int) + 6:=by omega
    have hg:=get_any p _ (some y) 4 w2 HR2.out
    rw [hgz] at hg
    have HG:=hd_ hg
    clear hg hgz hlen
    go_wp2_with fail
    refine HG.out.mono ?_
    rintro e w3 ⟨rfl,hrd3,hc3⟩
    have hrd3 : Rd 259 true w3 p _ (some ((b.drop at_).drop (x.length + 6))):=hrd3
    replace HC:=hd_ (HC.out.tr hc3)
    replace HO2:=hd_ (own_chg HO2.out hc3 (fun k hk e=>by
     have:=(HO2.out.lt k (by rw [own_block]; exact hk)).1
     omega))
    replace HBL2:=hd_ (HBL2.out.chg hc3 (fun k hk=>by have:=hk.2; omega))
    replace HXR:=hd_ (HXR.out.chg hc3 (fun k hk=>by have:=hk.2; omega))
    have HS:=hd_ (sum_any X x.length xc x _ w3 rfl HXR.out (by omega))
    have HR3:=hd_ hrd3
    clear hc3 hrd3 HG HR2
    go_wp2_with fail
    refine HS.out.mono ?_
    rintro e w4 ⟨rfl,rfl⟩
    clear HS
    rcases hcmp with ⟨hne,hh⟩ | ⟨heq,hh⟩
    ·have hb : ((z : Int) != (sumN x : Int)) = true:=by simp; omega
     have HH:=hd_ hh
     clear hh hl6 hne
     go_wp2_with fail
     go_ret2
     obtain ⟨q1,q2,q3⟩:=HLS.out
     subst q2
     obtain ⟨q4,q5⟩:=scan_end q3 HH.out
     rw [q5]
     subst q4
     exact ⟨D,m,c',vs,rfl,q1,own_base HO2.out HC1.out.size,HBL2.out.mono (fun k hk=>hk.1),fresh_set HC1.out HC.out hp⟩
    ·have HH:=hd_ hh
     obtain ⟨q1,q2,q3⟩:=HLS.out
     subst heq
     have hmx : m + 1 ≤ 16777217:=by omega
     have HQ1:=hd_ q1
     have HQ2:=hd_ q2
     have HQ3:=hd_ q3
     clear hh q1 q2 q3 HLS
     have hown3:=HO2.out.alloc (.cells #[.slice X x.length xc] 23)
     have hbase : w1.heap.size ≤ (w3.alloc (.cells #[.slice X x.length xc] 23)).heap.size:=Nat.le_trans HC.out.size (by simp)
     go_wp2_with (at_builtin; refine wpList_own_append _ rfl (.tmp 36) (.tmp 38) 89 rfl w1.heap.size 23 i0 (.slice none 0 0) 24 Tryz.underlying89 hi0 hz0 hz1 hz2 rfl (.slice D m c') m vs rfl hown3 _ (some ⟨w3.heap.size,0,none⟩) 1 1 [.slice X x.length xc] rfl (rds_alloc w3 23 #[.slice X x.length xc] (0,0)) (by simp [Value.oneCell']) (by unfold maxLen; omega) (by omega) hbase ?_; intro v5 w5 hown5 hg5 hat5; obtain ⟨D5,c5,rfl,_,_⟩:=own_form hown5)
     have hcg : Chg (fun k=>w1.heap.size ≤ k) w3 w5:=((Chg.refl (fun k=>w1.heap.size ≤ k) w3).alloc _).grown hg5 (fun k hk _=>(hown3.lt k hk).1)
     have HG5:=hd_ hcg
     have HO5:=hd_ hown5
     clear hcg hown5 hown3 hg5 hat5
     go_roundg (b.length - (at_ + x.length + 6))
     case measure=>have:=HN.out; omega
     case rel =>
      have hst:=HQ3.out
      have hh:=HH.out
      rw [HQ2.out] at hh
      obtain ⟨s1,s2⟩:=scan_step hst hh
      have q1:=HQ1.out
      have q2:=HQ2.out
      refine ⟨ls ++ [x],at_ + x.length + 6,m + 1,c5,D5,vs ++ [.slice X x.length xc],rfl,by omega,by omega,by go_num,rfl,⟨by rw [List.length_append,q1]; rfl,by rw [s2,q2],s1⟩,HO5, ?_, ?_, ?_⟩
      ·exact (HBL2.out.snoc rfl HXR.out).chg HG5.out (fun k hk=>by have:=hk.2; omega)
      ·have hrd:=HR3.out.chg HG5.out (by omega) (fun k hk=>by have:=hk.2; omega)
       rw [List.drop_drop] at hrd
       exact hrd
      ·exact HC.out.trans HG5.out (fun i hi hs=>by omega)
def LL (w : World) (S : Nat → Prop) (A : Option Addr) (m : Nat) (ls : List (List UInt8)) : Prop := ∃ vs,m = ls.length ∧ Rds w S A m vs ∧ BL w S vs ls
section
variable {w w' : World} {S S' : Nat → Prop} {A : Option Addr} {m : Nat} {ls : List (List UInt8)}
theorem LL.chg (h : LL w S A m ls) (hc : Chg S' w w') (hd : ∀ k,S k → ¬ S' k) : LL w' S A m ls:=by
 obtain ⟨vs,h1,h2,h3⟩:=h
 exact ⟨vs,h1,h2.chg hc hd,h3.chg hc hd⟩
theorem LL.new (h : LL w S A m ls) (hc : Chg (fun _=>False) w w') : LL w' S A m ls:=h.chg hc (fun _ _=>id)
theorem LL.mono (h : LL w S A m ls) (hs : ∀ k,S k → S' k) : LL w S' A m ls:=by
 obtain ⟨vs,h1,h2,h3⟩:=h
 exact ⟨vs,h1,h2.mono hs,h3.mono hs⟩
theorem LL.take (h : LL w S A m ls) (k : Nat) (hk : k ≤ m) : LL w S A k (ls.take k):=by
 obtain ⟨vs,h1,h2,h3⟩:=h
 exact ⟨vs.take k,by rw [List.length_take]; omega,h2.take k hk,h3.take k⟩
theorem LL.at (h : LL w S A m ls) {j : Nat} {l : List UInt8} (hl : ls[j]? = some l) : ∃ ad B c,A = some ad ∧ w.cell? (ad.add j) = some (.slice B l.length c) ∧ Rds w S B l.length (bcs l):=by
 obtain ⟨vs,h1,h2,h3⟩:=h
 have hj : j < ls.length:=(List.getElem?_eq_some_iff.1 hl).1
 obtain ⟨ad,e,_,_,hc⟩:=h2.cellAt (k:=j) (by omega)
 obtain ⟨B,c,hv,hr⟩:=h3.2 j l hl
 exact ⟨ad,B,c,e,by rw [hc,hv],hr⟩
end
theorem ll_own {w : World} {base m c : Nat} {A : Option Addr} {vs : List Value} {ls : List (List UInt8)} (h : w.ownsRow base 23 1 (.slice A m c) m vs) (hb : BL w (fun k=>base ≤ k) vs ls) : LL w (fun k=>base ≤ k) A m ls :=
 ⟨vs,by have h1:=h.1; have h2:=hb.1; simp only [Nat.mul_one] at h1; omega,(own_rds2 h).mono (fun k hk=>hk.1),hb⟩
def opS (bs : List UInt8) (s : Nat) : Nat:=if used8 bs < bs.length then used8 bs else s
theorem used_le (bs : List UInt8) : used8 bs ≤ bs.length:=scan_le bs
theorem op_cut {bs : List UInt8} {s : Nat} (h : used8 bs < bs.length) : cutE bs (used8 bs : Int) = 0 ∧ cutB bs (used8 bs : Int) = recs8 (scan8 bs) ∧ cutS bs s (used8 bs : Int) = opS bs s:=by
 unfold cutE cutB cutS opS
 rw [if_neg (by omega),if_neg (by omega),if_neg (by omega),if_pos h,Int.toNat_natCast]
 exact ⟨rfl,scan_take bs,rfl⟩
theorem op_all {bs : List UInt8} {s : Nat} (h : ¬ used8 bs < bs.length) : bs = recs8 (scan8 bs) ∧ s = opS bs s:=by
 have h1:=used_le bs
 have h2:=scan_take bs
 unfold opS
 rw [if_neg h]
 unfold used8 at h h1
 rw [List.take_of_length_le (by omega)] at h2
 exact ⟨h2,rfl⟩
def OpenP (w : World) (p : Nat) (o : Option Nat) (bs : List UInt8) (s r : Nat) (e : Ending) (w' : World) : Prop :=
 ∃ j A m c,e = .returned (.tuple #[.pointer (some ⟨j,0,none⟩), .slice A m c,int i64 0]) ∧ w.heap.size ≤ j ∧ Blk w' j 176 #[.pointer (some ⟨p,0,none⟩)] ∧
  m = (scan8 bs).length ∧ LL w' (fun k=>w.heap.size ≤ k) A m (scan8 bs) ∧ Fi 80 w' p o (recs8 (scan8 bs)) (opS bs s) r ∧ Mvd p o o w w'
theorem jopen_any (p : Nat) (o : Option Nat) (bs : List UInt8) (s r : Nat) (w : World) (h : Fi 80 w p o bs s r) (hbr : bs.length ≤ r) (hr24 : r ≤ 16777216) :
  Calls Tryz.prog 49 #[.pointer (some ⟨p,0,none⟩)] w (OpenP w p o bs s r):=by
 have HB:=hd_ (dbytes_any p o bs s r w h hbr hr24)
 have HF:=hd_ h
 clear h
 go_in
 go_wp2_with fail
 refine HB.out.mono ?_
 rintro e w1 ⟨A1,c1,rfl,hown1,hc1⟩
 have HC1:=hd_ hc1
 have HS:=hd_ (jscan_any A1 bs.length c1 bs _ w1 rfl (own_rds hown1) (own_nil hown1) (by omega))
 clear HB hown1 hc1
 go_wp2_with fail
 refine HS.out.mono ?_
 rintro e w2 ⟨A2,m,c2,vs,rfl,hm,hown2,hbl,hc2⟩
 have HC2:=hd_ (HC1.out.tr hc2)
 have HL:=hd_ ((ll_own hown2 hbl).mono (S':=fun k=>w.heap.size ≤ k) (fun k hk=>Nat.le_trans HC1.out.size hk))
 have HF2:=hd_ (HF.out.chg HC2.out id (fun _ _=>id))
 have HM:=hd_ hm
 have hlt:=HF.out.lt
 have hmm : m ≤ bs.length + 1:=by
  have h1:=used_le bs
  have h2 : ∀ l : List (List UInt8),l.length ≤ (recs8 l).length:=fun l=>by
   induction l with
   | nil=>exact Nat.zero_le _
   | cons x l ih=>rw [recs_cons,List.length_append,recB_len,List.length_cons]; omega
  have h3:=h2 (scan8 bs)
  unfold used8 at h1
  omega
 clear hown2 hbl hc2 hm HS HC1 HF
 by_cases hu : used8 bs < bs.length
 ·have hu' : (used8 bs : Int) < (bs.length : Int):=by omega
  have HCU:=hd_ (dcut_any p o bs s r (used8 bs : Int) w2 HF2.out hbr hr24)
  obtain ⟨u1,u2,u3⟩:=op_cut (s:=s) hu
  rw [u1,u2,u3] at HCU
  clear u1 u2 u3 hu
  go_wp2_with fail
  refine HCU.out.mono ?_
  rintro e w3 ⟨rfl,hf3,hm3⟩
  have HF3:=hd_ hf3
  have HM3:=hd_ hm3
  clear hf3 hm3 HCU
  go_wp2_with fail
  go_ret3
  have ha : Chg (fun _=>False) w3 (w3.alloc (.cells #[.pointer (some ⟨p,0,none⟩)] 176)):=(Chg.refl _ w3).alloc _
  refine ⟨w3.heap.size,A2,m,c2,rfl,Nat.le_trans HC2.out.size HM3.out.1.size,blk_new rfl,HM.out, ?_,HF3.out.chg ha id (fun _ _=>id),(Mvd.pre HC2.out HM3.out).post ha⟩
  refine (HL.out.chg HM3.out.1 (fun k hk e => ?_)).new ha
  rcases e with e | e
  ·have:=hlt.1
   omega
  ·have:=hlt.2 k e
   omega
 ·have hu' : ¬ (used8 bs : Int) < (bs.length : Int):=by omega
  obtain ⟨u1,u2⟩:=op_all (s:=s) hu
  have HF3 : Hid (Fi 80 w2 p o (recs8 (scan8 bs)) (opS bs s) r):=by
   unfold Hid
   rw [← u1, ← u2]
   exact HF2.out
  clear u1 u2 hu
  go_wp2_with fail
  go_ret3
  have ha : Chg (fun _=>False) w2 (w2.alloc (.cells #[.pointer (some ⟨p,0,none⟩)] 176)):=(Chg.refl _ w2).alloc _
  exact ⟨w2.heap.size,A2,m,c2,rfl,HC2.out.size,blk_new rfl,HM.out,HL.out.new ha,HF3.out.chg ha id (fun _ _=>id),((Mvd.refl p o w2).pre HC2.out).post ha⟩
theorem fi_apart {T t : TypeId} {w : World} {p g : Nat} {o : Option Nat} {bs : List UInt8} {s r : Nat} {cs : Array Value} (h : Fi T w p o bs s r) (hb : Blk w g t cs) (ht : t ≠ T) (hu : t ≠ 5) : g ≠ p ∧ o ≠ some g:=by
 obtain ⟨A,c,hf⟩:=h
 refine ⟨?_, ?_⟩
 ·rintro rfl
  have h:=hf.blk.symm.trans hb
  simp at h
  exact ht h.2.symm
 ·rintro rfl
  have ha:=hf.at_
  rcases hf.own.2 with ⟨e,_⟩ | ⟨k,cap,cur,e,_,hh,_⟩
  ·injection e with e
   subst e
   cases ha
  ·injection e with e
   subst e
   injection ha with ha
   have ha : k = g:=ha
   subst ha
   have h:=hh.symm.trans hb
   simp at h
   exact hu h.2.symm
def putE (r : Nat) (bs b : List UInt8) : Int:=if b.length = 0 ∨ 200 < b.length then 1 else addE r bs (jrB b)
def putB (r : Nat) (bs b : List UInt8) : List UInt8:=if b.length = 0 ∨ 200 < b.length then bs else addB r bs (jrB b)
theorem jb_cell {w : World} {j : Nat} {v : Value} (h : Blk w j 176 #[v]) : w.cell? ⟨j,0,none⟩ = some v:=by
 have:=h.cell 0
 simpa using this
theorem jsync_any (j p : Nat) (o : Option Nat) (bs : List UInt8) (s r : Nat) (w : World) (hj : Blk w j 176 #[.pointer (some ⟨p,0,none⟩)]) (h : Fi 80 w p o bs s r) :
  Calls Tryz.prog 114 #[.pointer (some ⟨j,0,none⟩)] w fun e w'=>e = .returned (.tuple #[]) ∧ Fi 80 w' p o bs bs.length r ∧ Mvd p o o w w':=by
 have HS:=hd_ (dsync_any p o bs s r w h)
 have c0:=jb_cell hj
 clear h hj
 go_in
 go_wp2_with fail
 refine HS.out.mono ?_
 rintro e w1 ⟨rfl,hf,hm⟩
 go_wp2_with fail
 go_end0
 exact ⟨rfl,hf,hm⟩
theorem jput_any (j p : Nat) (o : Option Nat) (bs b : List UInt8) (s r n c : Nat) (A : Option Addr) (S : Nat → Prop) (w : World) (hj : Blk w j 176 #[.pointer (some ⟨p,0,none⟩)]) (h : Fi 80 w p o bs s r)
  (hn : n = b.length) (hr : Rds w S A n (bcs b)) (hbr : bs.length ≤ r) (hr24 : r ≤ 16777216) (hm : n ≤ 9223372036854775807) :
  Calls Tryz.prog 116 #[.pointer (some ⟨j,0,none⟩), .slice A n c] w fun e w'=>e = .returned (int i64 (putE r bs b)) ∧ ∃ o',Fi 80 w' p o' (putB r bs b) s r ∧ Mvd p o o' w w':=by
 unfold putE putB
 by_cases hb : b.length = 0 ∨ 200 < b.length
 ·rw [if_pos hb,if_pos hb]
  have HE:=hd_ (jenc_bad A n c w (by omega) hm)
  have HF:=hd_ h
  clear h hj hb hn hr
  go_in
  go_wp2_with fail
  refine HE.out.mono ?_
  rintro e w1 ⟨rfl,rfl⟩
  go_wp2_with fail
  go_ret
  exact ⟨rfl,o,HF.out,Mvd.refl _ _ _⟩
 ·rw [if_neg hb,if_neg hb]
  have HE:=hd_ (jenc_ok A n c b S w hn hr ⟨by omega,by omega⟩)
  have HF:=hd_ h
  have HJ:=hd_ hj
  have hrl : (jrB b).length ≤ 1000:=by rw [recB_len]; omega
  clear h hj hn hr
  go_in
  go_wp2_with fail
  refine HE.out.mono ?_
  rintro e w1 ⟨D,dc,rfl,hown,hc⟩
  have c0:=jb_cell (HJ.out.chg hc id)
  have HA:=hd_ (dadd_any p o bs (jrB b) s r (jrB b).length dc D _ w1 (HF.out.chg hc id (fun _ _=>id)) rfl (own_rds hown) hbr hr24 (by omega))
  have HC:=hd_ hc
  clear hown hc HE
  go_wp2_with fail
  refine HA.out.mono ?_
  rintro e w2 ⟨rfl,o',hf,hm2⟩
  go_wp2_with fail
  go_ret
  exact ⟨rfl,o',hf,Mvd.pre HC.out hm2⟩
end Go.Proofs.YtnojmbejedlilaaGreat
end
