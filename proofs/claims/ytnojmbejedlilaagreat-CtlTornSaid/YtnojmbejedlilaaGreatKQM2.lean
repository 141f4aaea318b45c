/-
  A packet's cells, and whether it may be. Walks: tunnel.within, goes, Right. Conditions: none but the numbers of bytes.
-/
import Derived.Test.YtnojmbejedlilaaGreatKQM1
import Derived.Deep.DeepCutAuto
import Derived.Lib.SmallJoins
import Derived.Deep.RegionHeld3
set_option maxRecDepth 100000
set_option maxHeartbeats 40000000
set_option linter.unusedVariables false
set_option linter.unusedSimpArgs false
section
namespace Go.Proofs.YtnojmbejedlilaaGreat
open Go.Value renaming int→U
open Go.IntKind renaming i64→Z
open Go.RowKit
theorem pU(w:World):Calls Tryz.prog 48 #[.slice none 0 0] w fun e w'=>e=.returned (.slice none 0 0)∧w=w':=by
 have he:=fun W:World=>Lib.run_eql_slice_nil (P:=Tryz.prog) W 23 5 none 0 0 0 0 Tryz.underlying23;go_in
 go_wp2
 go_ret;exact⟨rfl,rfl⟩
theorem nI(a:Addr)(n c:Nat)(bs:List UInt8)(S:Nat→Prop)(w:World)(hn:n=bs.length)(h:Rds w S (some a) n (bcs bs))(hbig:n≤140737488355328):
  Calls Tryz.prog 48 #[.slice (some a) n c] w fun e w'=>∃A' c',e=.returned (.slice A' n c')∧
   w'.ownsRow w.heap.size 5 1 (.slice A' n c') n (bcs bs)∧Chg (fun _=>False) w w':=by
 obtain⟨i0,hi0,hz0,hz1,hz2⟩:=info_parts eF;have HN:=hd_ hn;clear hn;have he:=fun W:World=>Lib.run_eql_slice_nil (P:=Tryz.prog) W 23 5 (some a) n c 0 0 Tryz.underlying23;go_in;have hmade:=World.ownsRow_made (e:=5) (size:=1) w #[] 0 (Nat.le_refl _) (by decide) rfl;go_wp2_with (at_builtin;refine aN _ rfl (.tmp 5) (.tmp 6) 23 rfl w.heap.size 5 i0 (U .u8 0) 1 Tryz.underlying23 hi0 hz0 hz1 hz2 rfl (.slice (some ⟨w.heap.size,0,none⟩) 0 0) 0 [] rfl hmade S (some a) n c (bcs bs) rfl (h.alloc _) (dv bs) (by unfold maxLen;omega) (by omega) (by simp) ?_;intro v' w' hown' hg hat;obtain⟨A3,c3,rfl,_,_⟩:=aV hown');go_ret;refine⟨A3,c3,by simp,by simpa using hown',?_⟩;exact((Chg.refl _ w).alloc _).grown hg (fun k hk hlt=>by simp only[Value.ownBlock,Option.some.injEq]at hk;subst hk;exact absurd hlt (Nat.lt_irrefl _))
theorem iv (A : Option Addr) (n c : Nat) (bs : List UInt8) (S : Nat → Prop) (w : World) (hn : n = bs.length) (h : Rds w S A n (bcs bs)) (hz : A = none → c = 0) (hbig : n ≤ 140737488355328) :
    Calls Tryz.prog 48 #[.slice A n c] w fun e w' => ∃ A' c', e = .returned (.slice A' n c') ∧
      w'.ownsRow w.heap.size 5 1 (.slice A' n c') n (bcs bs) ∧ Chg (fun _ => False) w w' := by
  rcases A with _ | a
  · have h0 : n = 0 := by
      rcases Nat.eq_zero_or_pos n with h0 | h0
      · exact h0
      · obtain ⟨ad, e, _⟩ := h.2 h0
        cases e
    have hc := hz rfl
    subst hc
    subst h0
    have hb : bs = [] := List.eq_nil_of_length_eq_zero hn.symm
    subst hb
    refine (pU w).mono ?_
    rintro e w' ⟨rfl, rfl⟩
    exact ⟨none, 0, rfl, World.ownsRow_nil w _ _ _, Chg.refl _ _⟩
  · exact nI a n c bs S w hn h hbig
def jY:List Nat→Option (List UInt8)→Option (List UInt8)
 |[],st=>st
 |k::ks,st=>jY ks (bk (k:Int) st).2
theorem uq(n:Int):bk n none=(0,none):=rfl
theorem lO(l:List UInt8)(k:Nat)(h:l.length<k):bk (k:Int) (some l)=(0,none):=
 if_neg (fun e=>by have:=e.2.2.1;rw[Int.toNat_natCast]at this;omega)
theorem lP:∀ks:List Nat,jY ks none=none
 |[]=>rfl
 |_::ks=>lP ks
theorem kH:∀(ks:List Nat) (l:List UInt8),(∀k∈ks,1≤k∧k≤7)→l.length<ks.sum→jY ks (some l)=none
 |[],l,_,h=>by simp at h
 |k::ks,l,hk,h=>by
  have hk1:=hk k (by simp);rw[List.sum_cons]at h;by_cases hl:l.length<k
  ·show jY ks (bk (k:Int) (some l)).2=none;rw[lO l k hl];exact lP ks
  ·show jY ks (bk (k:Int) (some l)).2=none;rw[fX l k hk1.1 hk1.2 (by omega)];exact kH ks _ (fun x hx=>hk x (by simp[hx])) (by rw[List.length_drop];omega)
def dW:List Nat:=[1,1,1,1,1,1,5,6]
def dst(b:List UInt8)(j:Nat):Option (List UInt8):=jY (dW.take j) (some b)
theorem nJ(n:Int)(h:0≤n):cu n none=([],none):=by
 unfold cu;rw[uq];rw[if_neg (by show¬n<0;omega)];rfl
end Go.Proofs.YtnojmbejedlilaaGreat
end
