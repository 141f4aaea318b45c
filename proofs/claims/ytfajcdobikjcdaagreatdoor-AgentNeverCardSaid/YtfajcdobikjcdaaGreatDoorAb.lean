/-
  An agent, plain and in memory. No condition.
-/
import Derived.Test.YtfajcdobikjcdaaGreatDoorAa
import Derived.Test.YtfajcdobikjcdaaGreatDoorM6
import Derived.Test.YtfajcdobikjcdaaGreatDoorM8
import Derived.Deep.MidRow
set_option linter.unusedVariables false
set_option linter.unusedSimpArgs false
namespace Go.Proofs.YtfajcdobikjcdaaGreatDoor
open Go.Value (int)
open Go.IntKind (i64)
open Go.RowKit
structure AV where
 c : Int
 s : SV
 R : Nat → RV
 V : Nat → Int
 life : Int
 fl : List Rc
 td : Int → Int → Option Int
def at16 {α : Type} (f : Nat → α) (i : Nat) (v : α) : Nat → α:=fun k=>if k = i then v else f k
theorem at16_self {α : Type} (f : Nat → α) (i : Nat) (v : α) : at16 f i v i = v:=if_pos rfl
theorem at16_ne {α : Type} (f : Nat → α) {i k : Nat} (v : α) (h : k ≠ i) : at16 f i v k = f k:=if_neg h
def rwL (R : Nat → RV) : List Value:=(List.range 32).flatMap (fun i : Nat=>(R i).cs.toList)
def wtL (V : Nat → Int) : List Value:=(List.range 32).map (fun i : Nat=>Value.int .i64 (V i))
def agL (ps : Nat) (c : Int) (R : Nat → RV) (V : Nat → Int) (q m : Nat) : List Value := [.pointer (some ⟨ps,0,none⟩),int i64 c] ++ (rwL R ++ (wtL V ++ [.pointer (some ⟨q,0,none⟩), .map (some m)]))
def AB (w : World) (a ps : Nat) (c : Int) (R : Nat → RV) (V : Nat → Int) (q m : Nat) : Prop:=Blk w a 67 (agL ps c R V q m).toArray
theorem rv_size16 (x : RV) : x.cs.toList.length = 9:=rfl
theorem flat9_len : ∀ l : List RV,(l.flatMap fun x=>x.cs.toList).length = l.length * 9
 | []=>rfl
 | x :: l=>by rw [List.flatMap_cons,List.length_append,flat9_len l,rv_size16,List.length_cons]; omega
theorem flat9_at : ∀ (ys : List RV) (i : Nat) (y : RV),ys[i]? = some y → ∀ j,j < 9 → (ys.flatMap fun y=>y.cs.toList)[i * 9 + j]? = y.cs[j]?
 | [],i,y,h,_,_=>by simp at h
 | z :: ys,0,y,h,j,hj=>by
  simp only [List.getElem?_cons_zero,Option.some.injEq] at h
  subst h
  simp only [List.flatMap_cons]
  rw [List.getElem?_append_left (by rw [rv_size16]; omega)]
  simp
 | z :: ys,i + 1,y,h,j,hj=>by
  simp only [List.getElem?_cons_succ] at h
  simp only [List.flatMap_cons]
  rw [List.getElem?_append_right (by rw [rv_size16]; omega),rv_size16]
  have e : (i + 1) * 9 + j - 9 = i * 9 + j:=by omega
  rw [e]
  exact flat9_at ys i y h j hj
theorem rwL_fm (R : Nat → RV) : rwL R = ((List.range 32).map R).flatMap (fun x=>x.cs.toList):=by rw [List.flatMap_map]; rfl
theorem rwL_len (R : Nat → RV) : (rwL R).length = 288:=by rw [rwL_fm,flat9_len,List.length_map,List.length_range]
theorem wtL_len (V : Nat → Int) : (wtL V).length = 32:=by simp [wtL]
theorem rwL_at (R : Nat → RV) {i j : Nat} (h : i < 32) (hj : j < 9) : (rwL R)[i * 9 + j]? = (R i).cs[j]? := by
 rw [rwL_fm]
 exact flat9_at _ i (R i) (by simp [h]) j hj
theorem wtL_at (V : Nat → Int) {i : Nat} (h : i < 32) : (wtL V)[i]? = some (int i64 (V i)):=by simp [wtL,h]
section
variable {w w' : World} {a ps : Nat} {c : Int} {R : Nat → RV} {V : Nat → Int} {q m : Nat}
theorem AB.chg {S : Nat → Prop} (h : AB w a ps c R V q m) (hc : Chg S w w') (hn : ¬ S a) : AB w' a ps c R V q m:=Blk.chg h hc hn
theorem AB.free (h : AB w a ps c R V q m) (i : Nat) : w.frozen? ⟨a,i,none⟩ = false:=Blk.frozen h i
theorem AB.c0 (h : AB w a ps c R V q m) : w.cell? ⟨a,0,none⟩ = some (.pointer (some ⟨ps,0,none⟩)):=by rw [Blk.cell h]; rfl
theorem AB.c1 (h : AB w a ps c R V q m) : w.cell? ⟨a,1,none⟩ = some (int i64 c):=by rw [Blk.cell h]; rfl
theorem AB.at (h : AB w a ps c R V q m) (k : Nat) : w.cell? ⟨a,2 + k,none⟩ = (rwL R ++ (wtL V ++ [.pointer (some ⟨q,0,none⟩), .map (some m)]))[k]? := by
 rw [Blk.cell h,List.getElem?_toArray,show agL ps c R V q m = [.pointer (some ⟨ps,0,none⟩),int i64 c] ++ (rwL R ++ (wtL V ++ [.pointer (some ⟨q,0,none⟩), .map (some m)])) from rfl,List.getElem?_append_right (by simp)]
 congr 1
 simp
theorem AB.cR (h : AB w a ps c R V q m) {i j : Nat} (hi : i < 32) (hj : j < 9) : w.cell? ⟨a,2 + (i * 9 + j),none⟩ = (R i).cs[j]? := by
 rw [h.at,List.getElem?_append_left (by rw [rwL_len]; omega),rwL_at R hi hj]
theorem AB.wait (h : AB w a ps c R V q m) {i : Nat} (hi : i < 32) : w.cell? ⟨a,290 + i,none⟩ = some (int i64 (V i)):=by
 have:=h.at (288 + i)
 rw [show 2 + (288 + i) = 290 + i by omega,List.getElem?_append_right (by rw [rwL_len]; omega),rwL_len,show 288 + i - 288 = i by omega,List.getElem?_append_left (by rw [wtL_len]; omega),wtL_at V hi] at this
 exact this
theorem AB.c322 (h : AB w a ps c R V q m) : w.cell? ⟨a,322,none⟩ = some (.pointer (some ⟨q,0,none⟩)):=by
 have:=h.at 320
 rw [List.getElem?_append_right (by rw [rwL_len]; omega),rwL_len,List.getElem?_append_right (by rw [wtL_len]; omega),wtL_len] at this
 exact this
theorem AB.c323 (h : AB w a ps c R V q m) : w.cell? ⟨a,323,none⟩ = some (.map (some m)):=by
 have:=h.at 321
 rw [List.getElem?_append_right (by rw [rwL_len]; omega),rwL_len,List.getElem?_append_right (by rw [wtL_len]; omega),wtL_len] at this
 exact this
theorem AB.row (h : AB w a ps c R V q m) {i : Nat} (hi : i < 32) : w.cell? ⟨a,2 + i * 9,none⟩ = some (int i64 (R i).po) ∧ w.cell? ⟨a,2 + i * 9 + 1,none⟩ = some (int .u64 (R i).ma) ∧ w.cell? ⟨a,2 + i * 9 + 2,none⟩ = some (int i64 (R i).ow) ∧ w.cell? ⟨a,2 + i * 9 + 3,none⟩ = some (int i64 (R i).ta) ∧ w.cell? ⟨a,2 + i * 9 + 4,none⟩ = some (int i64 (R i).ol) ∧ w.cell? ⟨a,2 + i * 9 + 5,none⟩ = some (int i64 (R i).ge) ∧ w.cell? ⟨a,2 + i * 9 + 6,none⟩ = some (int i64 (R i).ph) ∧ w.cell? ⟨a,2 + i * 9 + 7,none⟩ = some (int i64 (R i).ve) ∧ w.cell? ⟨a,2 + i * 9 + 8,none⟩ = some (int i64 (R i).si):=by
 have g0:=h.cR hi (j:=0) (by decide)
 have g1:=h.cR hi (j:=1) (by decide)
 have g2:=h.cR hi (j:=2) (by decide)
 have g3:=h.cR hi (j:=3) (by decide)
 have g4:=h.cR hi (j:=4) (by decide)
 have g5:=h.cR hi (j:=5) (by decide)
 have g6:=h.cR hi (j:=6) (by decide)
 have g7:=h.cR hi (j:=7) (by decide)
 have g8:=h.cR hi (j:=8) (by decide)
 simp only [← Nat.add_assoc,Nat.add_zero] at g0 g1 g2 g3 g4 g5 g6 g7 g8
 exact ⟨g0,g1,g2,g3,g4,g5,g6,g7,g8⟩
theorem AB.range (h : AB w a ps c R V q m) : w.rangeAt a 2 (rwL R):=fun j v hv=>by
 have hj : j < 288:=by rw [← rwL_len R]; exact (List.getElem?_eq_some_iff.1 hv).1
 rw [h.at,List.getElem?_append_left (by rw [rwL_len]; exact hj)]
 exact hv
end
theorem wtL_set (V : Nat → Int) (i : Nat) (hi : i < 32) (v : Int) : (wtL V).set i (int i64 v) = wtL (at16 V i v):=by
 apply List.ext_getElem?
 intro k
 rw [List.getElem?_set]
 by_cases hk : k < 32
 ·rw [wtL_at (at16 V i v) hk]
  by_cases e : i = k
  ·subst e
   rw [if_pos rfl,if_pos (by rw [wtL_len]; exact hi),at16_self]
  ·rw [if_neg e,wtL_at V hk,at16_ne V v (fun h=>e h.symm)]
 ·rw [if_neg (by omega),List.getElem?_eq_none (by rw [wtL_len]; omega),List.getElem?_eq_none (by rw [wtL_len]; omega)]
theorem AB.setW {w : World} {a ps : Nat} {c : Int} {R : Nat → RV} {V : Nat → Int} {q m : Nat} (h : AB w a ps c R V q m) {i : Nat} (hi : i < 32) (v : Int) : AB (w.setCell ⟨a,290 + i,none⟩ (int i64 v)) a ps c R (at16 V i v) q m:=by
 have:=Blk.set h (290 + i) (int i64 v)
 unfold AB
 rw [List.setIfInBounds_toArray,agL,List.set_append_right _ _ (by simp; omega),List.set_append_right _ _ (by rw [rwL_len]; simp; omega),List.set_append_left _ _ (by rw [rwL_len,wtL_len]; simp; omega)] at this
 rw [show 290 + i - [Value.pointer (some ⟨ps,0,none⟩),int i64 c].length - (rwL R).length = i by rw [rwL_len]; simp; omega,wtL_set V i hi v] at this
 exact this
theorem blk_setCells16 {q : Nat} {T : TypeId} : ∀ (l : List Value) (o : Nat) (w : World) (pre mid post : List Value),pre.length = o → mid.length = l.length → Blk w q T (pre ++ mid ++ post).toArray → Blk (w.setCells q o l) q T (pre ++ l ++ post).toArray
 | [],o,w,pre,mid,post,h1,h2,h=>by
  have : mid = []:=List.eq_nil_of_length_eq_zero h2
  subst this
  exact h
 | v :: l,o,w,pre,mid,post,h1,h2,h=>by
  cases mid with
  | nil=>simp at h2
  | cons m mid =>
   have hs:=Blk.set h o v
   have e : (pre ++ (m :: mid) ++ post).toArray.setIfInBounds o v = ((pre ++ [v]) ++ mid ++ post).toArray:=by
    rw [List.setIfInBounds_toArray, ← h1]
    congr 1
    simp
   rw [e] at hs
   have:=blk_setCells16 l (o + 1) _ (pre ++ [v]) mid post (by simp; omega) (by simpa using h2) hs
   rw [World.setCells]
   rw [show pre ++ [v] ++ l ++ post = pre ++ v :: l ++ post by simp] at this
   exact this
theorem chg_setCells16 {q : Nat} : ∀ (l : List Value) (o : Nat) (w : World),Chg (fun k=>k = q) w (w.setCells q o l)
 | [],o,w=>Chg.refl _ _
 | v :: l,o,w=>by
  rw [World.setCells]
  exact ((Chg.refl (fun k=>k = q) w).put q o (fun _=>rfl) v).trans (chg_setCells16 l (o + 1) _) (fun _ _ e=>e)
theorem range_split16 : ∀ i,i < 32 → List.range 32 = List.range i ++ i :: List.range' (i + 1) (31 - i):=by decide
theorem fm_congr16 {α β : Type} {f g : α → List β} : ∀ (l : List α),(∀ x ∈ l,f x = g x) → l.flatMap f = l.flatMap g
 | [],_=>rfl
 | x :: l,h=>by rw [List.flatMap_cons,List.flatMap_cons,h x (by simp),fm_congr16 l (fun y hy=>h y (by simp [hy]))]
theorem AB.setR {w : World} {a ps : Nat} {c : Int} {R : Nat → RV} {V : Nat → Int} {q m : Nat} (h : AB w a ps c R V q m) {i : Nat} (hi : i < 32) (x : RV) : AB (w.setCells a (2 + i * 9) x.cs.toList) a ps c (at16 R i x) V q m:=by
 have e1 : rwL R = (List.range i).flatMap (fun i : Nat=>(R i).cs.toList) ++ ((R i).cs.toList ++ (List.range' (i + 1) (31 - i)).flatMap (fun i : Nat=>(R i).cs.toList)):=by
  unfold rwL
  rw [range_split16 i hi,List.flatMap_append,List.flatMap_cons]
 have e2 : rwL (at16 R i x) = (List.range i).flatMap (fun i : Nat=>(R i).cs.toList) ++ (x.cs.toList ++ (List.range' (i + 1) (31 - i)).flatMap (fun i : Nat=>(R i).cs.toList)):=by
  unfold rwL
  rw [range_split16 i hi,List.flatMap_append,List.flatMap_cons,at16_self,fm_congr16 (List.range i) (fun k hk=>by rw [at16_ne R x (by have:=List.mem_range.1 hk; omega)]),fm_congr16 (List.range' (i + 1) (31 - i)) (fun k hk=>by rw [at16_ne R x (by have:=(List.mem_range'_1.1 hk).1; omega)])]
 have hl : ([Value.pointer (some ⟨ps,0,none⟩),int i64 c] ++ (List.range i).flatMap (fun i : Nat=>(R i).cs.toList)).length = 2 + i * 9:=by
  rw [List.length_append,show (List.range i).flatMap (fun i : Nat=>(R i).cs.toList) = ((List.range i).map R).flatMap (fun x=>x.cs.toList) by rw [List.flatMap_map],flat9_len,List.length_map,List.length_range]
  rfl
 unfold AB agL at h ⊢
 rw [e1] at h
 rw [e2]
 have:=blk_setCells16 x.cs.toList (2 + i * 9) w ([Value.pointer (some ⟨ps,0,none⟩),int i64 c] ++ (List.range i).flatMap (fun i : Nat=>(R i).cs.toList)) (R i).cs.toList ((List.range' (i + 1) (31 - i)).flatMap (fun i : Nat=>(R i).cs.toList) ++ (wtL V ++ [.pointer (some ⟨q,0,none⟩), .map (some m)])) hl rfl (by simpa only [List.append_assoc] using h)
 simpa only [List.append_assoc] using this
def agD (a ps : Nat) (o : Option Nat) (q : Nat) (oq : Option Nat) (m : Nat) : Nat → Prop:=fun k=>k = a ∨ k = ps ∨ o = some k ∨ k = q ∨ oq = some k ∨ k = m
structure AP (w : World) (a ps : Nat) (o : Option Nat) (q : Nat) (oq : Option Nat) (m : Nat) (x : AV) : Prop where
 ab : AB w a ps x.c x.R x.V q m
 sn : SN w ps o (fun k => ¬ agD a ps o q oq m k) x.s
 tn : TN 106 w q oq x.life x.fl
 tm : TM w m x.td
theorem blk_two16 {w : World} {q q' : Nat} {T T' : TypeId} {cs cs' : Array Value} (h : Blk w q T cs) (h' : Blk w q' T' cs') (ht : T ≠ T') : q ≠ q':=by
 rintro rfl
 have e:=h.symm.trans h'
 simp only [Option.some.injEq,Obj.cells.injEq] at e
 exact ht e.2.1
theorem own_two16 {w : World} {b b' : Nat} {e e' : TypeId} {s s' n n' c c' : Nat} {A A' : Option Addr} {xs xs' : List Value} (h : w.ownsRow b e s (.slice A n c) n xs) (h' : w.ownsRow b' e' s' (.slice A' n' c') n' xs') (ht : e ≠ e') : ∀ k,A.map (·.block) = some k → A'.map (·.block) ≠ some k:=by
 intro k hk hk'
 rcases h.2 with ⟨hv,_⟩ | ⟨g,cap,cur,hv,_,hh,_⟩
 ·injection hv with hv
  subst hv
  cases hk
 ·injection hv with hv
  subst hv
  have hg : g = k:=by simpa using hk
  subst hg
  exact own_ne_blk h' (show Blk w g e cur from hh) ht hk'
structure Ap16 (a ps : Nat) (o : Option Nat) (q : Nat) (oq : Option Nat) (m : Nat) : Prop where
 aps : a ≠ ps
 aq : a ≠ q
 am : a ≠ m
 pq : ps ≠ q
 pm : ps ≠ m
 qm : q ≠ m
 oa : o ≠ some a
 op : o ≠ some ps
 oqn : o ≠ some q
 om : o ≠ some m
 ta : oq ≠ some a
 tp : oq ≠ some ps
 tq : oq ≠ some q
 tm : oq ≠ some m
 ot : ∀ k,o = some k → oq ≠ some k
section
variable {w w' : World} {a ps : Nat} {o : Option Nat} {q : Nat} {oq : Option Nat} {m : Nat} {x : AV}
theorem AP.ap (h : AP w a ps o q oq m x) : Ap16 a ps o q oq m:=by
 have h1:=h.ab
 obtain ⟨A,c,vs,hb,hown,ho,_⟩:=h.sn
 obtain ⟨A2,c2,hb2,hown2,ho2,_⟩:=h.tn
 have hm:=h.tm
 have hrow : ∀ {e : TypeId} {s n c : Nat} {A : Option Addr} {xs : List Value},w.ownsRow 0 e s (.slice A n c) n xs → A.map (·.block) ≠ some m:=fun hh e=>by
  obtain ⟨es,cl,hmm,_⟩:=hm
  have:=row_cells hh e hmm
  cases this
 refine ⟨blk_two16 h1 hb (by decide),blk_two16 h1 hb2 (by decide),hm.ne h1,blk_two16 hb hb2 (by decide),hm.ne hb,hm.ne hb2, ?_, ?_, ?_, ?_, ?_, ?_, ?_, ?_, ?_⟩
 ·rw [← ho]; exact own_ne_blk hown h1 (by decide)
 ·rw [← ho]; exact own_ne_blk hown hb (by decide)
 ·rw [← ho]; exact own_ne_blk hown hb2 (by decide)
 ·rw [← ho]; exact hrow hown
 ·rw [← ho2]; exact own_ne_blk hown2 h1 (by decide)
 ·rw [← ho2]; exact own_ne_blk hown2 hb (by decide)
 ·rw [← ho2]; exact own_ne_blk hown2 hb2 (by decide)
 ·rw [← ho2]; exact hrow hown2
 ·intro k hk
  rw [← ho2]
  exact own_two16 hown hown2 (by decide) k (by rw [ho]; exact hk)
theorem AP.lt (h : AP w a ps o q oq m x) : ∀ k,agD a ps o q oq m k → k < w.heap.size:=by
 have h1:=Blk.lt h.ab
 have h2:=h.sn.lt
 have h3:=h.tn.lt
 have h4:=h.tm.lt
 rintro k (rfl | rfl | hk | rfl | hk | rfl)
 ·exact h1
 ·exact h2.1
 ·exact h2.2 k hk
 ·exact h3.1
 ·exact h3.2 k hk
 ·exact h4
theorem AP.keep {S : Nat → Prop} (h : AP w a ps o q oq m x) (hc : Chg S w w') (hd : ∀ k,S k → False) : AP w' a ps o q oq m x :=
 ⟨h.ab.chg hc (fun e=>hd _ e),h.sn.chg hc (fun e=>hd _ e) (fun _ _ e=>hd _ e) (fun _ _ e=>hd _ e),h.tn.chg hc (fun e=>hd _ e) (fun _ _ e=>hd _ e),h.tm.chg hc (fun e=>hd _ e)⟩
theorem AP.new (h : AP w a ps o q oq m x) (hc : Chg (fun _=>False) w w') : AP w' a ps o q oq m x:=h.keep hc (fun _ e=>e)
theorem AP.own (h : AP w a ps o q oq m x) (hc : Chg (fun k=>k = a) w w') {y : AV} (hb : AB w' a ps y.c y.R y.V q m) (hs : y.s = x.s) (hl : y.life = x.life) (hf : y.fl = x.fl) (ht : y.td = x.td) : AP w' a ps o q oq m y:=by
 have p:=h.ap
 refine ⟨hb, ?_, ?_, ?_⟩
 ·rw [hs]; exact h.sn.chg hc (fun e=>p.aps e.symm) (fun k hk e=>p.oa (by rw [hk,e])) (fun k hk e=>hk (.inl e))
 ·rw [hl,hf]; exact h.tn.chg hc (fun e=>p.aq e.symm) (fun k hk e=>p.ta (by rw [hk,e]))
 ·rw [ht]; exact h.tm.chg hc (fun e=>p.am e.symm)
theorem AP.told (h : AP w a ps o q oq m x) (hc : Chg (fun k=>k = m) w w') {f : Int → Int → Option Int} (hm : TM w' m f) : AP w' a ps o q oq m { x with td:=f }:=by
 have p:=h.ap
 exact ⟨h.ab.chg hc p.am,h.sn.chg hc p.pm (fun k hk e=>p.om (by rw [hk,e])) (fun k hk e=>hk (.inr (.inr (.inr (.inr (.inr e)))))),h.tn.chg hc p.qm (fun k hk e=>p.tm (by rw [hk,e])),hm⟩
theorem AP.sess (h : AP w a ps o q oq m x) {y : SV} (hs : SM ps o (fun k => ¬ agD a ps o q oq m k) y w w') : ∃ o',AP w' a ps o' q oq m { x with s:=y } ∧ Chg (agD a ps o q oq m) w w' ∧ ∀ k,agD a ps o' q oq m k → agD a ps o q oq m k ∨ w.heap.size ≤ k:=by
 have p:=h.ap
 have hlt:=h.lt
 obtain ⟨o',hsn,hm⟩:=hs
 have hD : ∀ k,agD a ps o' q oq m k → agD a ps o q oq m k ∨ w.heap.size ≤ k:=by
  rintro k (rfl | rfl | hk | rfl | hk | rfl)
  ·exact .inl (.inl rfl)
  ·exact .inl (.inr (.inl rfl))
  ·rcases hm.2 with e | e | ⟨j,e,hj⟩
   ·exact .inl (.inr (.inr (.inl (by rw [← e]; exact hk))))
   ·rw [e] at hk; cases hk
   ·rw [e] at hk; injection hk with hk; exact .inr (by omega)
  ·exact .inl (.inr (.inr (.inr (.inl rfl))))
  ·exact .inl (.inr (.inr (.inr (.inr (.inl hk)))))
  ·exact .inl (.inr (.inr (.inr (.inr (.inr rfl)))))
 have hc : Chg (agD a ps o q oq m) w w':=hm.1.mono (fun k _ e=>e.elim (fun e => .inr (.inl e)) (fun e => .inr (.inr (.inl e))))
 refine ⟨o',⟨h.ab.chg hm.1 ?_, ?_,h.tn.chg hm.1 ?_ ?_,h.tm.chg hm.1 ?_⟩,hc,hD⟩
 ·rintro (e | e)
  ·exact p.aps e
  ·exact p.oa e
 ·obtain ⟨g1,g2⟩:=GN.ok h.sn hm
  refine hsn.mono (fun k hk hkl => ?_) (fun e=>e (.inr (.inl rfl))) (fun k hk e=>e (.inr (.inr (.inl hk))))
  intro e
  rcases hk with hk | hk
  ·rcases hD k e with e | e
   ·exact hk.1 e
   ·omega
  ·rcases e with rfl | rfl | e | rfl | e | rfl
   ·have:=hlt k (.inl rfl); omega
   ·have:=hlt k (.inr (.inl rfl)); omega
   ·exact hk.2 e
   ·have:=hlt k (.inr (.inr (.inr (.inl rfl)))); omega
   ·have:=hlt k (.inr (.inr (.inr (.inr (.inl e))))); omega
   ·have:=hlt k (.inr (.inr (.inr (.inr (.inr rfl))))); omega
 ·rintro (e | e)
  ·exact p.pq e.symm
  ·exact p.oqn e
 ·rintro k hk (e | e)
  ·exact p.tp (by rw [hk,e])
  ·exact p.ot k e hk
 ·rintro (e | e)
  ·exact p.pm e.symm
  ·exact p.om e
theorem AP.flows (h : AP w a ps o q oq m x) {l : List Rc} {oq' : Option Nat} (ht : TN 106 w' q oq' x.life l) (hm : Mvd q oq oq' w w') : AP w' a ps o q oq' m { x with fl := l } ∧ Chg (agD a ps o q oq m) w w' ∧ ∀ k, agD a ps o q oq' m k → agD a ps o q oq m k ∨ w.heap.size ≤ k := by
  have p := h.ap
  have hlt := h.lt
  have hD : ∀ k, agD a ps o q oq' m k → agD a ps o q oq m k ∨ w.heap.size ≤ k := by
    rintro k (rfl | rfl | hk | rfl | hk | rfl)
    · exact .inl (.inl rfl)
    · exact .inl (.inr (.inl rfl))
    · exact .inl (.inr (.inr (.inl hk)))
    · exact .inl (.inr (.inr (.inr (.inl rfl))))
    · rcases hm.2 with e | e | ⟨j, e, hj⟩
      · exact .inl (.inr (.inr (.inr (.inr (.inl (by rw [← e]; exact hk))))))
      · rw [e] at hk; cases hk
      · rw [e] at hk; injection hk with hk; exact .inr (by omega)
    · exact .inl (.inr (.inr (.inr (.inr (.inr rfl)))))
  have hc : Chg (agD a ps o q oq m) w w' := hm.1.mono (fun k _ e => e.elim (fun e => .inr (.inr (.inr (.inl e)))) (fun e => .inr (.inr (.inr (.inr (.inl e))))))
  refine ⟨⟨h.ab.chg hm.1 ?_, ?_, ht, h.tm.chg hm.1 ?_⟩, hc, hD⟩
  · rintro (e | e)
    · exact p.aq e
    · exact p.ta e
  · have hs := (h.sn.old).chg hm.1 (by
      rintro (e | e)
      · exact p.pq e
      · exact p.tp e) (by
      rintro k hk (e | e)
      · exact p.oqn (by rw [hk, e])
      · exact p.ot k hk e) (by
      rintro k hk (e | e)
      · exact hk.1 (.inr (.inr (.inr (.inl e))))
      · exact hk.1 (.inr (.inr (.inr (.inr (.inl e))))))
    refine hs.mono (fun k hk _ e => ?_) (fun e => e (.inr (.inl rfl))) (fun k hk e => e (.inr (.inr (.inl hk))))
    rcases hD k e with e | e
    · exact hk.1 e
    · omega
  · rintro (e | e)
    · exact p.qm e.symm
    · exact p.tm e
end
def AM (w : World) (a ps q m : Nat) (D : Nat → Prop) (x : AV) : Prop := ∃ o oq,D = agD a ps o q oq m ∧ AP w a ps o q oq m x
def Mv16 (D D' : Nat → Prop) (w w' : World) : Prop:=Chg D w w' ∧ ∀ k,D' k → D k ∨ w.heap.size ≤ k
def AMv (a ps q m : Nat) (D : Nat → Prop) (x : AV) (w w' : World) : Prop := ∃ D',AM w' a ps q m D' x ∧ Mv16 D D' w w'
section
variable {w w' w1 w2 : World} {a ps q m : Nat} {D D1 D2 : Nat → Prop} {x : AV}
theorem AM.lt (h : AM w a ps q m D x) : ∀ k,D k → k < w.heap.size:=by
 obtain ⟨o,oq,rfl,h⟩:=h
 exact h.lt
theorem AM.new (h : AM w a ps q m D x) (hc : Chg (fun _=>False) w w') : AM w' a ps q m D x:=by
 obtain ⟨o,oq,e,h⟩:=h
 exact ⟨o,oq,e,h.new hc⟩
theorem AM.ab (h : AM w a ps q m D x) : AB w a ps x.c x.R x.V q m:=by
 obtain ⟨o,oq,e,h⟩:=h
 exact h.ab
theorem Mv16.refl (D : Nat → Prop) (w : World) : Mv16 D D w w:=⟨Chg.refl _ _,fun k h => .inl h⟩
theorem Mv16.trans (h : Mv16 D D1 w w1) (h2 : Mv16 D1 D2 w1 w2) : Mv16 D D2 w w2 :=
 ⟨h.1.trans h2.1 (fun k hk e=>(h.2 k e).elim id (fun e=>by omega)),fun k e=>(h2.2 k e).elim (h.2 k) (fun e => .inr (Nat.le_trans h.1.size e))⟩
theorem Mv16.of (hc : Chg (fun _=>False) w w') : Mv16 D D w w':=⟨hc.mono (fun _ _ e=>e.elim),fun k h => .inl h⟩
theorem AMv.refl (h : AM w a ps q m D x) : AMv a ps q m D x w w:=⟨D,h,Mv16.refl _ _⟩
theorem AM.own (h : AM w a ps q m D x) (hc : Chg (fun k=>k = a) w w') {y : AV} (hb : AB w' a ps y.c y.R y.V q m) (hs : y.s = x.s) (hl : y.life = x.life) (hf : y.fl = x.fl) (ht : y.td = x.td) : AM w' a ps q m D y ∧ Mv16 D D w w':=by
 obtain ⟨o,oq,rfl,h⟩:=h
 exact ⟨⟨o,oq,rfl,h.own hc hb hs hl hf ht⟩,hc.mono (fun k _ e => .inl e),fun k e => .inl e⟩
theorem AM.own_ne (h : AM w a ps q m D x) : D a:=by
 obtain ⟨o,oq,rfl,h⟩:=h
 exact .inl rfl
end
end Go.Proofs.YtfajcdobikjcdaaGreatDoor
