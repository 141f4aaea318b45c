/-
  Walks: rutterlaw07.alive, Fits. Conditions: the acts are read in memory.
-/
import Derived.Test.YtnojmbejedlilaaGreatKQLf
set_option linter.unusedVariables false
set_option linter.unusedSimpArgs false
namespace Go.Proofs.YtnojmbejedlilaaGreat
open Go.Value renaming int→U
open Go.IntKind renaming i64→Z
open Go.RowKit
def DA(W:World)(p:Nat)(bs:List UInt8)(s r:Nat)(w:World):Prop:=
 Chg (fun _=>False) W w∧W.heap.size≤p∧∃o,Fi 80 w p o bs s r∧∀k,o=some k→W.heap.size≤k
section
variable {W w w' : World} {p : Nat} {bs bs1 : List UInt8} {s s1 r : Nat} {o o' : Option Nat}
theorem DA.new(h:DA W p bs s r w)(hc:Chg (fun _=>False) w w'):DA W p bs s r w':=by
 obtain⟨h1,h2,o,h3,h4⟩:=h;exact⟨h1.tr hc,h2,o,h3.chg hc id (fun _ _=>id),h4⟩
theorem rG(r:Nat)(h:r≤16777216):Calls Tryz.prog 8 #[U Z (r:Int)] W fun e w'=>e=.returned (.tuple #[.pointer (some ⟨W.heap.size,0,none⟩),U Z 0])∧DA W W.heap.size [] 0 r w':=by
 refine(wg r W h).mono ?_;rintro e w' ⟨rfl,hf,_,hc⟩;exact⟨rfl,hc,Nat.le_refl _,none,hf,fun k hk=>by cases hk⟩
end
structure At7 where
 k:Int
 BA:Option Addr
 bq:Nat
 bc:Nat
 b:List UInt8
 n:Int
def AR7(w:World)(S:Nat→Prop)(L:Option Addr)(m:Nat)(l:List At7):Prop:=
 m=l.length∧(0<m→∃ad,L=some ad∧S ad.block∧ad.block<w.heap.size∧∀(i:Nat) (x:At7),l[i]?=some x→
  w.cell? (ad.add (i*3))=some (U .u8 x.k)∧w.cell? (ad.add (i*3+1))=some (.slice x.BA x.bq x.bc)∧w.cell? (ad.add (i*3+2))=some (U Z x.n)∧
  (0≤x.k∧x.k≤255)∧x.bq=x.b.length∧x.bq≤9223372036854775807∧Rds w S x.BA x.bq (bcs x.b))
section
variable {w w' : World} {S S' : Nat → Prop} {L : Option Addr} {m : Nat} {l : List At7}
theorem AR7.chg(h:AR7 w S L m l)(hc:Chg S' w w')(hd:∀k,S k→¬S' k):AR7 w' S L m l:=by
 refine⟨h.1,fun hm=>?_⟩;obtain⟨ad,e,hs,hb,hcell⟩:=h.2 hm;refine⟨ad,e,hs,Nat.lt_of_lt_of_le hb hc.size,fun i x hi=>?_⟩;obtain⟨h1,h2,h3,h4,h5,h6,h7⟩:=hcell i x hi;have e1:∀j,w'.cell? (ad.add j)=w.cell? (ad.add j):=fun j=>World.cell?_of_block (w:=w) (w':=w') (by rw[bP];exact hc.block _ hb (hd _ hs));rw[e1,e1,e1];exact⟨h1,h2,h3,h4,h5,h6,h7.chg hc hd⟩
theorem AR7.at{ad:Addr}{i:Nat}{x:At7}(h:AR7 w S (some ad) m l)(hi:l[i]?=some x):
  w.cell? (ad.add (i*3))=some (U .u8 x.k)∧w.cell? ⟨(ad.add (i*3)).block,(ad.add (i*3)).off+1,none⟩=some (.slice x.BA x.bq x.bc)∧w.cell? ⟨(ad.add (i*3)).block,(ad.add (i*3)).off+2,none⟩=some (U Z x.n)∧
  (0≤x.k∧x.k≤255)∧x.bq=x.b.length∧x.bq≤9223372036854775807∧Rds w S x.BA x.bq (bcs x.b):=by
 have hl:i<l.length:=(List.getElem?_eq_some_iff.1 hi).1;obtain⟨ad',e,_,_,hc⟩:=h.2 (by have:=h.1;omega);injection e with e;subst e;have h2:=hc i x hi;rw[←dM,←dM]at h2;exact h2
end
end Go.Proofs.YtnojmbejedlilaaGreat
