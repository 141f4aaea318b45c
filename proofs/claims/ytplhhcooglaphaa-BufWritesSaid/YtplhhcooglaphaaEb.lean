/-
  Walk: rutterlaw01.BufWrites, its parts: two writers and the acts under one word. Conditions: the arguments are read in memory.
-/
import Derived.Test.YtplhhcooglaphaaEa
namespace Go.Proofs.Ytplhhcooglaphaa
open Go.RowKit

/-- The world of a walk that began in W: nothing of W has turned, the acts read as they did; two writers (blocks p1, p2; bytes at o1, o2) are in the states s1, s2. -/
structure EE (W : World) (L : Option Addr) (m : Nat) (l : List ActT) (p1 p2 : Nat) (s1 s2 : Option (List UInt8)) (N1 N2 : Nat) (o1 o2 : Option Nat) (w : World) : Prop where
  chg : Chg (fun _ => False) W w
  acts : ActR w (fun k => k < W.heap.size) L m l
  lo1 : W.heap.size ≤ p1
  lo2 : W.heap.size ≤ p2
  w1 : Wr 28 5 w p1 o1 s1 N1
  w2 : Wr 31 5 w p2 o2 s2 N2
  ol1 : ∀ k, o1 = some k → W.heap.size ≤ k ∧ k ≠ p2
  ol2 : ∀ k, o2 = some k → W.heap.size ≤ k ∧ k ≠ p1
  ne : p1 ≠ p2
  neo : ∀ k, o1 = some k → o2 ≠ some k
section
variable {W w w' : World} {L : Option Addr} {m : Nat} {l : List ActT} {p1 p2 : Nat} {s1 s2 s' : Option (List UInt8)} {N1 N2 N' : Nat} {o1 o2 o' : Option Nat}
theorem EE.set1 (h : EE W L m l p1 p2 s1 s2 N1 N2 o1 o2 w) (hw : Wr 28 5 w' p1 o' s' N') (hm : Mvd p1 o1 o' w w') : EE W L m l p1 p2 s' s2 N' N2 o' o2 w' := by
  obtain ⟨hC, ho⟩ := fresh_mvd h.chg hm h.lo1 (fun k hk => (h.ol1 k hk).1)
  have hne := h.ne
  have hlo := h.lo1
  have hlt := h.w2.lt
  refine ⟨hC, h.acts.chg hm.1 (fun k hk e => ?_), h.lo1, h.lo2, hw, h.w2.chg hm.1 (fun e => ?_) (fun k hk e => ?_), fun k hk => ⟨ho k hk, ?_⟩, h.ol2, hne, fun k hk e => ?_⟩
  · rcases e with e | e
    · omega
    · have := (h.ol1 k e).1
      omega
  · rcases e with e | e
    · exact hne e.symm
    · exact (h.ol1 _ e).2 rfl
  · rcases e with e | e
    · exact (h.ol2 k hk).2 e
    · exact h.neo k e hk
  · rcases hm.2 with e | e | ⟨j, e, hj⟩
    · exact (h.ol1 k (by rw [← e, hk])).2
    · rw [e] at hk; cases hk
    · rw [e] at hk
      injection hk with hk
      omega
  · rcases hm.2 with e1 | e1 | ⟨j, e1, hj⟩
    · exact h.neo k (by rw [← e1, hk]) e
    · rw [e1] at hk; cases hk
    · rw [e1] at hk
      injection hk with hk
      have := hlt.2 k e
      omega
theorem EE.set2 (h : EE W L m l p1 p2 s1 s2 N1 N2 o1 o2 w) (hw : Wr 31 5 w' p2 o' s' N') (hm : Mvd p2 o2 o' w w') : EE W L m l p1 p2 s1 s' N1 N' o1 o' w' := by
  obtain ⟨hC, ho⟩ := fresh_mvd h.chg hm h.lo2 (fun k hk => (h.ol2 k hk).1)
  have hne := h.ne
  have hlo := h.lo2
  have hlt := h.w1.lt
  refine ⟨hC, h.acts.chg hm.1 (fun k hk e => ?_), h.lo1, h.lo2, h.w1.chg hm.1 (fun e => ?_) (fun k hk e => ?_), hw, h.ol1, fun k hk => ⟨ho k hk, ?_⟩, hne, fun k hk e => ?_⟩
  · rcases e with e | e
    · omega
    · have := (h.ol2 k e).1
      omega
  · rcases e with e | e
    · exact hne e
    · exact (h.ol2 _ e).2 rfl
  · rcases e with e | e
    · exact (h.ol1 k hk).2 e
    · exact h.neo k hk e
  · rcases hm.2 with e | e | ⟨j, e, hj⟩
    · exact (h.ol2 k (by rw [← e, hk])).2
    · rw [e] at hk; cases hk
    · rw [e] at hk
      injection hk with hk
      omega
  · rcases hm.2 with e1 | e1 | ⟨j, e1, hj⟩
    · exact h.neo k hk (by rw [← e1, e])
    · rw [e1] at e; cases e
    · rw [e1] at e
      injection e with e
      have := hlt.2 k hk
      omega
theorem EE.new (h : EE W L m l p1 p2 s1 s2 N1 N2 o1 o2 w) (hc : Chg (fun _ => False) w w') : EE W L m l p1 p2 s1 s2 N1 N2 o1 o2 w' :=
  ⟨h.chg.trans hc (fun _ _ e => e), h.acts.chg hc (fun _ _ => id), h.lo1, h.lo2, h.w1.chg hc id (fun _ _ => id), h.w2.chg hc id (fun _ _ => id), h.ol1, h.ol2, h.ne, h.neo⟩
theorem EE.drew (h : EE W L m l p1 p2 s1 s2 N1 N2 o1 o2 w) : EE W L m l p1 p2 s1 s2 N1 N2 o1 o2 w.drew := h.new (Chg.refl _ w).drew
/-- The world, and where the bytes lie, let go. -/
def EX (W : World) (L : Option Addr) (m : Nat) (l : List ActT) (p1 p2 : Nat) (s1 s2 : Option (List UInt8)) (N1 N2 : Nat) (w : World) : Prop := ∃ o1 o2, EE W L m l p1 p2 s1 s2 N1 N2 o1 o2 w

theorem ex_put1 (h : EX W L m l p1 p2 s1 s2 N1 N2 w) {x : ActT} (hx : ActOk w (fun k => k < W.heap.size) x) (hbig : N1 + 8 * x.lm ≤ 1000000000000) :
    Calls Try.prog 10 #[.pointer (some ⟨p1, 0, none⟩), .int .i64 x.n, .slice x.LA x.lm x.lc] w fun e w' => e = .returned (.pointer (some ⟨p1, 0, none⟩)) ∧ EX W L m l p1 p2 (putS x.n x.l s1) s2 (N1 + 8 * x.lm) N2 w' := by
  obtain ⟨o1, o2, h⟩ := h
  refine (put_any p1 o1 s1 N1 x.n x.l x.LA x.lm x.lc w _ h.w1 hx.lm hx.nums (fun k hk => ⟨by have := h.lo1; omega, fun e => by have := (h.ol1 k e).1; omega⟩) hx.range hbig).mono ?_
  rintro e w' ⟨rfl, o', hw, hm⟩
  exact ⟨rfl, o', o2, h.set1 hw hm⟩
theorem ex_put2 (h : EX W L m l p1 p2 s1 s2 N1 N2 w) {x : ActT} (hx : ActOk w (fun k => k < W.heap.size) x) (hbig : N2 + 8 * x.lm ≤ 1000000000000) :
    Calls Try.prog 11 #[.pointer (some ⟨p2, 0, none⟩), .int .i64 x.n, .slice x.LA x.lm x.lc] w fun e w' => e = .returned (.tuple #[]) ∧ EX W L m l p1 p2 s1 (putS x.n x.l s2) N1 (N2 + 8 * x.lm) w' := by
  obtain ⟨o1, o2, h⟩ := h
  refine (rputs_any p2 o2 s2 N2 x.n x.l x.LA x.lm x.lc w _ h.w2 hx.lm hx.nums (fun k hk => ⟨by have := h.lo2; omega, fun e => by have := (h.ol2 k e).1; omega⟩) hx.range hbig).mono ?_
  rintro e w' ⟨rfl, o', hw, hm⟩
  exact ⟨rfl, o1, o', h.set2 hw hm⟩
theorem ex_bytes1 (h : EX W L m l p1 p2 s1 s2 N1 N2 w) {x : ActT} (hx : ActOk w (fun k => k < W.heap.size) x) (hbig : N1 + 8 + x.bq ≤ 1000000000000) :
    Calls Try.prog 8 #[.pointer (some ⟨p1, 0, none⟩), .slice x.BA x.bq x.bc] w fun e w' => e = .returned (.pointer (some ⟨p1, 0, none⟩)) ∧ EX W L m l p1 p2 (bytesS x.b s1) s2 (N1 + 8 + x.bq) N2 w' := by
  obtain ⟨o1, o2, h⟩ := h
  refine (wbytes_any p1 o1 s1 N1 x.BA x.bq x.bc x.b _ w h.w1 hx.bq hx.bytes (fun k hk => ⟨by have := h.lo1; omega, fun e => by have := (h.ol1 k e).1; omega⟩) hbig).mono ?_
  rintro e w' ⟨rfl, o', hw, hm⟩
  exact ⟨rfl, o', o2, h.set1 hw hm⟩
theorem ex_bytes2 (h : EX W L m l p1 p2 s1 s2 N1 N2 w) {x : ActT} (hx : ActOk w (fun k => k < W.heap.size) x) (hbig : N2 + 8 + x.bq ≤ 1000000000000) :
    Calls Try.prog 9 #[.pointer (some ⟨p2, 0, none⟩), .slice x.BA x.bq x.bc] w fun e w' => e = .returned (.tuple #[]) ∧ EX W L m l p1 p2 s1 (bytesS x.b s2) N1 (N2 + 8 + x.bq) w' := by
  obtain ⟨o1, o2, h⟩ := h
  refine (rwbytes_any p2 o2 s2 N2 x.BA x.bq x.bc x.b _ w h.w2 hx.bq hx.bytes (fun k hk => ⟨by have := h.lo2; omega, fun e => by have := (h.ol2 k e).1; omega⟩) hbig).mono ?_
  rintro e w' ⟨rfl, o', hw, hm⟩
  exact ⟨rfl, o1, o', h.set2 hw hm⟩
theorem EX.at {ad : Addr} {i : Nat} {x : ActT} (h : EX W (some ad) m l p1 p2 s1 s2 N1 N2 w) (hi : l[i]? = some x) :
    w.cell? (ad.add (i * 4)) = some (.int .u8 (x.k : Int)) ∧ w.cell? ⟨(ad.add (i * 4)).block, (ad.add (i * 4)).off + 1, none⟩ = some (.int .i64 x.n) ∧
    w.cell? ⟨(ad.add (i * 4)).block, (ad.add (i * 4)).off + 2, none⟩ = some (.slice x.LA x.lm x.lc) ∧ w.cell? ⟨(ad.add (i * 4)).block, (ad.add (i * 4)).off + 3, none⟩ = some (.slice x.BA x.bq x.bc) ∧ ActOk w (fun k => k < W.heap.size) x := by
  obtain ⟨o1, o2, h⟩ := h
  exact h.acts.at hi
theorem EX.drew (h : EX W L m l p1 p2 s1 s2 N1 N2 w) : EX W L m l p1 p2 s1 s2 N1 N2 w.drew := by
  obtain ⟨o1, o2, h⟩ := h
  exact ⟨o1, o2, h.drew⟩
theorem EX.more (h : EX W L m l p1 p2 s1 s2 N1 N2 w) {M1 M2 : Nat} (h1 : N1 ≤ M1) (h2 : N2 ≤ M2) : EX W L m l p1 p2 s1 s2 M1 M2 w := by
  obtain ⟨o1, o2, h⟩ := h
  exact ⟨o1, o2, h.chg, h.acts, h.lo1, h.lo2, h.w1.more h1, h.w2.more h2, h.ol1, h.ol2, h.ne, h.neo⟩
theorem EX.start (W : World) (L : Option Addr) (m : Nat) (l : List ActT) (h : ActR W (fun k => k < W.heap.size) L m l) :
    EX W L m l W.heap.size (W.heap.size + 1) (some []) (some []) 0 0 ((W.alloc (.cells #[.slice none 0 0, .bool false] 28)).alloc (.cells #[.slice none 0 0, .bool false] 31)) := by
  have hc1 : Chg (fun _ => False) W (W.alloc (.cells #[.slice none 0 0, .bool false] 28)) := (Chg.refl _ W).alloc _
  have hc2 : Chg (fun _ => False) (W.alloc (.cells #[.slice none 0 0, .bool false] 28)) ((W.alloc (.cells #[.slice none 0 0, .bool false] 28)).alloc (.cells #[.slice none 0 0, .bool false] 31)) := (Chg.refl _ _).alloc _
  have h2 := wr_new 31 5 (W.alloc (.cells #[.slice none 0 0, .bool false] 28))
  rw [World.size_alloc] at h2
  exact ⟨none, none, hc1.trans hc2 (fun _ _ e => e), (h.chg hc1 (fun _ _ => id)).chg hc2 (fun _ _ => id), Nat.le_refl _, Nat.le_succ _, (wr_new 28 5 W).chg hc2 id (fun _ _ => id), h2,
    (fun k hk => by cases hk), (fun k hk => by cases hk), by omega, (fun k hk => by cases hk)⟩
end

end Go.Proofs.Ytplhhcooglaphaa
