/-
  Letters in a row, plain and in memory; append of structs onto what is owned. No condition.
-/
import Derived.Test.YtbbjecjhkjjbkaaGd
namespace Go.Proofs.Ytbbjecjhkjjbkaa
open Go.RowKit
set_option linter.unusedVariables false

/-- A letter. -/
structure LV where
  mi : Int
  pe : Int
  ac : Int
  se : Int
  b : List UInt8
/-- A letter as it lies in memory. -/
structure LA where
  mi : Int
  pe : Int
  ac : Int
  se : Int
  A : Option Addr
  n : Nat
  c : Nat
def LA.cs (y : LA) : Array Value := ltC y.mi y.pe y.ac y.se y.A y.n y.c
def LA.is (w : World) (S : Nat → Prop) (y : LA) (l : LV) : Prop := y.mi = l.mi ∧ y.pe = l.pe ∧ y.ac = l.ac ∧ y.se = l.se ∧ y.n = l.b.length ∧ (y.A = none → y.c = 0) ∧ Rds w S y.A y.n (bcs l.b)
/-- Letters in memory are these letters; their bodies lie in blocks of S. -/
def LB (w : World) (S : Nat → Prop) (ys : List LA) (ls : List LV) : Prop := ys.length = ls.length ∧ ∀ (i : Nat) (y : LA) (l : LV), ys[i]? = some y → ls[i]? = some l → LA.is w S y l
section
variable {w w' : World} {S S' : Nat → Prop} {ys : List LA} {ls : List LV}
theorem LA.is_mono {y : LA} {l : LV} (h : LA.is w S y l) (hs : ∀ k, S k → S' k) : LA.is w S' y l := ⟨h.1, h.2.1, h.2.2.1, h.2.2.2.1, h.2.2.2.2.1, h.2.2.2.2.2.1, h.2.2.2.2.2.2.mono hs⟩
theorem LA.is_chg {y : LA} {l : LV} (h : LA.is w S y l) (hc : Chg S' w w') (hd : ∀ k, S k → ¬ S' k) : LA.is w' S y l := ⟨h.1, h.2.1, h.2.2.1, h.2.2.2.1, h.2.2.2.2.1, h.2.2.2.2.2.1, h.2.2.2.2.2.2.chg hc hd⟩
theorem LB.nil (w : World) (S : Nat → Prop) : LB w S [] [] := ⟨rfl, fun i y l h => by simp at h⟩
theorem LB.mono (h : LB w S ys ls) (hs : ∀ k, S k → S' k) : LB w S' ys ls := ⟨h.1, fun i y l h1 h2 => LA.is_mono (h.2 i y l h1 h2) hs⟩
theorem LB.chg (h : LB w S ys ls) (hc : Chg S' w w') (hd : ∀ k, S k → ¬ S' k) : LB w' S ys ls := ⟨h.1, fun i y l h1 h2 => LA.is_chg (h.2 i y l h1 h2) hc hd⟩
theorem LB.old (h : LB w S ys ls) : LB w (fun k => S k ∧ k < w.heap.size) ys ls :=
  ⟨h.1, fun i y l h1 h2 => by obtain ⟨a1, a2, a3, a4, a5, a6, a7⟩ := h.2 i y l h1 h2; exact ⟨a1, a2, a3, a4, a5, a6, a7.old⟩⟩
theorem LB.abd (h : LB w S ys ls) (ha : Abd w w') : LB w' S ys ls :=
  ⟨h.1, fun i y l h1 h2 => by obtain ⟨a1, a2, a3, a4, a5, a6, a7⟩ := h.2 i y l h1 h2; exact ⟨a1, a2, a3, a4, a5, a6, a7.abd ha⟩⟩
theorem LB.snoc (h : LB w S ys ls) {y : LA} {l : LV} (hy : LA.is w S y l) : LB w S (ys ++ [y]) (ls ++ [l]) := by
  have h1 := h.1
  refine ⟨by simp [h1], fun i a b ha hb => ?_⟩
  by_cases hi : i < ls.length
  · rw [List.getElem?_append_left hi] at hb
    rw [List.getElem?_append_left (by omega)] at ha
    exact h.2 i a b ha hb
  · have hi2 : i < (ls ++ [l]).length := (List.getElem?_eq_some_iff.1 hb).1
    rw [List.length_append, List.length_singleton] at hi2
    have hij : i = ls.length := by omega
    subst hij
    rw [List.getElem?_append_right (Nat.le_refl _), Nat.sub_self, List.getElem?_cons_zero, Option.some.injEq] at hb
    rw [List.getElem?_append_right (by omega), h1, Nat.sub_self, List.getElem?_cons_zero, Option.some.injEq] at ha
    subst ha
    subst hb
    exact hy
end
theorem flatL_len (ys : List LA) : (ys.flatMap fun y => y.cs.toList).length = ys.length * 5 := by
  induction ys with
  | nil => rfl
  | cons y ys ih => rw [List.flatMap_cons, List.length_append, ih, List.length_cons, show y.cs.toList.length = 5 from rfl]; omega
theorem flatL_at : ∀ (ys : List LA) (i : Nat) (y : LA), ys[i]? = some y → ∀ j, j < 5 → (ys.flatMap fun y => y.cs.toList)[i * 5 + j]? = y.cs[j]?
  | [], i, y, h, _, _ => by simp at h
  | z :: ys, 0, y, h, j, hj => by
    simp only [List.getElem?_cons_zero, Option.some.injEq] at h
    subst h
    simp only [List.flatMap_cons]
    rw [List.getElem?_append_left (by simp [LA.cs, ltC]; omega)]
    simp
  | z :: ys, i + 1, y, h, j, hj => by
    simp only [List.getElem?_cons_succ] at h
    simp only [List.flatMap_cons]
    rw [List.getElem?_append_right (by simp [LA.cs, ltC]; omega)]
    have e : (i + 1) * 5 + j - (z.cs).toList.length = i * 5 + j := by simp [LA.cs, ltC]; omega
    rw [e]
    exact flatL_at ys i y h j hj
theorem infoLT11 : (Try.prog.info? 24).map (fun i => (i.zero, i.size, i.bytes)) = some (some (.agg #[.int .i64 0, .int .i64 0, .int .i64 0, .int .i64 0, .slice none 0 0]), 5, 56) := by kernel_rfl
theorem own_ne_blk {w : World} {base : Nat} {e : TypeId} {size n c : Nat} {A : Option Addr} {xs : List Value} {g : Nat} {t : TypeId} {cs : Array Value} (ho : w.ownsRow base e size (.slice A n c) n xs) (hb : Blk w g t cs) (ht : t ≠ e) : A.map (·.block) ≠ some g := by
  intro hA
  rcases ho.2 with ⟨hv, _⟩ | ⟨k, cap, cur, hv, _, hh, _⟩
  · injection hv with hv
    subst hv
    cases hA
  · injection hv with hv
    subst hv
    have hk : k = g := by simpa using hA
    subst hk
    have h := hh.symm.trans hb
    simp at h
    exact ht h.2.symm
theorem row_cells {w : World} {base : Nat} {e : TypeId} {size n c : Nat} {A : Option Addr} {xs : List Value} (ho : w.ownsRow base e size (.slice A n c) n xs) {k : Nat} {o : Obj} (hA : A.map (·.block) = some k) (hk : w.heap[k]? = some o) : o.isCells = true := by
  rcases ho.2 with ⟨hv, _⟩ | ⟨g, cap, cur, hv, _, hh, _⟩
  · injection hv with hv
    subst hv
    cases hA
  · injection hv with hv
    subst hv
    have hg : g = k := by simpa using hA
    subst hg
    rw [hh] at hk
    injection hk with hk
    subst hk
    rfl
/-- append of structs, as a step of a region that draws its order. -/
theorem step_app11 {P : Program} (w : World) {ops : Array Oper} {o : Oper} {a : Act} {K : Act → World → Prop} {Q : Exit → Act → World → Prop} {E : Prop} (hgd : o.guard = none) (s x : Operand) (t : TypeId)
    (ho : o.op = .call { callee := .builtin .append, args := #[s, x], argTypes := #[t, t] })
    (base : Nat) (e : TypeId) (i : TypeInfo) (z : Value) (size bytes : Nat) (ht : P.underlying t = some (.slice e)) (hi : P.info? e = some i) (hz : i.zero = some z)
    (hsize : i.size = size) (hby : i.bytes = bytes) (hzs : z.cells.size = size) (hpos : 0 < size)
    (v : Value) (n : Nat) (xs : List Value) (hs : a.eval s = v) (hown : w.ownsRow base e size v n xs)
    (ad : Addr) (m c : Nat) (news : List Value) (hx : a.eval x = .slice (some ad) m c) (hl : news.length = m * size) (hnews : ∀ j u, news[j]? = some u → w.cell? (ad.add j) = some u) (h1 : ∀ u ∈ news, u.oneCell' = true)
    (h63 : n + m ≤ maxLen) (hbytes : (n + m) * bytes ≤ 140737488355328) (hbase : base ≤ w.heap.size)
    (h : ∀ v' w', w'.ownsRow base e size v' (n + m) (xs ++ news) → w.grownBy w' v.ownBlock → (v'.ownBlock = v.ownBlock ∨ v'.ownBlock = some w.heap.size) → K (a.put o.dst v') w') :
    if Region.wanted o (yielded ops a.tmps) = true then Oper.wp P o a w K Q else E := by
  rw [if_pos (by simp [Region.wanted, hgd])]
  obtain ⟨v', w', hrun, h2, h3, _, h4⟩ := run_append_own_at (P := P) w base t o.type e i z size bytes ht hi hz hsize hby hzs hpos v n xs hown ad m c news hl hnews h1 h63 hbytes hbase
  unfold Oper.wp execOp
  simp only [ho, resolve, invoke, builtin, Sem.run_bind, Sem.run_pure, Result.andThen_ok, List.map_toArray, List.map_cons, List.map_nil, hs, hx, hrun]
  exact h v' w' h2 h3 h4
/-- Where letters' bodies lie: from n₀ on, not in the box, not in the row. -/
def SB (n₀ b1 : Nat) (A : Option Addr) (k : Nat) : Prop := n₀ ≤ k ∧ k ≠ b1 ∧ A.map (·.block) ≠ some k
/-- A box b1 holds a row of letters. -/
def Box11 (w : World) (n₀ b1 : Nat) (A : Option Addr) (n c : Nat) (ys : List LA) (ls : List LV) : Prop :=
  Blk w b1 59 #[.slice A n c] ∧ w.ownsRow n₀ 24 5 (.slice A n c) n (ys.flatMap fun y => y.cs.toList) ∧ LB w (SB n₀ b1 A) ys ls ∧ n = ls.length
theorem Box11.new {w w' : World} {n₀ b1 : Nat} {A : Option Addr} {n c : Nat} {ys : List LA} {ls : List LV} (h : Box11 w n₀ b1 A n c ys ls) (hc : Chg (fun _ => False) w w') : Box11 w' n₀ b1 A n c ys ls :=
  ⟨h.1.chg hc id, own_chg h.2.1 hc (fun _ _ => id), h.2.2.1.chg hc (fun _ _ => id), h.2.2.2⟩
theorem Box11.abd {w w' : World} {n₀ b1 : Nat} {A : Option Addr} {n c : Nat} {ys : List LA} {ls : List LV} (h : Box11 w n₀ b1 A n c ys ls) (ha : Abd w w') : Box11 w' n₀ b1 A n c ys ls :=
  ⟨h.1.abd ha, own_abd h.2.1 ha, h.2.2.1.abd ha, h.2.2.2⟩
theorem box_cell {w : World} {n₀ b1 : Nat} {A : Option Addr} {n c : Nat} {ys : List LA} {ls : List LV} (h : Box11 w n₀ b1 A n c ys ls) : w.cell? ⟨b1, 0, none⟩ = some (.slice A n c) ∧ w.frozen? ⟨b1, 0, none⟩ = false := by
  have h0 := h.1.cell 0
  simp only [List.getElem?_toArray, List.getElem?_cons_zero] at h0
  exact ⟨h0, h.1.frozen 0⟩
/-- Behind the append of a letter, and the store of what it gave. -/
theorem Box11.app {w w3 w5 : World} {n₀ b1 : Nat} {A A5 E : Option Addr} {n c c5 d k : Nat} {ys : List LA} {ls : List LV} (h : Box11 w n₀ b1 A n c ys ls) (hc : Chg (fun _ => False) w w3) (l : LV) (hz : E = none → d = 0) (hk : k = l.b.length)
    (hr : Rds w3 (fun k => w.heap.size ≤ k) E k (bcs l.b)) (hn₀ : n₀ ≤ w.heap.size)
    (hown : w5.ownsRow n₀ 24 5 (.slice A5 (n + 1) c5) (n + 1) ((ys.flatMap fun y => y.cs.toList) ++ (ltC l.mi l.pe l.ac l.se E k d).toList))
    (hg : (w3.alloc (.cells (ltC l.mi l.pe l.ac l.se E k d) 24)).grownBy w5 (Value.slice A n c).ownBlock)
    (hat : (Value.slice A5 (n + 1) c5).ownBlock = (Value.slice A n c).ownBlock ∨ (Value.slice A5 (n + 1) c5).ownBlock = some (w3.alloc (.cells (ltC l.mi l.pe l.ac l.se E k d) 24)).heap.size) :
    Box11 (w5.setCell ⟨b1, 0, none⟩ (.slice A5 (n + 1) c5)) n₀ b1 A5 (n + 1) c5 (ys ++ [⟨l.mi, l.pe, l.ac, l.se, E, k, d⟩]) (ls ++ [l]) ∧
      Chg (fun k => k = b1 ∨ A.map (·.block) = some k) w (w5.setCell ⟨b1, 0, none⟩ (.slice A5 (n + 1) c5)) ∧
      w5.cell? ⟨b1, 0, none⟩ = some (.slice A n c) ∧ w5.frozen? ⟨b1, 0, none⟩ = false := by
  subst hk
  obtain ⟨hb, ho, hl, hn⟩ := h
  have hne := own_ne_blk ho hb (by decide)
  rw [own_block, own_block] at hat
  rw [own_block] at hg
  have hb3 : Blk (w3.alloc (.cells (ltC l.mi l.pe l.ac l.se E l.b.length d) 24)) b1 _ _ := (hb.chg hc id).alloc _
  have hb5 := blk_grown hb3 hg hne
  have hc4 := hc.alloc (.cells (ltC l.mi l.pe l.ac l.se E l.b.length d) 24)
  have hs3 := hc.size
  have hb1 := hb.lt
  have hc5 : Chg (fun k => k = b1 ∨ A.map (·.block) = some k) w w5 := (hc4.mono (fun _ _ h => h.elim)).grown hg (fun k hk _ => .inr hk)
  have hc6 : Chg (fun k => k = b1 ∨ A.map (·.block) = some k) w (w5.setCell ⟨b1, 0, none⟩ (.slice A5 (n + 1) c5)) := hc5.put b1 0 (fun _ => .inl rfl) _
  have hlt : ∀ k, A.map (·.block) = some k → k < w.heap.size := fun k hk => (ho.lt k (by rw [own_block]; exact hk)).2
  have c5c := hb5.cell 0
  simp only [List.getElem?_toArray, List.getElem?_cons_zero] at c5c
  have hsz4 : (w3.alloc (.cells (ltC l.mi l.pe l.ac l.se E l.b.length d) 24)).heap.size = w3.heap.size + 1 := by simp
  have hne5 : A5.map (·.block) ≠ some b1 := by
    rcases hat with e | e
    · rw [e]; exact hne
    · rw [e, hsz4]
      intro e
      injection e with e
      omega
  refine ⟨⟨?_, ?_, ?_, by simp [hn]⟩, hc6, c5c, hb5.frozen 0⟩
  · exact hb5.set 0 _
  · rw [List.flatMap_append]
    exact own_chg (by simpa [LA.cs] using hown) ((Chg.refl (fun k => k = b1) w5).put b1 0 (fun _ => rfl) _) (fun k hk e => by subst e; exact hne5 hk)
  · refine LB.snoc ?_ ?_
    · refine (hl.old.chg hc6 (fun k hk e => ?_)).mono (fun k hk => ⟨hk.1.1, hk.1.2.1, ?_⟩)
      · rcases e with e | e
        · exact hk.1.2.1 e
        · exact hk.1.2.2 e
      · rcases hat with e | e
        · rw [e]; exact hk.1.2.2
        · rw [e, hsz4]
          intro e
          injection e with e
          have := hk.2
          omega
    · have hr2 := hr.old
      have hc35 : Chg (fun k => k = b1 ∨ A.map (·.block) = some k) w3 (w5.setCell ⟨b1, 0, none⟩ (.slice A5 (n + 1) c5)) :=
        ((((Chg.refl (fun _ => False) w3).alloc (.cells (ltC l.mi l.pe l.ac l.se E l.b.length d) 24)).mono (fun _ _ h => h.elim)).grown hg (fun k hk _ => .inr hk)).put b1 0 (fun _ => .inl rfl) _
      refine ⟨rfl, rfl, rfl, rfl, rfl, hz, (hr2.chg hc35 (fun k hk e => ?_)).mono (fun k hk => ⟨by have := hk.1; omega, by have := hk.1; omega, ?_⟩)⟩
      · rcases e with e | e
        · have := hk.1
          omega
        · have := hlt k e
          have := hk.1
          omega
      · rcases hat with e | e
        · rw [e]
          intro e
          have := hlt k e
          have := hk.1
          omega
        · rw [e, hsz4]
          intro e
          injection e with e
          have := hk.2
          omega

/-- The letters that go. -/
def letS (x : SV) (i : Nat) : LV := ⟨x.mi, x.pe, x.go, x.nx + (i : Int), x.q.getD i []⟩
def outS (x : SV) : List LV := if x.q.length = 0 then [⟨x.mi, x.pe, x.go, 0, []⟩] else (List.range (min x.q.length 8)).map (letS x)
def OutP (x : SV) (w : World) (e : Ending) (w' : World) : Prop :=
  ∃ A n c ys, e = .returned (.slice A n c) ∧ n = (outS x).length ∧ w'.ownsRow w.heap.size 24 5 (.slice A n c) n (ys.flatMap fun y => y.cs.toList) ∧ LB w' (fun k => w.heap.size ≤ k ∧ A.map (·.block) ≠ some k) ys (outS x) ∧ Chg (fun _ => False) w w'
theorem SN.old {w : World} {p : Nat} {o : Option Nat} {G : Nat → Prop} {x : SV} (h : SN w p o G x) : SN w p o (fun k => G k ∧ k < w.heap.size) x := by
  obtain ⟨A, c, vs, hb, hown, h1, h2, h3, h4, h5⟩ := h
  exact ⟨A, c, vs, hb, hown, h1, h2, h3.old, fun hh => h4 hh.1, fun k hk hh => h5 k hk hh.1⟩
theorem SN.below {w w' : World} {p : Nat} {o : Option Nat} {G : Nat → Prop} {x : SV} (h : SN w p o G x) (hb : Below w.heap.size w w') : SN w' p o (fun k => G k ∧ k < w.heap.size) x := by
  have hlt := h.lt
  exact h.old.chg (below_chg hb (S := fun k => w.heap.size ≤ k) (fun _ h => h)) (by omega) (fun k hk => by have := hlt.2 k hk; omega) (fun k hk => by have := hk.2; omega)
theorem finR_map {α : Type} (m : Nat) (f : Nat → α) : (List.finRange m).map (fun i => f i.1) = (List.range m).map f := by
  refine List.ext_getElem (by simp) (fun i h1 h2 => by simp)

end Go.Proofs.Ytbbjecjhkjjbkaa
