/-
  Items and nets, plain and in memory. No condition.
-/
import Derived.Test.YthajmplheecepaaLa
import Derived.Lib.SliceRun
namespace Go.Proofs.Ythajmplheecepaa
open Go.RowKit
set_option linter.unusedVariables false
set_option linter.unusedSimpArgs false

/-- An item. -/
structure IT18 where
  ki : Int
  ch : Int
  bs : List UInt8
/-- An item as it lies in a row: kind, chassis, where its bytes are. -/
structure IC18 where
  ki : Int
  ch : Int
  A : Option Addr
  n : Nat
  c : Nat
def IC18.cs (x : IC18) : List Value := [.int .i64 x.ki, .int .i64 x.ch, .slice x.A x.n x.c]
def icF (l : List IC18) : List Value := l.flatMap IC18.cs
theorem icF_len : ∀ l : List IC18, (icF l).length = l.length * 3
  | [] => rfl
  | x :: l => by
    have := icF_len l
    unfold icF at *
    rw [List.flatMap_cons, List.length_append, this, List.length_cons]
    simp [IC18.cs]
    omega
theorem icF_app (l r : List IC18) : icF (l ++ r) = icF l ++ icF r := by simp [icF]
theorem icF_one (l : List IC18) : ∀ u ∈ icF l, u.oneCell' = true := by
  intro u hu
  simp only [icF, List.mem_flatMap] at hu
  obtain ⟨x, _, hx⟩ := hu
  simp only [IC18.cs, List.mem_cons, List.not_mem_nil, or_false] at hx
  rcases hx with rfl | rfl | rfl <;> rfl
theorem icF_at : ∀ (l : List IC18) (i : Nat) (x : IC18), l[i]? = some x → ∀ j, j < 3 → (icF l)[i * 3 + j]? = x.cs[j]?
  | [], i, x, h, _, _ => by simp at h
  | y :: l, 0, x, h, j, hj => by
    simp only [List.getElem?_cons_zero, Option.some.injEq] at h
    subst h
    simp only [icF, List.flatMap_cons]
    rw [List.getElem?_append_left (by simp [IC18.cs]; omega)]
    simp
  | y :: l, i + 1, x, h, j, hj => by
    simp only [List.getElem?_cons_succ] at h
    have ih := icF_at l i x h j hj
    simp only [icF, List.flatMap_cons] at *
    rw [List.getElem?_append_right (by simp [IC18.cs]; omega)]
    have e : (i + 1) * 3 + j - y.cs.length = i * 3 + j := by simp [IC18.cs]; omega
    rw [e]
    exact ih
theorem icF_take : ∀ (l : List IC18) (k : Nat), icF (l.take k) = (icF l).take (k * 3)
  | [], k => by simp [icF]
  | y :: l, 0 => by simp [icF]
  | y :: l, k + 1 => by
    have ih := icF_take l k
    simp only [icF, List.take_succ_cons, List.flatMap_cons] at *
    rw [ih, show (k + 1) * 3 = y.cs.length + k * 3 from by simp [IC18.cs]; omega, List.take_length_add_append]
theorem icF_drop : ∀ (l : List IC18) (k : Nat), icF (l.drop k) = (icF l).drop (k * 3)
  | [], k => by simp [icF]
  | y :: l, 0 => by simp
  | y :: l, k + 1 => by
    have ih := icF_drop l k
    simp only [icF, List.drop_succ_cons, List.flatMap_cons] at *
    rw [ih, show (k + 1) * 3 = y.cs.length + k * 3 from by simp [IC18.cs]; omega, List.drop_length_add_append]

/-- A net: its room, how many were lost, its items. -/
structure NV18 where
  room : Int
  lost : Int
  l : List IT18
/-- May an item be? -/
def okI18 (t : IT18) : Bool := (decide (0 ≤ t.ki) && decide (t.ki ≤ 2)) && (decide (0 ≤ t.ch) && decide (t.ch ≤ 15)) && decide ((t.bs.length : Int) ≤ 2000)
/-- Does it come in? -/
def inI18 (x : NV18) (t : IT18) : Bool := okI18 t && decide ((x.l.length : Int) < x.room)
def put18 (x : NV18) (t : IT18) : NV18 := if inI18 x t = true then { x with l := x.l ++ [t] } else x
/-- The items behind those that come. -/
def puts18 (x : NV18) (ts : List IT18) : NV18 := ts.foldl put18 x
/-- How many come in. -/
def came18 : NV18 → List IT18 → Nat
  | _, [] => 0
  | x, t :: ts => (inI18 x t).toNat + came18 (put18 x t) ts
theorem put18_room (x : NV18) (t : IT18) : (put18 x t).room = x.room ∧ (put18 x t).lost = x.lost := by unfold put18; split <;> exact ⟨rfl, rfl⟩
theorem puts18_room (x : NV18) : ∀ ts : List IT18, (puts18 x ts).room = x.room ∧ (puts18 x ts).lost = x.lost := by
  intro ts
  induction ts generalizing x with
  | nil => exact ⟨rfl, rfl⟩
  | cons t ts ih =>
    obtain ⟨h1, h2⟩ := ih (put18 x t)
    obtain ⟨h3, h4⟩ := put18_room x t
    exact ⟨h1.trans h3, h2.trans h4⟩
theorem came18_snoc (x : NV18) (ts : List IT18) (t : IT18) : came18 x (ts ++ [t]) = came18 x ts + (inI18 (puts18 x ts) t).toNat := by
  induction ts generalizing x with
  | nil => simp [came18, puts18]
  | cons a ts ih =>
    simp only [List.cons_append, came18, ih, puts18, List.foldl_cons]
    omega
theorem puts18_snoc (x : NV18) (ts : List IT18) (t : IT18) : puts18 x (ts ++ [t]) = put18 (puts18 x ts) t := by simp [puts18]
theorem came18_le (x : NV18) (ts : List IT18) : came18 x ts ≤ ts.length := by
  induction ts generalizing x with
  | nil => exact Nat.le_refl _
  | cons a ts ih =>
    have := ih (put18 x a)
    simp only [came18, List.length_cons]
    cases inI18 x a <;> simp <;> omega
/-- A net behind Put. -/
def netP18 (x : NV18) (ts : List IT18) : NV18 := ⟨x.room, x.lost + ((ts.length : Int) - (came18 x ts : Int)), (puts18 x ts).l⟩
theorem puts18_len (x : NV18) (ts : List IT18) : (puts18 x ts).l.length = x.l.length + came18 x ts := by
  induction ts generalizing x with
  | nil => simp [puts18, came18]
  | cons a ts ih =>
    have e : puts18 x (a :: ts) = puts18 (put18 x a) ts := rfl
    rw [e, ih]
    simp only [came18, put18]
    cases inI18 x a <;> simp <;> omega

/-- Is there an item at a place? -/
def lackE (x : NV18) (i : Int) : Int := if 0 ≤ i ∧ i < (x.l.length : Int) then 0 else 4
/-- What Double tells, and leaves. -/
def dblE (x : NV18) (i : Int) : Int := if 0 ≤ i ∧ i < (x.l.length : Int) then (if (x.l.length : Int) < x.room then 0 else 3) else 4
def dblS (x : NV18) (i : Int) : NV18 := match x.l[i.toNat]? with
  | none => x
  | some t => if 0 ≤ i ∧ (x.l.length : Int) < x.room then { x with l := x.l ++ [t] } else x
/-- A net behind Take. -/
def tak18 (x : NV18) (i : Int) : NV18 := if 0 ≤ i ∧ i < (x.l.length : Int) then { x with l := x.l.take i.toNat ++ x.l.drop (i.toNat + 1) } else x
/-- The item at a place, or zeros. -/
def at18 (x : NV18) (i : Int) : IT18 := if 0 ≤ i ∧ i < (x.l.length : Int) then x.l[i.toNat]?.getD ⟨0, 0, []⟩ else ⟨0, 0, []⟩
/-- The first place of such an item. -/
def fnd18 (k c : Int) : List IT18 → Nat → Int
  | [], _ => -1
  | t :: l, j => if t.ki = k ∧ t.ch = c then (j : Int) else fnd18 k c l (j + 1)

/-- The item that a row's cells mean. -/
def ItM (w : World) (b : Nat) (c : IC18) (t : IT18) : Prop := c.ki = t.ki ∧ c.ch = t.ch ∧ c.n = t.bs.length ∧ w.ownsRow b 5 1 (.slice c.A c.n c.c) c.n (bcs t.bs)
theorem ItM.chg {S : Nat → Prop} {w w' : World} {b : Nat} {c : IC18} {t : IT18} (h : ItM w b c t) (hc : Chg S w w') (hS : ∀ k cs fr, w.heap[k]? = some (.cells cs 5 fr) → ¬ S k) : ItM w' b c t := by
  obtain ⟨h1, h2, h3, h4⟩ := h
  refine ⟨h1, h2, h3, own_chg h4 hc (fun k hk => ?_)⟩
  rcases h4.2 with ⟨hv, _⟩ | ⟨g, cap, cur, hv, _, hh, _⟩
  · injection hv with hA
    rw [hA] at hk
    cases hk
  · injection hv with hA
    rw [hA] at hk
    injection hk with hk
    subst hk
    exact hS _ _ _ hh
theorem ItM.base {w : World} {b b' : Nat} {c : IC18} {t : IT18} (h : ItM w b c t) (hb : b' ≤ b) : ItM w b' c t := ⟨h.1, h.2.1, h.2.2.1, own_base h.2.2.2 hb⟩
/-- A row's items. -/
def Its (w : World) (b : Nat) (l : List IC18) (ts : List IT18) : Prop := l.length = ts.length ∧ ∀ (i : Nat) (c : IC18) (t : IT18), l[i]? = some c → ts[i]? = some t → ItM w b c t
theorem Its.nil (w : World) (b : Nat) : Its w b [] [] := ⟨rfl, fun i c t h => by simp at h⟩
theorem Its.chg {S : Nat → Prop} {w w' : World} {b : Nat} {l : List IC18} {ts : List IT18} (h : Its w b l ts) (hc : Chg S w w') (hS : ∀ k cs fr, w.heap[k]? = some (.cells cs 5 fr) → ¬ S k) : Its w' b l ts :=
  ⟨h.1, fun i c t h1 h2 => (h.2 i c t h1 h2).chg hc hS⟩
theorem Its.snoc {w : World} {b : Nat} {l : List IC18} {ts : List IT18} {c : IC18} {t : IT18} (h : Its w b l ts) (hi : ItM w b c t) : Its w b (l ++ [c]) (ts ++ [t]) := by
  have h1 := h.1
  refine ⟨by simp [h1], fun i x y hx hy => ?_⟩
  by_cases hlt : i < l.length
  · rw [List.getElem?_append_left hlt] at hx
    rw [List.getElem?_append_left (by omega)] at hy
    exact h.2 i x y hx hy
  · have hi2 : i < (l ++ [c]).length := (List.getElem?_eq_some_iff.1 hx).1
    rw [List.length_append, List.length_singleton] at hi2
    have hij : i = l.length := by omega
    subst hij
    rw [List.getElem?_append_right (Nat.le_refl _), Nat.sub_self, List.getElem?_cons_zero, Option.some.injEq] at hx
    rw [List.getElem?_append_right (by omega), ← h1, Nat.sub_self, List.getElem?_cons_zero, Option.some.injEq] at hy
    subst hx hy
    exact hi
theorem Its.del {w : World} {b : Nat} {l : List IC18} {ts : List IT18} (h : Its w b l ts) (i : Nat) (hi : i < l.length) : Its w b (l.take i ++ l.drop (i + 1)) (ts.take i ++ ts.drop (i + 1)) := by
  have h1 := h.1
  refine ⟨by simp; omega, fun j x y hx hy => ?_⟩
  by_cases hlt : j < i
  · rw [List.getElem?_append_left (by rw [List.length_take]; omega), List.getElem?_take, if_pos hlt] at hx
    rw [List.getElem?_append_left (by rw [List.length_take]; omega), List.getElem?_take, if_pos hlt] at hy
    exact h.2 j x y hx hy
  · rw [List.getElem?_append_right (by rw [List.length_take]; omega), List.getElem?_drop] at hx
    rw [List.getElem?_append_right (by rw [List.length_take]; omega), List.getElem?_drop] at hy
    rw [List.length_take, Nat.min_eq_left (by omega)] at hx
    rw [List.length_take, Nat.min_eq_left (by omega)] at hy
    exact h.2 _ x y hx hy

/-- Block p is a net; its items' row lies at o, all of it in blocks from b on. -/
def NN (w : World) (b p : Nat) (o : Option Nat) (x : NV18) : Prop :=
  ∃ A n c l, Blk w p 60 #[.int .i64 x.room, .slice A n c, .int .i64 x.lost] ∧ w.ownsRow b 40 3 (.slice A n c) n (icF l) ∧ n = x.l.length ∧ A.map (·.block) = o ∧ Its w b l x.l ∧ b ≤ p ∧ ∀ t ∈ x.l, t.bs.length ≤ 2000
theorem nn_cells {w : World} {p : Nat} {r s : Int} {v : Value} {T : TypeId} (h : Blk w p T #[.int .i64 r, v, .int .i64 s]) :
    w.cell? ⟨p, 0, none⟩ = some (.int .i64 r) ∧ w.cell? ⟨p, 1, none⟩ = some v ∧ w.cell? ⟨p, 2, none⟩ = some (.int .i64 s) ∧ w.frozen? ⟨p, 1, none⟩ = false ∧ w.frozen? ⟨p, 2, none⟩ = false := by
  have h0 := h.cell 0
  have h1 := h.cell 1
  have h2 := h.cell 2
  simp only [List.getElem?_toArray, List.getElem?_cons_zero, List.getElem?_cons_succ] at h0 h1 h2
  exact ⟨h0, h1, h2, h.frozen 1, h.frozen 2⟩
theorem own_ty18 {w : World} {b : Nat} {e : TypeId} {size n c k : Nat} {A : Option Addr} {xs : List Value} (h : w.ownsRow b e size (.slice A n c) n xs) (hk : A.map (·.block) = some k) : ∃ cs, w.heap[k]? = some (.cells cs e (0, 0)) := by
  rcases h.2 with ⟨hv, _⟩ | ⟨g, cap, cur, hv, _, hh, _⟩
  · injection hv with hA
    rw [hA] at hk
    cases hk
  · injection hv with hA
    rw [hA] at hk
    injection hk with hk
    subst hk
    exact ⟨_, hh⟩
/-- A block of another type is none of a net's. -/
theorem NN.ne {w : World} {b p : Nat} {o : Option Nat} {x : NV18} (h : NN w b p o x) {k : Nat} {cs : Array Value} {T : TypeId} {fr : Nat × Nat} (hk : w.heap[k]? = some (.cells cs T fr)) (h1 : T ≠ 60) (h2 : T ≠ 40) : ¬ (k = p ∨ o = some k) := by
  obtain ⟨A, n, c, l, hb, ho, _, hA, _⟩ := h
  rintro (rfl | e)
  · unfold Blk at hb
    rw [hk] at hb
    injection hb with hb
    injection hb with _ hb
    exact h1 hb
  · rw [e] at hA
    obtain ⟨cs', hh⟩ := own_ty18 ho hA
    rw [hk] at hh
    injection hh with hh
    injection hh with _ hh
    exact h2 hh
theorem NN.op {w : World} {b p : Nat} {o : Option Nat} {x : NV18} (h : NN w b p o x) : o ≠ some p := by
  obtain ⟨A, n, c, l, hb, ho, _, hA, _⟩ := h
  intro e
  rw [e] at hA
  obtain ⟨cs', hh⟩ := own_ty18 ho hA
  unfold Blk at hb
  rw [hh] at hb
  injection hb with hb
  injection hb with _ hb
  exact absurd hb (by decide)
theorem NN.lt {w : World} {b p : Nat} {o : Option Nat} {x : NV18} (h : NN w b p o x) : (b ≤ p ∧ p < w.heap.size) ∧ ∀ k, o = some k → b ≤ k ∧ k < w.heap.size := by
  obtain ⟨A, n, c, l, hb, ho, _, hA, _, hbp, _⟩ := h
  refine ⟨⟨hbp, hb.lt⟩, fun k hk => ?_⟩
  rw [hk] at hA
  exact ho.lt k (by rw [own_block]; exact hA)
theorem NN.chg {S : Nat → Prop} {w w' : World} {b p : Nat} {o : Option Nat} {x : NV18} (h : NN w b p o x) (hc : Chg S w w') (hp : ¬ S p) (ho : ∀ k, o = some k → ¬ S k) (hS : ∀ k cs fr, w.heap[k]? = some (.cells cs 5 fr) → ¬ S k) : NN w' b p o x := by
  obtain ⟨A, n, c, l, h1, h2, h3, h4, h5, h6⟩ := h
  exact ⟨A, n, c, l, h1.chg hc hp, own_chg h2 hc (fun k hk => ho k (by rw [← h4]; exact hk)), h3, h4, h5.chg hc hS, h6⟩
theorem NN.new {w w' : World} {b p : Nat} {o : Option Nat} {x : NV18} (h : NN w b p o x) (hc : Chg (fun _ => False) w w') : NN w' b p o x := h.chg hc id (fun _ _ => id) (fun _ _ _ _ => id)
theorem NN.short {w : World} {b p : Nat} {o : Option Nat} {x : NV18} (h : NN w b p o x) : ∀ t ∈ x.l, t.bs.length ≤ 2000 := by
  obtain ⟨A, n, c, l, hb, ho, _, hA, _, hbp, h7⟩ := h
  exact h7
/-- Bytes that a call made: a new item's. -/
theorem itm_new {w : World} {b : Nat} {ki ch : Int} {A : Option Addr} {n c : Nat} {bs : List UInt8} (hn : n = bs.length) (ho : w.ownsRow b 5 1 (.slice A n c) n (bcs bs)) : ItM w b ⟨ki, ch, A, n, c⟩ ⟨ki, ch, bs⟩ := ⟨rfl, rfl, hn, ho⟩
theorem ItM.rds {w : World} {b : Nat} {c : IC18} {t : IT18} (h : ItM w b c t) : Rds w (fun k => b ≤ k ∧ k < w.heap.size) c.A c.n (bcs t.bs) := own_rds2 h.2.2.2
theorem ItM.nil {w : World} {b : Nat} {c : IC18} {t : IT18} (h : ItM w b c t) : c.A = none → c.c = 0 := own_nil h.2.2.2

end Go.Proofs.Ythajmplheecepaa
