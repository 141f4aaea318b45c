/-
  Entries, keys and tables of flows, plain: which entry fits a key, which one is looked up, by rank; their cells in memory. No condition.
-/
import Derived.Test.YtacbgelbffmngaaM1
import Derived.Test.YtacbgelbffmngaaTb
import Derived.Laws.BitsAllLaws
namespace Go.Proofs.Ytacbgelbffmngaa
open Go.RowKit
set_option linter.unusedVariables false
set_option linter.unusedSimpArgs false

/-- An entry: what it is for, and what is done. -/
structure En where
  pr : Int
  ins : Int
  ma : Int
  po : Int
  fr : Int
  up : Int
  no : Int
  ak : Int
  ap : Int
  ao : Int
  ag : Int
/-- A key. -/
structure Ky where
  ki : Int
  km : Int
  kp : Int
  ks : Int
  ko : Int
/-- The k-th bit of a number. -/
def bit13 (a : Int) (k : Nat) : Bool := decide (a / 2 ^ k % 2 = 1)
/-- Is an entry for an IN? -/
def inB13 (a i : Int) : Bool := (decide (i = 0) && bit13 a 0) || (decide (i = 1) && bit13 a 1) || (decide (i = 2) && bit13 a 2)
/-- Does a frame go to where an entry says? -/
def toB13 (ma po ki km kp : Int) : Bool := if ki = 0 then ma == km else po == kp
/-- Does an entry fit a key? -/
def fB13 (ins ma po fr up no ki km kp ks ko : Int) : Bool := inB13 ins ki && (toB13 ma po ki km kp && (decide (fr ≤ ks) && (decide (ks ≤ up) && (no != ko))))
def fit13 (e : En) (k : Ky) : Bool := fB13 e.ins e.ma e.po e.fr e.up e.no k.ki k.km k.kp k.ks k.ko
theorem inB13_0 (a : Int) : inB13 a 0 = bit13 a 0 := by simp [inB13]
theorem inB13_1 (a : Int) : inB13 a 1 = bit13 a 1 := by simp [inB13]
theorem inB13_2 (a : Int) : inB13 a 2 = bit13 a 2 := by simp [inB13]
theorem inB13_no (a i : Int) (h0 : ¬ i = 0) (h1 : ¬ i = 1) (h2 : ¬ i = 2) : inB13 a i = false := by simp [inB13, h0, h1, h2]
theorem and13 (a : Int) (k : Nat) (hk : k < 3) : bits .and .i64 a ((2 ^ k : Nat) : Int) = a / ((2 ^ k : Nat) : Int) % 2 * ((2 ^ k : Nat) : Int) := by
  show IntKind.i64.wrap ((BitVec.ofInt 64 a &&& BitVec.ofInt 64 ((2 ^ k : Nat) : Int)).toNat : Int) = _
  have h64 : (2 ^ k : Nat) % 2 ^ 64 = 2 ^ k := Nat.mod_eq_of_lt (Nat.pow_lt_pow_right (by decide) (by omega))
  rw [BitVec.toNat_and, BitVec.ofInt_natCast, BitVec.toNat_ofNat, h64, nat_bit, BitVec.toNat_ofInt]
  have h3 : k = 0 ∨ k = 1 ∨ k = 2 := by omega
  rcases h3 with rfl | rfl | rfl
  all_goals
    rw [IntWalk.i64_in _ (by omega)]
    omega
theorem and13_1 (a : Int) : bits .and .i64 a 1 = a % 2 := by
  have h := and13 a 0 (by decide)
  simpa using h
theorem and13_2 (a : Int) : (bits .and .i64 a 2 != 0) = bit13 a 1 := by
  have h := and13 a 1 (by decide)
  have e : bits .and .i64 a 2 = a / 2 % 2 * 2 := h
  rw [e]
  unfold bit13
  by_cases h1 : a / 2 % 2 = 1
  · simp [h1]
  · have : a / 2 % 2 = 0 := by omega
    simp [this]
theorem and13_4 (a : Int) : (bits .and .i64 a 4 != 0) = bit13 a 2 := by
  have h := and13 a 2 (by decide)
  have e : bits .and .i64 a 4 = a / 4 % 2 * 4 := h
  rw [e]
  unfold bit13
  by_cases h1 : a / 4 % 2 = 1
  · simp [h1]
  · have : a / 4 % 2 = 0 := by omega
    simp [this]
theorem and13_0 (a : Int) : (bits .and .i64 a 1 != 0) = bit13 a 0 := by
  rw [and13_1]
  unfold bit13
  by_cases h1 : a % 2 = 1
  · simp [h1]
  · have : a % 2 = 0 := by omega
    simp [this]
theorem eq13 (a : Int) (k : Nat) : (bits .and .i64 (a / 2 ^ k) 1 == 1) = bit13 a k := by
  rw [and13_1]
  unfold bit13
  by_cases h : a / 2 ^ k % 2 = 1 <;> simp [h]

theorem eq13_0 (a : Int) : (bits .and .i64 a 1 == 1) = bit13 a 0 := by
  have h := eq13 a 0
  rwa [show a / 2 ^ 0 = a from by simp] at h
theorem eq13_1 (a : Int) : (bits .and .i64 (a / 2) 1 == 1) = bit13 a 1 := eq13 a 1
theorem eq13_2 (a : Int) : (bits .and .i64 (a / 4) 1 == 1) = bit13 a 2 := eq13 a 2
theorem ret_b13 {a b : Bool} (h : a = b) : Ending.returned (.bool a) = .returned (.bool b) := by rw [h]

/-! ### which one is looked up -/
/-- Is an entry looked up, rather than what was found so far? -/
def bt13 (b : Option En) (e : En) : Bool := match b with | none => true | some b => decide (b.pr < e.pr)
def up13 (k : Ky) (b : Option En) (e : En) : Option En := if fit13 e k && bt13 b e then some e else b
def lk13 (k : Ky) (l : List En) : Option En := l.foldl (up13 k) none
theorem lk13_take {k : Ky} {l : List En} {j : Nat} {x : En} (h : l[j]? = some x) : lk13 k (l.take (j + 1)) = up13 k (lk13 k (l.take j)) x := by
  unfold lk13
  rw [List.take_add_one, h, List.foldl_append]
  rfl
theorem up13_no {k : Ky} {b : Option En} {x : En} (h : fit13 x k = false) : up13 k b x = b := by simp [up13, h]
theorem up13_le {k : Ky} {b x : En} (h : ¬ b.pr < x.pr) : up13 k (some b) x = some b := by simp [up13, bt13, h]
theorem up13_lt {k : Ky} {b x : En} (hf : fit13 x k = true) (h : b.pr < x.pr) : up13 k (some b) x = some x := by simp [up13, bt13, h, hf]
theorem up13_none {k : Ky} {x : En} (hf : fit13 x k = true) : up13 k none x = some x := by simp [up13, bt13, hf]
/-- An entry that fits, of a rank. -/
def at13 (k : Ky) (m : Int) (e : En) : Bool := fit13 e k && decide (e.pr = m)
theorem fold13_keep {k : Ky} {b : En} : ∀ l : List En, (∀ e ∈ l, fit13 e k = true → e.pr ≤ b.pr) → l.foldl (up13 k) (some b) = some b
  | [], _ => rfl
  | x :: l, h => by
    have e : up13 k (some b) x = some b := by
      cases hf : fit13 x k with
      | false => exact up13_no hf
      | true => exact up13_le (by have := h x (by simp) hf; omega)
    rw [List.foldl_cons, e]
    exact fold13_keep l (fun e he => h e (by simp [he]))
theorem fold13_find {k : Ky} {m : Int} {b : En} : ∀ (l : List En) (s : Option En), (∀ c, s = some c → c.pr < m) → (∀ e ∈ l, fit13 e k = true → e.pr ≤ m) → l.find? (at13 k m) = some b → l.foldl (up13 k) s = some b
  | [], s, _, _, h => by simp at h
  | x :: l, s, hs, ha, h => by
    rw [List.foldl_cons]
    cases hx : at13 k m x with
    | true =>
      rw [List.find?_cons_of_pos hx] at h
      injection h with h
      subst h
      unfold at13 at hx
      simp only [Bool.and_eq_true, decide_eq_true_eq] at hx
      obtain ⟨hf, rfl⟩ := hx
      have e : up13 k s x = some x := by
        cases s with
        | none => exact up13_none hf
        | some c => exact up13_lt hf (hs c rfl)
      rw [e]
      exact fold13_keep l (fun e he => ha e (by simp [he]))
    | false =>
      rw [List.find?_cons_of_neg (by rw [hx]; decide)] at h
      refine fold13_find l _ (fun c hc => ?_) (fun e he => ha e (by simp [he])) h
      cases hf : fit13 x k with
      | false => rw [up13_no hf] at hc; exact hs c hc
      | true =>
        have h1 : x.pr < m := by
          have h2 := ha x (by simp) hf
          unfold at13 at hx
          simp only [hf, Bool.true_and, decide_eq_false_iff_not] at hx
          omega
        unfold up13 at hc
        split at hc
        · injection hc with hc
          subst hc
          exact h1
        · exact hs c hc
theorem fold13_some {k : Ky} : ∀ (l : List En) (s : Option En) (b : En), l.foldl (up13 k) s = some b → (∀ e ∈ l, fit13 e k = true → e.pr ≤ b.pr) ∧ (∀ c, s = some c → c.pr ≤ b.pr) ∧ ((s = some b ∧ ∀ c, s = some c → c.pr = b.pr) ∨ ((∀ c, s = some c → c.pr < b.pr) ∧ l.find? (at13 k b.pr) = some b))
  | [], s, b, h => by
    refine ⟨by simp, fun c hc => ?_, .inl ⟨h, fun c hc => ?_⟩⟩
    · rw [show s = some b from h] at hc; injection hc with hc; subst hc; exact Int.le_refl _
    · rw [show s = some b from h] at hc; injection hc with hc; subst hc; rfl
  | x :: l, s, b, h => by
    rw [List.foldl_cons] at h
    obtain ⟨h1, h2, h3⟩ := fold13_some l _ b h
    cases hf : fit13 x k with
    | false =>
      rw [up13_no hf] at h2 h3
      refine ⟨fun e he hfe => ?_, h2, ?_⟩
      · rcases List.mem_cons.1 he with rfl | he
        · rw [hf] at hfe; cases hfe
        · exact h1 e he hfe
      · rcases h3 with h3 | ⟨h3, h4⟩
        · exact .inl h3
        · exact .inr ⟨h3, by rw [List.find?_cons_of_neg (by simp [at13, hf])]; exact h4⟩
    | true =>
      cases hb : bt13 s x with
      | true =>
        have e : up13 k s x = some x := by simp [up13, hf, hb]
        rw [e] at h2 h3
        have hxb : x.pr ≤ b.pr := h2 x rfl
        have hsx : ∀ c, s = some c → c.pr < x.pr := fun c hc => by
          rw [hc] at hb
          simpa [bt13] using hb
        refine ⟨fun e he hfe => ?_, fun c hc => by have := hsx c hc; omega, ?_⟩
        · rcases List.mem_cons.1 he with rfl | he
          · exact hxb
          · exact h1 e he hfe
        · refine .inr ⟨fun c hc => by have := hsx c hc; omega, ?_⟩
          rcases h3 with ⟨h3, _⟩ | ⟨h3, h4⟩
          · injection h3 with h3
            subst h3
            rw [List.find?_cons_of_pos (by simp [at13, hf])]
          · have := h3 x rfl
            rw [List.find?_cons_of_neg (by simp [at13, hf]; omega)]
            exact h4
      | false =>
        have e : up13 k s x = s := by simp [up13, hb]
        rw [e] at h2 h3
        obtain ⟨c, hc⟩ : ∃ c, s = some c := by
          cases s with
          | none => simp [bt13] at hb
          | some c => exact ⟨c, rfl⟩
        have hxc : x.pr ≤ c.pr := by
          rw [hc] at hb
          simp only [bt13, decide_eq_false_iff_not] at hb
          omega
        have hcb := h2 c hc
        refine ⟨fun e he hfe => ?_, h2, ?_⟩
        · rcases List.mem_cons.1 he with rfl | he
          · omega
          · exact h1 e he hfe
        · rcases h3 with h3 | ⟨h3, h4⟩
          · exact .inl h3
          · have := h3 c hc
            exact .inr ⟨h3, by rw [List.find?_cons_of_neg (by simp [at13, hf]; omega)]; exact h4⟩
theorem lk13_some {k : Ky} {l : List En} {b : En} (h : lk13 k l = some b) : (∀ e ∈ l, fit13 e k = true → e.pr ≤ b.pr) ∧ l.find? (at13 k b.pr) = some b := by
  obtain ⟨h1, _, h3⟩ := fold13_some l none b h
  rcases h3 with ⟨h3, _⟩ | ⟨_, h3⟩
  · cases h3
  · exact ⟨h1, h3⟩
theorem lk13_find {k : Ky} {m : Int} {l : List En} {b : En} (h1 : ∀ e ∈ l, fit13 e k = true → e.pr ≤ m) (h2 : l.find? (at13 k m) = some b) : lk13 k l = some b :=
  fold13_find l none (fun c hc => by cases hc) h1 h2
/-- Of lesser rank; of no lesser one. -/
def low13 (m : Int) (l : List En) : List En := l.filter fun e => decide (e.pr < m)
def high13 (m : Int) (l : List En) : List En := l.filter fun e => !decide (e.pr < m)
theorem low13_take {m : Int} {l : List En} {j : Nat} {x : En} (h : l[j]? = some x) : low13 m (l.take (j + 1)) = low13 m (l.take j) ++ (if x.pr < m then [x] else []) := by
  unfold low13
  rw [List.take_add_one, h, List.filter_append]
  by_cases hx : x.pr < m <;> simp [hx]
theorem high13_take {m : Int} {l : List En} {j : Nat} {x : En} (h : l[j]? = some x) : high13 m (l.take (j + 1)) = high13 m (l.take j) ++ (if x.pr < m then [] else [x]) := by
  unfold high13
  rw [List.take_add_one, h, List.filter_append]
  by_cases hx : x.pr < m <;> simp [hx]
theorem sum13 (m : Int) : ∀ l : List En, (low13 m l).length + (high13 m l).length = l.length
  | [] => rfl
  | x :: l => by
    have := sum13 m l
    unfold low13 high13 at *
    by_cases hx : x.pr < m
    · simp [hx]; omega
    · simp [hx]; omega
/-- By rank: without those of lesser rank; with them ahead of all others. -/
theorem rank13_high {k : Ky} {l : List En} {b : En} (h : lk13 k l = some b) : lk13 k (high13 b.pr l) = some b := by
  obtain ⟨h1, h2⟩ := lk13_some h
  refine lk13_find (m := b.pr) (fun e he => h1 e (List.mem_filter.1 he).1) ?_
  unfold high13
  rw [List.find?_filter, ← h2]
  congr 1
  funext e
  unfold at13
  by_cases he : e.pr = b.pr
  · simp [he]
  · simp [he]
theorem rank13_both {k : Ky} {l : List En} {b : En} (h : lk13 k l = some b) : lk13 k (low13 b.pr l ++ high13 b.pr l) = some b := by
  obtain ⟨h1, h2⟩ := lk13_some h
  obtain ⟨_, h4⟩ := lk13_some (rank13_high h)
  refine lk13_find (m := b.pr) (fun e he => ?_) ?_
  · rcases List.mem_append.1 he with he | he
    · exact h1 e (List.mem_filter.1 he).1
    · exact h1 e (List.mem_filter.1 he).1
  · rw [List.find?_append]
    have e : (low13 b.pr l).find? (at13 k b.pr) = none := by
      rw [List.find?_eq_none]
      intro e he hh
      unfold low13 at he
      simp only [List.mem_filter, decide_eq_true_eq] at he
      unfold at13 at hh
      simp only [Bool.and_eq_true, decide_eq_true_eq] at hh
      omega
    rw [e, h4]
    rfl

/-! ### memory -/
def enC (pr ins ma po fr up no ak ap ao ag : Int) : Array Value := #[.int .i64 pr, .int .i64 ins, .int .u64 ma, .int .i64 po, .int .i64 fr, .int .i64 up, .int .i64 no, .int .i64 ak, .int .i64 ap, .int .i64 ao, .int .i64 ag]
def kyC (ki km kp ks ko : Int) : Array Value := #[.int .i64 ki, .int .u64 km, .int .i64 kp, .int .i64 ks, .int .i64 ko]
def acC (ak ap ao ag : Int) : Array Value := #[.int .i64 ak, .int .i64 ap, .int .i64 ao, .int .i64 ag]
def En.cs (x : En) : Array Value := enC x.pr x.ins x.ma x.po x.fr x.up x.no x.ak x.ap x.ao x.ag
def Ky.cs (k : Ky) : Array Value := kyC k.ki k.km k.kp k.ks k.ko
def En.ac (x : En) : Array Value := acC x.ak x.ap x.ao x.ag
/-- The action of what was found; 0 of none. -/
def acO13 : Option En → Array Value
  | none => acC 0 0 0 0
  | some x => x.ac
theorem en_cells13 {w : World} {q : Nat} {T : TypeId} {pr ins ma po fr up no ak ap ao ag : Int} (h : Blk w q T (enC pr ins ma po fr up no ak ap ao ag)) : w.cell? ⟨q, 0, none⟩ = some (.int .i64 pr) ∧ w.cell? ⟨q, 1, none⟩ = some (.int .i64 ins) ∧ w.cell? ⟨q, 2, none⟩ = some (.int .u64 ma) ∧ w.cell? ⟨q, 3, none⟩ = some (.int .i64 po) ∧ w.cell? ⟨q, 4, none⟩ = some (.int .i64 fr) ∧ w.cell? ⟨q, 5, none⟩ = some (.int .i64 up) ∧ w.cell? ⟨q, 6, none⟩ = some (.int .i64 no) ∧ w.cell? ⟨q, 7, none⟩ = some (.int .i64 ak) ∧ w.cell? ⟨q, 8, none⟩ = some (.int .i64 ap) ∧ w.cell? ⟨q, 9, none⟩ = some (.int .i64 ao) ∧ w.cell? ⟨q, 10, none⟩ = some (.int .i64 ag) := by
  have h0 := h.cell 0
  have h1 := h.cell 1
  have h2 := h.cell 2
  have h3 := h.cell 3
  have h4 := h.cell 4
  have h5 := h.cell 5
  have h6 := h.cell 6
  have h7 := h.cell 7
  have h8 := h.cell 8
  have h9 := h.cell 9
  have h10 := h.cell 10
  simp only [enC, List.getElem?_toArray, List.getElem?_cons_zero, List.getElem?_cons_succ] at h0 h1 h2 h3 h4 h5 h6 h7 h8 h9 h10
  exact ⟨h0, h1, h2, h3, h4, h5, h6, h7, h8, h9, h10⟩
theorem ky_cells13 {w : World} {q : Nat} {T : TypeId} {ki km kp ks ko : Int} (h : Blk w q T (kyC ki km kp ks ko)) : w.cell? ⟨q, 0, none⟩ = some (.int .i64 ki) ∧ w.cell? ⟨q, 1, none⟩ = some (.int .u64 km) ∧ w.cell? ⟨q, 2, none⟩ = some (.int .i64 kp) ∧ w.cell? ⟨q, 3, none⟩ = some (.int .i64 ks) ∧ w.cell? ⟨q, 4, none⟩ = some (.int .i64 ko) := by
  have h0 := h.cell 0
  have h1 := h.cell 1
  have h2 := h.cell 2
  have h3 := h.cell 3
  have h4 := h.cell 4
  simp only [kyC, List.getElem?_toArray, List.getElem?_cons_zero, List.getElem?_cons_succ] at h0 h1 h2 h3 h4
  exact ⟨h0, h1, h2, h3, h4⟩
theorem ac_cells13 {w : World} {q : Nat} {T : TypeId} {ak ap ao ag : Int} (h : Blk w q T (acC ak ap ao ag)) : w.cell? ⟨q, 0, none⟩ = some (.int .i64 ak) ∧ w.cell? ⟨q, 1, none⟩ = some (.int .i64 ap) ∧ w.cell? ⟨q, 2, none⟩ = some (.int .i64 ao) ∧ w.cell? ⟨q, 3, none⟩ = some (.int .i64 ag) := by
  have h0 := h.cell 0
  have h1 := h.cell 1
  have h2 := h.cell 2
  have h3 := h.cell 3
  simp only [acC, List.getElem?_toArray, List.getElem?_cons_zero, List.getElem?_cons_succ] at h0 h1 h2 h3
  exact ⟨h0, h1, h2, h3⟩
/-- A slice of m entries, of eleven cells each. -/
def EnR (w : World) (L : Option Addr) (m : Nat) (l : List En) : Prop :=
  m = l.length ∧ (0 < m → ∃ ad, L = some ad ∧ ad.block < w.heap.size ∧ ∀ (i : Nat) (x : En), l[i]? = some x → ∀ (j : Nat) (u : Value), x.cs[j]? = some u → w.cell? (ad.add (i * 11 + j)) = some u)
section
variable {w w' : World} {L : Option Addr} {m : Nat} {l : List En}
theorem EnR.chg (h : EnR w L m l) (hc : Chg (fun _ => False) w w') : EnR w' L m l := by
  refine ⟨h.1, fun hm => ?_⟩
  obtain ⟨ad, e, hb, hcell⟩ := h.2 hm
  refine ⟨ad, e, Nat.lt_of_lt_of_le hb hc.size, fun i x hi j u hu => ?_⟩
  rw [← hcell i x hi j u hu]
  exact World.cell?_of_block (by rw [block_add]; exact hc.block _ hb id)
theorem EnR.alloc (h : EnR w L m l) (o : Obj) : EnR (w.alloc o) L m l := h.chg ((Chg.refl (fun _ => False) w).alloc o)
theorem EnR.drew (h : EnR w L m l) : EnR w.drew L m l := h
theorem EnR.nil (w : World) (L : Option Addr) : EnR w L 0 [] := ⟨rfl, fun h => absurd h (by omega)⟩
/-- The cells of an entry, as the walk spells them. -/
theorem EnR.at {ad : Addr} {i : Nat} {x : En} (h : EnR w (some ad) m l) (hi : l[i]? = some x) :
    w.cell? (ad.add (i * 11)) = some (.int .i64 x.pr) ∧ w.cell? ⟨(ad.add (i * 11)).block, (ad.add (i * 11)).off + 1, none⟩ = some (.int .i64 x.ins) ∧ w.cell? ⟨(ad.add (i * 11)).block, (ad.add (i * 11)).off + 2, none⟩ = some (.int .u64 x.ma) ∧ w.cell? ⟨(ad.add (i * 11)).block, (ad.add (i * 11)).off + 3, none⟩ = some (.int .i64 x.po) ∧ w.cell? ⟨(ad.add (i * 11)).block, (ad.add (i * 11)).off + 4, none⟩ = some (.int .i64 x.fr) ∧ w.cell? ⟨(ad.add (i * 11)).block, (ad.add (i * 11)).off + 5, none⟩ = some (.int .i64 x.up) ∧ w.cell? ⟨(ad.add (i * 11)).block, (ad.add (i * 11)).off + 6, none⟩ = some (.int .i64 x.no) ∧ w.cell? ⟨(ad.add (i * 11)).block, (ad.add (i * 11)).off + 7, none⟩ = some (.int .i64 x.ak) ∧ w.cell? ⟨(ad.add (i * 11)).block, (ad.add (i * 11)).off + 8, none⟩ = some (.int .i64 x.ap) ∧ w.cell? ⟨(ad.add (i * 11)).block, (ad.add (i * 11)).off + 9, none⟩ = some (.int .i64 x.ao) ∧ w.cell? ⟨(ad.add (i * 11)).block, (ad.add (i * 11)).off + 10, none⟩ = some (.int .i64 x.ag) := by
  have hl : i < l.length := (List.getElem?_eq_some_iff.1 hi).1
  obtain ⟨ad', e, _, hc⟩ := h.2 (by have := h.1; omega)
  injection e with e
  subst e
  have k : ∀ j u, x.cs[j]? = some u → w.cell? ((ad.add (i * 11)).add j) = some u := fun j u hu => by rw [off_add]; exact hc i x hi j u hu
  exact ⟨k 0 _ rfl, k 1 _ rfl, k 2 _ rfl, k 3 _ rfl, k 4 _ rfl, k 5 _ rfl, k 6 _ rfl, k 7 _ rfl, k 8 _ rfl, k 9 _ rfl, k 10 _ rfl⟩
end
/-- Entries as cells. -/
def enF (l : List En) : List Value := l.flatMap fun x => x.cs.toList
theorem enF_len : ∀ l : List En, (enF l).length = l.length * 11
  | [] => rfl
  | x :: l => by
    have := enF_len l
    unfold enF at *
    simp only [List.flatMap_cons, List.length_append, this, List.length_cons]
    simp [En.cs, enC]
    omega
theorem enF_app (l r : List En) : enF (l ++ r) = enF l ++ enF r := by simp [enF]
theorem enF_sing (x : En) : enF [x] = x.cs.toList := by simp [enF]
theorem enF_one (l : List En) : ∀ u ∈ enF l, u.oneCell' = true := by
  intro u hu
  simp only [enF, List.mem_flatMap] at hu
  obtain ⟨x, _, hx⟩ := hu
  simp only [En.cs, enC, List.mem_cons, List.not_mem_nil, or_false] at hx
  rcases hx with rfl | rfl | rfl | rfl | rfl | rfl | rfl | rfl | rfl | rfl | rfl <;> rfl
theorem enF_at : ∀ (l : List En) (i : Nat) (x : En), l[i]? = some x → ∀ j, j < 11 → (enF l)[i * 11 + j]? = x.cs[j]?
  | [], i, x, h, _, _ => by simp at h
  | y :: l, 0, x, h, j, hj => by
    simp only [List.getElem?_cons_zero, Option.some.injEq] at h
    subst h
    simp only [enF, List.flatMap_cons]
    rw [List.getElem?_append_left (by simp [En.cs, enC]; omega)]
    simp
  | y :: l, i + 1, x, h, j, hj => by
    simp only [List.getElem?_cons_succ] at h
    have ih := enF_at l i x h j hj
    simp only [enF, List.flatMap_cons] at *
    rw [List.getElem?_append_right (by simp [En.cs, enC]; omega)]
    have e : (i + 1) * 11 + j - y.cs.toList.length = i * 11 + j := by simp [En.cs, enC]; omega
    rw [e]
    exact ih
/-- What is owned reads as entries. -/
theorem own_enr {w : World} {base : Nat} {e : TypeId} {n c : Nat} {A : Option Addr} {l : List En} (h : w.ownsRow base e 11 (.slice A n c) n (enF l)) (hn : n = l.length) : EnR w A n l := by
  refine ⟨hn, fun hp => ?_⟩
  have hlt := h.lt
  rcases h.2 with ⟨hv, rfl⟩ | ⟨g, cap, cur, hv, _⟩
  · omega
  · injection hv with hA hn hc
    subst hA
    have := hlt g rfl
    refine ⟨⟨g, 0, none⟩, rfl, this.2, fun i x hi j u hu => h.cells (g := g) rfl _ u ?_⟩
    have hj : j < 11 := (Array.getElem?_eq_some_iff.1 hu).1
    rw [enF_at l i x hi j hj]
    exact hu
/-- The cells of entries that are read, one behind the other. -/
theorem enr_flat {w : World} {L : Option Addr} {m : Nat} {l : List En} (h : EnR w L m l) : ∀ ad, L = some ad → ∀ (j : Nat) (u : Value), (enF l)[j]? = some u → w.cell? (ad.add j) = some u := by
  intro ad e j u hu
  have hj : j < l.length * 11 := by rw [← enF_len]; exact (List.getElem?_eq_some_iff.1 hu).1
  obtain ⟨ad', e', _, hc⟩ := h.2 (by have := h.1; omega)
  rw [e] at e'
  injection e' with e'
  subst e'
  have hi : j / 11 < l.length := by omega
  have hx : l[j / 11]? = some l[j / 11] := List.getElem?_eq_getElem hi
  have h1 := enF_at l (j / 11) _ hx (j % 11) (by omega)
  have h2 : j / 11 * 11 + j % 11 = j := by omega
  rw [h2] at h1
  rw [h1] at hu
  have h3 := hc (j / 11) _ hx (j % 11) u hu
  rwa [h2] at h3
theorem enr_none {w : World} {L : Option Addr} {m : Nat} {l : List En} (h : EnR w L m l) : L = none → m = 0 := by
  rintro rfl
  rcases Nat.eq_zero_or_pos m with h0 | h0
  · exact h0
  · obtain ⟨ad, e, _⟩ := h.2 h0
    cases e
/-- Block p is a table of entries. -/
def TF (w : World) (p : Nat) (l : List En) : Prop := ∃ A c, Blk w p 72 #[.slice A l.length c] ∧ EnR w A l.length l ∧ l.length ≤ c ∧ c ≤ maxLen ∧ (A = none → c = 0)
theorem TF.chg {w w' : World} {p : Nat} {l : List En} (h : TF w p l) (hc : Chg (fun _ => False) w w') : TF w' p l := by
  obtain ⟨A, c, hb, hr, r⟩ := h
  exact ⟨A, c, hb.chg hc id, hr.chg hc, r⟩
theorem TF.drew {w : World} {p : Nat} {l : List En} (h : TF w p l) : TF w.drew p l := h

end Go.Proofs.Ytacbgelbffmngaa
