/-
  Plain lemmas on memory, second part. No condition.
-/
import Derived.Test.YtmfgbonlhoffaaaMem
namespace Go.Proofs.Ytmfgbonlhoffaaa
open Go.RowKit

theorem Rd.mono {T : TypeId} {s : Bool} {w : World} {p : Nat} {S S' : Nat → Prop} {st : Option (List UInt8)} (h : Rd T s w p S st) (hs : ∀ k, S k → S' k) (hp : ¬ S' p) : Rd T s w p S' st := by
  obtain ⟨_, A, n, c, f, bs, h1, h2, h3, h4, h5, h6⟩ := h
  exact ⟨hp, A, n, c, f, bs, h1, h2, h3, h4, h5.mono hs, h6⟩

theorem rds_cut {w : World} {S : Nat → Prop} {A : Option Addr} {n : Nat} {l : List UInt8} (h : Rds w S A n (bcs l)) (hn : 1 ≤ n) : Rds w S A (n - 1) (bcs l.dropLast) := by
  have h2 := h.take (n - 1) (by omega)
  have hl : l.length = n := by have := h.1; rwa [bcs_len] at this
  have e : (bcs l).take (n - 1) = bcs l.dropLast := by
    unfold bcs
    rw [← List.map_take, List.dropLast_eq_take, hl]
  rwa [e] at h2

theorem rds_nil_ok {w : World} {S : Nat → Prop} {A : Option Addr} {n c : Nat} {xs : List Value} (h : Rds w S A n xs) (hn : 1 ≤ n) : A = none → c = 0 := by
  rintro rfl
  obtain ⟨_, e, _⟩ := h.2 (by omega)
  cases e

theorem grown_fresh {w0 w w' : World} {A : Option Addr} {n c base : Nat} {e : TypeId} {size m : Nat} {xs : List Value} (h : Chg (fun _ => False) w0 w) (hg : w.grownBy w' (Value.slice A n c).ownBlock)
    (hown : w.ownsRow base e size (.slice A m c) m xs) (hb : w0.heap.size ≤ base) : Chg (fun _ => False) w0 w' :=
  h.grown hg (fun k hk hlt => by
    rw [own_block] at hk
    have := (hown.lt k (by rw [own_block]; exact hk)).1
    omega)

/-- The bytes of a slice, as they stand in a world. -/
def strOf (w : World) (A : Option Addr) (n : Nat) : ByteArray :=
  ⟨((List.range n).map fun j => match A.bind (fun a => w.cell? (a.add j)) with
    | some (.int _ x) => UInt8.ofNat x.toNat
    | _ => 0).toArray⟩

theorem strOf_rds {w : World} {S : Nat → Prop} {A : Option Addr} {n : Nat} {s : List UInt8} (h : Rds w S A n (bcs s)) : strOf w A n = ⟨s.toArray⟩ := by
  have hl : s.length = n := by have := h.1; rwa [bcs_len] at this
  unfold strOf
  congr 1
  congr 1
  refine List.ext_getElem (by simp [hl]) (fun j h1 h2 => ?_)
  have hj : j < n := by simpa using h1
  obtain ⟨ad, rfl, _, _, hc⟩ := h.cellAt hj
  rw [bcs_at s j h2] at hc
  simp [hc]

theorem Rds.back {w0 w' : World} {S S' : Nat → Prop} {n : Nat} {A : Option Addr} {xs : List Value} (h : Rds w' S A n xs) (hc : Chg S' w0 w') (hS : ∀ k, S k → k < w0.heap.size ∧ ¬ S' k) : Rds w0 S A n xs := by
  refine ⟨h.1, fun hn => ?_⟩
  obtain ⟨ad, e, hs, hb, hcell⟩ := h.2 hn
  obtain ⟨h1, h2⟩ := hS _ hs
  refine ⟨ad, e, hs, h1, fun j u hu => ?_⟩
  rw [← hcell j u hu]
  exact (World.cell?_of_block (by rw [block_add]; exact hc.block _ h1 h2)).symm

theorem blk_new {w : World} {t : TypeId} {cs : Array Value} {g : Nat} (hg : g = w.heap.size) : Blk (w.alloc (.cells cs t)) g t cs := by
  subst hg
  exact Blk.new w t cs
theorem own_base {w : World} {b b' : Nat} {e : TypeId} {size n : Nat} {v : Value} {xs : List Value} (h : w.ownsRow b e size v n xs) (hb : b' ≤ b) : w.ownsRow b' e size v n xs := by
  refine ⟨h.1, ?_⟩
  rcases h.2 with h2 | ⟨g, cap, cur, hv, hg, r⟩
  · exact .inl h2
  · exact .inr ⟨g, cap, cur, hv, Nat.le_trans hb hg, r⟩

end Go.Proofs.Ytmfgbonlhoffaaa
