/-
  Walks: (*buf.Writer).Put. Conditions: the receiver is a writer in memory, its bytes and what is written are bounded.
-/
import Derived.Test.YteipeookmpnemaaWa
import Derived.Test.YteipeookmpnemaaSpec
import Derived.Deep.RegionHeld3
import Derived.Deep.RegionLaw
import Derived.Deep.RegionWith
import Derived.Deep.LoopGhost
import Derived.Outline
import Derived.IntWalk
namespace Go.Proofs.Yteipeookmpnemaa
open Go.RowKit

theorem infoByte : (Try.prog.info? 5).map (fun i => (i.zero, i.size, i.bytes)) = some (some (.int .u8 0), 1, 1) := by kernel_rfl

theorem own_any {w : World} {o : Obj} {base : Nat} {e : TypeId} {size : Nat} {v : Value} {n : Nat} {xs : List Value} (h : w.ownsRow base e size v n xs) : (w.alloc o).drew.ownsRow base e size v n xs := h.alloc o
theorem rds_new (w : World) (t : TypeId) (u : Value) : Rds (w.alloc (.cells #[u] t)).drew (fun k => k = w.heap.size) (some ⟨w.heap.size, 0, none⟩) 1 [u] := (Blk.new w t #[u]).rds
theorem wr_none {T e : TypeId} {w : World} {p : Nat} (h : Blk w p T #[.slice none 0 0, .bool true]) (N : Nat) : Wr T e w p none none N :=
  ⟨[], true, none, 0, ⟨h, World.ownsRow_nil w 0 e 1, rfl, by simp⟩, Nat.zero_le _, rfl⟩
theorem wfail_mvd {p : Nat} {w w' : World} (h : Chg (fun k => k = p) w w') (o : Option Nat) : Mvd p o none w w' := ⟨h.mono fun _ _ e => .inl e, .inr (.inl rfl)⟩

end Go.Proofs.Yteipeookmpnemaa
