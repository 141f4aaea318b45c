/-
  Plain lemmas: a map of whole numbers that a literal lays, asked once. No condition.
-/
import Derived.Test.YtimgnogacanifaaGreatM1
import Derived.Carry
import Derived.MapKept
import Derived.ChangeMaps4
import Derived.ChangeMaps5
namespace Go.Proofs.YtimgnogacanifaaGreat
open Go.RowKit

theorem Chg.setBlock {S : Nat → Prop} {a w : World} (h : Chg S a w) (b : Nat) (o : Obj) (hb : b < a.heap.size → S b) : Chg S a (ChangeMaps.setBlock w b o) :=
  ⟨h.os, h.tape, h.output, by simpa [ChangeMaps.setBlock] using h.size, fun k hk hn => by
    have hne : b ≠ k := by rintro rfl; exact hn (hb hk)
    refine Eq.trans ?_ (h.block k hk hn)
    simp [ChangeMaps.setBlock, hne]⟩

/-- What block b of w holds: the entries es, at this clock. -/
def Mp (w : World) (b : Nat) (es : Array MapEntry) (clock : Nat) : Prop := w.heap[b]? = some (.map es clock)
theorem Mp.lt {w : World} {b : Nat} {es : Array MapEntry} {clock : Nat} (h : Mp w b es clock) : b < w.heap.size := (Array.getElem?_eq_some_iff.1 h).1
theorem Mp.new (w : World) : Mp (w.alloc (.map #[] 0)) w.heap.size #[] 0 := (MapKept.heap_alloc w _).1
theorem Mp.chg {S : Nat → Prop} {w w' : World} {b : Nat} {es : Array MapEntry} {clock : Nat} (h : Mp w b es clock) (hc : Chg S w w') (hn : ¬ S b) : Mp w' b es clock := (hc.block b h.lt hn).trans h
theorem Mp.set {w : World} {b : Nat} {es es' : Array MapEntry} {clock clock' : Nat} (h : Mp w b es clock) : Mp (ChangeMaps.setBlock w b (.map es' clock')) b es' clock' := (MapKept.heap_set h).1

section
variable {P : Program} {w : World} {t kt et : TypeId} {k : IntKind} {b clock : Nat} {es : Array MapEntry} {x : Int}
theorem Mp.add (h : Mp w b es clock) (ht : P.underlying t = some (.map kt et)) (hk : P.underlying kt = some (.int k)) (hf : Instr.findNow (.int k) (.int k x) es.toList 0 = some none) (v : Value) :
    (Instr.mapUpdate t (.map (some b)) (.int k x) v).run P w = .ok () (ChangeMaps.setBlock w b (.map (es.push ⟨.int k x, v, clock⟩) (clock + 1))) := by
  have hc : (Instr.checkKey false 10000 kt (.int k x)).run P w = .ok () w := MapKept.run_checkKey (k := .int k x) hk (by simp [MapKept.IsKey]) false 9999
  simp [Instr.mapUpdate, run_underlying ht, MapKept.run_getObj_map h, hc, MapKept.run_findKey hk hf, MapKept.run_setObj_map _ h, Result.andThen, ChangeMaps.setBlock]
theorem Mp.hit (h : Mp w b es clock) (ht : P.underlying t = some (.map kt et)) (hk : P.underlying kt = some (.int k)) {i : Nat} {v : Value} (hf : Instr.findNow (.int k) (.int k x) es.toList 0 = some (some (i, v))) :
    (Instr.lookup t (.map (some b)) (.int k x) true).run P w = .ok (.tuple #[v, .bool true]) w := by
  have hc : (Instr.checkKey es.isEmpty 10000 kt (.int k x)).run P w = .ok () w := MapKept.run_checkKey (k := .int k x) hk (by simp [MapKept.IsKey]) _ 9999
  simp [Instr.lookup, run_underlying ht, MapKept.run_getObj_map h, hc, MapKept.run_findKey hk hf, Result.andThen]
theorem Mp.miss (h : Mp w b es clock) (ht : P.underlying t = some (.map kt et)) (hk : P.underlying kt = some (.int k)) {z : Value} (hz : (zeroValue et).run P w = .ok z w) (hf : Instr.findNow (.int k) (.int k x) es.toList 0 = some none) :
    (Instr.lookup t (.map (some b)) (.int k x) true).run P w = .ok (.tuple #[z, .bool false]) w := by
  have hc : (Instr.checkKey es.isEmpty 10000 kt (.int k x)).run P w = .ok () w := MapKept.run_checkKey (k := .int k x) hk (by simp [MapKept.IsKey]) _ 9999
  simp [Instr.lookup, run_underlying ht, MapKept.run_getObj_map h, hc, MapKept.run_findKey hk hf, Result.andThen, hz]
end

end Go.Proofs.YtimgnogacanifaaGreat
