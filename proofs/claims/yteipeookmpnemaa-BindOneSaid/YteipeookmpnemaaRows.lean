/-
  No cell of these rows narrows 'for every input' (looked for: loops, veiled, ifaces, maps, wideKeys, modest, calm, conditions, laid).
  DERIVED. THE GIVEN ROWS OF THIS SEAT. 3 by the template 'for every input the law returns true; each argument reads behind the call as it read before'; 0 by the template 'total and deterministic' (their statements: YteipeookmpnemaaTotals.lean).
  GIVEN WITH THE SEED: the statements are not yours to turn. If you find one false, say at which input.
  Laid BY PROGRAM, IN A SANDBOX (cutbox-rows.mjs): the forced cells as the released guide's own fill.sh prints them over the translation b7b65e06c13a8f0a… (all of the seat's roots in one cut). By AI agents, Wed Nov 11 2026. No macro, syntax, notation, axiom, sorry.
-/
import Derived.Test.YteipeookmpnemaaChecked
import GoSem.Claim
import GoSem.ClaimJoined
import GoSem.ClaimMapViews
import Derived.JoinedTies
import Derived.KernelRfl
namespace Go.Proofs.Yteipeookmpnemaa
/- THE CELL 'sum', in the pinned program and in every row, IS THE sha256 OF THE DUMP (.gsa) THAT YteipeookmpnemaaProg.lean LOADS. Nothing in Lean hashes anything: it is a label: what it is worth is what the hold of that sum in a sandbox is worth. -/
noncomputable def Try.pinned : Pinned := { name := "yteipeookmpnemaa", sum := "b7b65e06c13a8f0af6ff5cbd7c906c79b470429241155736241adadd95b480e6", checked := Try.checked }
namespace Rows
def none {H : Type} : Left H := { results := [], args := [] }

/-- 'rutterlaw14.BindMeans': WHATEVER THE INPUT: true; the input reads as it did. -/
def bindMeansSpec : ChangeSpec := { name := "bindMeans", fn := fun _ => fun
  | [d1, d2, d3] => { results := [.lit (.bool true)], args := [d1, d2, d3] }
  | _ => none }
def bindMeansRow : OpenClaim := { program := "yteipeookmpnemaa", sum := "b7b65e06c13a8f0af6ff5cbd7c906c79b470429241155736241adadd95b480e6", func := "rutter/rutterlaw14.BindMeans", spec := "bindMeans", apart := false }
def BindMeansSaid : Prop := bindMeansRow.holds Try.pinned (OpenSpec.ofChange bindMeansSpec)

/-- ITS FALSE NEIGHBOUR: 'it returns false'. Refute it at one input. -/
def bindMeansWrong : ChangeSpec := { name := "bindMeans", fn := fun _ => fun
  | [d1, d2, d3] => { results := [.lit (.bool false)], args := [d1, d2, d3] }
  | _ => none }
def BindMeansWrongFalsely : Prop := bindMeansRow.holds Try.pinned (OpenSpec.ofChange bindMeansWrong)

/-- 'rutterlaw14.BindTable': WHATEVER THE INPUT: true; the input reads as it did. -/
def bindTableSpec : ChangeSpec := { name := "bindTable", fn := fun _ => fun
  | [d1, d2, d3] => { results := [.lit (.bool true)], args := [d1, d2, d3] }
  | _ => none }
def bindTableRow : OpenClaim := { program := "yteipeookmpnemaa", sum := "b7b65e06c13a8f0af6ff5cbd7c906c79b470429241155736241adadd95b480e6", func := "rutter/rutterlaw14.BindTable", spec := "bindTable", apart := false }
def BindTableSaid : Prop := bindTableRow.holds Try.pinned (OpenSpec.ofChange bindTableSpec)

/-- ITS FALSE NEIGHBOUR: 'it returns false'. Refute it at one input. -/
def bindTableWrong : ChangeSpec := { name := "bindTable", fn := fun _ => fun
  | [d1, d2, d3] => { results := [.lit (.bool false)], args := [d1, d2, d3] }
  | _ => none }
def BindTableWrongFalsely : Prop := bindTableRow.holds Try.pinned (OpenSpec.ofChange bindTableWrong)

/-- 'rutterlaw14.BindOne': WHATEVER THE INPUT: true; the input reads as it did. -/
def bindOneSpec : ChangeSpec := { name := "bindOne", fn := fun _ => fun
  | [d1, d2, d3] => { results := [.lit (.bool true)], args := [d1, d2, d3] }
  | _ => none }
def bindOneRow : OpenClaim := { program := "yteipeookmpnemaa", sum := "b7b65e06c13a8f0af6ff5cbd7c906c79b470429241155736241adadd95b480e6", func := "rutter/rutterlaw14.BindOne", spec := "bindOne", apart := false }
def BindOneSaid : Prop := bindOneRow.holds Try.pinned (OpenSpec.ofChange bindOneSpec)

/-- ITS FALSE NEIGHBOUR: 'it returns false'. Refute it at one input. -/
def bindOneWrong : ChangeSpec := { name := "bindOne", fn := fun _ => fun
  | [d1, d2, d3] => { results := [.lit (.bool false)], args := [d1, d2, d3] }
  | _ => none }
def BindOneWrongFalsely : Prop := bindOneRow.holds Try.pinned (OpenSpec.ofChange bindOneWrong)

/- THE SECOND FORM. 'bulk': how many values and letters a reading holds, each counted each time it is reached (what is shared counts as often as it is met; a slice's spare places count too). A statement '..UptoSaid' is the law's where the arguments, and the package variables that the reading takes, are together of bulk at most 1048576: NARROWER than '..Said'. Prove '..Said' where nothing that the law and all that it calls make is longer than what came in: it says more and counts as full. Else prove '..UptoSaid'. A law counts once. -/
mutual
def uptoBulk {H : Type} : DataW H → Nat
  | .lit (.string bytes) => bytes.length + 1
  | .lit _ => 1
  | .nil => 1
  | .ptr d => uptoBulk d + 1
  | .slice elems spare => uptoBulkAll elems + uptoBulkAll spare + 1
  | .agg parts => uptoBulkAll parts + 1
  | .iface _ d => uptoBulk d + 1
  | .map entries => uptoBulkEntries entries + 1
  | .held _ => 1
def uptoBulkAll {H : Type} : List (DataW H) → Nat
  | [] => 0
  | d :: r => uptoBulk d + uptoBulkAll r
def uptoBulkEntries {H : Type} : List (Lit × DataW H) → Nat
  | [] => 0
  | x :: r => uptoBulkEntry x + uptoBulkEntries r
def uptoBulkEntry {H : Type} : Lit × DataW H → Nat
  | (.string bytes, d) => bytes.length + uptoBulk d + 1
  | (_, d) => uptoBulk d + 1
 end
def uptoSmall : (H : Type) → List (DataW H) → Bool := fun _ ds => decide (uptoBulkAll ds ≤ 1048576)
def OpenSpec.upto (s : _root_.Go.ChangeSpec) : _root_.Go.OpenSpec := { _root_.Go.OpenSpec.ofChange s with cond := some uptoSmall }

/-- 'rutterlaw14.BindMeans', WHERE WHAT IT READS IS OF BULK AT MOST 1048576: true; the input reads as it did. -/
def bindMeansUptoRow : OpenClaim := { program := "yteipeookmpnemaa", sum := "b7b65e06c13a8f0af6ff5cbd7c906c79b470429241155736241adadd95b480e6", func := "rutter/rutterlaw14.BindMeans", spec := "bindMeans", apart := false, narrowed := true }
def BindMeansUptoSaid : Prop := bindMeansUptoRow.holds Try.pinned (OpenSpec.upto bindMeansSpec)

/-- 'rutterlaw14.BindTable', WHERE WHAT IT READS IS OF BULK AT MOST 1048576: true; the input reads as it did. -/
def bindTableUptoRow : OpenClaim := { program := "yteipeookmpnemaa", sum := "b7b65e06c13a8f0af6ff5cbd7c906c79b470429241155736241adadd95b480e6", func := "rutter/rutterlaw14.BindTable", spec := "bindTable", apart := false, narrowed := true }
def BindTableUptoSaid : Prop := bindTableUptoRow.holds Try.pinned (OpenSpec.upto bindTableSpec)

/-- 'rutterlaw14.BindOne', WHERE WHAT IT READS IS OF BULK AT MOST 1048576: true; the input reads as it did. -/
def bindOneUptoRow : OpenClaim := { program := "yteipeookmpnemaa", sum := "b7b65e06c13a8f0af6ff5cbd7c906c79b470429241155736241adadd95b480e6", func := "rutter/rutterlaw14.BindOne", spec := "bindOne", apart := false, narrowed := true }
def BindOneUptoSaid : Prop := bindOneUptoRow.holds Try.pinned (OpenSpec.upto bindOneSpec)

end Rows
end Go.Proofs.Yteipeookmpnemaa
