/-
  No cell of these rows narrows 'for every input' (looked for: loops, veiled, ifaces, maps, wideKeys, modest, calm, conditions, laid).
  DERIVED. THE GIVEN ROWS OF THIS SEAT. 3 by the template 'for every input the law returns true; each argument reads behind the call as it read before'; 0 by the template 'total and deterministic' (their statements: YtnboilombfnpkaaTotals.lean).
  GIVEN WITH THE SEED: the statements are not yours to turn. If you find one false, say at which input.
  Laid BY PROGRAM, IN A SANDBOX (cutbox-rows.mjs): the forced cells as the released guide's own fill.sh prints them over the translation 2f3cdb85eda55782… (all of the seat's roots in one cut). By AI agents, Wed Nov 11 2026. No macro, syntax, notation, axiom, sorry.
-/
import Derived.Test.YtnboilombfnpkaaChecked
import GoSem.Claim
import GoSem.ClaimJoined
import GoSem.ClaimMapViews
import Derived.JoinedTies
import Derived.KernelRfl
namespace Go.Proofs.Ytnboilombfnpkaa
/- THE CELL 'sum', in the pinned program and in every row, IS THE sha256 OF THE DUMP (.gsa) THAT YtnboilombfnpkaaProg.lean LOADS. Nothing in Lean hashes anything: it is a label: what it is worth is what the hold of that sum in a sandbox is worth. -/
noncomputable def Try.pinned : Pinned := { name := "ytnboilombfnpkaa", sum := "2f3cdb85eda557822eb994ad07186a73e51b2e2bdc800feedb0f6f3f0ac45a0d", checked := Try.checked }
namespace Rows
def none {H : Type} : Left H := { results := [], args := [] }

/-- 'rutterlaw05.TunnelTells': WHATEVER THE INPUT: true; the input reads as it did. -/
def tunnelTellsSpec : ChangeSpec := { name := "tunnelTells", fn := fun _ => fun
  | [d1, d2, d3] => { results := [.lit (.bool true)], args := [d1, d2, d3] }
  | _ => none }
def tunnelTellsRow : OpenClaim := { program := "ytnboilombfnpkaa", sum := "2f3cdb85eda557822eb994ad07186a73e51b2e2bdc800feedb0f6f3f0ac45a0d", func := "rutter/rutterlaw05.TunnelTells", spec := "tunnelTells", apart := false }
def TunnelTellsSaid : Prop := tunnelTellsRow.holds Try.pinned (OpenSpec.ofChange tunnelTellsSpec)

/-- ITS FALSE NEIGHBOUR: 'it returns false'. Refute it at one input. -/
def tunnelTellsWrong : ChangeSpec := { name := "tunnelTells", fn := fun _ => fun
  | [d1, d2, d3] => { results := [.lit (.bool false)], args := [d1, d2, d3] }
  | _ => none }
def TunnelTellsWrongFalsely : Prop := tunnelTellsRow.holds Try.pinned (OpenSpec.ofChange tunnelTellsWrong)

/-- 'rutterlaw05.TunnelBytes': WHATEVER THE INPUT: true; the input reads as it did. -/
def tunnelBytesSpec : ChangeSpec := { name := "tunnelBytes", fn := fun _ => fun
  | [d] => { results := [.lit (.bool true)], args := [d] }
  | _ => none }
def tunnelBytesRow : OpenClaim := { program := "ytnboilombfnpkaa", sum := "2f3cdb85eda557822eb994ad07186a73e51b2e2bdc800feedb0f6f3f0ac45a0d", func := "rutter/rutterlaw05.TunnelBytes", spec := "tunnelBytes", apart := false }
def TunnelBytesSaid : Prop := tunnelBytesRow.holds Try.pinned (OpenSpec.ofChange tunnelBytesSpec)

/-- ITS FALSE NEIGHBOUR: 'it returns false'. Refute it at one input. -/
def tunnelBytesWrong : ChangeSpec := { name := "tunnelBytes", fn := fun _ => fun
  | [d] => { results := [.lit (.bool false)], args := [d] }
  | _ => none }
def TunnelBytesWrongFalsely : Prop := tunnelBytesRow.holds Try.pinned (OpenSpec.ofChange tunnelBytesWrong)

/-- 'rutterlaw05.TunnelNever': WHATEVER THE INPUT: true; the input reads as it did. -/
def tunnelNeverSpec : ChangeSpec := { name := "tunnelNever", fn := fun _ => fun
  | [d1, d2, d3] => { results := [.lit (.bool true)], args := [d1, d2, d3] }
  | _ => none }
def tunnelNeverRow : OpenClaim := { program := "ytnboilombfnpkaa", sum := "2f3cdb85eda557822eb994ad07186a73e51b2e2bdc800feedb0f6f3f0ac45a0d", func := "rutter/rutterlaw05.TunnelNever", spec := "tunnelNever", apart := false }
def TunnelNeverSaid : Prop := tunnelNeverRow.holds Try.pinned (OpenSpec.ofChange tunnelNeverSpec)

/-- ITS FALSE NEIGHBOUR: 'it returns false'. Refute it at one input. -/
def tunnelNeverWrong : ChangeSpec := { name := "tunnelNever", fn := fun _ => fun
  | [d1, d2, d3] => { results := [.lit (.bool false)], args := [d1, d2, d3] }
  | _ => none }
def TunnelNeverWrongFalsely : Prop := tunnelNeverRow.holds Try.pinned (OpenSpec.ofChange tunnelNeverWrong)

/- THE SECOND FORM. 'bulk': how many values and letters a reading holds, each counted each time it is reached (what is shared counts as often as it is met; a slice's spare places count too). A statement '..UptoSaid' is the law's where the arguments, and the package variables that the reading takes, are together of bulk at most 1048576: NARROWER than '..Said'. Prove '..Said' where nothing that the law and all that it calls make is longer than what came in: it says more and counts as full. Else prove '..UptoSaid'. A law counts once. -/
mutual
def uptoBulk {H : Type} : DataW H → Nat
  | .lit (.string bytes) => bytes.length + 1
  | .lit _ => 1
  | .nil => 1
  | .ptr d => uptoBulk d + 1
  | .slice elems spare => uptoBulkAll elems + uptoBulkAll spare + 1
  | .agg parts => uptoBulkAll parts + 1
  | .iface _ d => uptoBulk d + 1
  | .map entries => uptoBulkEntries entries + 1
  | .held _ => 1
def uptoBulkAll {H : Type} : List (DataW H) → Nat
  | [] => 0
  | d :: r => uptoBulk d + uptoBulkAll r
def uptoBulkEntries {H : Type} : List (Lit × DataW H) → Nat
  | [] => 0
  | x :: r => uptoBulkEntry x + uptoBulkEntries r
def uptoBulkEntry {H : Type} : Lit × DataW H → Nat
  | (.string bytes, d) => bytes.length + uptoBulk d + 1
  | (_, d) => uptoBulk d + 1
 end
def uptoSmall : (H : Type) → List (DataW H) → Bool := fun _ ds => decide (uptoBulkAll ds ≤ 1048576)
def OpenSpec.upto (s : _root_.Go.ChangeSpec) : _root_.Go.OpenSpec := { _root_.Go.OpenSpec.ofChange s with cond := some uptoSmall }

/-- 'rutterlaw05.TunnelTells', WHERE WHAT IT READS IS OF BULK AT MOST 1048576: true; the input reads as it did. -/
def tunnelTellsUptoRow : OpenClaim := { program := "ytnboilombfnpkaa", sum := "2f3cdb85eda557822eb994ad07186a73e51b2e2bdc800feedb0f6f3f0ac45a0d", func := "rutter/rutterlaw05.TunnelTells", spec := "tunnelTells", apart := false, narrowed := true }
def TunnelTellsUptoSaid : Prop := tunnelTellsUptoRow.holds Try.pinned (OpenSpec.upto tunnelTellsSpec)

/-- 'rutterlaw05.TunnelBytes', WHERE WHAT IT READS IS OF BULK AT MOST 1048576: true; the input reads as it did. -/
def tunnelBytesUptoRow : OpenClaim := { program := "ytnboilombfnpkaa", sum := "2f3cdb85eda557822eb994ad07186a73e51b2e2bdc800feedb0f6f3f0ac45a0d", func := "rutter/rutterlaw05.TunnelBytes", spec := "tunnelBytes", apart := false, narrowed := true }
def TunnelBytesUptoSaid : Prop := tunnelBytesUptoRow.holds Try.pinned (OpenSpec.upto tunnelBytesSpec)

/-- 'rutterlaw05.TunnelNever', WHERE WHAT IT READS IS OF BULK AT MOST 1048576: true; the input reads as it did. -/
def tunnelNeverUptoRow : OpenClaim := { program := "ytnboilombfnpkaa", sum := "2f3cdb85eda557822eb994ad07186a73e51b2e2bdc800feedb0f6f3f0ac45a0d", func := "rutter/rutterlaw05.TunnelNever", spec := "tunnelNever", apart := false, narrowed := true }
def TunnelNeverUptoSaid : Prop := tunnelNeverUptoRow.holds Try.pinned (OpenSpec.upto tunnelNeverSpec)

end Rows
end Go.Proofs.Ytnboilombfnpkaa
