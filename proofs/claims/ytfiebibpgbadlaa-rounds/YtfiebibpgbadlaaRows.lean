/-
  No cell of these rows narrows 'for every input' (looked for: loops, veiled, ifaces, maps, wideKeys, modest, calm, conditions, laid).
  DERIVED. THE GIVEN ROWS OF THIS SEAT. 6 by the template 'for every input the law returns true; each argument reads behind the call as it read before'; 0 by the template 'total and deterministic' (their statements: YtfiebibpgbadlaaTotals.lean).
  GIVEN WITH THE SEED: the statements are not yours to turn. If you find one false, say at which input.
  Laid BY PROGRAM, IN A SANDBOX (cutbox-rows.mjs): the forced cells as the released guide's own fill.sh prints them over the translation 76fce42789d06fb2… (all of the seat's roots in one cut). By AI agents, Wed Nov 11 2026. No macro, syntax, notation, axiom, sorry.
-/
import Derived.Test.YtfiebibpgbadlaaChecked
import GoSem.Claim
import GoSem.ClaimJoined
import GoSem.ClaimMapViews
import Derived.JoinedTies
import Derived.KernelRfl
namespace Go.Proofs.Ytfiebibpgbadlaa
/- THE CELL 'sum', in the pinned program and in every row, IS THE sha256 OF THE DUMP (.gsa) THAT YtfiebibpgbadlaaProg.lean LOADS. Nothing in Lean hashes anything: it is a label: what it is worth is what the hold of that sum in a sandbox is worth. -/
noncomputable def Try.pinned : Pinned := { name := "ytfiebibpgbadlaa", sum := "76fce42789d06fb28cd5eda8462320d0922a43362992c2587f27ed22b899892e", checked := Try.checked }
namespace Rows
def none {H : Type} : Left H := { results := [], args := [] }

/-- 'hawserlaw.Unmade': WHATEVER THE INPUT: true; the input reads as it did. -/
def unmadeSpec : ChangeSpec := { name := "unmade", fn := fun _ => fun
  | [] => { results := [.lit (.bool true)], args := [] }
  | _ => none }
def unmadeRow : OpenClaim := { program := "ytfiebibpgbadlaa", sum := "76fce42789d06fb28cd5eda8462320d0922a43362992c2587f27ed22b899892e", func := "hawser/hawserlaw.Unmade", spec := "unmade", inPlace := ["internal/bytealg.IndexByteString", "internal/bytealg.IndexString", "internal/bytealg.abigen_runtime_cmpstring"], unfollowed := true, recurses := true, named := ["internal/bytealg.MaxLen"], apart := false }
def UnmadeSaid : Prop := unmadeRow.holds Try.pinned (OpenSpec.ofChange unmadeSpec)

/-- ITS FALSE NEIGHBOUR: 'it returns false'. Refute it at one input. -/
def unmadeWrong : ChangeSpec := { name := "unmade", fn := fun _ => fun
  | [] => { results := [.lit (.bool false)], args := [] }
  | _ => none }
def UnmadeWrongFalsely : Prop := unmadeRow.holds Try.pinned (OpenSpec.ofChange unmadeWrong)

/-- 'hawserkeep.Sorted': WHATEVER THE INPUT: true; the input reads as it did. -/
def sortedSpec : ChangeSpec := { name := "sorted", fn := fun _ => fun
  | [d1, d2, d3] => { results := [.lit (.bool true)], args := [d1, d2, d3] }
  | _ => none }
def sortedRow : OpenClaim := { program := "ytfiebibpgbadlaa", sum := "76fce42789d06fb28cd5eda8462320d0922a43362992c2587f27ed22b899892e", func := "hawser/hawserkeep.Sorted", spec := "sorted", inPlace := ["internal/bytealg.IndexByteString", "internal/bytealg.IndexString", "internal/bytealg.abigen_runtime_cmpstring"], unfollowed := true, recurses := true, named := ["internal/bytealg.MaxLen"], apart := false }
def SortedSaid : Prop := sortedRow.holds Try.pinned (OpenSpec.ofChange sortedSpec)

/-- ITS FALSE NEIGHBOUR: 'it returns false'. Refute it at one input. -/
def sortedWrong : ChangeSpec := { name := "sorted", fn := fun _ => fun
  | [d1, d2, d3] => { results := [.lit (.bool false)], args := [d1, d2, d3] }
  | _ => none }
def SortedWrongFalsely : Prop := sortedRow.holds Try.pinned (OpenSpec.ofChange sortedWrong)

/-- 'hawserkeep.Rounds': WHATEVER THE INPUT: true; the input reads as it did. -/
def roundsSpec : ChangeSpec := { name := "rounds", fn := fun _ => fun
  | [d1, d2, d3, d4] => { results := [.lit (.bool true)], args := [d1, d2, d3, d4] }
  | _ => none }
def roundsRow : OpenClaim := { program := "ytfiebibpgbadlaa", sum := "76fce42789d06fb28cd5eda8462320d0922a43362992c2587f27ed22b899892e", func := "hawser/hawserkeep.Rounds", spec := "rounds", inPlace := ["internal/bytealg.IndexByteString", "internal/bytealg.IndexString", "internal/bytealg.abigen_runtime_cmpstring"], unfollowed := true, recurses := true, named := ["internal/bytealg.MaxLen"], apart := false }
def RoundsSaid : Prop := roundsRow.holds Try.pinned (OpenSpec.ofChange roundsSpec)

/-- ITS FALSE NEIGHBOUR: 'it returns false'. Refute it at one input. -/
def roundsWrong : ChangeSpec := { name := "rounds", fn := fun _ => fun
  | [d1, d2, d3, d4] => { results := [.lit (.bool false)], args := [d1, d2, d3, d4] }
  | _ => none }
def RoundsWrongFalsely : Prop := roundsRow.holds Try.pinned (OpenSpec.ofChange roundsWrong)

/-- 'hawserkeep.Placed': WHATEVER THE INPUT: true; the input reads as it did. -/
def placedSpec : ChangeSpec := { name := "placed", fn := fun _ => fun
  | [d1, d2, d3, d4] => { results := [.lit (.bool true)], args := [d1, d2, d3, d4] }
  | _ => none }
def placedRow : OpenClaim := { program := "ytfiebibpgbadlaa", sum := "76fce42789d06fb28cd5eda8462320d0922a43362992c2587f27ed22b899892e", func := "hawser/hawserkeep.Placed", spec := "placed", inPlace := ["internal/bytealg.IndexByteString", "internal/bytealg.IndexString", "internal/bytealg.abigen_runtime_cmpstring"], unfollowed := true, recurses := true, named := ["internal/bytealg.MaxLen"], apart := false }
def PlacedSaid : Prop := placedRow.holds Try.pinned (OpenSpec.ofChange placedSpec)

/-- ITS FALSE NEIGHBOUR: 'it returns false'. Refute it at one input. -/
def placedWrong : ChangeSpec := { name := "placed", fn := fun _ => fun
  | [d1, d2, d3, d4] => { results := [.lit (.bool false)], args := [d1, d2, d3, d4] }
  | _ => none }
def PlacedWrongFalsely : Prop := placedRow.holds Try.pinned (OpenSpec.ofChange placedWrong)

/-- 'hawserkeep.Ends': WHATEVER THE INPUT: true; the input reads as it did. -/
def endsSpec : ChangeSpec := { name := "ends", fn := fun _ => fun
  | [d1, d2, d3] => { results := [.lit (.bool true)], args := [d1, d2, d3] }
  | _ => none }
def endsRow : OpenClaim := { program := "ytfiebibpgbadlaa", sum := "76fce42789d06fb28cd5eda8462320d0922a43362992c2587f27ed22b899892e", func := "hawser/hawserkeep.Ends", spec := "ends", inPlace := ["internal/bytealg.IndexByteString", "internal/bytealg.IndexString", "internal/bytealg.abigen_runtime_cmpstring"], unfollowed := true, recurses := true, named := ["internal/bytealg.MaxLen"], apart := false }
def EndsSaid : Prop := endsRow.holds Try.pinned (OpenSpec.ofChange endsSpec)

/-- ITS FALSE NEIGHBOUR: 'it returns false'. Refute it at one input. -/
def endsWrong : ChangeSpec := { name := "ends", fn := fun _ => fun
  | [d1, d2, d3] => { results := [.lit (.bool false)], args := [d1, d2, d3] }
  | _ => none }
def EndsWrongFalsely : Prop := endsRow.holds Try.pinned (OpenSpec.ofChange endsWrong)

/-- 'hawserkeep.Few': WHATEVER THE INPUT: true; the input reads as it did. -/
def fewSpec : ChangeSpec := { name := "few", fn := fun _ => fun
  | [d] => { results := [.lit (.bool true)], args := [d] }
  | _ => none }
def fewRow : OpenClaim := { program := "ytfiebibpgbadlaa", sum := "76fce42789d06fb28cd5eda8462320d0922a43362992c2587f27ed22b899892e", func := "hawser/hawserkeep.Few", spec := "few", inPlace := ["internal/bytealg.IndexByteString", "internal/bytealg.IndexString", "internal/bytealg.abigen_runtime_cmpstring"], unfollowed := true, recurses := true, named := ["internal/bytealg.MaxLen"], apart := false }
def FewSaid : Prop := fewRow.holds Try.pinned (OpenSpec.ofChange fewSpec)

/-- ITS FALSE NEIGHBOUR: 'it returns false'. Refute it at one input. -/
def fewWrong : ChangeSpec := { name := "few", fn := fun _ => fun
  | [d] => { results := [.lit (.bool false)], args := [d] }
  | _ => none }
def FewWrongFalsely : Prop := fewRow.holds Try.pinned (OpenSpec.ofChange fewWrong)

/- THE SECOND FORM. 'bulk': how many values and letters a reading holds, each counted each time it is reached (what is shared counts as often as it is met; a slice's spare places count too). A statement '..UptoSaid' is the law's where the arguments, and the package variables that the reading takes, are together of bulk at most 1048576: NARROWER than '..Said'. Prove '..Said' where nothing that the law and all that it calls make is longer than what came in: it says more and counts as full. Else prove '..UptoSaid'. A law counts once. -/
mutual
def uptoBulk {H : Type} : DataW H → Nat
  | .lit (.string bytes) => bytes.length + 1
  | .lit _ => 1
  | .nil => 1
  | .ptr d => uptoBulk d + 1
  | .slice elems spare => uptoBulkAll elems + uptoBulkAll spare + 1
  | .agg parts => uptoBulkAll parts + 1
  | .iface _ d => uptoBulk d + 1
  | .map entries => uptoBulkEntries entries + 1
  | .held _ => 1
def uptoBulkAll {H : Type} : List (DataW H) → Nat
  | [] => 0
  | d :: r => uptoBulk d + uptoBulkAll r
def uptoBulkEntries {H : Type} : List (Lit × DataW H) → Nat
  | [] => 0
  | x :: r => uptoBulkEntry x + uptoBulkEntries r
def uptoBulkEntry {H : Type} : Lit × DataW H → Nat
  | (.string bytes, d) => bytes.length + uptoBulk d + 1
  | (_, d) => uptoBulk d + 1
 end
def uptoSmall : (H : Type) → List (DataW H) → Bool := fun _ ds => decide (uptoBulkAll ds ≤ 1048576)
def OpenSpec.upto (s : _root_.Go.ChangeSpec) : _root_.Go.OpenSpec := { _root_.Go.OpenSpec.ofChange s with cond := some uptoSmall }

/-- 'hawserlaw.Unmade', WHERE WHAT IT READS IS OF BULK AT MOST 1048576: true; the input reads as it did. -/
def unmadeUptoRow : OpenClaim := { program := "ytfiebibpgbadlaa", sum := "76fce42789d06fb28cd5eda8462320d0922a43362992c2587f27ed22b899892e", func := "hawser/hawserlaw.Unmade", spec := "unmade", inPlace := ["internal/bytealg.IndexByteString", "internal/bytealg.IndexString", "internal/bytealg.abigen_runtime_cmpstring"], unfollowed := true, recurses := true, named := ["internal/bytealg.MaxLen"], apart := false, narrowed := true }
def UnmadeUptoSaid : Prop := unmadeUptoRow.holds Try.pinned (OpenSpec.upto unmadeSpec)

/-- 'hawserkeep.Sorted', WHERE WHAT IT READS IS OF BULK AT MOST 1048576: true; the input reads as it did. -/
def sortedUptoRow : OpenClaim := { program := "ytfiebibpgbadlaa", sum := "76fce42789d06fb28cd5eda8462320d0922a43362992c2587f27ed22b899892e", func := "hawser/hawserkeep.Sorted", spec := "sorted", inPlace := ["internal/bytealg.IndexByteString", "internal/bytealg.IndexString", "internal/bytealg.abigen_runtime_cmpstring"], unfollowed := true, recurses := true, named := ["internal/bytealg.MaxLen"], apart := false, narrowed := true }
def SortedUptoSaid : Prop := sortedUptoRow.holds Try.pinned (OpenSpec.upto sortedSpec)

/-- 'hawserkeep.Rounds', WHERE WHAT IT READS IS OF BULK AT MOST 1048576: true; the input reads as it did. -/
def roundsUptoRow : OpenClaim := { program := "ytfiebibpgbadlaa", sum := "76fce42789d06fb28cd5eda8462320d0922a43362992c2587f27ed22b899892e", func := "hawser/hawserkeep.Rounds", spec := "rounds", inPlace := ["internal/bytealg.IndexByteString", "internal/bytealg.IndexString", "internal/bytealg.abigen_runtime_cmpstring"], unfollowed := true, recurses := true, named := ["internal/bytealg.MaxLen"], apart := false, narrowed := true }
def RoundsUptoSaid : Prop := roundsUptoRow.holds Try.pinned (OpenSpec.upto roundsSpec)

/-- 'hawserkeep.Placed', WHERE WHAT IT READS IS OF BULK AT MOST 1048576: true; the input reads as it did. -/
def placedUptoRow : OpenClaim := { program := "ytfiebibpgbadlaa", sum := "76fce42789d06fb28cd5eda8462320d0922a43362992c2587f27ed22b899892e", func := "hawser/hawserkeep.Placed", spec := "placed", inPlace := ["internal/bytealg.IndexByteString", "internal/bytealg.IndexString", "internal/bytealg.abigen_runtime_cmpstring"], unfollowed := true, recurses := true, named := ["internal/bytealg.MaxLen"], apart := false, narrowed := true }
def PlacedUptoSaid : Prop := placedUptoRow.holds Try.pinned (OpenSpec.upto placedSpec)

/-- 'hawserkeep.Ends', WHERE WHAT IT READS IS OF BULK AT MOST 1048576: true; the input reads as it did. -/
def endsUptoRow : OpenClaim := { program := "ytfiebibpgbadlaa", sum := "76fce42789d06fb28cd5eda8462320d0922a43362992c2587f27ed22b899892e", func := "hawser/hawserkeep.Ends", spec := "ends", inPlace := ["internal/bytealg.IndexByteString", "internal/bytealg.IndexString", "internal/bytealg.abigen_runtime_cmpstring"], unfollowed := true, recurses := true, named := ["internal/bytealg.MaxLen"], apart := false, narrowed := true }
def EndsUptoSaid : Prop := endsUptoRow.holds Try.pinned (OpenSpec.upto endsSpec)

/-- 'hawserkeep.Few', WHERE WHAT IT READS IS OF BULK AT MOST 1048576: true; the input reads as it did. -/
def fewUptoRow : OpenClaim := { program := "ytfiebibpgbadlaa", sum := "76fce42789d06fb28cd5eda8462320d0922a43362992c2587f27ed22b899892e", func := "hawser/hawserkeep.Few", spec := "few", inPlace := ["internal/bytealg.IndexByteString", "internal/bytealg.IndexString", "internal/bytealg.abigen_runtime_cmpstring"], unfollowed := true, recurses := true, named := ["internal/bytealg.MaxLen"], apart := false, narrowed := true }
def FewUptoSaid : Prop := fewUptoRow.holds Try.pinned (OpenSpec.upto fewSpec)

end Rows
end Go.Proofs.Ytfiebibpgbadlaa
