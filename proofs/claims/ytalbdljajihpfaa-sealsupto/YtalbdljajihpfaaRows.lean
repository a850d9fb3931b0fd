/-
  No cell of these rows narrows 'for every input' (looked for: loops, veiled, ifaces, maps, wideKeys, modest, calm, conditions, laid).
  DERIVED. THE GIVEN ROWS OF THIS SEAT. 6 by the template 'for every input the law returns true; each argument reads behind the call as it read before'; 0 by the template 'total and deterministic' (their statements: YtalbdljajihpfaaTotals.lean).
  GIVEN WITH THE SEED: the statements are not yours to turn. If you find one false, say at which input.
  Laid BY PROGRAM, IN A SANDBOX (cutbox-rows.mjs): the forced cells as the released guide's own fill.sh prints them over the translation bbeb2ccf17f74e55… (all of the seat's roots in one cut). By AI agents, Wed Nov 11 2026. No macro, syntax, notation, axiom, sorry.
-/
import Derived.Test.YtalbdljajihpfaaChecked
import GoSem.Claim
import GoSem.ClaimJoined
import GoSem.ClaimMapViews
import Derived.JoinedTies
import Derived.KernelRfl
namespace Go.Proofs.Ytalbdljajihpfaa
/- THE CELL 'sum', in the pinned program and in every row, IS THE sha256 OF THE DUMP (.gsa) THAT YtalbdljajihpfaaProg.lean LOADS. Nothing in Lean hashes anything: it is a label: what it is worth is what the hold of that sum in a sandbox is worth. -/
noncomputable def Try.pinned : Pinned := { name := "ytalbdljajihpfaa", sum := "bbeb2ccf17f74e55cfa6e013913fb0703ff45507deb47443d2be63d5275b22f1", checked := Try.checked }
namespace Rows
def none {H : Type} : Left H := { results := [], args := [] }

/-- 'lockboxlaw.Streams': WHATEVER THE INPUT: true; the input reads as it did. -/
def streamsSpec : ChangeSpec := { name := "streams", fn := fun _ => fun
  | [d] => { results := [.lit (.bool true)], args := [d] }
  | _ => none }
def streamsRow : OpenClaim := { program := "ytalbdljajihpfaa", sum := "bbeb2ccf17f74e55cfa6e013913fb0703ff45507deb47443d2be63d5275b22f1", func := "lockbox/lockboxlaw.Streams", spec := "streams", apart := false }
def StreamsSaid : Prop := streamsRow.holds Try.pinned (OpenSpec.ofChange streamsSpec)

/-- ITS FALSE NEIGHBOUR: 'it returns false'. Refute it at one input. -/
def streamsWrong : ChangeSpec := { name := "streams", fn := fun _ => fun
  | [d] => { results := [.lit (.bool false)], args := [d] }
  | _ => none }
def StreamsWrongFalsely : Prop := streamsRow.holds Try.pinned (OpenSpec.ofChange streamsWrong)

/-- 'lockboxlaw.Seals': WHATEVER THE INPUT: true; the input reads as it did. -/
def sealsSpec : ChangeSpec := { name := "seals", fn := fun _ => fun
  | [d] => { results := [.lit (.bool true)], args := [d] }
  | _ => none }
def sealsRow : OpenClaim := { program := "ytalbdljajihpfaa", sum := "bbeb2ccf17f74e55cfa6e013913fb0703ff45507deb47443d2be63d5275b22f1", func := "lockbox/lockboxlaw.Seals", spec := "seals", apart := false }
def SealsSaid : Prop := sealsRow.holds Try.pinned (OpenSpec.ofChange sealsSpec)

/-- ITS FALSE NEIGHBOUR: 'it returns false'. Refute it at one input. -/
def sealsWrong : ChangeSpec := { name := "seals", fn := fun _ => fun
  | [d] => { results := [.lit (.bool false)], args := [d] }
  | _ => none }
def SealsWrongFalsely : Prop := sealsRow.holds Try.pinned (OpenSpec.ofChange sealsWrong)

/-- 'lockboxlaw.Opens': WHATEVER THE INPUT: true; the input reads as it did. -/
def opensSpec : ChangeSpec := { name := "opens", fn := fun _ => fun
  | [d] => { results := [.lit (.bool true)], args := [d] }
  | _ => none }
def opensRow : OpenClaim := { program := "ytalbdljajihpfaa", sum := "bbeb2ccf17f74e55cfa6e013913fb0703ff45507deb47443d2be63d5275b22f1", func := "lockbox/lockboxlaw.Opens", spec := "opens", apart := false }
def OpensSaid : Prop := opensRow.holds Try.pinned (OpenSpec.ofChange opensSpec)

/-- ITS FALSE NEIGHBOUR: 'it returns false'. Refute it at one input. -/
def opensWrong : ChangeSpec := { name := "opens", fn := fun _ => fun
  | [d] => { results := [.lit (.bool false)], args := [d] }
  | _ => none }
def OpensWrongFalsely : Prop := opensRow.holds Try.pinned (OpenSpec.ofChange opensWrong)

/-- 'lockboxlaw.Disks': WHATEVER THE INPUT: true; the input reads as it did. -/
def disksSpec : ChangeSpec := { name := "disks", fn := fun _ => fun
  | [d] => { results := [.lit (.bool true)], args := [d] }
  | _ => none }
def disksRow : OpenClaim := { program := "ytalbdljajihpfaa", sum := "bbeb2ccf17f74e55cfa6e013913fb0703ff45507deb47443d2be63d5275b22f1", func := "lockbox/lockboxlaw.Disks", spec := "disks", apart := false }
def DisksSaid : Prop := disksRow.holds Try.pinned (OpenSpec.ofChange disksSpec)

/-- ITS FALSE NEIGHBOUR: 'it returns false'. Refute it at one input. -/
def disksWrong : ChangeSpec := { name := "disks", fn := fun _ => fun
  | [d] => { results := [.lit (.bool false)], args := [d] }
  | _ => none }
def DisksWrongFalsely : Prop := disksRow.holds Try.pinned (OpenSpec.ofChange disksWrong)

/-- 'lockboxkeep.Sealed': WHATEVER THE INPUT: true; the input reads as it did. -/
def sealedSpec : ChangeSpec := { name := "sealed", fn := fun _ => fun
  | [d1, d2, d3, d4] => { results := [.lit (.bool true)], args := [d1, d2, d3, d4] }
  | _ => none }
def sealedRow : OpenClaim := { program := "ytalbdljajihpfaa", sum := "bbeb2ccf17f74e55cfa6e013913fb0703ff45507deb47443d2be63d5275b22f1", func := "lockbox/lockboxkeep.Sealed", spec := "sealed", apart := false }
def SealedSaid : Prop := sealedRow.holds Try.pinned (OpenSpec.ofChange sealedSpec)

/-- ITS FALSE NEIGHBOUR: 'it returns false'. Refute it at one input. -/
def sealedWrong : ChangeSpec := { name := "sealed", fn := fun _ => fun
  | [d1, d2, d3, d4] => { results := [.lit (.bool false)], args := [d1, d2, d3, d4] }
  | _ => none }
def SealedWrongFalsely : Prop := sealedRow.holds Try.pinned (OpenSpec.ofChange sealedWrong)

/-- 'lockboxkeep.Veiled': WHATEVER THE INPUT: true; the input reads as it did. -/
def veiledSpec : ChangeSpec := { name := "veiled", fn := fun _ => fun
  | [d1, d2, d3] => { results := [.lit (.bool true)], args := [d1, d2, d3] }
  | _ => none }
def veiledRow : OpenClaim := { program := "ytalbdljajihpfaa", sum := "bbeb2ccf17f74e55cfa6e013913fb0703ff45507deb47443d2be63d5275b22f1", func := "lockbox/lockboxkeep.Veiled", spec := "veiled", apart := false }
def VeiledSaid : Prop := veiledRow.holds Try.pinned (OpenSpec.ofChange veiledSpec)

/-- ITS FALSE NEIGHBOUR: 'it returns false'. Refute it at one input. -/
def veiledWrong : ChangeSpec := { name := "veiled", fn := fun _ => fun
  | [d1, d2, d3] => { results := [.lit (.bool false)], args := [d1, d2, d3] }
  | _ => none }
def VeiledWrongFalsely : Prop := veiledRow.holds Try.pinned (OpenSpec.ofChange veiledWrong)

/- THE SECOND FORM. 'bulk': how many values and letters a reading holds, each counted each time it is reached (what is shared counts as often as it is met; a slice's spare places count too). A statement '..UptoSaid' is the law's where the arguments, and the package variables that the reading takes, are together of bulk at most 1048576: NARROWER than '..Said'. Prove '..Said' where nothing that the law and all that it calls make is longer than what came in: it says more and counts as full. Else prove '..UptoSaid'. A law counts once. -/
mutual
def uptoBulk {H : Type} : DataW H → Nat
  | .lit (.string bytes) => bytes.length + 1
  | .lit _ => 1
  | .nil => 1
  | .ptr d => uptoBulk d + 1
  | .slice elems spare => uptoBulkAll elems + uptoBulkAll spare + 1
  | .agg parts => uptoBulkAll parts + 1
  | .iface _ d => uptoBulk d + 1
  | .map entries => uptoBulkEntries entries + 1
  | .held _ => 1
def uptoBulkAll {H : Type} : List (DataW H) → Nat
  | [] => 0
  | d :: r => uptoBulk d + uptoBulkAll r
def uptoBulkEntries {H : Type} : List (Lit × DataW H) → Nat
  | [] => 0
  | x :: r => uptoBulkEntry x + uptoBulkEntries r
def uptoBulkEntry {H : Type} : Lit × DataW H → Nat
  | (.string bytes, d) => bytes.length + uptoBulk d + 1
  | (_, d) => uptoBulk d + 1
 end
def uptoSmall : (H : Type) → List (DataW H) → Bool := fun _ ds => decide (uptoBulkAll ds ≤ 1048576)
def OpenSpec.upto (s : _root_.Go.ChangeSpec) : _root_.Go.OpenSpec := { _root_.Go.OpenSpec.ofChange s with cond := some uptoSmall }

/-- 'lockboxlaw.Streams', WHERE WHAT IT READS IS OF BULK AT MOST 1048576: true; the input reads as it did. -/
def streamsUptoRow : OpenClaim := { program := "ytalbdljajihpfaa", sum := "bbeb2ccf17f74e55cfa6e013913fb0703ff45507deb47443d2be63d5275b22f1", func := "lockbox/lockboxlaw.Streams", spec := "streams", apart := false, narrowed := true }
def StreamsUptoSaid : Prop := streamsUptoRow.holds Try.pinned (OpenSpec.upto streamsSpec)

/-- 'lockboxlaw.Seals', WHERE WHAT IT READS IS OF BULK AT MOST 1048576: true; the input reads as it did. -/
def sealsUptoRow : OpenClaim := { program := "ytalbdljajihpfaa", sum := "bbeb2ccf17f74e55cfa6e013913fb0703ff45507deb47443d2be63d5275b22f1", func := "lockbox/lockboxlaw.Seals", spec := "seals", apart := false, narrowed := true }
def SealsUptoSaid : Prop := sealsUptoRow.holds Try.pinned (OpenSpec.upto sealsSpec)

/-- 'lockboxlaw.Opens', WHERE WHAT IT READS IS OF BULK AT MOST 1048576: true; the input reads as it did. -/
def opensUptoRow : OpenClaim := { program := "ytalbdljajihpfaa", sum := "bbeb2ccf17f74e55cfa6e013913fb0703ff45507deb47443d2be63d5275b22f1", func := "lockbox/lockboxlaw.Opens", spec := "opens", apart := false, narrowed := true }
def OpensUptoSaid : Prop := opensUptoRow.holds Try.pinned (OpenSpec.upto opensSpec)

/-- 'lockboxlaw.Disks', WHERE WHAT IT READS IS OF BULK AT MOST 1048576: true; the input reads as it did. -/
def disksUptoRow : OpenClaim := { program := "ytalbdljajihpfaa", sum := "bbeb2ccf17f74e55cfa6e013913fb0703ff45507deb47443d2be63d5275b22f1", func := "lockbox/lockboxlaw.Disks", spec := "disks", apart := false, narrowed := true }
def DisksUptoSaid : Prop := disksUptoRow.holds Try.pinned (OpenSpec.upto disksSpec)

/-- 'lockboxkeep.Sealed', WHERE WHAT IT READS IS OF BULK AT MOST 1048576: true; the input reads as it did. -/
def sealedUptoRow : OpenClaim := { program := "ytalbdljajihpfaa", sum := "bbeb2ccf17f74e55cfa6e013913fb0703ff45507deb47443d2be63d5275b22f1", func := "lockbox/lockboxkeep.Sealed", spec := "sealed", apart := false, narrowed := true }
def SealedUptoSaid : Prop := sealedUptoRow.holds Try.pinned (OpenSpec.upto sealedSpec)

/-- 'lockboxkeep.Veiled', WHERE WHAT IT READS IS OF BULK AT MOST 1048576: true; the input reads as it did. -/
def veiledUptoRow : OpenClaim := { program := "ytalbdljajihpfaa", sum := "bbeb2ccf17f74e55cfa6e013913fb0703ff45507deb47443d2be63d5275b22f1", func := "lockbox/lockboxkeep.Veiled", spec := "veiled", apart := false, narrowed := true }
def VeiledUptoSaid : Prop := veiledUptoRow.holds Try.pinned (OpenSpec.upto veiledSpec)

end Rows
end Go.Proofs.Ytalbdljajihpfaa
