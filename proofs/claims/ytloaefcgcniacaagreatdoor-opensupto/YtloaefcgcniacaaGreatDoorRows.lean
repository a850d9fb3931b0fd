/-
  NARROWER THAN 'FOR EVERY INPUT', by the rows' own cells (each row's printed sentence says how): Streams: laid · Seals: laid · Opens: laid · Disks: laid · Leasts: laid · Stores: laid · Truth: laid · All: laid.
  DERIVED. THE GIVEN ROWS OF THIS SEAT. 8 by the template 'for every input the law returns true; each argument reads behind the call as it read before'; 0 by the template 'total and deterministic' (their statements: YtloaefcgcniacaaGreatDoorTotals.lean).
  GIVEN WITH THE SEED: the statements are not yours to turn. If you find one false, say at which input.
  Laid BY PROGRAM, IN A SANDBOX (cutbox-rows.mjs): the forced cells as the released guide's own fill.sh prints them over the translation bccbd76b875e885b… (all of the seat's roots in one cut). By AI agents, Wed Nov 11 2026. No macro, syntax, notation, axiom, sorry.
-/
import Derived.Test.YtloaefcgcniacaaGreatDoorChecked
import GoSem.Claim
import GoSem.ClaimJoined
import GoSem.ClaimMapViews
import Derived.JoinedTies
import Derived.KernelRfl
namespace Go.Proofs.YtloaefcgcniacaaGreatDoor
/- THE CELL 'sum', in the pinned program and in every row, IS THE sha256 OF THE DUMP (.gsa) THAT YtloaefcgcniacaaGreatDoorProg.lean LOADS. Nothing in Lean hashes anything: it is a label: what it is worth is what the hold of that sum in a sandbox is worth. -/
noncomputable def Tryz.pinned : Pinned := { name := "ytloaefcgcniacaagreatdoor", sum := "bccbd76b875e885bbe8774c18b6c59a994a0877571c9ae18e7b91870dea00089", checked := Tryz.checked }
namespace Rows
def none {H : Type} : Left H := { results := [], args := [] }

/- WHAT THE LISTED PACKAGE-LEVEL VARIABLES READ AS WHEN THE CALL BEGINS. Each datum BY PROGRAM (the guide's laid-datum.mjs) off the statement by which the dump's own 'gosem.cut.vars' lays the variable. In a bare row this is a premise. The card (YtloaefcgcniacaaGreatDoorCards.lean) ties it to the program's text. -/
def laid_errors_errorType {H : Type} : DataW H := .iface "internal/reflectlite.rtype" (.agg [.ptr (.lit (.string [101, 114, 114, 111, 114]))])
def laid_lockbox_lockbox_errNoPower {H : Type} : DataW H := .iface "*errors.errorString" (.ptr (.agg [.lit (.string [116, 104, 101, 32, 112, 111, 119, 101, 114, 32, 105, 115, 32, 103, 111, 110, 101])]))
def laid_lockbox_lockbox_errWrong {H : Type} : DataW H := .iface "*errors.errorString" (.ptr (.agg [.lit (.string [116, 104, 101, 32, 100, 105, 115, 107, 32, 100, 111, 101, 115, 32, 110, 111, 116, 32, 104, 111, 108, 100, 32, 119, 104, 97, 116, 32, 105, 116, 32, 109, 117, 115, 116])]))

/-- 'lockboxlaw.Streams': WHATEVER THE INPUT: true; the input reads as it did. -/
def streamsSpec : ChangeSpec := { name := "streams", fn := fun _ => fun
  | [d] => { results := [.lit (.bool true)], args := [d] }
  | _ => none }
def streamsRow : OpenClaim := { program := "ytloaefcgcniacaagreatdoor", sum := "bccbd76b875e885bbe8774c18b6c59a994a0877571c9ae18e7b91870dea00089", func := "lockbox/lockboxlaw.Streams", spec := "streams", inPlace := ["internal/reflectlite.TypeOf", "(*sync.WaitGroup).Go", "(*sync.WaitGroup).Add", "internal/race.ReleaseMerge", "internal/race.Disable", "internal/race.Enable", "internal/synctest.IsInBubble", "internal/synctest.Associate[sync.WaitGroup]", "sync.fatal", "sync/atomic.OrUint64", "sync/atomic.AddUint64", "internal/race.Read", "sync/atomic.LoadUint64", "sync/atomic.StoreUint64", "internal/synctest.Disassociate[sync.WaitGroup]", "sync.runtime_Semrelease", "(*sync.WaitGroup).Go$1", "(*sync.WaitGroup).Go$1$1", "(*sync.WaitGroup).Done", "(*sync.WaitGroup).Wait", "internal/race.Acquire", "internal/synctest.IsAssociated[sync.WaitGroup]", "sync/atomic.CompareAndSwapUint64", "internal/race.Write", "sync.runtime_SemacquireWaitGroup", "internal/reflectlite.ValueOf", "(internal/reflectlite.Value).Type", "(internal/reflectlite.Value).IsNil", "(internal/reflectlite.Value).Elem", "(internal/reflectlite.Value).Set"], unfollowed := true, recurses := true, named := ["lockbox/lockbox.errNoPower", "lockbox/lockbox.errWrong", "errors.errorType"], apart := false, laid := [("errors.errorType", laid_errors_errorType), ("lockbox/lockbox.errNoPower", laid_lockbox_lockbox_errNoPower), ("lockbox/lockbox.errWrong", laid_lockbox_lockbox_errWrong)] }
def StreamsSaid : Prop := streamsRow.holds Tryz.pinned (OpenSpec.ofChange streamsSpec)

/-- ITS FALSE NEIGHBOUR: 'it returns false'. Refute it at one input. -/
def streamsWrong : ChangeSpec := { name := "streams", fn := fun _ => fun
  | [d] => { results := [.lit (.bool false)], args := [d] }
  | _ => none }
def StreamsWrongFalsely : Prop := streamsRow.holds Tryz.pinned (OpenSpec.ofChange streamsWrong)

/-- 'lockboxlaw.Seals': WHATEVER THE INPUT: true; the input reads as it did. -/
def sealsSpec : ChangeSpec := { name := "seals", fn := fun _ => fun
  | [d] => { results := [.lit (.bool true)], args := [d] }
  | _ => none }
def sealsRow : OpenClaim := { program := "ytloaefcgcniacaagreatdoor", sum := "bccbd76b875e885bbe8774c18b6c59a994a0877571c9ae18e7b91870dea00089", func := "lockbox/lockboxlaw.Seals", spec := "seals", inPlace := ["internal/reflectlite.TypeOf", "(*sync.WaitGroup).Go", "(*sync.WaitGroup).Add", "internal/race.ReleaseMerge", "internal/race.Disable", "internal/race.Enable", "internal/synctest.IsInBubble", "internal/synctest.Associate[sync.WaitGroup]", "sync.fatal", "sync/atomic.OrUint64", "sync/atomic.AddUint64", "internal/race.Read", "sync/atomic.LoadUint64", "sync/atomic.StoreUint64", "internal/synctest.Disassociate[sync.WaitGroup]", "sync.runtime_Semrelease", "(*sync.WaitGroup).Go$1", "(*sync.WaitGroup).Go$1$1", "(*sync.WaitGroup).Done", "(*sync.WaitGroup).Wait", "internal/race.Acquire", "internal/synctest.IsAssociated[sync.WaitGroup]", "sync/atomic.CompareAndSwapUint64", "internal/race.Write", "sync.runtime_SemacquireWaitGroup", "internal/reflectlite.ValueOf", "(internal/reflectlite.Value).Type", "(internal/reflectlite.Value).IsNil", "(internal/reflectlite.Value).Elem", "(internal/reflectlite.Value).Set"], unfollowed := true, recurses := true, named := ["lockbox/lockbox.errNoPower", "lockbox/lockbox.errWrong", "errors.errorType"], apart := false, laid := [("errors.errorType", laid_errors_errorType), ("lockbox/lockbox.errNoPower", laid_lockbox_lockbox_errNoPower), ("lockbox/lockbox.errWrong", laid_lockbox_lockbox_errWrong)] }
def SealsSaid : Prop := sealsRow.holds Tryz.pinned (OpenSpec.ofChange sealsSpec)

/-- ITS FALSE NEIGHBOUR: 'it returns false'. Refute it at one input. -/
def sealsWrong : ChangeSpec := { name := "seals", fn := fun _ => fun
  | [d] => { results := [.lit (.bool false)], args := [d] }
  | _ => none }
def SealsWrongFalsely : Prop := sealsRow.holds Tryz.pinned (OpenSpec.ofChange sealsWrong)

/-- 'lockboxlaw.Opens': WHATEVER THE INPUT: true; the input reads as it did. -/
def opensSpec : ChangeSpec := { name := "opens", fn := fun _ => fun
  | [d] => { results := [.lit (.bool true)], args := [d] }
  | _ => none }
def opensRow : OpenClaim := { program := "ytloaefcgcniacaagreatdoor", sum := "bccbd76b875e885bbe8774c18b6c59a994a0877571c9ae18e7b91870dea00089", func := "lockbox/lockboxlaw.Opens", spec := "opens", inPlace := ["internal/reflectlite.TypeOf", "(*sync.WaitGroup).Go", "(*sync.WaitGroup).Add", "internal/race.ReleaseMerge", "internal/race.Disable", "internal/race.Enable", "internal/synctest.IsInBubble", "internal/synctest.Associate[sync.WaitGroup]", "sync.fatal", "sync/atomic.OrUint64", "sync/atomic.AddUint64", "internal/race.Read", "sync/atomic.LoadUint64", "sync/atomic.StoreUint64", "internal/synctest.Disassociate[sync.WaitGroup]", "sync.runtime_Semrelease", "(*sync.WaitGroup).Go$1", "(*sync.WaitGroup).Go$1$1", "(*sync.WaitGroup).Done", "(*sync.WaitGroup).Wait", "internal/race.Acquire", "internal/synctest.IsAssociated[sync.WaitGroup]", "sync/atomic.CompareAndSwapUint64", "internal/race.Write", "sync.runtime_SemacquireWaitGroup", "internal/reflectlite.ValueOf", "(internal/reflectlite.Value).Type", "(internal/reflectlite.Value).IsNil", "(internal/reflectlite.Value).Elem", "(internal/reflectlite.Value).Set"], unfollowed := true, recurses := true, named := ["lockbox/lockbox.errNoPower", "lockbox/lockbox.errWrong", "errors.errorType"], apart := false, laid := [("errors.errorType", laid_errors_errorType), ("lockbox/lockbox.errNoPower", laid_lockbox_lockbox_errNoPower), ("lockbox/lockbox.errWrong", laid_lockbox_lockbox_errWrong)] }
def OpensSaid : Prop := opensRow.holds Tryz.pinned (OpenSpec.ofChange opensSpec)

/-- ITS FALSE NEIGHBOUR: 'it returns false'. Refute it at one input. -/
def opensWrong : ChangeSpec := { name := "opens", fn := fun _ => fun
  | [d] => { results := [.lit (.bool false)], args := [d] }
  | _ => none }
def OpensWrongFalsely : Prop := opensRow.holds Tryz.pinned (OpenSpec.ofChange opensWrong)

/-- 'lockboxlaw.Disks': WHATEVER THE INPUT: true; the input reads as it did. -/
def disksSpec : ChangeSpec := { name := "disks", fn := fun _ => fun
  | [d] => { results := [.lit (.bool true)], args := [d] }
  | _ => none }
def disksRow : OpenClaim := { program := "ytloaefcgcniacaagreatdoor", sum := "bccbd76b875e885bbe8774c18b6c59a994a0877571c9ae18e7b91870dea00089", func := "lockbox/lockboxlaw.Disks", spec := "disks", inPlace := ["internal/reflectlite.TypeOf", "(*sync.WaitGroup).Go", "(*sync.WaitGroup).Add", "internal/race.ReleaseMerge", "internal/race.Disable", "internal/race.Enable", "internal/synctest.IsInBubble", "internal/synctest.Associate[sync.WaitGroup]", "sync.fatal", "sync/atomic.OrUint64", "sync/atomic.AddUint64", "internal/race.Read", "sync/atomic.LoadUint64", "sync/atomic.StoreUint64", "internal/synctest.Disassociate[sync.WaitGroup]", "sync.runtime_Semrelease", "(*sync.WaitGroup).Go$1", "(*sync.WaitGroup).Go$1$1", "(*sync.WaitGroup).Done", "(*sync.WaitGroup).Wait", "internal/race.Acquire", "internal/synctest.IsAssociated[sync.WaitGroup]", "sync/atomic.CompareAndSwapUint64", "internal/race.Write", "sync.runtime_SemacquireWaitGroup", "internal/reflectlite.ValueOf", "(internal/reflectlite.Value).Type", "(internal/reflectlite.Value).IsNil", "(internal/reflectlite.Value).Elem", "(internal/reflectlite.Value).Set"], unfollowed := true, recurses := true, named := ["lockbox/lockbox.errNoPower", "lockbox/lockbox.errWrong", "errors.errorType"], apart := false, laid := [("errors.errorType", laid_errors_errorType), ("lockbox/lockbox.errNoPower", laid_lockbox_lockbox_errNoPower), ("lockbox/lockbox.errWrong", laid_lockbox_lockbox_errWrong)] }
def DisksSaid : Prop := disksRow.holds Tryz.pinned (OpenSpec.ofChange disksSpec)

/-- ITS FALSE NEIGHBOUR: 'it returns false'. Refute it at one input. -/
def disksWrong : ChangeSpec := { name := "disks", fn := fun _ => fun
  | [d] => { results := [.lit (.bool false)], args := [d] }
  | _ => none }
def DisksWrongFalsely : Prop := disksRow.holds Tryz.pinned (OpenSpec.ofChange disksWrong)

/-- 'lockboxlaw.Leasts': WHATEVER THE INPUT: true; the input reads as it did. -/
def leastsSpec : ChangeSpec := { name := "leasts", fn := fun _ => fun
  | [d] => { results := [.lit (.bool true)], args := [d] }
  | _ => none }
def leastsRow : OpenClaim := { program := "ytloaefcgcniacaagreatdoor", sum := "bccbd76b875e885bbe8774c18b6c59a994a0877571c9ae18e7b91870dea00089", func := "lockbox/lockboxlaw.Leasts", spec := "leasts", inPlace := ["internal/reflectlite.TypeOf", "(*sync.WaitGroup).Go", "(*sync.WaitGroup).Add", "internal/race.ReleaseMerge", "internal/race.Disable", "internal/race.Enable", "internal/synctest.IsInBubble", "internal/synctest.Associate[sync.WaitGroup]", "sync.fatal", "sync/atomic.OrUint64", "sync/atomic.AddUint64", "internal/race.Read", "sync/atomic.LoadUint64", "sync/atomic.StoreUint64", "internal/synctest.Disassociate[sync.WaitGroup]", "sync.runtime_Semrelease", "(*sync.WaitGroup).Go$1", "(*sync.WaitGroup).Go$1$1", "(*sync.WaitGroup).Done", "(*sync.WaitGroup).Wait", "internal/race.Acquire", "internal/synctest.IsAssociated[sync.WaitGroup]", "sync/atomic.CompareAndSwapUint64", "internal/race.Write", "sync.runtime_SemacquireWaitGroup", "internal/reflectlite.ValueOf", "(internal/reflectlite.Value).Type", "(internal/reflectlite.Value).IsNil", "(internal/reflectlite.Value).Elem", "(internal/reflectlite.Value).Set"], unfollowed := true, recurses := true, named := ["lockbox/lockbox.errNoPower", "lockbox/lockbox.errWrong", "errors.errorType"], apart := false, laid := [("errors.errorType", laid_errors_errorType), ("lockbox/lockbox.errNoPower", laid_lockbox_lockbox_errNoPower), ("lockbox/lockbox.errWrong", laid_lockbox_lockbox_errWrong)] }
def LeastsSaid : Prop := leastsRow.holds Tryz.pinned (OpenSpec.ofChange leastsSpec)

/-- ITS FALSE NEIGHBOUR: 'it returns false'. Refute it at one input. -/
def leastsWrong : ChangeSpec := { name := "leasts", fn := fun _ => fun
  | [d] => { results := [.lit (.bool false)], args := [d] }
  | _ => none }
def LeastsWrongFalsely : Prop := leastsRow.holds Tryz.pinned (OpenSpec.ofChange leastsWrong)

/-- 'lockboxlaw.Stores': WHATEVER THE INPUT: true; the input reads as it did. -/
def storesSpec : ChangeSpec := { name := "stores", fn := fun _ => fun
  | [d] => { results := [.lit (.bool true)], args := [d] }
  | _ => none }
def storesRow : OpenClaim := { program := "ytloaefcgcniacaagreatdoor", sum := "bccbd76b875e885bbe8774c18b6c59a994a0877571c9ae18e7b91870dea00089", func := "lockbox/lockboxlaw.Stores", spec := "stores", inPlace := ["internal/reflectlite.TypeOf", "(*sync.WaitGroup).Go", "(*sync.WaitGroup).Add", "internal/race.ReleaseMerge", "internal/race.Disable", "internal/race.Enable", "internal/synctest.IsInBubble", "internal/synctest.Associate[sync.WaitGroup]", "sync.fatal", "sync/atomic.OrUint64", "sync/atomic.AddUint64", "internal/race.Read", "sync/atomic.LoadUint64", "sync/atomic.StoreUint64", "internal/synctest.Disassociate[sync.WaitGroup]", "sync.runtime_Semrelease", "(*sync.WaitGroup).Go$1", "(*sync.WaitGroup).Go$1$1", "(*sync.WaitGroup).Done", "(*sync.WaitGroup).Wait", "internal/race.Acquire", "internal/synctest.IsAssociated[sync.WaitGroup]", "sync/atomic.CompareAndSwapUint64", "internal/race.Write", "sync.runtime_SemacquireWaitGroup", "internal/reflectlite.ValueOf", "(internal/reflectlite.Value).Type", "(internal/reflectlite.Value).IsNil", "(internal/reflectlite.Value).Elem", "(internal/reflectlite.Value).Set"], unfollowed := true, recurses := true, named := ["lockbox/lockbox.errNoPower", "lockbox/lockbox.errWrong", "errors.errorType"], apart := false, laid := [("errors.errorType", laid_errors_errorType), ("lockbox/lockbox.errNoPower", laid_lockbox_lockbox_errNoPower), ("lockbox/lockbox.errWrong", laid_lockbox_lockbox_errWrong)] }
def StoresSaid : Prop := storesRow.holds Tryz.pinned (OpenSpec.ofChange storesSpec)

/-- ITS FALSE NEIGHBOUR: 'it returns false'. Refute it at one input. -/
def storesWrong : ChangeSpec := { name := "stores", fn := fun _ => fun
  | [d] => { results := [.lit (.bool false)], args := [d] }
  | _ => none }
def StoresWrongFalsely : Prop := storesRow.holds Tryz.pinned (OpenSpec.ofChange storesWrong)

/-- 'lockboxkeep.Truth': WHATEVER THE INPUT: true; the input reads as it did. -/
def truthSpec : ChangeSpec := { name := "truth", fn := fun _ => fun
  | [d1, d2, d3, d4] => { results := [.lit (.bool true)], args := [d1, d2, d3, d4] }
  | _ => none }
def truthRow : OpenClaim := { program := "ytloaefcgcniacaagreatdoor", sum := "bccbd76b875e885bbe8774c18b6c59a994a0877571c9ae18e7b91870dea00089", func := "lockbox/lockboxkeep.Truth", spec := "truth", inPlace := ["internal/reflectlite.TypeOf", "(*sync.WaitGroup).Go", "(*sync.WaitGroup).Add", "internal/race.ReleaseMerge", "internal/race.Disable", "internal/race.Enable", "internal/synctest.IsInBubble", "internal/synctest.Associate[sync.WaitGroup]", "sync.fatal", "sync/atomic.OrUint64", "sync/atomic.AddUint64", "internal/race.Read", "sync/atomic.LoadUint64", "sync/atomic.StoreUint64", "internal/synctest.Disassociate[sync.WaitGroup]", "sync.runtime_Semrelease", "(*sync.WaitGroup).Go$1", "(*sync.WaitGroup).Go$1$1", "(*sync.WaitGroup).Done", "(*sync.WaitGroup).Wait", "internal/race.Acquire", "internal/synctest.IsAssociated[sync.WaitGroup]", "sync/atomic.CompareAndSwapUint64", "internal/race.Write", "sync.runtime_SemacquireWaitGroup", "internal/reflectlite.ValueOf", "(internal/reflectlite.Value).Type", "(internal/reflectlite.Value).IsNil", "(internal/reflectlite.Value).Elem", "(internal/reflectlite.Value).Set"], unfollowed := true, recurses := true, named := ["lockbox/lockbox.errNoPower", "lockbox/lockbox.errWrong", "errors.errorType"], apart := false, laid := [("errors.errorType", laid_errors_errorType), ("lockbox/lockbox.errNoPower", laid_lockbox_lockbox_errNoPower), ("lockbox/lockbox.errWrong", laid_lockbox_lockbox_errWrong)] }
def TruthSaid : Prop := truthRow.holds Tryz.pinned (OpenSpec.ofChange truthSpec)

/-- ITS FALSE NEIGHBOUR: 'it returns false'. Refute it at one input. -/
def truthWrong : ChangeSpec := { name := "truth", fn := fun _ => fun
  | [d1, d2, d3, d4] => { results := [.lit (.bool false)], args := [d1, d2, d3, d4] }
  | _ => none }
def TruthWrongFalsely : Prop := truthRow.holds Tryz.pinned (OpenSpec.ofChange truthWrong)

/-- 'lockboxlaw.All': WHATEVER THE INPUT: true; the input reads as it did. -/
def allSpec : ChangeSpec := { name := "all", fn := fun _ => fun
  | [d] => { results := [.lit (.bool true)], args := [d] }
  | _ => none }
def allRow : OpenClaim := { program := "ytloaefcgcniacaagreatdoor", sum := "bccbd76b875e885bbe8774c18b6c59a994a0877571c9ae18e7b91870dea00089", func := "lockbox/lockboxlaw.All", spec := "all", inPlace := ["internal/reflectlite.TypeOf", "(*sync.WaitGroup).Go", "(*sync.WaitGroup).Add", "internal/race.ReleaseMerge", "internal/race.Disable", "internal/race.Enable", "internal/synctest.IsInBubble", "internal/synctest.Associate[sync.WaitGroup]", "sync.fatal", "sync/atomic.OrUint64", "sync/atomic.AddUint64", "internal/race.Read", "sync/atomic.LoadUint64", "sync/atomic.StoreUint64", "internal/synctest.Disassociate[sync.WaitGroup]", "sync.runtime_Semrelease", "(*sync.WaitGroup).Go$1", "(*sync.WaitGroup).Go$1$1", "(*sync.WaitGroup).Done", "(*sync.WaitGroup).Wait", "internal/race.Acquire", "internal/synctest.IsAssociated[sync.WaitGroup]", "sync/atomic.CompareAndSwapUint64", "internal/race.Write", "sync.runtime_SemacquireWaitGroup", "internal/reflectlite.ValueOf", "(internal/reflectlite.Value).Type", "(internal/reflectlite.Value).IsNil", "(internal/reflectlite.Value).Elem", "(internal/reflectlite.Value).Set"], unfollowed := true, recurses := true, named := ["lockbox/lockbox.errNoPower", "lockbox/lockbox.errWrong", "errors.errorType"], apart := false, laid := [("errors.errorType", laid_errors_errorType), ("lockbox/lockbox.errNoPower", laid_lockbox_lockbox_errNoPower), ("lockbox/lockbox.errWrong", laid_lockbox_lockbox_errWrong)] }
def AllSaid : Prop := allRow.holds Tryz.pinned (OpenSpec.ofChange allSpec)

/-- ITS FALSE NEIGHBOUR: 'it returns false'. Refute it at one input. -/
def allWrong : ChangeSpec := { name := "all", fn := fun _ => fun
  | [d] => { results := [.lit (.bool false)], args := [d] }
  | _ => none }
def AllWrongFalsely : Prop := allRow.holds Tryz.pinned (OpenSpec.ofChange allWrong)

/- THE SECOND FORM. 'bulk': how many values and letters a reading holds, each counted each time it is reached (what is shared counts as often as it is met; a slice's spare places count too). A statement '..UptoSaid' is the law's where the arguments, and the package variables that the reading takes, are together of bulk at most 1048576: NARROWER than '..Said'. Prove '..Said' where nothing that the law and all that it calls make is longer than what came in: it says more and counts as full. Else prove '..UptoSaid'. A law counts once. -/
mutual
def uptoBulk {H : Type} : DataW H → Nat
  | .lit (.string bytes) => bytes.length + 1
  | .lit _ => 1
  | .nil => 1
  | .ptr d => uptoBulk d + 1
  | .slice elems spare => uptoBulkAll elems + uptoBulkAll spare + 1
  | .agg parts => uptoBulkAll parts + 1
  | .iface _ d => uptoBulk d + 1
  | .map entries => uptoBulkEntries entries + 1
  | .held _ => 1
def uptoBulkAll {H : Type} : List (DataW H) → Nat
  | [] => 0
  | d :: r => uptoBulk d + uptoBulkAll r
def uptoBulkEntries {H : Type} : List (Lit × DataW H) → Nat
  | [] => 0
  | x :: r => uptoBulkEntry x + uptoBulkEntries r
def uptoBulkEntry {H : Type} : Lit × DataW H → Nat
  | (.string bytes, d) => bytes.length + uptoBulk d + 1
  | (_, d) => uptoBulk d + 1
 end
def uptoSmall : (H : Type) → List (DataW H) → Bool := fun _ ds => decide (uptoBulkAll ds ≤ 1048576)
def OpenSpec.upto (s : _root_.Go.ChangeSpec) : _root_.Go.OpenSpec := { _root_.Go.OpenSpec.ofChange s with cond := some uptoSmall }

/-- 'lockboxlaw.Streams', WHERE WHAT IT READS IS OF BULK AT MOST 1048576: true; the input reads as it did. -/
def streamsUptoRow : OpenClaim := { program := "ytloaefcgcniacaagreatdoor", sum := "bccbd76b875e885bbe8774c18b6c59a994a0877571c9ae18e7b91870dea00089", func := "lockbox/lockboxlaw.Streams", spec := "streams", inPlace := ["internal/reflectlite.TypeOf", "(*sync.WaitGroup).Go", "(*sync.WaitGroup).Add", "internal/race.ReleaseMerge", "internal/race.Disable", "internal/race.Enable", "internal/synctest.IsInBubble", "internal/synctest.Associate[sync.WaitGroup]", "sync.fatal", "sync/atomic.OrUint64", "sync/atomic.AddUint64", "internal/race.Read", "sync/atomic.LoadUint64", "sync/atomic.StoreUint64", "internal/synctest.Disassociate[sync.WaitGroup]", "sync.runtime_Semrelease", "(*sync.WaitGroup).Go$1", "(*sync.WaitGroup).Go$1$1", "(*sync.WaitGroup).Done", "(*sync.WaitGroup).Wait", "internal/race.Acquire", "internal/synctest.IsAssociated[sync.WaitGroup]", "sync/atomic.CompareAndSwapUint64", "internal/race.Write", "sync.runtime_SemacquireWaitGroup", "internal/reflectlite.ValueOf", "(internal/reflectlite.Value).Type", "(internal/reflectlite.Value).IsNil", "(internal/reflectlite.Value).Elem", "(internal/reflectlite.Value).Set"], unfollowed := true, recurses := true, named := ["lockbox/lockbox.errNoPower", "lockbox/lockbox.errWrong", "errors.errorType"], apart := false, laid := [("errors.errorType", laid_errors_errorType), ("lockbox/lockbox.errNoPower", laid_lockbox_lockbox_errNoPower), ("lockbox/lockbox.errWrong", laid_lockbox_lockbox_errWrong)], narrowed := true }
def StreamsUptoSaid : Prop := streamsUptoRow.holds Tryz.pinned (OpenSpec.upto streamsSpec)

/-- 'lockboxlaw.Seals', WHERE WHAT IT READS IS OF BULK AT MOST 1048576: true; the input reads as it did. -/
def sealsUptoRow : OpenClaim := { program := "ytloaefcgcniacaagreatdoor", sum := "bccbd76b875e885bbe8774c18b6c59a994a0877571c9ae18e7b91870dea00089", func := "lockbox/lockboxlaw.Seals", spec := "seals", inPlace := ["internal/reflectlite.TypeOf", "(*sync.WaitGroup).Go", "(*sync.WaitGroup).Add", "internal/race.ReleaseMerge", "internal/race.Disable", "internal/race.Enable", "internal/synctest.IsInBubble", "internal/synctest.Associate[sync.WaitGroup]", "sync.fatal", "sync/atomic.OrUint64", "sync/atomic.AddUint64", "internal/race.Read", "sync/atomic.LoadUint64", "sync/atomic.StoreUint64", "internal/synctest.Disassociate[sync.WaitGroup]", "sync.runtime_Semrelease", "(*sync.WaitGroup).Go$1", "(*sync.WaitGroup).Go$1$1", "(*sync.WaitGroup).Done", "(*sync.WaitGroup).Wait", "internal/race.Acquire", "internal/synctest.IsAssociated[sync.WaitGroup]", "sync/atomic.CompareAndSwapUint64", "internal/race.Write", "sync.runtime_SemacquireWaitGroup", "internal/reflectlite.ValueOf", "(internal/reflectlite.Value).Type", "(internal/reflectlite.Value).IsNil", "(internal/reflectlite.Value).Elem", "(internal/reflectlite.Value).Set"], unfollowed := true, recurses := true, named := ["lockbox/lockbox.errNoPower", "lockbox/lockbox.errWrong", "errors.errorType"], apart := false, laid := [("errors.errorType", laid_errors_errorType), ("lockbox/lockbox.errNoPower", laid_lockbox_lockbox_errNoPower), ("lockbox/lockbox.errWrong", laid_lockbox_lockbox_errWrong)], narrowed := true }
def SealsUptoSaid : Prop := sealsUptoRow.holds Tryz.pinned (OpenSpec.upto sealsSpec)

/-- 'lockboxlaw.Opens', WHERE WHAT IT READS IS OF BULK AT MOST 1048576: true; the input reads as it did. -/
def opensUptoRow : OpenClaim := { program := "ytloaefcgcniacaagreatdoor", sum := "bccbd76b875e885bbe8774c18b6c59a994a0877571c9ae18e7b91870dea00089", func := "lockbox/lockboxlaw.Opens", spec := "opens", inPlace := ["internal/reflectlite.TypeOf", "(*sync.WaitGroup).Go", "(*sync.WaitGroup).Add", "internal/race.ReleaseMerge", "internal/race.Disable", "internal/race.Enable", "internal/synctest.IsInBubble", "internal/synctest.Associate[sync.WaitGroup]", "sync.fatal", "sync/atomic.OrUint64", "sync/atomic.AddUint64", "internal/race.Read", "sync/atomic.LoadUint64", "sync/atomic.StoreUint64", "internal/synctest.Disassociate[sync.WaitGroup]", "sync.runtime_Semrelease", "(*sync.WaitGroup).Go$1", "(*sync.WaitGroup).Go$1$1", "(*sync.WaitGroup).Done", "(*sync.WaitGroup).Wait", "internal/race.Acquire", "internal/synctest.IsAssociated[sync.WaitGroup]", "sync/atomic.CompareAndSwapUint64", "internal/race.Write", "sync.runtime_SemacquireWaitGroup", "internal/reflectlite.ValueOf", "(internal/reflectlite.Value).Type", "(internal/reflectlite.Value).IsNil", "(internal/reflectlite.Value).Elem", "(internal/reflectlite.Value).Set"], unfollowed := true, recurses := true, named := ["lockbox/lockbox.errNoPower", "lockbox/lockbox.errWrong", "errors.errorType"], apart := false, laid := [("errors.errorType", laid_errors_errorType), ("lockbox/lockbox.errNoPower", laid_lockbox_lockbox_errNoPower), ("lockbox/lockbox.errWrong", laid_lockbox_lockbox_errWrong)], narrowed := true }
def OpensUptoSaid : Prop := opensUptoRow.holds Tryz.pinned (OpenSpec.upto opensSpec)

/-- 'lockboxlaw.Disks', WHERE WHAT IT READS IS OF BULK AT MOST 1048576: true; the input reads as it did. -/
def disksUptoRow : OpenClaim := { program := "ytloaefcgcniacaagreatdoor", sum := "bccbd76b875e885bbe8774c18b6c59a994a0877571c9ae18e7b91870dea00089", func := "lockbox/lockboxlaw.Disks", spec := "disks", inPlace := ["internal/reflectlite.TypeOf", "(*sync.WaitGroup).Go", "(*sync.WaitGroup).Add", "internal/race.ReleaseMerge", "internal/race.Disable", "internal/race.Enable", "internal/synctest.IsInBubble", "internal/synctest.Associate[sync.WaitGroup]", "sync.fatal", "sync/atomic.OrUint64", "sync/atomic.AddUint64", "internal/race.Read", "sync/atomic.LoadUint64", "sync/atomic.StoreUint64", "internal/synctest.Disassociate[sync.WaitGroup]", "sync.runtime_Semrelease", "(*sync.WaitGroup).Go$1", "(*sync.WaitGroup).Go$1$1", "(*sync.WaitGroup).Done", "(*sync.WaitGroup).Wait", "internal/race.Acquire", "internal/synctest.IsAssociated[sync.WaitGroup]", "sync/atomic.CompareAndSwapUint64", "internal/race.Write", "sync.runtime_SemacquireWaitGroup", "internal/reflectlite.ValueOf", "(internal/reflectlite.Value).Type", "(internal/reflectlite.Value).IsNil", "(internal/reflectlite.Value).Elem", "(internal/reflectlite.Value).Set"], unfollowed := true, recurses := true, named := ["lockbox/lockbox.errNoPower", "lockbox/lockbox.errWrong", "errors.errorType"], apart := false, laid := [("errors.errorType", laid_errors_errorType), ("lockbox/lockbox.errNoPower", laid_lockbox_lockbox_errNoPower), ("lockbox/lockbox.errWrong", laid_lockbox_lockbox_errWrong)], narrowed := true }
def DisksUptoSaid : Prop := disksUptoRow.holds Tryz.pinned (OpenSpec.upto disksSpec)

/-- 'lockboxlaw.Leasts', WHERE WHAT IT READS IS OF BULK AT MOST 1048576: true; the input reads as it did. -/
def leastsUptoRow : OpenClaim := { program := "ytloaefcgcniacaagreatdoor", sum := "bccbd76b875e885bbe8774c18b6c59a994a0877571c9ae18e7b91870dea00089", func := "lockbox/lockboxlaw.Leasts", spec := "leasts", inPlace := ["internal/reflectlite.TypeOf", "(*sync.WaitGroup).Go", "(*sync.WaitGroup).Add", "internal/race.ReleaseMerge", "internal/race.Disable", "internal/race.Enable", "internal/synctest.IsInBubble", "internal/synctest.Associate[sync.WaitGroup]", "sync.fatal", "sync/atomic.OrUint64", "sync/atomic.AddUint64", "internal/race.Read", "sync/atomic.LoadUint64", "sync/atomic.StoreUint64", "internal/synctest.Disassociate[sync.WaitGroup]", "sync.runtime_Semrelease", "(*sync.WaitGroup).Go$1", "(*sync.WaitGroup).Go$1$1", "(*sync.WaitGroup).Done", "(*sync.WaitGroup).Wait", "internal/race.Acquire", "internal/synctest.IsAssociated[sync.WaitGroup]", "sync/atomic.CompareAndSwapUint64", "internal/race.Write", "sync.runtime_SemacquireWaitGroup", "internal/reflectlite.ValueOf", "(internal/reflectlite.Value).Type", "(internal/reflectlite.Value).IsNil", "(internal/reflectlite.Value).Elem", "(internal/reflectlite.Value).Set"], unfollowed := true, recurses := true, named := ["lockbox/lockbox.errNoPower", "lockbox/lockbox.errWrong", "errors.errorType"], apart := false, laid := [("errors.errorType", laid_errors_errorType), ("lockbox/lockbox.errNoPower", laid_lockbox_lockbox_errNoPower), ("lockbox/lockbox.errWrong", laid_lockbox_lockbox_errWrong)], narrowed := true }
def LeastsUptoSaid : Prop := leastsUptoRow.holds Tryz.pinned (OpenSpec.upto leastsSpec)

/-- 'lockboxlaw.Stores', WHERE WHAT IT READS IS OF BULK AT MOST 1048576: true; the input reads as it did. -/
def storesUptoRow : OpenClaim := { program := "ytloaefcgcniacaagreatdoor", sum := "bccbd76b875e885bbe8774c18b6c59a994a0877571c9ae18e7b91870dea00089", func := "lockbox/lockboxlaw.Stores", spec := "stores", inPlace := ["internal/reflectlite.TypeOf", "(*sync.WaitGroup).Go", "(*sync.WaitGroup).Add", "internal/race.ReleaseMerge", "internal/race.Disable", "internal/race.Enable", "internal/synctest.IsInBubble", "internal/synctest.Associate[sync.WaitGroup]", "sync.fatal", "sync/atomic.OrUint64", "sync/atomic.AddUint64", "internal/race.Read", "sync/atomic.LoadUint64", "sync/atomic.StoreUint64", "internal/synctest.Disassociate[sync.WaitGroup]", "sync.runtime_Semrelease", "(*sync.WaitGroup).Go$1", "(*sync.WaitGroup).Go$1$1", "(*sync.WaitGroup).Done", "(*sync.WaitGroup).Wait", "internal/race.Acquire", "internal/synctest.IsAssociated[sync.WaitGroup]", "sync/atomic.CompareAndSwapUint64", "internal/race.Write", "sync.runtime_SemacquireWaitGroup", "internal/reflectlite.ValueOf", "(internal/reflectlite.Value).Type", "(internal/reflectlite.Value).IsNil", "(internal/reflectlite.Value).Elem", "(internal/reflectlite.Value).Set"], unfollowed := true, recurses := true, named := ["lockbox/lockbox.errNoPower", "lockbox/lockbox.errWrong", "errors.errorType"], apart := false, laid := [("errors.errorType", laid_errors_errorType), ("lockbox/lockbox.errNoPower", laid_lockbox_lockbox_errNoPower), ("lockbox/lockbox.errWrong", laid_lockbox_lockbox_errWrong)], narrowed := true }
def StoresUptoSaid : Prop := storesUptoRow.holds Tryz.pinned (OpenSpec.upto storesSpec)

/-- 'lockboxkeep.Truth', WHERE WHAT IT READS IS OF BULK AT MOST 1048576: true; the input reads as it did. -/
def truthUptoRow : OpenClaim := { program := "ytloaefcgcniacaagreatdoor", sum := "bccbd76b875e885bbe8774c18b6c59a994a0877571c9ae18e7b91870dea00089", func := "lockbox/lockboxkeep.Truth", spec := "truth", inPlace := ["internal/reflectlite.TypeOf", "(*sync.WaitGroup).Go", "(*sync.WaitGroup).Add", "internal/race.ReleaseMerge", "internal/race.Disable", "internal/race.Enable", "internal/synctest.IsInBubble", "internal/synctest.Associate[sync.WaitGroup]", "sync.fatal", "sync/atomic.OrUint64", "sync/atomic.AddUint64", "internal/race.Read", "sync/atomic.LoadUint64", "sync/atomic.StoreUint64", "internal/synctest.Disassociate[sync.WaitGroup]", "sync.runtime_Semrelease", "(*sync.WaitGroup).Go$1", "(*sync.WaitGroup).Go$1$1", "(*sync.WaitGroup).Done", "(*sync.WaitGroup).Wait", "internal/race.Acquire", "internal/synctest.IsAssociated[sync.WaitGroup]", "sync/atomic.CompareAndSwapUint64", "internal/race.Write", "sync.runtime_SemacquireWaitGroup", "internal/reflectlite.ValueOf", "(internal/reflectlite.Value).Type", "(internal/reflectlite.Value).IsNil", "(internal/reflectlite.Value).Elem", "(internal/reflectlite.Value).Set"], unfollowed := true, recurses := true, named := ["lockbox/lockbox.errNoPower", "lockbox/lockbox.errWrong", "errors.errorType"], apart := false, laid := [("errors.errorType", laid_errors_errorType), ("lockbox/lockbox.errNoPower", laid_lockbox_lockbox_errNoPower), ("lockbox/lockbox.errWrong", laid_lockbox_lockbox_errWrong)], narrowed := true }
def TruthUptoSaid : Prop := truthUptoRow.holds Tryz.pinned (OpenSpec.upto truthSpec)

/-- 'lockboxlaw.All', WHERE WHAT IT READS IS OF BULK AT MOST 1048576: true; the input reads as it did. -/
def allUptoRow : OpenClaim := { program := "ytloaefcgcniacaagreatdoor", sum := "bccbd76b875e885bbe8774c18b6c59a994a0877571c9ae18e7b91870dea00089", func := "lockbox/lockboxlaw.All", spec := "all", inPlace := ["internal/reflectlite.TypeOf", "(*sync.WaitGroup).Go", "(*sync.WaitGroup).Add", "internal/race.ReleaseMerge", "internal/race.Disable", "internal/race.Enable", "internal/synctest.IsInBubble", "internal/synctest.Associate[sync.WaitGroup]", "sync.fatal", "sync/atomic.OrUint64", "sync/atomic.AddUint64", "internal/race.Read", "sync/atomic.LoadUint64", "sync/atomic.StoreUint64", "internal/synctest.Disassociate[sync.WaitGroup]", "sync.runtime_Semrelease", "(*sync.WaitGroup).Go$1", "(*sync.WaitGroup).Go$1$1", "(*sync.WaitGroup).Done", "(*sync.WaitGroup).Wait", "internal/race.Acquire", "internal/synctest.IsAssociated[sync.WaitGroup]", "sync/atomic.CompareAndSwapUint64", "internal/race.Write", "sync.runtime_SemacquireWaitGroup", "internal/reflectlite.ValueOf", "(internal/reflectlite.Value).Type", "(internal/reflectlite.Value).IsNil", "(internal/reflectlite.Value).Elem", "(internal/reflectlite.Value).Set"], unfollowed := true, recurses := true, named := ["lockbox/lockbox.errNoPower", "lockbox/lockbox.errWrong", "errors.errorType"], apart := false, laid := [("errors.errorType", laid_errors_errorType), ("lockbox/lockbox.errNoPower", laid_lockbox_lockbox_errNoPower), ("lockbox/lockbox.errWrong", laid_lockbox_lockbox_errWrong)], narrowed := true }
def AllUptoSaid : Prop := allUptoRow.holds Tryz.pinned (OpenSpec.upto allSpec)

end Rows
end Go.Proofs.YtloaefcgcniacaaGreatDoor
