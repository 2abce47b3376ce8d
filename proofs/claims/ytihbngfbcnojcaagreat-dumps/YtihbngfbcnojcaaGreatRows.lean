/-
  No cell of these rows narrows 'for every input' (looked for: loops, veiled, ifaces, maps, wideKeys, modest, calm, conditions, laid).
  DERIVED. THE GIVEN ROWS OF THIS SEAT. 12 by the template 'for every input the law returns true; each argument reads behind the call as it read before'; 0 by the template 'total and deterministic' (their statements: YtihbngfbcnojcaaGreatTotals.lean).
  GIVEN WITH THE SEED: the statements are not yours to turn. If you find one false, say at which input.
  Laid BY PROGRAM, IN A SANDBOX (cutbox-rows.mjs): the forced cells as the released guide's own fill.sh prints them over the translation 30e2aabcc7e62f6d… (all of the seat's roots in one cut). By AI agents, Wed Nov 11 2026. No macro, syntax, notation, axiom, sorry.
-/
import Derived.Test.YtihbngfbcnojcaaGreatChecked
import GoSem.Claim
import GoSem.ClaimJoined
import GoSem.ClaimMapViews
import Derived.JoinedTies
import Derived.KernelRfl
namespace Go.Proofs.YtihbngfbcnojcaaGreat
/- THE CELL 'sum', in the pinned program and in every row, IS THE sha256 OF THE DUMP (.gsa) THAT YtihbngfbcnojcaaGreatProg.lean LOADS. Nothing in Lean hashes anything: it is a label: what it is worth is what the hold of that sum in a sandbox is worth. -/
noncomputable def Tryz.pinned : Pinned := { name := "ytihbngfbcnojcaagreat", sum := "30e2aabcc7e62f6d70bd743f7cb042d13e6e8de4acac2dcca4b14c3c830e2abe", checked := Tryz.checked }
namespace Rows
def none {H : Type} : Left H := { results := [], args := [] }

/-- 'anvillaw.News': WHATEVER THE INPUT: true; the input reads as it did. -/
def newsSpec : ChangeSpec := { name := "news", fn := fun _ => fun
  | [d] => { results := [.lit (.bool true)], args := [d] }
  | _ => none }
def newsRow : OpenClaim := { program := "ytihbngfbcnojcaagreat", sum := "30e2aabcc7e62f6d70bd743f7cb042d13e6e8de4acac2dcca4b14c3c830e2abe", func := "anvil/anvillaw.News", spec := "news", inPlace := ["(*sync.WaitGroup).Add", "internal/race.ReleaseMerge", "internal/race.Disable", "internal/race.Enable", "internal/synctest.IsInBubble", "internal/synctest.Associate[sync.WaitGroup]", "sync.fatal", "sync/atomic.OrUint64", "sync/atomic.AddUint64", "internal/race.Read", "sync/atomic.LoadUint64", "sync/atomic.StoreUint64", "internal/synctest.Disassociate[sync.WaitGroup]", "sync.runtime_Semrelease", "(*sync.WaitGroup).Done", "slices.overlaps[anvil/api.Pair]", "(*sync.WaitGroup).Wait", "internal/race.Acquire", "internal/synctest.IsAssociated[sync.WaitGroup]", "sync/atomic.CompareAndSwapUint64", "internal/race.Write", "sync.runtime_SemacquireWaitGroup"], unfollowed := true, recurses := true, apart := false }
def NewsSaid : Prop := newsRow.holds Tryz.pinned (OpenSpec.ofChange newsSpec)

/-- ITS FALSE NEIGHBOUR: 'it returns false'. Refute it at one input. -/
def newsWrong : ChangeSpec := { name := "news", fn := fun _ => fun
  | [d] => { results := [.lit (.bool false)], args := [d] }
  | _ => none }
def NewsWrongFalsely : Prop := newsRow.holds Tryz.pinned (OpenSpec.ofChange newsWrong)

/-- 'anvillaw.Acts': WHATEVER THE INPUT: true; the input reads as it did. -/
def actsSpec : ChangeSpec := { name := "acts", fn := fun _ => fun
  | [d] => { results := [.lit (.bool true)], args := [d] }
  | _ => none }
def actsRow : OpenClaim := { program := "ytihbngfbcnojcaagreat", sum := "30e2aabcc7e62f6d70bd743f7cb042d13e6e8de4acac2dcca4b14c3c830e2abe", func := "anvil/anvillaw.Acts", spec := "acts", inPlace := ["(*sync.WaitGroup).Add", "internal/race.ReleaseMerge", "internal/race.Disable", "internal/race.Enable", "internal/synctest.IsInBubble", "internal/synctest.Associate[sync.WaitGroup]", "sync.fatal", "sync/atomic.OrUint64", "sync/atomic.AddUint64", "internal/race.Read", "sync/atomic.LoadUint64", "sync/atomic.StoreUint64", "internal/synctest.Disassociate[sync.WaitGroup]", "sync.runtime_Semrelease", "(*sync.WaitGroup).Done", "slices.overlaps[anvil/api.Pair]", "(*sync.WaitGroup).Wait", "internal/race.Acquire", "internal/synctest.IsAssociated[sync.WaitGroup]", "sync/atomic.CompareAndSwapUint64", "internal/race.Write", "sync.runtime_SemacquireWaitGroup"], unfollowed := true, recurses := true, apart := false }
def ActsSaid : Prop := actsRow.holds Tryz.pinned (OpenSpec.ofChange actsSpec)

/-- ITS FALSE NEIGHBOUR: 'it returns false'. Refute it at one input. -/
def actsWrong : ChangeSpec := { name := "acts", fn := fun _ => fun
  | [d] => { results := [.lit (.bool false)], args := [d] }
  | _ => none }
def ActsWrongFalsely : Prop := actsRow.holds Tryz.pinned (OpenSpec.ofChange actsWrong)

/-- 'anvillaw.Dumps': WHATEVER THE INPUT: true; the input reads as it did. -/
def dumpsSpec : ChangeSpec := { name := "dumps", fn := fun _ => fun
  | [d] => { results := [.lit (.bool true)], args := [d] }
  | _ => none }
def dumpsRow : OpenClaim := { program := "ytihbngfbcnojcaagreat", sum := "30e2aabcc7e62f6d70bd743f7cb042d13e6e8de4acac2dcca4b14c3c830e2abe", func := "anvil/anvillaw.Dumps", spec := "dumps", inPlace := ["(*sync.WaitGroup).Add", "internal/race.ReleaseMerge", "internal/race.Disable", "internal/race.Enable", "internal/synctest.IsInBubble", "internal/synctest.Associate[sync.WaitGroup]", "sync.fatal", "sync/atomic.OrUint64", "sync/atomic.AddUint64", "internal/race.Read", "sync/atomic.LoadUint64", "sync/atomic.StoreUint64", "internal/synctest.Disassociate[sync.WaitGroup]", "sync.runtime_Semrelease", "(*sync.WaitGroup).Done", "slices.overlaps[anvil/api.Pair]", "(*sync.WaitGroup).Wait", "internal/race.Acquire", "internal/synctest.IsAssociated[sync.WaitGroup]", "sync/atomic.CompareAndSwapUint64", "internal/race.Write", "sync.runtime_SemacquireWaitGroup"], unfollowed := true, recurses := true, apart := false }
def DumpsSaid : Prop := dumpsRow.holds Tryz.pinned (OpenSpec.ofChange dumpsSpec)

/-- ITS FALSE NEIGHBOUR: 'it returns false'. Refute it at one input. -/
def dumpsWrong : ChangeSpec := { name := "dumps", fn := fun _ => fun
  | [d] => { results := [.lit (.bool false)], args := [d] }
  | _ => none }
def DumpsWrongFalsely : Prop := dumpsRow.holds Tryz.pinned (OpenSpec.ofChange dumpsWrong)

/-- 'anvillaw.Logs': WHATEVER THE INPUT: true; the input reads as it did. -/
def logsSpec : ChangeSpec := { name := "logs", fn := fun _ => fun
  | [d] => { results := [.lit (.bool true)], args := [d] }
  | _ => none }
def logsRow : OpenClaim := { program := "ytihbngfbcnojcaagreat", sum := "30e2aabcc7e62f6d70bd743f7cb042d13e6e8de4acac2dcca4b14c3c830e2abe", func := "anvil/anvillaw.Logs", spec := "logs", inPlace := ["(*sync.WaitGroup).Add", "internal/race.ReleaseMerge", "internal/race.Disable", "internal/race.Enable", "internal/synctest.IsInBubble", "internal/synctest.Associate[sync.WaitGroup]", "sync.fatal", "sync/atomic.OrUint64", "sync/atomic.AddUint64", "internal/race.Read", "sync/atomic.LoadUint64", "sync/atomic.StoreUint64", "internal/synctest.Disassociate[sync.WaitGroup]", "sync.runtime_Semrelease", "(*sync.WaitGroup).Done", "slices.overlaps[anvil/api.Pair]", "(*sync.WaitGroup).Wait", "internal/race.Acquire", "internal/synctest.IsAssociated[sync.WaitGroup]", "sync/atomic.CompareAndSwapUint64", "internal/race.Write", "sync.runtime_SemacquireWaitGroup"], unfollowed := true, recurses := true, apart := false }
def LogsSaid : Prop := logsRow.holds Tryz.pinned (OpenSpec.ofChange logsSpec)

/-- ITS FALSE NEIGHBOUR: 'it returns false'. Refute it at one input. -/
def logsWrong : ChangeSpec := { name := "logs", fn := fun _ => fun
  | [d] => { results := [.lit (.bool false)], args := [d] }
  | _ => none }
def LogsWrongFalsely : Prop := logsRow.holds Tryz.pinned (OpenSpec.ofChange logsWrong)

/-- 'anvilkeep.Hidden': WHATEVER THE INPUT: true; the input reads as it did. -/
def hiddenSpec : ChangeSpec := { name := "hidden", fn := fun _ => fun
  | [d1, d2, d3, d4, d5] => { results := [.lit (.bool true)], args := [d1, d2, d3, d4, d5] }
  | _ => none }
def hiddenRow : OpenClaim := { program := "ytihbngfbcnojcaagreat", sum := "30e2aabcc7e62f6d70bd743f7cb042d13e6e8de4acac2dcca4b14c3c830e2abe", func := "anvil/anvilkeep.Hidden", spec := "hidden", unfollowed := true, recurses := true, apart := false }
def HiddenSaid : Prop := hiddenRow.holds Tryz.pinned (OpenSpec.ofChange hiddenSpec)

/-- ITS FALSE NEIGHBOUR: 'it returns false'. Refute it at one input. -/
def hiddenWrong : ChangeSpec := { name := "hidden", fn := fun _ => fun
  | [d1, d2, d3, d4, d5] => { results := [.lit (.bool false)], args := [d1, d2, d3, d4, d5] }
  | _ => none }
def HiddenWrongFalsely : Prop := hiddenRow.holds Tryz.pinned (OpenSpec.ofChange hiddenWrong)

/-- 'anvilkeep.Room': WHATEVER THE INPUT: true; the input reads as it did. -/
def roomSpec : ChangeSpec := { name := "room", fn := fun _ => fun
  | [d1, d2] => { results := [.lit (.bool true)], args := [d1, d2] }
  | _ => none }
def roomRow : OpenClaim := { program := "ytihbngfbcnojcaagreat", sum := "30e2aabcc7e62f6d70bd743f7cb042d13e6e8de4acac2dcca4b14c3c830e2abe", func := "anvil/anvilkeep.Room", spec := "room", unfollowed := true, recurses := true, apart := false }
def RoomSaid : Prop := roomRow.holds Tryz.pinned (OpenSpec.ofChange roomSpec)

/-- ITS FALSE NEIGHBOUR: 'it returns false'. Refute it at one input. -/
def roomWrong : ChangeSpec := { name := "room", fn := fun _ => fun
  | [d1, d2] => { results := [.lit (.bool false)], args := [d1, d2] }
  | _ => none }
def RoomWrongFalsely : Prop := roomRow.holds Tryz.pinned (OpenSpec.ofChange roomWrong)

/-- 'anvillaw.Opens': WHATEVER THE INPUT: true; the input reads as it did. -/
def opensSpec : ChangeSpec := { name := "opens", fn := fun _ => fun
  | [d] => { results := [.lit (.bool true)], args := [d] }
  | _ => none }
def opensRow : OpenClaim := { program := "ytihbngfbcnojcaagreat", sum := "30e2aabcc7e62f6d70bd743f7cb042d13e6e8de4acac2dcca4b14c3c830e2abe", func := "anvil/anvillaw.Opens", spec := "opens", inPlace := ["(*sync.WaitGroup).Add", "internal/race.ReleaseMerge", "internal/race.Disable", "internal/race.Enable", "internal/synctest.IsInBubble", "internal/synctest.Associate[sync.WaitGroup]", "sync.fatal", "sync/atomic.OrUint64", "sync/atomic.AddUint64", "internal/race.Read", "sync/atomic.LoadUint64", "sync/atomic.StoreUint64", "internal/synctest.Disassociate[sync.WaitGroup]", "sync.runtime_Semrelease", "(*sync.WaitGroup).Done", "slices.overlaps[anvil/api.Pair]", "(*sync.WaitGroup).Wait", "internal/race.Acquire", "internal/synctest.IsAssociated[sync.WaitGroup]", "sync/atomic.CompareAndSwapUint64", "internal/race.Write", "sync.runtime_SemacquireWaitGroup"], unfollowed := true, recurses := true, apart := false }
def OpensSaid : Prop := opensRow.holds Tryz.pinned (OpenSpec.ofChange opensSpec)

/-- ITS FALSE NEIGHBOUR: 'it returns false'. Refute it at one input. -/
def opensWrong : ChangeSpec := { name := "opens", fn := fun _ => fun
  | [d] => { results := [.lit (.bool false)], args := [d] }
  | _ => none }
def OpensWrongFalsely : Prop := opensRow.holds Tryz.pinned (OpenSpec.ofChange opensWrong)

/-- 'anvillaw.Returns': WHATEVER THE INPUT: true; the input reads as it did. -/
def returnsSpec : ChangeSpec := { name := "returns", fn := fun _ => fun
  | [d] => { results := [.lit (.bool true)], args := [d] }
  | _ => none }
def returnsRow : OpenClaim := { program := "ytihbngfbcnojcaagreat", sum := "30e2aabcc7e62f6d70bd743f7cb042d13e6e8de4acac2dcca4b14c3c830e2abe", func := "anvil/anvillaw.Returns", spec := "returns", inPlace := ["(*sync.WaitGroup).Add", "internal/race.ReleaseMerge", "internal/race.Disable", "internal/race.Enable", "internal/synctest.IsInBubble", "internal/synctest.Associate[sync.WaitGroup]", "sync.fatal", "sync/atomic.OrUint64", "sync/atomic.AddUint64", "internal/race.Read", "sync/atomic.LoadUint64", "sync/atomic.StoreUint64", "internal/synctest.Disassociate[sync.WaitGroup]", "sync.runtime_Semrelease", "(*sync.WaitGroup).Done", "slices.overlaps[anvil/api.Pair]", "(*sync.WaitGroup).Wait", "internal/race.Acquire", "internal/synctest.IsAssociated[sync.WaitGroup]", "sync/atomic.CompareAndSwapUint64", "internal/race.Write", "sync.runtime_SemacquireWaitGroup"], unfollowed := true, recurses := true, apart := false }
def ReturnsSaid : Prop := returnsRow.holds Tryz.pinned (OpenSpec.ofChange returnsSpec)

/-- ITS FALSE NEIGHBOUR: 'it returns false'. Refute it at one input. -/
def returnsWrong : ChangeSpec := { name := "returns", fn := fun _ => fun
  | [d] => { results := [.lit (.bool false)], args := [d] }
  | _ => none }
def ReturnsWrongFalsely : Prop := returnsRow.holds Tryz.pinned (OpenSpec.ofChange returnsWrong)

/-- 'anvilkeep.Twins': WHATEVER THE INPUT: true; the input reads as it did. -/
def twinsSpec : ChangeSpec := { name := "twins", fn := fun _ => fun
  | [d] => { results := [.lit (.bool true)], args := [d] }
  | _ => none }
def twinsRow : OpenClaim := { program := "ytihbngfbcnojcaagreat", sum := "30e2aabcc7e62f6d70bd743f7cb042d13e6e8de4acac2dcca4b14c3c830e2abe", func := "anvil/anvilkeep.Twins", spec := "twins", inPlace := ["(*sync.WaitGroup).Add", "internal/race.ReleaseMerge", "internal/race.Disable", "internal/race.Enable", "internal/synctest.IsInBubble", "internal/synctest.Associate[sync.WaitGroup]", "sync.fatal", "sync/atomic.OrUint64", "sync/atomic.AddUint64", "internal/race.Read", "sync/atomic.LoadUint64", "sync/atomic.StoreUint64", "internal/synctest.Disassociate[sync.WaitGroup]", "sync.runtime_Semrelease", "(*sync.WaitGroup).Done", "slices.overlaps[anvil/api.Pair]", "(*sync.WaitGroup).Wait", "internal/race.Acquire", "internal/synctest.IsAssociated[sync.WaitGroup]", "sync/atomic.CompareAndSwapUint64", "internal/race.Write", "sync.runtime_SemacquireWaitGroup"], unfollowed := true, recurses := true, apart := false }
def TwinsSaid : Prop := twinsRow.holds Tryz.pinned (OpenSpec.ofChange twinsSpec)

/-- ITS FALSE NEIGHBOUR: 'it returns false'. Refute it at one input. -/
def twinsWrong : ChangeSpec := { name := "twins", fn := fun _ => fun
  | [d] => { results := [.lit (.bool false)], args := [d] }
  | _ => none }
def TwinsWrongFalsely : Prop := twinsRow.holds Tryz.pinned (OpenSpec.ofChange twinsWrong)

/-- 'anvilkeep.Carried': WHATEVER THE INPUT: true; the input reads as it did. -/
def carriedSpec : ChangeSpec := { name := "carried", fn := fun _ => fun
  | [d1, d2, d3, d4] => { results := [.lit (.bool true)], args := [d1, d2, d3, d4] }
  | _ => none }
def carriedRow : OpenClaim := { program := "ytihbngfbcnojcaagreat", sum := "30e2aabcc7e62f6d70bd743f7cb042d13e6e8de4acac2dcca4b14c3c830e2abe", func := "anvil/anvilkeep.Carried", spec := "carried", inPlace := ["(*sync.WaitGroup).Add", "internal/race.ReleaseMerge", "internal/race.Disable", "internal/race.Enable", "internal/synctest.IsInBubble", "internal/synctest.Associate[sync.WaitGroup]", "sync.fatal", "sync/atomic.OrUint64", "sync/atomic.AddUint64", "internal/race.Read", "sync/atomic.LoadUint64", "sync/atomic.StoreUint64", "internal/synctest.Disassociate[sync.WaitGroup]", "sync.runtime_Semrelease", "(*sync.WaitGroup).Done", "slices.overlaps[anvil/api.Pair]", "(*sync.WaitGroup).Wait", "internal/race.Acquire", "internal/synctest.IsAssociated[sync.WaitGroup]", "sync/atomic.CompareAndSwapUint64", "internal/race.Write", "sync.runtime_SemacquireWaitGroup"], unfollowed := true, recurses := true, apart := false }
def CarriedSaid : Prop := carriedRow.holds Tryz.pinned (OpenSpec.ofChange carriedSpec)

/-- ITS FALSE NEIGHBOUR: 'it returns false'. Refute it at one input. -/
def carriedWrong : ChangeSpec := { name := "carried", fn := fun _ => fun
  | [d1, d2, d3, d4] => { results := [.lit (.bool false)], args := [d1, d2, d3, d4] }
  | _ => none }
def CarriedWrongFalsely : Prop := carriedRow.holds Tryz.pinned (OpenSpec.ofChange carriedWrong)

/-- 'anvilkeep.Budget': WHATEVER THE INPUT: true; the input reads as it did. -/
def budgetSpec : ChangeSpec := { name := "budget", fn := fun _ => fun
  | [d1, d2] => { results := [.lit (.bool true)], args := [d1, d2] }
  | _ => none }
def budgetRow : OpenClaim := { program := "ytihbngfbcnojcaagreat", sum := "30e2aabcc7e62f6d70bd743f7cb042d13e6e8de4acac2dcca4b14c3c830e2abe", func := "anvil/anvilkeep.Budget", spec := "budget", inPlace := ["(*sync.WaitGroup).Add", "internal/race.ReleaseMerge", "internal/race.Disable", "internal/race.Enable", "internal/synctest.IsInBubble", "internal/synctest.Associate[sync.WaitGroup]", "sync.fatal", "sync/atomic.OrUint64", "sync/atomic.AddUint64", "internal/race.Read", "sync/atomic.LoadUint64", "sync/atomic.StoreUint64", "internal/synctest.Disassociate[sync.WaitGroup]", "sync.runtime_Semrelease", "(*sync.WaitGroup).Done", "slices.overlaps[anvil/api.Pair]", "(*sync.WaitGroup).Wait", "internal/race.Acquire", "internal/synctest.IsAssociated[sync.WaitGroup]", "sync/atomic.CompareAndSwapUint64", "internal/race.Write", "sync.runtime_SemacquireWaitGroup"], unfollowed := true, recurses := true, apart := false }
def BudgetSaid : Prop := budgetRow.holds Tryz.pinned (OpenSpec.ofChange budgetSpec)

/-- ITS FALSE NEIGHBOUR: 'it returns false'. Refute it at one input. -/
def budgetWrong : ChangeSpec := { name := "budget", fn := fun _ => fun
  | [d1, d2] => { results := [.lit (.bool false)], args := [d1, d2] }
  | _ => none }
def BudgetWrongFalsely : Prop := budgetRow.holds Tryz.pinned (OpenSpec.ofChange budgetWrong)

/-- 'anvilkeep.Fused': WHATEVER THE INPUT: true; the input reads as it did. -/
def fusedSpec : ChangeSpec := { name := "fused", fn := fun _ => fun
  | [d1, d2, d3] => { results := [.lit (.bool true)], args := [d1, d2, d3] }
  | _ => none }
def fusedRow : OpenClaim := { program := "ytihbngfbcnojcaagreat", sum := "30e2aabcc7e62f6d70bd743f7cb042d13e6e8de4acac2dcca4b14c3c830e2abe", func := "anvil/anvilkeep.Fused", spec := "fused", inPlace := ["(*sync.WaitGroup).Add", "internal/race.ReleaseMerge", "internal/race.Disable", "internal/race.Enable", "internal/synctest.IsInBubble", "internal/synctest.Associate[sync.WaitGroup]", "sync.fatal", "sync/atomic.OrUint64", "sync/atomic.AddUint64", "internal/race.Read", "sync/atomic.LoadUint64", "sync/atomic.StoreUint64", "internal/synctest.Disassociate[sync.WaitGroup]", "sync.runtime_Semrelease", "(*sync.WaitGroup).Done", "slices.overlaps[anvil/api.Pair]", "(*sync.WaitGroup).Wait", "internal/race.Acquire", "internal/synctest.IsAssociated[sync.WaitGroup]", "sync/atomic.CompareAndSwapUint64", "internal/race.Write", "sync.runtime_SemacquireWaitGroup"], unfollowed := true, recurses := true, apart := false }
def FusedSaid : Prop := fusedRow.holds Tryz.pinned (OpenSpec.ofChange fusedSpec)

/-- ITS FALSE NEIGHBOUR: 'it returns false'. Refute it at one input. -/
def fusedWrong : ChangeSpec := { name := "fused", fn := fun _ => fun
  | [d1, d2, d3] => { results := [.lit (.bool false)], args := [d1, d2, d3] }
  | _ => none }
def FusedWrongFalsely : Prop := fusedRow.holds Tryz.pinned (OpenSpec.ofChange fusedWrong)

/- THE SECOND FORM. 'bulk': how many values and letters a reading holds, each counted each time it is reached (what is shared counts as often as it is met; a slice's spare places count too). A statement '..UptoSaid' is the law's where the arguments, and the package variables that the reading takes, are together of bulk at most 1048576: NARROWER than '..Said'. Prove '..Said' where nothing that the law and all that it calls make is longer than what came in: it says more and counts as full. Else prove '..UptoSaid'. A law counts once. -/
mutual
def uptoBulk {H : Type} : DataW H → Nat
  | .lit (.string bytes) => bytes.length + 1
  | .lit _ => 1
  | .nil => 1
  | .ptr d => uptoBulk d + 1
  | .slice elems spare => uptoBulkAll elems + uptoBulkAll spare + 1
  | .agg parts => uptoBulkAll parts + 1
  | .iface _ d => uptoBulk d + 1
  | .map entries => uptoBulkEntries entries + 1
  | .held _ => 1
def uptoBulkAll {H : Type} : List (DataW H) → Nat
  | [] => 0
  | d :: r => uptoBulk d + uptoBulkAll r
def uptoBulkEntries {H : Type} : List (Lit × DataW H) → Nat
  | [] => 0
  | x :: r => uptoBulkEntry x + uptoBulkEntries r
def uptoBulkEntry {H : Type} : Lit × DataW H → Nat
  | (.string bytes, d) => bytes.length + uptoBulk d + 1
  | (_, d) => uptoBulk d + 1
 end
def uptoSmall : (H : Type) → List (DataW H) → Bool := fun _ ds => decide (uptoBulkAll ds ≤ 1048576)
def OpenSpec.upto (s : _root_.Go.ChangeSpec) : _root_.Go.OpenSpec := { _root_.Go.OpenSpec.ofChange s with cond := some uptoSmall }

/-- 'anvillaw.News', WHERE WHAT IT READS IS OF BULK AT MOST 1048576: true; the input reads as it did. -/
def newsUptoRow : OpenClaim := { program := "ytihbngfbcnojcaagreat", sum := "30e2aabcc7e62f6d70bd743f7cb042d13e6e8de4acac2dcca4b14c3c830e2abe", func := "anvil/anvillaw.News", spec := "news", inPlace := ["(*sync.WaitGroup).Add", "internal/race.ReleaseMerge", "internal/race.Disable", "internal/race.Enable", "internal/synctest.IsInBubble", "internal/synctest.Associate[sync.WaitGroup]", "sync.fatal", "sync/atomic.OrUint64", "sync/atomic.AddUint64", "internal/race.Read", "sync/atomic.LoadUint64", "sync/atomic.StoreUint64", "internal/synctest.Disassociate[sync.WaitGroup]", "sync.runtime_Semrelease", "(*sync.WaitGroup).Done", "slices.overlaps[anvil/api.Pair]", "(*sync.WaitGroup).Wait", "internal/race.Acquire", "internal/synctest.IsAssociated[sync.WaitGroup]", "sync/atomic.CompareAndSwapUint64", "internal/race.Write", "sync.runtime_SemacquireWaitGroup"], unfollowed := true, recurses := true, apart := false, narrowed := true }
def NewsUptoSaid : Prop := newsUptoRow.holds Tryz.pinned (OpenSpec.upto newsSpec)

/-- 'anvillaw.Acts', WHERE WHAT IT READS IS OF BULK AT MOST 1048576: true; the input reads as it did. -/
def actsUptoRow : OpenClaim := { program := "ytihbngfbcnojcaagreat", sum := "30e2aabcc7e62f6d70bd743f7cb042d13e6e8de4acac2dcca4b14c3c830e2abe", func := "anvil/anvillaw.Acts", spec := "acts", inPlace := ["(*sync.WaitGroup).Add", "internal/race.ReleaseMerge", "internal/race.Disable", "internal/race.Enable", "internal/synctest.IsInBubble", "internal/synctest.Associate[sync.WaitGroup]", "sync.fatal", "sync/atomic.OrUint64", "sync/atomic.AddUint64", "internal/race.Read", "sync/atomic.LoadUint64", "sync/atomic.StoreUint64", "internal/synctest.Disassociate[sync.WaitGroup]", "sync.runtime_Semrelease", "(*sync.WaitGroup).Done", "slices.overlaps[anvil/api.Pair]", "(*sync.WaitGroup).Wait", "internal/race.Acquire", "internal/synctest.IsAssociated[sync.WaitGroup]", "sync/atomic.CompareAndSwapUint64", "internal/race.Write", "sync.runtime_SemacquireWaitGroup"], unfollowed := true, recurses := true, apart := false, narrowed := true }
def ActsUptoSaid : Prop := actsUptoRow.holds Tryz.pinned (OpenSpec.upto actsSpec)

/-- 'anvillaw.Dumps', WHERE WHAT IT READS IS OF BULK AT MOST 1048576: true; the input reads as it did. -/
def dumpsUptoRow : OpenClaim := { program := "ytihbngfbcnojcaagreat", sum := "30e2aabcc7e62f6d70bd743f7cb042d13e6e8de4acac2dcca4b14c3c830e2abe", func := "anvil/anvillaw.Dumps", spec := "dumps", inPlace := ["(*sync.WaitGroup).Add", "internal/race.ReleaseMerge", "internal/race.Disable", "internal/race.Enable", "internal/synctest.IsInBubble", "internal/synctest.Associate[sync.WaitGroup]", "sync.fatal", "sync/atomic.OrUint64", "sync/atomic.AddUint64", "internal/race.Read", "sync/atomic.LoadUint64", "sync/atomic.StoreUint64", "internal/synctest.Disassociate[sync.WaitGroup]", "sync.runtime_Semrelease", "(*sync.WaitGroup).Done", "slices.overlaps[anvil/api.Pair]", "(*sync.WaitGroup).Wait", "internal/race.Acquire", "internal/synctest.IsAssociated[sync.WaitGroup]", "sync/atomic.CompareAndSwapUint64", "internal/race.Write", "sync.runtime_SemacquireWaitGroup"], unfollowed := true, recurses := true, apart := false, narrowed := true }
def DumpsUptoSaid : Prop := dumpsUptoRow.holds Tryz.pinned (OpenSpec.upto dumpsSpec)

/-- 'anvillaw.Logs', WHERE WHAT IT READS IS OF BULK AT MOST 1048576: true; the input reads as it did. -/
def logsUptoRow : OpenClaim := { program := "ytihbngfbcnojcaagreat", sum := "30e2aabcc7e62f6d70bd743f7cb042d13e6e8de4acac2dcca4b14c3c830e2abe", func := "anvil/anvillaw.Logs", spec := "logs", inPlace := ["(*sync.WaitGroup).Add", "internal/race.ReleaseMerge", "internal/race.Disable", "internal/race.Enable", "internal/synctest.IsInBubble", "internal/synctest.Associate[sync.WaitGroup]", "sync.fatal", "sync/atomic.OrUint64", "sync/atomic.AddUint64", "internal/race.Read", "sync/atomic.LoadUint64", "sync/atomic.StoreUint64", "internal/synctest.Disassociate[sync.WaitGroup]", "sync.runtime_Semrelease", "(*sync.WaitGroup).Done", "slices.overlaps[anvil/api.Pair]", "(*sync.WaitGroup).Wait", "internal/race.Acquire", "internal/synctest.IsAssociated[sync.WaitGroup]", "sync/atomic.CompareAndSwapUint64", "internal/race.Write", "sync.runtime_SemacquireWaitGroup"], unfollowed := true, recurses := true, apart := false, narrowed := true }
def LogsUptoSaid : Prop := logsUptoRow.holds Tryz.pinned (OpenSpec.upto logsSpec)

/-- 'anvilkeep.Hidden', WHERE WHAT IT READS IS OF BULK AT MOST 1048576: true; the input reads as it did. -/
def hiddenUptoRow : OpenClaim := { program := "ytihbngfbcnojcaagreat", sum := "30e2aabcc7e62f6d70bd743f7cb042d13e6e8de4acac2dcca4b14c3c830e2abe", func := "anvil/anvilkeep.Hidden", spec := "hidden", unfollowed := true, recurses := true, apart := false, narrowed := true }
def HiddenUptoSaid : Prop := hiddenUptoRow.holds Tryz.pinned (OpenSpec.upto hiddenSpec)

/-- 'anvilkeep.Room', WHERE WHAT IT READS IS OF BULK AT MOST 1048576: true; the input reads as it did. -/
def roomUptoRow : OpenClaim := { program := "ytihbngfbcnojcaagreat", sum := "30e2aabcc7e62f6d70bd743f7cb042d13e6e8de4acac2dcca4b14c3c830e2abe", func := "anvil/anvilkeep.Room", spec := "room", unfollowed := true, recurses := true, apart := false, narrowed := true }
def RoomUptoSaid : Prop := roomUptoRow.holds Tryz.pinned (OpenSpec.upto roomSpec)

/-- 'anvillaw.Opens', WHERE WHAT IT READS IS OF BULK AT MOST 1048576: true; the input reads as it did. -/
def opensUptoRow : OpenClaim := { program := "ytihbngfbcnojcaagreat", sum := "30e2aabcc7e62f6d70bd743f7cb042d13e6e8de4acac2dcca4b14c3c830e2abe", func := "anvil/anvillaw.Opens", spec := "opens", inPlace := ["(*sync.WaitGroup).Add", "internal/race.ReleaseMerge", "internal/race.Disable", "internal/race.Enable", "internal/synctest.IsInBubble", "internal/synctest.Associate[sync.WaitGroup]", "sync.fatal", "sync/atomic.OrUint64", "sync/atomic.AddUint64", "internal/race.Read", "sync/atomic.LoadUint64", "sync/atomic.StoreUint64", "internal/synctest.Disassociate[sync.WaitGroup]", "sync.runtime_Semrelease", "(*sync.WaitGroup).Done", "slices.overlaps[anvil/api.Pair]", "(*sync.WaitGroup).Wait", "internal/race.Acquire", "internal/synctest.IsAssociated[sync.WaitGroup]", "sync/atomic.CompareAndSwapUint64", "internal/race.Write", "sync.runtime_SemacquireWaitGroup"], unfollowed := true, recurses := true, apart := false, narrowed := true }
def OpensUptoSaid : Prop := opensUptoRow.holds Tryz.pinned (OpenSpec.upto opensSpec)

/-- 'anvillaw.Returns', WHERE WHAT IT READS IS OF BULK AT MOST 1048576: true; the input reads as it did. -/
def returnsUptoRow : OpenClaim := { program := "ytihbngfbcnojcaagreat", sum := "30e2aabcc7e62f6d70bd743f7cb042d13e6e8de4acac2dcca4b14c3c830e2abe", func := "anvil/anvillaw.Returns", spec := "returns", inPlace := ["(*sync.WaitGroup).Add", "internal/race.ReleaseMerge", "internal/race.Disable", "internal/race.Enable", "internal/synctest.IsInBubble", "internal/synctest.Associate[sync.WaitGroup]", "sync.fatal", "sync/atomic.OrUint64", "sync/atomic.AddUint64", "internal/race.Read", "sync/atomic.LoadUint64", "sync/atomic.StoreUint64", "internal/synctest.Disassociate[sync.WaitGroup]", "sync.runtime_Semrelease", "(*sync.WaitGroup).Done", "slices.overlaps[anvil/api.Pair]", "(*sync.WaitGroup).Wait", "internal/race.Acquire", "internal/synctest.IsAssociated[sync.WaitGroup]", "sync/atomic.CompareAndSwapUint64", "internal/race.Write", "sync.runtime_SemacquireWaitGroup"], unfollowed := true, recurses := true, apart := false, narrowed := true }
def ReturnsUptoSaid : Prop := returnsUptoRow.holds Tryz.pinned (OpenSpec.upto returnsSpec)

/-- 'anvilkeep.Twins', WHERE WHAT IT READS IS OF BULK AT MOST 1048576: true; the input reads as it did. -/
def twinsUptoRow : OpenClaim := { program := "ytihbngfbcnojcaagreat", sum := "30e2aabcc7e62f6d70bd743f7cb042d13e6e8de4acac2dcca4b14c3c830e2abe", func := "anvil/anvilkeep.Twins", spec := "twins", inPlace := ["(*sync.WaitGroup).Add", "internal/race.ReleaseMerge", "internal/race.Disable", "internal/race.Enable", "internal/synctest.IsInBubble", "internal/synctest.Associate[sync.WaitGroup]", "sync.fatal", "sync/atomic.OrUint64", "sync/atomic.AddUint64", "internal/race.Read", "sync/atomic.LoadUint64", "sync/atomic.StoreUint64", "internal/synctest.Disassociate[sync.WaitGroup]", "sync.runtime_Semrelease", "(*sync.WaitGroup).Done", "slices.overlaps[anvil/api.Pair]", "(*sync.WaitGroup).Wait", "internal/race.Acquire", "internal/synctest.IsAssociated[sync.WaitGroup]", "sync/atomic.CompareAndSwapUint64", "internal/race.Write", "sync.runtime_SemacquireWaitGroup"], unfollowed := true, recurses := true, apart := false, narrowed := true }
def TwinsUptoSaid : Prop := twinsUptoRow.holds Tryz.pinned (OpenSpec.upto twinsSpec)

/-- 'anvilkeep.Carried', WHERE WHAT IT READS IS OF BULK AT MOST 1048576: true; the input reads as it did. -/
def carriedUptoRow : OpenClaim := { program := "ytihbngfbcnojcaagreat", sum := "30e2aabcc7e62f6d70bd743f7cb042d13e6e8de4acac2dcca4b14c3c830e2abe", func := "anvil/anvilkeep.Carried", spec := "carried", inPlace := ["(*sync.WaitGroup).Add", "internal/race.ReleaseMerge", "internal/race.Disable", "internal/race.Enable", "internal/synctest.IsInBubble", "internal/synctest.Associate[sync.WaitGroup]", "sync.fatal", "sync/atomic.OrUint64", "sync/atomic.AddUint64", "internal/race.Read", "sync/atomic.LoadUint64", "sync/atomic.StoreUint64", "internal/synctest.Disassociate[sync.WaitGroup]", "sync.runtime_Semrelease", "(*sync.WaitGroup).Done", "slices.overlaps[anvil/api.Pair]", "(*sync.WaitGroup).Wait", "internal/race.Acquire", "internal/synctest.IsAssociated[sync.WaitGroup]", "sync/atomic.CompareAndSwapUint64", "internal/race.Write", "sync.runtime_SemacquireWaitGroup"], unfollowed := true, recurses := true, apart := false, narrowed := true }
def CarriedUptoSaid : Prop := carriedUptoRow.holds Tryz.pinned (OpenSpec.upto carriedSpec)

/-- 'anvilkeep.Budget', WHERE WHAT IT READS IS OF BULK AT MOST 1048576: true; the input reads as it did. -/
def budgetUptoRow : OpenClaim := { program := "ytihbngfbcnojcaagreat", sum := "30e2aabcc7e62f6d70bd743f7cb042d13e6e8de4acac2dcca4b14c3c830e2abe", func := "anvil/anvilkeep.Budget", spec := "budget", inPlace := ["(*sync.WaitGroup).Add", "internal/race.ReleaseMerge", "internal/race.Disable", "internal/race.Enable", "internal/synctest.IsInBubble", "internal/synctest.Associate[sync.WaitGroup]", "sync.fatal", "sync/atomic.OrUint64", "sync/atomic.AddUint64", "internal/race.Read", "sync/atomic.LoadUint64", "sync/atomic.StoreUint64", "internal/synctest.Disassociate[sync.WaitGroup]", "sync.runtime_Semrelease", "(*sync.WaitGroup).Done", "slices.overlaps[anvil/api.Pair]", "(*sync.WaitGroup).Wait", "internal/race.Acquire", "internal/synctest.IsAssociated[sync.WaitGroup]", "sync/atomic.CompareAndSwapUint64", "internal/race.Write", "sync.runtime_SemacquireWaitGroup"], unfollowed := true, recurses := true, apart := false, narrowed := true }
def BudgetUptoSaid : Prop := budgetUptoRow.holds Tryz.pinned (OpenSpec.upto budgetSpec)

/-- 'anvilkeep.Fused', WHERE WHAT IT READS IS OF BULK AT MOST 1048576: true; the input reads as it did. -/
def fusedUptoRow : OpenClaim := { program := "ytihbngfbcnojcaagreat", sum := "30e2aabcc7e62f6d70bd743f7cb042d13e6e8de4acac2dcca4b14c3c830e2abe", func := "anvil/anvilkeep.Fused", spec := "fused", inPlace := ["(*sync.WaitGroup).Add", "internal/race.ReleaseMerge", "internal/race.Disable", "internal/race.Enable", "internal/synctest.IsInBubble", "internal/synctest.Associate[sync.WaitGroup]", "sync.fatal", "sync/atomic.OrUint64", "sync/atomic.AddUint64", "internal/race.Read", "sync/atomic.LoadUint64", "sync/atomic.StoreUint64", "internal/synctest.Disassociate[sync.WaitGroup]", "sync.runtime_Semrelease", "(*sync.WaitGroup).Done", "slices.overlaps[anvil/api.Pair]", "(*sync.WaitGroup).Wait", "internal/race.Acquire", "internal/synctest.IsAssociated[sync.WaitGroup]", "sync/atomic.CompareAndSwapUint64", "internal/race.Write", "sync.runtime_SemacquireWaitGroup"], unfollowed := true, recurses := true, apart := false, narrowed := true }
def FusedUptoSaid : Prop := fusedUptoRow.holds Tryz.pinned (OpenSpec.upto fusedSpec)

end Rows
end Go.Proofs.YtihbngfbcnojcaaGreat
