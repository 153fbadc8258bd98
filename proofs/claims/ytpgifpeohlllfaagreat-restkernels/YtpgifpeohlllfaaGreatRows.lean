/-
  No cell of these rows narrows 'for every input' (looked for: loops, veiled, ifaces, maps, wideKeys, modest, calm, conditions, laid).
  DERIVED. THE GIVEN ROWS OF THIS SEAT. 11 by the template 'for every input the law returns true; each argument reads behind the call as it read before'; 0 by the template 'total and deterministic' (their statements: YtpgifpeohlllfaaGreatTotals.lean).
  GIVEN WITH THE SEED: the statements are not yours to turn. If you find one false, say at which input.
  Laid BY PROGRAM, IN A SANDBOX (cutbox-rows.mjs): the forced cells as the released guide's own fill.sh prints them over the translation 01691da0be6e38d7… (all of the seat's roots in one cut). By AI agents, Wed Nov 11 2026. No macro, syntax, notation, axiom, sorry.
-/
import Derived.Test.YtpgifpeohlllfaaGreatChecked
import GoSem.Claim
import GoSem.ClaimJoined
import GoSem.ClaimMapViews
import Derived.JoinedTies
import Derived.KernelRfl
namespace Go.Proofs.YtpgifpeohlllfaaGreat
/- THE CELL 'sum', in the pinned program and in every row, IS THE sha256 OF THE DUMP (.gsa) THAT YtpgifpeohlllfaaGreatProg.lean LOADS. Nothing in Lean hashes anything: it is a label: what it is worth is what the hold of that sum in a sandbox is worth. -/
noncomputable def Tryz.pinned : Pinned := { name := "ytpgifpeohlllfaagreat", sum := "01691da0be6e38d731e77985984efa73ac4c4862bbd365d800cc9194e3a13c98", checked := Tryz.checked }
namespace Rows
def none {H : Type} : Left H := { results := [], args := [] }

/-- 'foliantlaw.RestKernels': WHATEVER THE INPUT: true; the input reads as it did. -/
def restKernelsSpec : ChangeSpec := { name := "restKernels", fn := fun _ => fun
  | [d1, d2, d3, d4, d5, d6] => { results := [.lit (.bool true)], args := [d1, d2, d3, d4, d5, d6] }
  | _ => none }
def restKernelsRow : OpenClaim := { program := "ytpgifpeohlllfaagreat", sum := "01691da0be6e38d731e77985984efa73ac4c4862bbd365d800cc9194e3a13c98", func := "foliant/foliantlaw.RestKernels", spec := "restKernels", inPlace := ["internal/abi.NoEscape", "internal/bytealg.MakeNoZero", "slices.overlaps[foliant/api.Entry]"], unfollowed := true, recurses := true, apart := false }
def RestKernelsSaid : Prop := restKernelsRow.holds Tryz.pinned (OpenSpec.ofChange restKernelsSpec)

/-- ITS FALSE NEIGHBOUR: 'it returns false'. Refute it at one input. -/
def restKernelsWrong : ChangeSpec := { name := "restKernels", fn := fun _ => fun
  | [d1, d2, d3, d4, d5, d6] => { results := [.lit (.bool false)], args := [d1, d2, d3, d4, d5, d6] }
  | _ => none }
def RestKernelsWrongFalsely : Prop := restKernelsRow.holds Tryz.pinned (OpenSpec.ofChange restKernelsWrong)

/-- 'foliantlaw.KernelStarts': WHATEVER THE INPUT: true; the input reads as it did. -/
def kernelStartsSpec : ChangeSpec := { name := "kernelStarts", fn := fun _ => fun
  | [d1, d2, d3, d4] => { results := [.lit (.bool true)], args := [d1, d2, d3, d4] }
  | _ => none }
def kernelStartsRow : OpenClaim := { program := "ytpgifpeohlllfaagreat", sum := "01691da0be6e38d731e77985984efa73ac4c4862bbd365d800cc9194e3a13c98", func := "foliant/foliantlaw.KernelStarts", spec := "kernelStarts", inPlace := ["internal/abi.NoEscape", "internal/bytealg.MakeNoZero", "slices.overlaps[foliant/api.Entry]"], unfollowed := true, recurses := true, apart := false }
def KernelStartsSaid : Prop := kernelStartsRow.holds Tryz.pinned (OpenSpec.ofChange kernelStartsSpec)

/-- ITS FALSE NEIGHBOUR: 'it returns false'. Refute it at one input. -/
def kernelStartsWrong : ChangeSpec := { name := "kernelStarts", fn := fun _ => fun
  | [d1, d2, d3, d4] => { results := [.lit (.bool false)], args := [d1, d2, d3, d4] }
  | _ => none }
def KernelStartsWrongFalsely : Prop := kernelStartsRow.holds Tryz.pinned (OpenSpec.ofChange kernelStartsWrong)

/-- 'foliantlaw.KernelReaches': WHATEVER THE INPUT: true; the input reads as it did. -/
def kernelReachesSpec : ChangeSpec := { name := "kernelReaches", fn := fun _ => fun
  | [d1, d2, d3, d4, d5] => { results := [.lit (.bool true)], args := [d1, d2, d3, d4, d5] }
  | _ => none }
def kernelReachesRow : OpenClaim := { program := "ytpgifpeohlllfaagreat", sum := "01691da0be6e38d731e77985984efa73ac4c4862bbd365d800cc9194e3a13c98", func := "foliant/foliantlaw.KernelReaches", spec := "kernelReaches", inPlace := ["internal/abi.NoEscape", "internal/bytealg.MakeNoZero", "slices.overlaps[foliant/api.Entry]"], unfollowed := true, recurses := true, apart := false }
def KernelReachesSaid : Prop := kernelReachesRow.holds Tryz.pinned (OpenSpec.ofChange kernelReachesSpec)

/-- ITS FALSE NEIGHBOUR: 'it returns false'. Refute it at one input. -/
def kernelReachesWrong : ChangeSpec := { name := "kernelReaches", fn := fun _ => fun
  | [d1, d2, d3, d4, d5] => { results := [.lit (.bool false)], args := [d1, d2, d3, d4, d5] }
  | _ => none }
def KernelReachesWrongFalsely : Prop := kernelReachesRow.holds Tryz.pinned (OpenSpec.ofChange kernelReachesWrong)

/-- 'foliantlaw.KernelStores': WHATEVER THE INPUT: true; the input reads as it did. -/
def kernelStoresSpec : ChangeSpec := { name := "kernelStores", fn := fun _ => fun
  | [d1, d2, d3, d4] => { results := [.lit (.bool true)], args := [d1, d2, d3, d4] }
  | _ => none }
def kernelStoresRow : OpenClaim := { program := "ytpgifpeohlllfaagreat", sum := "01691da0be6e38d731e77985984efa73ac4c4862bbd365d800cc9194e3a13c98", func := "foliant/foliantlaw.KernelStores", spec := "kernelStores", inPlace := ["internal/abi.NoEscape", "internal/bytealg.MakeNoZero", "slices.overlaps[foliant/api.Entry]"], unfollowed := true, recurses := true, apart := false }
def KernelStoresSaid : Prop := kernelStoresRow.holds Tryz.pinned (OpenSpec.ofChange kernelStoresSpec)

/-- ITS FALSE NEIGHBOUR: 'it returns false'. Refute it at one input. -/
def kernelStoresWrong : ChangeSpec := { name := "kernelStores", fn := fun _ => fun
  | [d1, d2, d3, d4] => { results := [.lit (.bool false)], args := [d1, d2, d3, d4] }
  | _ => none }
def KernelStoresWrongFalsely : Prop := kernelStoresRow.holds Tryz.pinned (OpenSpec.ofChange kernelStoresWrong)

/-- 'foliantlaw.KernelPeeks': WHATEVER THE INPUT: true; the input reads as it did. -/
def kernelPeeksSpec : ChangeSpec := { name := "kernelPeeks", fn := fun _ => fun
  | [d1, d2, d3] => { results := [.lit (.bool true)], args := [d1, d2, d3] }
  | _ => none }
def kernelPeeksRow : OpenClaim := { program := "ytpgifpeohlllfaagreat", sum := "01691da0be6e38d731e77985984efa73ac4c4862bbd365d800cc9194e3a13c98", func := "foliant/foliantlaw.KernelPeeks", spec := "kernelPeeks", inPlace := ["internal/abi.NoEscape", "internal/bytealg.MakeNoZero", "slices.overlaps[foliant/api.Entry]"], unfollowed := true, recurses := true, apart := false }
def KernelPeeksSaid : Prop := kernelPeeksRow.holds Tryz.pinned (OpenSpec.ofChange kernelPeeksSpec)

/-- ITS FALSE NEIGHBOUR: 'it returns false'. Refute it at one input. -/
def kernelPeeksWrong : ChangeSpec := { name := "kernelPeeks", fn := fun _ => fun
  | [d1, d2, d3] => { results := [.lit (.bool false)], args := [d1, d2, d3] }
  | _ => none }
def KernelPeeksWrongFalsely : Prop := kernelPeeksRow.holds Tryz.pinned (OpenSpec.ofChange kernelPeeksWrong)

/-- 'foliantlaw.KernelMaps': WHATEVER THE INPUT: true; the input reads as it did. -/
def kernelMapsSpec : ChangeSpec := { name := "kernelMaps", fn := fun _ => fun
  | [d1, d2, d3, d4, d5] => { results := [.lit (.bool true)], args := [d1, d2, d3, d4, d5] }
  | _ => none }
def kernelMapsRow : OpenClaim := { program := "ytpgifpeohlllfaagreat", sum := "01691da0be6e38d731e77985984efa73ac4c4862bbd365d800cc9194e3a13c98", func := "foliant/foliantlaw.KernelMaps", spec := "kernelMaps", inPlace := ["internal/abi.NoEscape", "internal/bytealg.MakeNoZero", "slices.overlaps[foliant/api.Entry]"], unfollowed := true, recurses := true, apart := false }
def KernelMapsSaid : Prop := kernelMapsRow.holds Tryz.pinned (OpenSpec.ofChange kernelMapsSpec)

/-- ITS FALSE NEIGHBOUR: 'it returns false'. Refute it at one input. -/
def kernelMapsWrong : ChangeSpec := { name := "kernelMaps", fn := fun _ => fun
  | [d1, d2, d3, d4, d5] => { results := [.lit (.bool false)], args := [d1, d2, d3, d4, d5] }
  | _ => none }
def KernelMapsWrongFalsely : Prop := kernelMapsRow.holds Tryz.pinned (OpenSpec.ofChange kernelMapsWrong)

/-- 'foliantlaw.KernelForks': WHATEVER THE INPUT: true; the input reads as it did. -/
def kernelForksSpec : ChangeSpec := { name := "kernelForks", fn := fun _ => fun
  | [d1, d2] => { results := [.lit (.bool true)], args := [d1, d2] }
  | _ => none }
def kernelForksRow : OpenClaim := { program := "ytpgifpeohlllfaagreat", sum := "01691da0be6e38d731e77985984efa73ac4c4862bbd365d800cc9194e3a13c98", func := "foliant/foliantlaw.KernelForks", spec := "kernelForks", inPlace := ["internal/abi.NoEscape", "internal/bytealg.MakeNoZero", "slices.overlaps[foliant/api.Entry]"], unfollowed := true, recurses := true, apart := false }
def KernelForksSaid : Prop := kernelForksRow.holds Tryz.pinned (OpenSpec.ofChange kernelForksSpec)

/-- ITS FALSE NEIGHBOUR: 'it returns false'. Refute it at one input. -/
def kernelForksWrong : ChangeSpec := { name := "kernelForks", fn := fun _ => fun
  | [d1, d2] => { results := [.lit (.bool false)], args := [d1, d2] }
  | _ => none }
def KernelForksWrongFalsely : Prop := kernelForksRow.holds Tryz.pinned (OpenSpec.ofChange kernelForksWrong)

/-- 'foliantlaw.KernelKeeps': WHATEVER THE INPUT: true; the input reads as it did. -/
def kernelKeepsSpec : ChangeSpec := { name := "kernelKeeps", fn := fun _ => fun
  | [d1, d2, d3, d4, d5, d6, d7] => { results := [.lit (.bool true)], args := [d1, d2, d3, d4, d5, d6, d7] }
  | _ => none }
def kernelKeepsRow : OpenClaim := { program := "ytpgifpeohlllfaagreat", sum := "01691da0be6e38d731e77985984efa73ac4c4862bbd365d800cc9194e3a13c98", func := "foliant/foliantlaw.KernelKeeps", spec := "kernelKeeps", inPlace := ["internal/abi.NoEscape", "internal/bytealg.MakeNoZero", "slices.overlaps[foliant/api.Entry]"], unfollowed := true, recurses := true, apart := false }
def KernelKeepsSaid : Prop := kernelKeepsRow.holds Tryz.pinned (OpenSpec.ofChange kernelKeepsSpec)

/-- ITS FALSE NEIGHBOUR: 'it returns false'. Refute it at one input. -/
def kernelKeepsWrong : ChangeSpec := { name := "kernelKeeps", fn := fun _ => fun
  | [d1, d2, d3, d4, d5, d6, d7] => { results := [.lit (.bool false)], args := [d1, d2, d3, d4, d5, d6, d7] }
  | _ => none }
def KernelKeepsWrongFalsely : Prop := kernelKeepsRow.holds Tryz.pinned (OpenSpec.ofChange kernelKeepsWrong)

/-- 'foliantlaw.KernelHolds': WHATEVER THE INPUT: true; the input reads as it did. -/
def kernelHoldsSpec : ChangeSpec := { name := "kernelHolds", fn := fun _ => fun
  | [d1, d2, d3, d4, d5, d6] => { results := [.lit (.bool true)], args := [d1, d2, d3, d4, d5, d6] }
  | _ => none }
def kernelHoldsRow : OpenClaim := { program := "ytpgifpeohlllfaagreat", sum := "01691da0be6e38d731e77985984efa73ac4c4862bbd365d800cc9194e3a13c98", func := "foliant/foliantlaw.KernelHolds", spec := "kernelHolds", inPlace := ["internal/abi.NoEscape", "internal/bytealg.MakeNoZero", "slices.overlaps[foliant/api.Entry]"], unfollowed := true, recurses := true, apart := false }
def KernelHoldsSaid : Prop := kernelHoldsRow.holds Tryz.pinned (OpenSpec.ofChange kernelHoldsSpec)

/-- ITS FALSE NEIGHBOUR: 'it returns false'. Refute it at one input. -/
def kernelHoldsWrong : ChangeSpec := { name := "kernelHolds", fn := fun _ => fun
  | [d1, d2, d3, d4, d5, d6] => { results := [.lit (.bool false)], args := [d1, d2, d3, d4, d5, d6] }
  | _ => none }
def KernelHoldsWrongFalsely : Prop := kernelHoldsRow.holds Tryz.pinned (OpenSpec.ofChange kernelHoldsWrong)

/-- 'foliantlaw.KernelApart': WHATEVER THE INPUT: true; the input reads as it did. -/
def kernelApartSpec : ChangeSpec := { name := "kernelApart", fn := fun _ => fun
  | [d1, d2, d3] => { results := [.lit (.bool true)], args := [d1, d2, d3] }
  | _ => none }
def kernelApartRow : OpenClaim := { program := "ytpgifpeohlllfaagreat", sum := "01691da0be6e38d731e77985984efa73ac4c4862bbd365d800cc9194e3a13c98", func := "foliant/foliantlaw.KernelApart", spec := "kernelApart", inPlace := ["internal/abi.NoEscape", "internal/bytealg.MakeNoZero", "slices.overlaps[foliant/api.Entry]"], unfollowed := true, recurses := true, apart := false }
def KernelApartSaid : Prop := kernelApartRow.holds Tryz.pinned (OpenSpec.ofChange kernelApartSpec)

/-- ITS FALSE NEIGHBOUR: 'it returns false'. Refute it at one input. -/
def kernelApartWrong : ChangeSpec := { name := "kernelApart", fn := fun _ => fun
  | [d1, d2, d3] => { results := [.lit (.bool false)], args := [d1, d2, d3] }
  | _ => none }
def KernelApartWrongFalsely : Prop := kernelApartRow.holds Tryz.pinned (OpenSpec.ofChange kernelApartWrong)

/-- 'foliantlaw.KernelEmpty': WHATEVER THE INPUT: true; the input reads as it did. -/
def kernelEmptySpec : ChangeSpec := { name := "kernelEmpty", fn := fun _ => fun
  | [d] => { results := [.lit (.bool true)], args := [d] }
  | _ => none }
def kernelEmptyRow : OpenClaim := { program := "ytpgifpeohlllfaagreat", sum := "01691da0be6e38d731e77985984efa73ac4c4862bbd365d800cc9194e3a13c98", func := "foliant/foliantlaw.KernelEmpty", spec := "kernelEmpty", inPlace := ["internal/abi.NoEscape", "internal/bytealg.MakeNoZero", "slices.overlaps[foliant/api.Entry]"], unfollowed := true, recurses := true, apart := false }
def KernelEmptySaid : Prop := kernelEmptyRow.holds Tryz.pinned (OpenSpec.ofChange kernelEmptySpec)

/-- ITS FALSE NEIGHBOUR: 'it returns false'. Refute it at one input. -/
def kernelEmptyWrong : ChangeSpec := { name := "kernelEmpty", fn := fun _ => fun
  | [d] => { results := [.lit (.bool false)], args := [d] }
  | _ => none }
def KernelEmptyWrongFalsely : Prop := kernelEmptyRow.holds Tryz.pinned (OpenSpec.ofChange kernelEmptyWrong)

/- THE SECOND FORM. 'bulk': how many values and letters a reading holds, each counted each time it is reached (what is shared counts as often as it is met; a slice's spare places count too). A statement '..UptoSaid' is the law's where the arguments, and the package variables that the reading takes, are together of bulk at most 1048576: NARROWER than '..Said'. Prove '..Said' where nothing that the law and all that it calls make is longer than what came in: it says more and counts as full. Else prove '..UptoSaid'. A law counts once. -/
mutual
def uptoBulk {H : Type} : DataW H → Nat
  | .lit (.string bytes) => bytes.length + 1
  | .lit _ => 1
  | .nil => 1
  | .ptr d => uptoBulk d + 1
  | .slice elems spare => uptoBulkAll elems + uptoBulkAll spare + 1
  | .agg parts => uptoBulkAll parts + 1
  | .iface _ d => uptoBulk d + 1
  | .map entries => uptoBulkEntries entries + 1
  | .held _ => 1
def uptoBulkAll {H : Type} : List (DataW H) → Nat
  | [] => 0
  | d :: r => uptoBulk d + uptoBulkAll r
def uptoBulkEntries {H : Type} : List (Lit × DataW H) → Nat
  | [] => 0
  | x :: r => uptoBulkEntry x + uptoBulkEntries r
def uptoBulkEntry {H : Type} : Lit × DataW H → Nat
  | (.string bytes, d) => bytes.length + uptoBulk d + 1
  | (_, d) => uptoBulk d + 1
 end
def uptoSmall : (H : Type) → List (DataW H) → Bool := fun _ ds => decide (uptoBulkAll ds ≤ 1048576)
def OpenSpec.upto (s : _root_.Go.ChangeSpec) : _root_.Go.OpenSpec := { _root_.Go.OpenSpec.ofChange s with cond := some uptoSmall }

/-- 'foliantlaw.RestKernels', WHERE WHAT IT READS IS OF BULK AT MOST 1048576: true; the input reads as it did. -/
def restKernelsUptoRow : OpenClaim := { program := "ytpgifpeohlllfaagreat", sum := "01691da0be6e38d731e77985984efa73ac4c4862bbd365d800cc9194e3a13c98", func := "foliant/foliantlaw.RestKernels", spec := "restKernels", inPlace := ["internal/abi.NoEscape", "internal/bytealg.MakeNoZero", "slices.overlaps[foliant/api.Entry]"], unfollowed := true, recurses := true, apart := false, narrowed := true }
def RestKernelsUptoSaid : Prop := restKernelsUptoRow.holds Tryz.pinned (OpenSpec.upto restKernelsSpec)

/-- 'foliantlaw.KernelStarts', WHERE WHAT IT READS IS OF BULK AT MOST 1048576: true; the input reads as it did. -/
def kernelStartsUptoRow : OpenClaim := { program := "ytpgifpeohlllfaagreat", sum := "01691da0be6e38d731e77985984efa73ac4c4862bbd365d800cc9194e3a13c98", func := "foliant/foliantlaw.KernelStarts", spec := "kernelStarts", inPlace := ["internal/abi.NoEscape", "internal/bytealg.MakeNoZero", "slices.overlaps[foliant/api.Entry]"], unfollowed := true, recurses := true, apart := false, narrowed := true }
def KernelStartsUptoSaid : Prop := kernelStartsUptoRow.holds Tryz.pinned (OpenSpec.upto kernelStartsSpec)

/-- 'foliantlaw.KernelReaches', WHERE WHAT IT READS IS OF BULK AT MOST 1048576: true; the input reads as it did. -/
def kernelReachesUptoRow : OpenClaim := { program := "ytpgifpeohlllfaagreat", sum := "01691da0be6e38d731e77985984efa73ac4c4862bbd365d800cc9194e3a13c98", func := "foliant/foliantlaw.KernelReaches", spec := "kernelReaches", inPlace := ["internal/abi.NoEscape", "internal/bytealg.MakeNoZero", "slices.overlaps[foliant/api.Entry]"], unfollowed := true, recurses := true, apart := false, narrowed := true }
def KernelReachesUptoSaid : Prop := kernelReachesUptoRow.holds Tryz.pinned (OpenSpec.upto kernelReachesSpec)

/-- 'foliantlaw.KernelStores', WHERE WHAT IT READS IS OF BULK AT MOST 1048576: true; the input reads as it did. -/
def kernelStoresUptoRow : OpenClaim := { program := "ytpgifpeohlllfaagreat", sum := "01691da0be6e38d731e77985984efa73ac4c4862bbd365d800cc9194e3a13c98", func := "foliant/foliantlaw.KernelStores", spec := "kernelStores", inPlace := ["internal/abi.NoEscape", "internal/bytealg.MakeNoZero", "slices.overlaps[foliant/api.Entry]"], unfollowed := true, recurses := true, apart := false, narrowed := true }
def KernelStoresUptoSaid : Prop := kernelStoresUptoRow.holds Tryz.pinned (OpenSpec.upto kernelStoresSpec)

/-- 'foliantlaw.KernelPeeks', WHERE WHAT IT READS IS OF BULK AT MOST 1048576: true; the input reads as it did. -/
def kernelPeeksUptoRow : OpenClaim := { program := "ytpgifpeohlllfaagreat", sum := "01691da0be6e38d731e77985984efa73ac4c4862bbd365d800cc9194e3a13c98", func := "foliant/foliantlaw.KernelPeeks", spec := "kernelPeeks", inPlace := ["internal/abi.NoEscape", "internal/bytealg.MakeNoZero", "slices.overlaps[foliant/api.Entry]"], unfollowed := true, recurses := true, apart := false, narrowed := true }
def KernelPeeksUptoSaid : Prop := kernelPeeksUptoRow.holds Tryz.pinned (OpenSpec.upto kernelPeeksSpec)

/-- 'foliantlaw.KernelMaps', WHERE WHAT IT READS IS OF BULK AT MOST 1048576: true; the input reads as it did. -/
def kernelMapsUptoRow : OpenClaim := { program := "ytpgifpeohlllfaagreat", sum := "01691da0be6e38d731e77985984efa73ac4c4862bbd365d800cc9194e3a13c98", func := "foliant/foliantlaw.KernelMaps", spec := "kernelMaps", inPlace := ["internal/abi.NoEscape", "internal/bytealg.MakeNoZero", "slices.overlaps[foliant/api.Entry]"], unfollowed := true, recurses := true, apart := false, narrowed := true }
def KernelMapsUptoSaid : Prop := kernelMapsUptoRow.holds Tryz.pinned (OpenSpec.upto kernelMapsSpec)

/-- 'foliantlaw.KernelForks', WHERE WHAT IT READS IS OF BULK AT MOST 1048576: true; the input reads as it did. -/
def kernelForksUptoRow : OpenClaim := { program := "ytpgifpeohlllfaagreat", sum := "01691da0be6e38d731e77985984efa73ac4c4862bbd365d800cc9194e3a13c98", func := "foliant/foliantlaw.KernelForks", spec := "kernelForks", inPlace := ["internal/abi.NoEscape", "internal/bytealg.MakeNoZero", "slices.overlaps[foliant/api.Entry]"], unfollowed := true, recurses := true, apart := false, narrowed := true }
def KernelForksUptoSaid : Prop := kernelForksUptoRow.holds Tryz.pinned (OpenSpec.upto kernelForksSpec)

/-- 'foliantlaw.KernelKeeps', WHERE WHAT IT READS IS OF BULK AT MOST 1048576: true; the input reads as it did. -/
def kernelKeepsUptoRow : OpenClaim := { program := "ytpgifpeohlllfaagreat", sum := "01691da0be6e38d731e77985984efa73ac4c4862bbd365d800cc9194e3a13c98", func := "foliant/foliantlaw.KernelKeeps", spec := "kernelKeeps", inPlace := ["internal/abi.NoEscape", "internal/bytealg.MakeNoZero", "slices.overlaps[foliant/api.Entry]"], unfollowed := true, recurses := true, apart := false, narrowed := true }
def KernelKeepsUptoSaid : Prop := kernelKeepsUptoRow.holds Tryz.pinned (OpenSpec.upto kernelKeepsSpec)

/-- 'foliantlaw.KernelHolds', WHERE WHAT IT READS IS OF BULK AT MOST 1048576: true; the input reads as it did. -/
def kernelHoldsUptoRow : OpenClaim := { program := "ytpgifpeohlllfaagreat", sum := "01691da0be6e38d731e77985984efa73ac4c4862bbd365d800cc9194e3a13c98", func := "foliant/foliantlaw.KernelHolds", spec := "kernelHolds", inPlace := ["internal/abi.NoEscape", "internal/bytealg.MakeNoZero", "slices.overlaps[foliant/api.Entry]"], unfollowed := true, recurses := true, apart := false, narrowed := true }
def KernelHoldsUptoSaid : Prop := kernelHoldsUptoRow.holds Tryz.pinned (OpenSpec.upto kernelHoldsSpec)

/-- 'foliantlaw.KernelApart', WHERE WHAT IT READS IS OF BULK AT MOST 1048576: true; the input reads as it did. -/
def kernelApartUptoRow : OpenClaim := { program := "ytpgifpeohlllfaagreat", sum := "01691da0be6e38d731e77985984efa73ac4c4862bbd365d800cc9194e3a13c98", func := "foliant/foliantlaw.KernelApart", spec := "kernelApart", inPlace := ["internal/abi.NoEscape", "internal/bytealg.MakeNoZero", "slices.overlaps[foliant/api.Entry]"], unfollowed := true, recurses := true, apart := false, narrowed := true }
def KernelApartUptoSaid : Prop := kernelApartUptoRow.holds Tryz.pinned (OpenSpec.upto kernelApartSpec)

/-- 'foliantlaw.KernelEmpty', WHERE WHAT IT READS IS OF BULK AT MOST 1048576: true; the input reads as it did. -/
def kernelEmptyUptoRow : OpenClaim := { program := "ytpgifpeohlllfaagreat", sum := "01691da0be6e38d731e77985984efa73ac4c4862bbd365d800cc9194e3a13c98", func := "foliant/foliantlaw.KernelEmpty", spec := "kernelEmpty", inPlace := ["internal/abi.NoEscape", "internal/bytealg.MakeNoZero", "slices.overlaps[foliant/api.Entry]"], unfollowed := true, recurses := true, apart := false, narrowed := true }
def KernelEmptyUptoSaid : Prop := kernelEmptyUptoRow.holds Tryz.pinned (OpenSpec.upto kernelEmptySpec)

end Rows
end Go.Proofs.YtpgifpeohlllfaaGreat
