/-
  No cell of these rows narrows 'for every input' (looked for: loops, veiled, ifaces, maps, wideKeys, modest, calm, conditions, laid).
  DERIVED. THE GIVEN ROWS OF THIS SEAT. 7 by the template 'for every input the law returns true; each argument reads behind the call as it read before'; 0 by the template 'total and deterministic' (their statements: YtlgoihmkgaaemaaGreatTotals.lean).
  GIVEN WITH THE SEED: the statements are not yours to turn. If you find one false, say at which input.
  Laid BY PROGRAM, IN A SANDBOX (cutbox-rows.mjs): the forced cells as the released guide's own fill.sh prints them over the translation f35c8431ac679c2c… (all of the seat's roots in one cut). By AI agents, Wed Nov 11 2026. No macro, syntax, notation, axiom, sorry.
-/
import Derived.Test.YtlgoihmkgaaemaaGreatChecked
import GoSem.Claim
import GoSem.ClaimJoined
import GoSem.ClaimMapViews
import Derived.JoinedTies
import Derived.KernelRfl
namespace Go.Proofs.YtlgoihmkgaaemaaGreat
/- THE CELL 'sum', in the pinned program and in every row, IS THE sha256 OF THE DUMP (.gsa) THAT YtlgoihmkgaaemaaGreatProg.lean LOADS. Nothing in Lean hashes anything: it is a label: what it is worth is what the hold of that sum in a sandbox is worth. -/
noncomputable def Tryz.pinned : Pinned := { name := "ytlgoihmkgaaemaagreat", sum := "f35c8431ac679c2ce1243000067b2131f91b0eb151bd7b899d1e0700c6af9af2", checked := Tryz.checked }
namespace Rows
def none {H : Type} : Left H := { results := [], args := [] }

/-- 'foliantlaw.MachineStarts': WHATEVER THE INPUT: true; the input reads as it did. -/
def machineStartsSpec : ChangeSpec := { name := "machineStarts", fn := fun _ => fun
  | [d1, d2, d3, d4] => { results := [.lit (.bool true)], args := [d1, d2, d3, d4] }
  | _ => none }
def machineStartsRow : OpenClaim := { program := "ytlgoihmkgaaemaagreat", sum := "f35c8431ac679c2ce1243000067b2131f91b0eb151bd7b899d1e0700c6af9af2", func := "foliant/foliantlaw.MachineStarts", spec := "machineStarts", inPlace := ["internal/abi.NoEscape", "internal/bytealg.MakeNoZero"], unfollowed := true, recurses := true, apart := false }
def MachineStartsSaid : Prop := machineStartsRow.holds Tryz.pinned (OpenSpec.ofChange machineStartsSpec)

/-- ITS FALSE NEIGHBOUR: 'it returns false'. Refute it at one input. -/
def machineStartsWrong : ChangeSpec := { name := "machineStarts", fn := fun _ => fun
  | [d1, d2, d3, d4] => { results := [.lit (.bool false)], args := [d1, d2, d3, d4] }
  | _ => none }
def MachineStartsWrongFalsely : Prop := machineStartsRow.holds Tryz.pinned (OpenSpec.ofChange machineStartsWrong)

/-- 'foliantlaw.MachineSteps': WHATEVER THE INPUT: true; the input reads as it did. -/
def machineStepsSpec : ChangeSpec := { name := "machineSteps", fn := fun _ => fun
  | [d1, d2] => { results := [.lit (.bool true)], args := [d1, d2] }
  | _ => none }
def machineStepsRow : OpenClaim := { program := "ytlgoihmkgaaemaagreat", sum := "f35c8431ac679c2ce1243000067b2131f91b0eb151bd7b899d1e0700c6af9af2", func := "foliant/foliantlaw.MachineSteps", spec := "machineSteps", inPlace := ["internal/abi.NoEscape", "internal/bytealg.MakeNoZero"], unfollowed := true, recurses := true, apart := false }
def MachineStepsSaid : Prop := machineStepsRow.holds Tryz.pinned (OpenSpec.ofChange machineStepsSpec)

/-- ITS FALSE NEIGHBOUR: 'it returns false'. Refute it at one input. -/
def machineStepsWrong : ChangeSpec := { name := "machineSteps", fn := fun _ => fun
  | [d1, d2] => { results := [.lit (.bool false)], args := [d1, d2] }
  | _ => none }
def MachineStepsWrongFalsely : Prop := machineStepsRow.holds Tryz.pinned (OpenSpec.ofChange machineStepsWrong)

/-- 'foliantlaw.MachineRuns': WHATEVER THE INPUT: true; the input reads as it did. -/
def machineRunsSpec : ChangeSpec := { name := "machineRuns", fn := fun _ => fun
  | [d1, d2] => { results := [.lit (.bool true)], args := [d1, d2] }
  | _ => none }
def machineRunsRow : OpenClaim := { program := "ytlgoihmkgaaemaagreat", sum := "f35c8431ac679c2ce1243000067b2131f91b0eb151bd7b899d1e0700c6af9af2", func := "foliant/foliantlaw.MachineRuns", spec := "machineRuns", inPlace := ["internal/abi.NoEscape", "internal/bytealg.MakeNoZero"], unfollowed := true, recurses := true, apart := false }
def MachineRunsSaid : Prop := machineRunsRow.holds Tryz.pinned (OpenSpec.ofChange machineRunsSpec)

/-- ITS FALSE NEIGHBOUR: 'it returns false'. Refute it at one input. -/
def machineRunsWrong : ChangeSpec := { name := "machineRuns", fn := fun _ => fun
  | [d1, d2] => { results := [.lit (.bool false)], args := [d1, d2] }
  | _ => none }
def MachineRunsWrongFalsely : Prop := machineRunsRow.holds Tryz.pinned (OpenSpec.ofChange machineRunsWrong)

/-- 'foliantlaw.MachineFlat': WHATEVER THE INPUT: true; the input reads as it did. -/
def machineFlatSpec : ChangeSpec := { name := "machineFlat", fn := fun _ => fun
  | [d1, d2, d3, d4, d5] => { results := [.lit (.bool true)], args := [d1, d2, d3, d4, d5] }
  | _ => none }
def machineFlatRow : OpenClaim := { program := "ytlgoihmkgaaemaagreat", sum := "f35c8431ac679c2ce1243000067b2131f91b0eb151bd7b899d1e0700c6af9af2", func := "foliant/foliantlaw.MachineFlat", spec := "machineFlat", inPlace := ["internal/abi.NoEscape", "internal/bytealg.MakeNoZero"], unfollowed := true, recurses := true, apart := false }
def MachineFlatSaid : Prop := machineFlatRow.holds Tryz.pinned (OpenSpec.ofChange machineFlatSpec)

/-- ITS FALSE NEIGHBOUR: 'it returns false'. Refute it at one input. -/
def machineFlatWrong : ChangeSpec := { name := "machineFlat", fn := fun _ => fun
  | [d1, d2, d3, d4, d5] => { results := [.lit (.bool false)], args := [d1, d2, d3, d4, d5] }
  | _ => none }
def MachineFlatWrongFalsely : Prop := machineFlatRow.holds Tryz.pinned (OpenSpec.ofChange machineFlatWrong)

/-- 'foliantlaw.MachineFrames': WHATEVER THE INPUT: true; the input reads as it did. -/
def machineFramesSpec : ChangeSpec := { name := "machineFrames", fn := fun _ => fun
  | [d1, d2, d3, d4, d5] => { results := [.lit (.bool true)], args := [d1, d2, d3, d4, d5] }
  | _ => none }
def machineFramesRow : OpenClaim := { program := "ytlgoihmkgaaemaagreat", sum := "f35c8431ac679c2ce1243000067b2131f91b0eb151bd7b899d1e0700c6af9af2", func := "foliant/foliantlaw.MachineFrames", spec := "machineFrames", inPlace := ["internal/abi.NoEscape", "internal/bytealg.MakeNoZero"], unfollowed := true, recurses := true, apart := false }
def MachineFramesSaid : Prop := machineFramesRow.holds Tryz.pinned (OpenSpec.ofChange machineFramesSpec)

/-- ITS FALSE NEIGHBOUR: 'it returns false'. Refute it at one input. -/
def machineFramesWrong : ChangeSpec := { name := "machineFrames", fn := fun _ => fun
  | [d1, d2, d3, d4, d5] => { results := [.lit (.bool false)], args := [d1, d2, d3, d4, d5] }
  | _ => none }
def MachineFramesWrongFalsely : Prop := machineFramesRow.holds Tryz.pinned (OpenSpec.ofChange machineFramesWrong)

/-- 'foliantlaw.MachineRight': WHATEVER THE INPUT: true; the input reads as it did. -/
def machineRightSpec : ChangeSpec := { name := "machineRight", fn := fun _ => fun
  | [d1, d2, d3, d4, d5] => { results := [.lit (.bool true)], args := [d1, d2, d3, d4, d5] }
  | _ => none }
def machineRightRow : OpenClaim := { program := "ytlgoihmkgaaemaagreat", sum := "f35c8431ac679c2ce1243000067b2131f91b0eb151bd7b899d1e0700c6af9af2", func := "foliant/foliantlaw.MachineRight", spec := "machineRight", inPlace := ["internal/abi.NoEscape", "internal/bytealg.MakeNoZero"], unfollowed := true, recurses := true, apart := false }
def MachineRightSaid : Prop := machineRightRow.holds Tryz.pinned (OpenSpec.ofChange machineRightSpec)

/-- ITS FALSE NEIGHBOUR: 'it returns false'. Refute it at one input. -/
def machineRightWrong : ChangeSpec := { name := "machineRight", fn := fun _ => fun
  | [d1, d2, d3, d4, d5] => { results := [.lit (.bool false)], args := [d1, d2, d3, d4, d5] }
  | _ => none }
def MachineRightWrongFalsely : Prop := machineRightRow.holds Tryz.pinned (OpenSpec.ofChange machineRightWrong)

/-- 'foliantlaw.MachineApart': WHATEVER THE INPUT: true; the input reads as it did. -/
def machineApartSpec : ChangeSpec := { name := "machineApart", fn := fun _ => fun
  | [d1, d2, d3, d4, d5] => { results := [.lit (.bool true)], args := [d1, d2, d3, d4, d5] }
  | _ => none }
def machineApartRow : OpenClaim := { program := "ytlgoihmkgaaemaagreat", sum := "f35c8431ac679c2ce1243000067b2131f91b0eb151bd7b899d1e0700c6af9af2", func := "foliant/foliantlaw.MachineApart", spec := "machineApart", inPlace := ["internal/abi.NoEscape", "internal/bytealg.MakeNoZero"], unfollowed := true, recurses := true, apart := false }
def MachineApartSaid : Prop := machineApartRow.holds Tryz.pinned (OpenSpec.ofChange machineApartSpec)

/-- ITS FALSE NEIGHBOUR: 'it returns false'. Refute it at one input. -/
def machineApartWrong : ChangeSpec := { name := "machineApart", fn := fun _ => fun
  | [d1, d2, d3, d4, d5] => { results := [.lit (.bool false)], args := [d1, d2, d3, d4, d5] }
  | _ => none }
def MachineApartWrongFalsely : Prop := machineApartRow.holds Tryz.pinned (OpenSpec.ofChange machineApartWrong)

/- THE SECOND FORM. 'bulk': how many values and letters a reading holds, each counted each time it is reached (what is shared counts as often as it is met; a slice's spare places count too). A statement '..UptoSaid' is the law's where the arguments, and the package variables that the reading takes, are together of bulk at most 1048576: NARROWER than '..Said'. Prove '..Said' where nothing that the law and all that it calls make is longer than what came in: it says more and counts as full. Else prove '..UptoSaid'. A law counts once. -/
mutual
def uptoBulk {H : Type} : DataW H → Nat
  | .lit (.string bytes) => bytes.length + 1
  | .lit _ => 1
  | .nil => 1
  | .ptr d => uptoBulk d + 1
  | .slice elems spare => uptoBulkAll elems + uptoBulkAll spare + 1
  | .agg parts => uptoBulkAll parts + 1
  | .iface _ d => uptoBulk d + 1
  | .map entries => uptoBulkEntries entries + 1
  | .held _ => 1
def uptoBulkAll {H : Type} : List (DataW H) → Nat
  | [] => 0
  | d :: r => uptoBulk d + uptoBulkAll r
def uptoBulkEntries {H : Type} : List (Lit × DataW H) → Nat
  | [] => 0
  | x :: r => uptoBulkEntry x + uptoBulkEntries r
def uptoBulkEntry {H : Type} : Lit × DataW H → Nat
  | (.string bytes, d) => bytes.length + uptoBulk d + 1
  | (_, d) => uptoBulk d + 1
 end
def uptoSmall : (H : Type) → List (DataW H) → Bool := fun _ ds => decide (uptoBulkAll ds ≤ 1048576)
def OpenSpec.upto (s : _root_.Go.ChangeSpec) : _root_.Go.OpenSpec := { _root_.Go.OpenSpec.ofChange s with cond := some uptoSmall }

/-- 'foliantlaw.MachineStarts', WHERE WHAT IT READS IS OF BULK AT MOST 1048576: true; the input reads as it did. -/
def machineStartsUptoRow : OpenClaim := { program := "ytlgoihmkgaaemaagreat", sum := "f35c8431ac679c2ce1243000067b2131f91b0eb151bd7b899d1e0700c6af9af2", func := "foliant/foliantlaw.MachineStarts", spec := "machineStarts", inPlace := ["internal/abi.NoEscape", "internal/bytealg.MakeNoZero"], unfollowed := true, recurses := true, apart := false, narrowed := true }
def MachineStartsUptoSaid : Prop := machineStartsUptoRow.holds Tryz.pinned (OpenSpec.upto machineStartsSpec)

/-- 'foliantlaw.MachineSteps', WHERE WHAT IT READS IS OF BULK AT MOST 1048576: true; the input reads as it did. -/
def machineStepsUptoRow : OpenClaim := { program := "ytlgoihmkgaaemaagreat", sum := "f35c8431ac679c2ce1243000067b2131f91b0eb151bd7b899d1e0700c6af9af2", func := "foliant/foliantlaw.MachineSteps", spec := "machineSteps", inPlace := ["internal/abi.NoEscape", "internal/bytealg.MakeNoZero"], unfollowed := true, recurses := true, apart := false, narrowed := true }
def MachineStepsUptoSaid : Prop := machineStepsUptoRow.holds Tryz.pinned (OpenSpec.upto machineStepsSpec)

/-- 'foliantlaw.MachineRuns', WHERE WHAT IT READS IS OF BULK AT MOST 1048576: true; the input reads as it did. -/
def machineRunsUptoRow : OpenClaim := { program := "ytlgoihmkgaaemaagreat", sum := "f35c8431ac679c2ce1243000067b2131f91b0eb151bd7b899d1e0700c6af9af2", func := "foliant/foliantlaw.MachineRuns", spec := "machineRuns", inPlace := ["internal/abi.NoEscape", "internal/bytealg.MakeNoZero"], unfollowed := true, recurses := true, apart := false, narrowed := true }
def MachineRunsUptoSaid : Prop := machineRunsUptoRow.holds Tryz.pinned (OpenSpec.upto machineRunsSpec)

/-- 'foliantlaw.MachineFlat', WHERE WHAT IT READS IS OF BULK AT MOST 1048576: true; the input reads as it did. -/
def machineFlatUptoRow : OpenClaim := { program := "ytlgoihmkgaaemaagreat", sum := "f35c8431ac679c2ce1243000067b2131f91b0eb151bd7b899d1e0700c6af9af2", func := "foliant/foliantlaw.MachineFlat", spec := "machineFlat", inPlace := ["internal/abi.NoEscape", "internal/bytealg.MakeNoZero"], unfollowed := true, recurses := true, apart := false, narrowed := true }
def MachineFlatUptoSaid : Prop := machineFlatUptoRow.holds Tryz.pinned (OpenSpec.upto machineFlatSpec)

/-- 'foliantlaw.MachineFrames', WHERE WHAT IT READS IS OF BULK AT MOST 1048576: true; the input reads as it did. -/
def machineFramesUptoRow : OpenClaim := { program := "ytlgoihmkgaaemaagreat", sum := "f35c8431ac679c2ce1243000067b2131f91b0eb151bd7b899d1e0700c6af9af2", func := "foliant/foliantlaw.MachineFrames", spec := "machineFrames", inPlace := ["internal/abi.NoEscape", "internal/bytealg.MakeNoZero"], unfollowed := true, recurses := true, apart := false, narrowed := true }
def MachineFramesUptoSaid : Prop := machineFramesUptoRow.holds Tryz.pinned (OpenSpec.upto machineFramesSpec)

/-- 'foliantlaw.MachineRight', WHERE WHAT IT READS IS OF BULK AT MOST 1048576: true; the input reads as it did. -/
def machineRightUptoRow : OpenClaim := { program := "ytlgoihmkgaaemaagreat", sum := "f35c8431ac679c2ce1243000067b2131f91b0eb151bd7b899d1e0700c6af9af2", func := "foliant/foliantlaw.MachineRight", spec := "machineRight", inPlace := ["internal/abi.NoEscape", "internal/bytealg.MakeNoZero"], unfollowed := true, recurses := true, apart := false, narrowed := true }
def MachineRightUptoSaid : Prop := machineRightUptoRow.holds Tryz.pinned (OpenSpec.upto machineRightSpec)

/-- 'foliantlaw.MachineApart', WHERE WHAT IT READS IS OF BULK AT MOST 1048576: true; the input reads as it did. -/
def machineApartUptoRow : OpenClaim := { program := "ytlgoihmkgaaemaagreat", sum := "f35c8431ac679c2ce1243000067b2131f91b0eb151bd7b899d1e0700c6af9af2", func := "foliant/foliantlaw.MachineApart", spec := "machineApart", inPlace := ["internal/abi.NoEscape", "internal/bytealg.MakeNoZero"], unfollowed := true, recurses := true, apart := false, narrowed := true }
def MachineApartUptoSaid : Prop := machineApartUptoRow.holds Tryz.pinned (OpenSpec.upto machineApartSpec)

end Rows
end Go.Proofs.YtlgoihmkgaaemaaGreat
