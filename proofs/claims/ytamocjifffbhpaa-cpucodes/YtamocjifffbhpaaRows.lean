/-
  No cell of these rows narrows 'for every input' (looked for: loops, veiled, ifaces, maps, wideKeys, modest, calm, conditions, laid).
  DERIVED. THE GIVEN ROWS OF THIS SEAT. 3 by the template 'for every input the law returns true; each argument reads behind the call as it read before'; 0 by the template 'total and deterministic' (their statements: YtamocjifffbhpaaTotals.lean).
  GIVEN WITH THE SEED: the statements are not yours to turn. If you find one false, say at which input.
  Laid BY PROGRAM, IN A SANDBOX (cutbox-rows.mjs): the forced cells as the released guide's own fill.sh prints them over the translation 5eba3b78f1ee4745… (all of the seat's roots in one cut). By AI agents, Wed Nov 11 2026. No macro, syntax, notation, axiom, sorry.
-/
import Derived.Test.YtamocjifffbhpaaChecked
import GoSem.Claim
import GoSem.ClaimJoined
import GoSem.ClaimMapViews
import Derived.JoinedTies
import Derived.KernelRfl
namespace Go.Proofs.Ytamocjifffbhpaa
/- THE CELL 'sum', in the pinned program and in every row, IS THE sha256 OF THE DUMP (.gsa) THAT YtamocjifffbhpaaProg.lean LOADS. Nothing in Lean hashes anything: it is a label: what it is worth is what the hold of that sum in a sandbox is worth. -/
noncomputable def Try.pinned : Pinned := { name := "ytamocjifffbhpaa", sum := "5eba3b78f1ee474523f875922f2e192bb7fc00bffe0a4eb1dea5a074ea7be623", checked := Try.checked }
namespace Rows
def none {H : Type} : Left H := { results := [], args := [] }

/-- 'foliantlaw.CpuCodes': WHATEVER THE INPUT: true; the input reads as it did. -/
def cpuCodesSpec : ChangeSpec := { name := "cpuCodes", fn := fun _ => fun
  | [d1, d2] => { results := [.lit (.bool true)], args := [d1, d2] }
  | _ => none }
def cpuCodesRow : OpenClaim := { program := "ytamocjifffbhpaa", sum := "5eba3b78f1ee474523f875922f2e192bb7fc00bffe0a4eb1dea5a074ea7be623", func := "foliant/foliantlaw.CpuCodes", spec := "cpuCodes", apart := false }
def CpuCodesSaid : Prop := cpuCodesRow.holds Try.pinned (OpenSpec.ofChange cpuCodesSpec)

/-- ITS FALSE NEIGHBOUR: 'it returns false'. Refute it at one input. -/
def cpuCodesWrong : ChangeSpec := { name := "cpuCodes", fn := fun _ => fun
  | [d1, d2] => { results := [.lit (.bool false)], args := [d1, d2] }
  | _ => none }
def CpuCodesWrongFalsely : Prop := cpuCodesRow.holds Try.pinned (OpenSpec.ofChange cpuCodesWrong)

/-- 'foliantlaw.CpuDoes': WHATEVER THE INPUT: true; the input reads as it did. -/
def cpuDoesSpec : ChangeSpec := { name := "cpuDoes", fn := fun _ => fun
  | [d1, d2, d3] => { results := [.lit (.bool true)], args := [d1, d2, d3] }
  | _ => none }
def cpuDoesRow : OpenClaim := { program := "ytamocjifffbhpaa", sum := "5eba3b78f1ee474523f875922f2e192bb7fc00bffe0a4eb1dea5a074ea7be623", func := "foliant/foliantlaw.CpuDoes", spec := "cpuDoes", apart := false }
def CpuDoesSaid : Prop := cpuDoesRow.holds Try.pinned (OpenSpec.ofChange cpuDoesSpec)

/-- ITS FALSE NEIGHBOUR: 'it returns false'. Refute it at one input. -/
def cpuDoesWrong : ChangeSpec := { name := "cpuDoes", fn := fun _ => fun
  | [d1, d2, d3] => { results := [.lit (.bool false)], args := [d1, d2, d3] }
  | _ => none }
def CpuDoesWrongFalsely : Prop := cpuDoesRow.holds Try.pinned (OpenSpec.ofChange cpuDoesWrong)

/-- 'foliantlaw.CpuBack': WHATEVER THE INPUT: true; the input reads as it did. -/
def cpuBackSpec : ChangeSpec := { name := "cpuBack", fn := fun _ => fun
  | [d1, d2] => { results := [.lit (.bool true)], args := [d1, d2] }
  | _ => none }
def cpuBackRow : OpenClaim := { program := "ytamocjifffbhpaa", sum := "5eba3b78f1ee474523f875922f2e192bb7fc00bffe0a4eb1dea5a074ea7be623", func := "foliant/foliantlaw.CpuBack", spec := "cpuBack", apart := false }
def CpuBackSaid : Prop := cpuBackRow.holds Try.pinned (OpenSpec.ofChange cpuBackSpec)

/-- ITS FALSE NEIGHBOUR: 'it returns false'. Refute it at one input. -/
def cpuBackWrong : ChangeSpec := { name := "cpuBack", fn := fun _ => fun
  | [d1, d2] => { results := [.lit (.bool false)], args := [d1, d2] }
  | _ => none }
def CpuBackWrongFalsely : Prop := cpuBackRow.holds Try.pinned (OpenSpec.ofChange cpuBackWrong)

/- THE SECOND FORM. 'bulk': how many values and letters a reading holds, each counted each time it is reached (what is shared counts as often as it is met; a slice's spare places count too). A statement '..UptoSaid' is the law's where the arguments, and the package variables that the reading takes, are together of bulk at most 1048576: NARROWER than '..Said'. Prove '..Said' where nothing that the law and all that it calls make is longer than what came in: it says more and counts as full. Else prove '..UptoSaid'. A law counts once. -/
mutual
def uptoBulk {H : Type} : DataW H → Nat
  | .lit (.string bytes) => bytes.length + 1
  | .lit _ => 1
  | .nil => 1
  | .ptr d => uptoBulk d + 1
  | .slice elems spare => uptoBulkAll elems + uptoBulkAll spare + 1
  | .agg parts => uptoBulkAll parts + 1
  | .iface _ d => uptoBulk d + 1
  | .map entries => uptoBulkEntries entries + 1
  | .held _ => 1
def uptoBulkAll {H : Type} : List (DataW H) → Nat
  | [] => 0
  | d :: r => uptoBulk d + uptoBulkAll r
def uptoBulkEntries {H : Type} : List (Lit × DataW H) → Nat
  | [] => 0
  | x :: r => uptoBulkEntry x + uptoBulkEntries r
def uptoBulkEntry {H : Type} : Lit × DataW H → Nat
  | (.string bytes, d) => bytes.length + uptoBulk d + 1
  | (_, d) => uptoBulk d + 1
 end
def uptoSmall : (H : Type) → List (DataW H) → Bool := fun _ ds => decide (uptoBulkAll ds ≤ 1048576)
def OpenSpec.upto (s : _root_.Go.ChangeSpec) : _root_.Go.OpenSpec := { _root_.Go.OpenSpec.ofChange s with cond := some uptoSmall }

/-- 'foliantlaw.CpuCodes', WHERE WHAT IT READS IS OF BULK AT MOST 1048576: true; the input reads as it did. -/
def cpuCodesUptoRow : OpenClaim := { program := "ytamocjifffbhpaa", sum := "5eba3b78f1ee474523f875922f2e192bb7fc00bffe0a4eb1dea5a074ea7be623", func := "foliant/foliantlaw.CpuCodes", spec := "cpuCodes", apart := false, narrowed := true }
def CpuCodesUptoSaid : Prop := cpuCodesUptoRow.holds Try.pinned (OpenSpec.upto cpuCodesSpec)

/-- 'foliantlaw.CpuDoes', WHERE WHAT IT READS IS OF BULK AT MOST 1048576: true; the input reads as it did. -/
def cpuDoesUptoRow : OpenClaim := { program := "ytamocjifffbhpaa", sum := "5eba3b78f1ee474523f875922f2e192bb7fc00bffe0a4eb1dea5a074ea7be623", func := "foliant/foliantlaw.CpuDoes", spec := "cpuDoes", apart := false, narrowed := true }
def CpuDoesUptoSaid : Prop := cpuDoesUptoRow.holds Try.pinned (OpenSpec.upto cpuDoesSpec)

/-- 'foliantlaw.CpuBack', WHERE WHAT IT READS IS OF BULK AT MOST 1048576: true; the input reads as it did. -/
def cpuBackUptoRow : OpenClaim := { program := "ytamocjifffbhpaa", sum := "5eba3b78f1ee474523f875922f2e192bb7fc00bffe0a4eb1dea5a074ea7be623", func := "foliant/foliantlaw.CpuBack", spec := "cpuBack", apart := false, narrowed := true }
def CpuBackUptoSaid : Prop := cpuBackUptoRow.holds Try.pinned (OpenSpec.upto cpuBackSpec)

end Rows
end Go.Proofs.Ytamocjifffbhpaa
