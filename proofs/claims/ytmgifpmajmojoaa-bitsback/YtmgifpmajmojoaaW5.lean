import Derived.Test.YtmgifpmajmojoaaW4
namespace Go.Proofs.Ytmgifpmajmojoaa.W
open Go.RowKit
set_option linter.unusedVariables false

set_option maxHeartbeats 400000 in
theorem begun (w : World) : Calls Try.prog 10 #[] w fun e w' => e = .returned (.bool true) ∧ Below w.heap.size w w' := by
  have e1 : Lib.leBytes 3 (M.low (-2)) = [254, 255, 255] := by decide +kernel
  have e2 : wrap64 ((Lib.leNat [1, 2] : Nat) : Int) = 513 := by decide +kernel
  have e3 : ((⟨#[97, 98, 99, 100]⟩ : ByteArray).extract 1 3).toList = [98, 99] := by decide +kernel
  have e4 : (L.over ⟨#[97, 98, 99, 100]⟩ 1 ⟨#[120, 121]⟩).toList = [97, 120, 121, 100] := by decide +kernel
  go_enter Try.func10, Try.ntmps10
  go_wp2_with fail
  refine (put_yes (-2) 3 _ (by omega) (by omega)).mono ?_
  rintro e w1 ⟨rfl, hb1⟩
  go_wp2_with fail
  refine (get_yes ⟨#[1, 2]⟩ _ (by decide) (by decide)).mono ?_
  rintro e w2 ⟨rfl, rfl⟩
  go_wp2_with fail
  refine (part_yes ⟨#[97, 98, 99, 100]⟩ 1 2 _ (by decide) (by decide)).mono ?_
  rintro e w2 ⟨rfl, hb2⟩
  go_wp2_with fail
  refine (lay_yes ⟨#[97, 98, 99, 100]⟩ ⟨#[120, 121]⟩ 1 _ (by decide) (by decide)).mono ?_
  rintro e w3 ⟨rfl, hb3⟩
  go_wp2
  go_ret
  exact ⟨rfl, (hb1.trans (hb2.mono hb1.size)).trans (hb3.mono (Nat.le_trans hb1.size hb2.size))⟩
end Go.Proofs.Ytmgifpmajmojoaa.W
