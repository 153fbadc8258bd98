import Derived.Test.YtamocjifffbhpaaPWK
import Derived.Test.YtamocjifffbhpaaPW3
import Derived.Test.YtamocjifffbhpaaPM3
import Derived.Deep.RegionLaw
namespace Go.Proofs.Ytamocjifffbhpaa.PW
open Go.RowKit
set_option linter.unusedVariables false
set_option maxRecDepth 100000
theorem five {w : World} {b : Nat} {t : TypeId} (h : w.heap[b]? = some (.cells #[.int .i64 0, .int .i64 0, .int .i64 0, .int .i64 0, .int .i64 0] t (0, 0))) : w.cell? ⟨b, 0, none⟩ = some (.int .i64 0) ∧ w.cell? ⟨b, 1, none⟩ = some (.int .i64 0) ∧ w.cell? ⟨b, 2, none⟩ = some (.int .i64 0) ∧ w.cell? ⟨b, 3, none⟩ = some (.int .i64 0) ∧ w.cell? ⟨b, 4, none⟩ = some (.int .i64 0) ∧ (∀ j, w.frozen? ⟨b, j, none⟩ = false) ∧ b < w.heap.size :=
  ⟨B.cell h 0 rfl, B.cell h 1 rfl, B.cell h 2 rfl, B.cell h 3 rfl, B.cell h 4 rfl, fun j => B.free h j, B.isLt h⟩
theorem set5_block {w : World} {g : Nat} {x0 x1 x2 x3 x4 : Value} {t : TypeId} (h : w.heap[g]? = some (.cells #[x0, x1, x2, x3, x4] t (0, 0))) (v0 v1 v2 v3 v4 : Value) : (((((w.setCell ⟨g, 0, none⟩ v0).setCell ⟨g, 1, none⟩ v1).setCell ⟨g, 2, none⟩ v2).setCell ⟨g, 3, none⟩ v3).setCell ⟨g, 4, none⟩ v4).heap[g]? = some (.cells #[v0, v1, v2, v3, v4] t (0, 0)) :=
  B.set (B.set (B.set (B.set (B.set h 0 v0) 1 v1) 2 v2) 3 v3) 4 v4
theorem set5_other {w : World} {b : Nat} {o : Obj} (h : w.heap[b]? = some o) (g : Nat) (hne : b ≠ g) (v0 v1 v2 v3 v4 : Value) : (((((w.setCell ⟨g, 0, none⟩ v0).setCell ⟨g, 1, none⟩ v1).setCell ⟨g, 2, none⟩ v2).setCell ⟨g, 3, none⟩ v3).setCell ⟨g, 4, none⟩ v4).heap[b]? = some o :=
  B.other (B.other (B.other (B.other (B.other h g 0 v0 hne) g 1 v1 hne) g 2 v2 hne) g 3 v3 hne) g 4 v4 hne
end Go.Proofs.Ytamocjifffbhpaa.PW
