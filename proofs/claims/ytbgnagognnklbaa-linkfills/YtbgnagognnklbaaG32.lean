import Derived.Test.YtbgnagognnklbaaG31
/- The linker: the sheets of all objects. -/
namespace Go.Proofs.Ytbgnagognnklbaa.LW
open Go.RowKit
open Go.Proofs.Ytbgnagognnklbaa.W (hideC)
set_option linter.unusedVariables false
set_option maxRecDepth 100000

theorem infoSh : (Try.prog.info? 43).map (fun i => (i.zero, i.size, i.bytes)) = some (some (.agg #[.int .i64 0, .string ⟨#[]⟩, .slice none 0 0]), 3, 48) := by kernel_rfl
/-- the sheets so far, in a row of the call's own -/
structure Rs (lo : Nat) (w : World) (v : Value) (hs : List LM.Sh) : Prop where
  row : w.ownsRow lo 43 3 v hs.length (hs.flatMap LM.cellH)
  fix : LM.AllF v.ownBlock w hs
theorem Rs.below {lo : Nat} {w w' : World} {v : Value} {hs : List LM.Sh} (h : Rs lo w v hs) (hb : Below w.heap.size w w') : Rs lo w' v hs := ⟨row_grown h.row hb, fun k hk => (h.fix k hk).below hb⟩
theorem Rs.nil (lo : Nat) (w : World) : Rs lo w (.slice none 0 0) [] := ⟨World.ownsRow_nil _ _ _ _, fun k hk => by simp at hk⟩
theorem Rs.has {lo : Nat} {w : World} {v : Value} {hs : List LM.Sh} (h : Rs lo w v hs) : ∃ ao cap, v = .slice ao hs.length cap ∧ LM.HasH w ao hs ∧ hs.length ≤ cap := by
  have hr := h.row
  rcases hr.2 with ⟨hv, h0⟩ | ⟨g, cap, cur, hv, hbg, hg, hnc, hcm, hcs, htake⟩
  · exact ⟨none, 0, by rw [hv, h0], fun hl => by omega, by omega⟩
  · rw [hv] at hr
    refine ⟨some ⟨g, 0, none⟩, cap, hv, fun _ => ⟨g, 0, rfl, B.isLt hg, fun k hk => ?_⟩, hnc⟩
    rw [Nat.zero_add]
    have hh : ∀ j, j < 3 → w.cell? ⟨g, k * 3 + j, none⟩ = (LM.cellH (LM.shAt hs k))[j]? := fun j hj => (hr.cellAt _ (by omega)).trans (flat_get LM.cellH 3 (fun _ => rfl) LM.sh0 hs k j hk hj)
    exact ⟨hh 0 (by omega), hh 1 (by omega), hh 2 (by omega), (h.fix k hk).has⟩
theorem row_fx {w : World} {base : Nat} {v : Value} {l : List LM.Fx} (h : w.ownsRow base 89 2 v l.length (l.flatMap LM.cellF)) (rb : Option Nat) (hrb : ∀ q, rb = some q → q < base) : ∃ ao cap, v = .slice ao l.length cap ∧ LM.HasFN rb w ao l := by
  rcases h.2 with ⟨hv, h0⟩ | ⟨g, cap, cur, hv, hbg, hg, hnc, hcm, hcs, htake⟩
  · exact ⟨none, 0, by rw [hv, h0], fun hl => by omega⟩
  · subst hv
    refine ⟨some ⟨g, 0, none⟩, cap, rfl, fun hl => ⟨g, 0, rfl, B.isLt hg, fun e => by have := hrb g e.symm; omega, fun k hk => ?_⟩⟩
    rw [Nat.zero_add]
    have hh : ∀ j, j < 2 → w.cell? ⟨g, k * 2 + j, none⟩ = (LM.cellF (LM.fxAt l k))[j]? := fun j hj => (h.cellAt _ (by omega)).trans (flat_get LM.cellF 2 (fun _ => rfl) LM.fx0 l k j hk hj)
    exact ⟨hh 0 (by omega), hh 1 (by omega)⟩
/-- one sheet more -/
theorem Rs.more {lo : Nat} {w w' : World} {v : Value} {hs : List LM.Sh} {x : LM.Sh} {g cap : Nat} (h : LM.AllF v.ownBlock w hs) (hx : LM.HasFN v.ownBlock w x.ao x.fixes) (hown : w'.ownsRow lo 43 3 (.slice (some ⟨g, 0, none⟩) (hs.length + 1) cap) (hs.length + 1) (hs.flatMap LM.cellH ++ LM.cellH x)) (hg : w.grownBy w' v.ownBlock) (hs' : w.heap.size ≤ w'.heap.size) (hat : v.ownBlock = some g ∨ g = w.heap.size) :
    Rs lo w' (.slice (some ⟨g, 0, none⟩) (hs.length + 1) cap) (hs ++ [x]) := by
  refine ⟨by rw [List.length_append, List.flatMap_append]; simpa using hown, fun k hk => ?_⟩
  have e : (Value.slice (some ⟨g, 0, none⟩) (hs.length + 1) cap).ownBlock = some g := rfl
  rw [e]
  rw [List.length_append] at hk
  by_cases hkl : k < hs.length
  · rw [LM.shAt_left hs x k hkl]
    exact (h k hkl).grown hg hs' hat
  · obtain rfl : k = hs.length := by simp at hk; omega
    rw [LM.shAt_last]
    exact hx.grown hg hs' hat
theorem row_pt {w : World} {base : Nat} {v : Value} {l : List LM.Pt} (h : w.ownsRow base 134 2 v l.length (l.flatMap LM.cellP)) : ∃ ao cap, v = .slice ao l.length cap ∧ LM.HasP w ao l := by
  rcases h.2 with ⟨hv, h0⟩ | ⟨g, cap, cur, hv, hbg, hg, hnc, hcm, hcs, htake⟩
  · exact ⟨none, 0, by rw [hv, h0], fun hl => by omega⟩
  · subst hv
    refine ⟨some ⟨g, 0, none⟩, cap, rfl, fun hl => ⟨g, 0, rfl, B.isLt hg, fun k hk => ?_⟩⟩
    rw [Nat.zero_add]
    have hh : ∀ j, j < 2 → w.cell? ⟨g, k * 2 + j, none⟩ = (LM.cellP (LM.ptAt l k))[j]? := fun j hj => (h.cellAt _ (by omega)).trans (flat_get LM.cellP 2 (fun _ => rfl) LM.pt0 l k j hk hj)
    exact ⟨hh 0 (by omega), hh 1 (by omega)⟩
/-- how sheetsOf ends -/
def OutSh (R : Option (List LM.Sp)) (w : World) (e : Ending) (w' : World) : Prop := Below w.heap.size w w' ∧ match R with
  | none => e = .returned (.tuple #[.slice none 0 0, .bool false])
  | some E => ∃ (hs : List LM.Sh) (ao : Option Addr) (cap : Nat), hs.map LM.plain = E ∧ e = .returned (.tuple #[.slice ao hs.length cap, .bool true]) ∧ LM.HasH w' ao hs ∧ hs.length ≤ cap
end Go.Proofs.Ytbgnagognnklbaa.LW
