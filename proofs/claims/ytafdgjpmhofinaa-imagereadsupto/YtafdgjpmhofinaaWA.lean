import Derived.Test.YtafdgjpmhofinaaW9
import Derived.Deep.AppendLies
namespace Go.Proofs.Ytafdgjpmhofinaa.W
open Go.RowKit
set_option linter.unusedVariables false

theorem info9 : (Try.prog.info? 9).map (fun i => (i.zero, i.size, i.bytes)) = some (some (.string ⟨#[]⟩), 1, 16) := by kernel_rfl
def strs (l : List ByteArray) : List Value := l.map Value.string
theorem strs_get (l : List ByteArray) (i : Nat) (h : i < l.length) : (strs l)[i]? = some (.string (M.strAt l i)) := by
  unfold strs M.strAt
  rw [List.getElem?_map, List.getD_eq_getElem?_getD, List.getElem?_eq_getElem h]
  rfl
/-- a row of strings that the call owns is a slice that holds them -/
theorem row_has {w : World} {base : Nat} {v : Value} {l : List ByteArray} (h : w.ownsRow base 9 1 v l.length (strs l)) : ∃ ao cap, v = .slice ao l.length cap ∧ M.HasBy M.LieS w ao l := by
  rcases h.2 with ⟨hv, h0⟩ | ⟨g, cap, cur, hv, hbg, hg, hnc, hcm, hcs, htake⟩
  · exact ⟨none, 0, by rw [hv, h0], fun hl => by omega⟩
  · subst hv
    refine ⟨some ⟨g, 0, none⟩, cap, rfl, fun hl => ⟨g, 0, rfl, B.isLt hg, fun i hi => ?_⟩⟩
    rw [Nat.zero_add]
    exact (h.cellAt _ (by omega)).trans (strs_get l i hi)
theorem names_take (ys : List M.Sy) (k : Nat) (h : k < ys.length) : ((ys.map (·.name)).take (k + 1)) = (ys.map (·.name)).take k ++ [(M.syAt ys k).name] := by
  rw [List.take_add_one, List.getElem?_map, List.getElem?_eq_getElem h]
  unfold M.syAt
  rw [List.getD_eq_getElem?_getD, List.getElem?_eq_getElem h]
  rfl

set_option maxRecDepth 100000 in
set_option maxHeartbeats 2000000 in
theorem symNames_any (ys : List M.Sy) (ao : Option Addr) (cap : Nat) (w : World) (h : M.HasBy M.LieY w ao ys) (hn : ys.length ≤ 12) :
    Calls Try.prog 28 #[.slice ao ys.length cap] w fun e w' => (∃ ao' cap', e = .returned (.slice ao' (ys.map (·.name)).length cap') ∧ M.HasBy M.LieS w' ao' (ys.map (·.name))) ∧ Below w.heap.size w w' := by
  have H := hideC h
  clear h
  obtain ⟨i0, hi, hz0, hz1, hz2⟩ := info_parts info9
  go_enter Try.func28, Try.ntmps28
  go_wp2
  go_loopw [3, 8] (fun v i wr => ∃ k : Nat, k ≤ ys.length ∧ i = .int .i64 k ∧ wr.ownsRow w.heap.size 9 1 v k (strs ((ys.map (·.name)).take k)) ∧ Below w.heap.size w wr) (fun _ i _ => ys.length - (intOf i).toNat)
  case atStart => exact ⟨0, by omega, rfl, World.ownsRow_nil _ _ _ _, Below.refl _ _⟩
  case round =>
    obtain ⟨k, hk, rfl, hown, hb⟩ := hrel
    have HO := hideC hown
    have HB := hideC hb
    clear hown
    by_cases hlt : k < ys.length
    · obtain ⟨b, off, hao, hbl, hl⟩ := H.out (by omega)
      subst hao
      have hli : (k : Int) < (ys.length : Int) := by omega
      obtain ⟨c0, c1⟩ := M.lieY hb hbl hl k hlt
      have HT := hideC (names_take ys k hlt)
      obtain ⟨y, hx⟩ : ∃ y, y = M.syAt ys k := ⟨_, rfl⟩
      rw [← hx] at c0 c1 HT
      clear hx hb hl
      obtain ⟨x, xp⟩ := y
      simp only at c0 c1 HT
      have hrow : Hid (∀ j, u3.ownBlock = some j → w.heap.size ≤ j ∧ j < wr.heap.size) := HO.out.lt
      have HN : Hid (((wr.alloc (.cells #[.string x, .int .i64 xp] 50)).alloc (.cells #[.string x] 9)).heap[wr.heap.size + 1]? = some (.cells #[.string x] 9 (0, 0))) := by
        have := B.new (wr.alloc (.cells #[.string x, .int .i64 xp] 50)) #[.string x] 9
        rw [show (wr.alloc (.cells #[.string x, .int .i64 xp] 50)).heap.size = wr.heap.size + 1 by simp] at this
        exact this
      go_wp2_with (at_builtin; refine wpList_append_lies _ rfl _ _ 22 rfl w.heap.size 9 i0 (.string ⟨#[]⟩) 1 16 Try.underlying22 hi hz0 hz1 hz2 rfl (by decide) _ _ _ rfl ((HO.out.alloc _).alloc _) ⟨wr.heap.size + 1, 0, none⟩ 1 1 [.string x] rfl rfl (B.news HN.out) (by intro u hu; simp at hu; subst hu; rfl) (by decide) (by unfold maxLen; omega) (by omega) (by have := HB.out.size; simp; omega) (wr.heap.size + 2) (by simp) ?_)
      intro g cap w1 hown1 hgrow hat hlt1
      have HO1 := hideC hown1
      have HB1 : Hid (Below w.heap.size w w1) := ((HB.out.alloc HB.out.size _).alloc (by have := HB.out.size; simp; omega) _).grown hgrow (by have := HB.out.size; simp; omega) (fun k' e => by have := hrow.out _ e; omega)
      clear hown1 hgrow hat
      go_wp2
      go_roundw
      case rel =>
        refine ⟨k + 1, by omega, by go_num, ?_, HB1.out⟩
        rw [HT.out]
        unfold strs
        rw [List.map_append]
        exact HO1.out
      case measure => simp [intOf]; omega
    · obtain rfl : k = ys.length := by omega
      clear hb
      go_wp2
      go_ret
      have e : (ys.map (·.name)).take ys.length = ys.map (·.name) := by rw [List.take_of_length_le]; simp
      have ho := HO.out
      rw [e] at ho
      rw [show ys.length = (ys.map (·.name)).length by simp] at ho
      obtain ⟨ao', cap', hv, hh⟩ := row_has ho
      exact ⟨⟨ao', cap', by rw [← hv]; rfl, hh⟩, HB.out⟩
end Go.Proofs.Ytafdgjpmhofinaa.W
