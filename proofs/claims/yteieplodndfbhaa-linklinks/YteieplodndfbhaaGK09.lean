import Derived.Test.YteieplodndfbhaaGK04
import Derived.Deep.AppendLies
namespace Go.Proofs.Yteieplodndfbhaa.W
open Go.RowKit
set_option linter.unusedVariables false
set_option maxRecDepth 100000

theorem info9 : (Try.prog.info? 9).map (fun i => (i.zero, i.size, i.bytes)) = some (some (.string ⟨#[]⟩), 1, 16) := by kernel_rfl
def strs (l : List ByteArray) : List Value := l.map Value.string
theorem strs_get (l : List ByteArray) (i : Nat) (h : i < l.length) : (strs l)[i]? = some (.string (M.strAt l i)) := by
  unfold strs M.strAt
  rw [List.getElem?_map, List.getD_eq_getElem?_getD, List.getElem?_eq_getElem h]
  rfl
/-- a row of strings that the call owns is a slice that holds them -/
theorem row_has {w : World} {base : Nat} {v : Value} {l : List ByteArray} (h : w.ownsRow base 9 1 v l.length (strs l)) : ∃ ao cap, v = .slice ao l.length cap ∧ M.HasBy M.LieS w ao l := by
  rcases h.2 with ⟨hv, h0⟩ | ⟨g, cap, cur, hv, hbg, hg, hnc, hcm, hcs, htake⟩
  · exact ⟨none, 0, by rw [hv, h0], fun hl => by omega⟩
  · subst hv
    refine ⟨some ⟨g, 0, none⟩, cap, rfl, fun hl => ⟨g, 0, rfl, B.isLt hg, fun i hi => ?_⟩⟩
    rw [Nat.zero_add]
    exact (h.cellAt _ (by omega)).trans (strs_get l i hi)
theorem names_take (ys : List M.Sy) (k : Nat) (h : k < ys.length) : ((ys.map (·.name)).take (k + 1)) = (ys.map (·.name)).take k ++ [(M.syAt ys k).name] := by
  rw [List.take_add_one, List.getElem?_map, List.getElem?_eq_getElem h]
  unfold M.syAt
  rw [List.getD_eq_getElem?_getD, List.getElem?_eq_getElem h]
  rfl

set_option maxHeartbeats 2000000 in
theorem symNames_any (ys : List M.Sy) (ao : Option Addr) (cap : Nat) (w : World) (h : M.HasBy M.LieY w ao ys) (hn : ys.length ≤ 12) :
    Calls Try.prog 73 #[.slice ao ys.length cap] w fun e w' => (∃ ao' cap', e = .returned (.slice ao' (ys.map (·.name)).length cap') ∧ M.HasBy M.LieS w' ao' (ys.map (·.name))) ∧ Below w.heap.size w w' := by
  have H := hideC h
  clear h
  obtain ⟨i0, hi, hz0, hz1, hz2⟩ := info_parts info9
  go_enter Try.func73, Try.ntmps73
  go_wp2
  go_loopw [3, 8] (fun v i wr => ∃ k : Nat, k ≤ ys.length ∧ i = .int .i64 k ∧ wr.ownsRow w.heap.size 9 1 v k (strs ((ys.map (·.name)).take k)) ∧ Below w.heap.size w wr) (fun _ i _ => ys.length - (intOf i).toNat)
  case atStart => exact ⟨0, by omega, rfl, World.ownsRow_nil _ _ _ _, Below.refl _ _⟩
  case round =>
    obtain ⟨k, hk, rfl, hown, hb⟩ := hrel
    have HO := hideC hown
    have HB := hideC hb
    clear hown
    by_cases hlt : k < ys.length
    · obtain ⟨b, off, hao, hbl, hl⟩ := H.out (by omega)
      subst hao
      have hli : (k : Int) < (ys.length : Int) := by omega
      obtain ⟨c0, c1⟩ := M.lieY hb hbl hl k hlt
      have HT := hideC (names_take ys k hlt)
      obtain ⟨y, hx⟩ : ∃ y, y = M.syAt ys k := ⟨_, rfl⟩
      rw [← hx] at c0 c1 HT
      clear hx hb hl
      obtain ⟨x, xp⟩ := y
      simp only at c0 c1 HT
      have hrow : Hid (∀ j, u3.ownBlock = some j → w.heap.size ≤ j ∧ j < wr.heap.size) := HO.out.lt
      have HN : Hid (((wr.alloc (.cells #[.string x, .int .i64 xp] 116)).alloc (.cells #[.string x] 9)).heap[wr.heap.size + 1]? = some (.cells #[.string x] 9 (0, 0))) := by
        have := B.new (wr.alloc (.cells #[.string x, .int .i64 xp] 116)) #[.string x] 9
        rw [show (wr.alloc (.cells #[.string x, .int .i64 xp] 116)).heap.size = wr.heap.size + 1 by simp] at this
        exact this
      go_wp2_with (at_builtin; refine wpList_append_lies _ rfl _ _ 22 rfl w.heap.size 9 i0 (.string ⟨#[]⟩) 1 16 Try.underlying22 hi hz0 hz1 hz2 rfl (by decide) _ _ _ rfl ((HO.out.alloc _).alloc _) ⟨wr.heap.size + 1, 0, none⟩ 1 1 [.string x] rfl rfl (B.news HN.out) (by intro u hu; simp at hu; subst hu; rfl) (by decide) (by unfold maxLen; omega) (by omega) (by have := HB.out.size; simp; omega) (wr.heap.size + 2) (by simp) ?_)
      intro g cap w1 hown1 hgrow hat hlt1
      have HO1 := hideC hown1
      have HB1 : Hid (Below w.heap.size w w1) := ((HB.out.alloc HB.out.size _).alloc (by have := HB.out.size; simp; omega) _).grown hgrow (by have := HB.out.size; simp; omega) (fun k' e => by have := hrow.out _ e; omega)
      clear hown1 hgrow hat
      go_wp2
      go_roundw
      case rel =>
        refine ⟨k + 1, by omega, by go_num, ?_, HB1.out⟩
        rw [HT.out]
        unfold strs
        rw [List.map_append]
        exact HO1.out
      case measure => simp [intOf]; omega
    · obtain rfl : k = ys.length := by omega
      clear hb
      go_wp2
      go_ret
      have e : (ys.map (·.name)).take ys.length = ys.map (·.name) := by rw [List.take_of_length_le]; simp
      have ho := HO.out
      rw [e] at ho
      rw [show ys.length = (ys.map (·.name)).length by simp] at ho
      obtain ⟨ao', cap', hv, hh⟩ := row_has ho
      exact ⟨⟨ao', cap', by rw [← hv]; rfl, hh⟩, HB.out⟩
end Go.Proofs.Yteieplodndfbhaa.W
namespace Go.Proofs.Yteieplodndfbhaa.W
open Go.RowKit
set_option linter.unusedVariables false
set_option maxRecDepth 100000

theorem ret_i64 {a b : Int} (h : a = b) : Ending.returned (.int .i64 a) = .returned (.int .i64 b) := by rw [h]
theorem strAt_map (ys : List M.Sy) (k : Nat) (h : k < ys.length) : M.strAt (ys.map (·.name)) k = (M.syAt ys k).name := by
  unfold M.strAt M.syAt
  rw [List.getD_eq_getElem?_getD, List.getD_eq_getElem?_getD, List.getElem?_map, List.getElem?_eq_getElem h]
  rfl

theorem symNames_as (L : List ByteArray) (ys : List M.Sy) (hL : L = ys.map (·.name)) (ao : Option Addr) (cap : Nat) (w : World) (h : M.HasBy M.LieY w ao ys) (hn : ys.length ≤ 12) :
    Calls Try.prog 73 #[.slice ao ys.length cap] w fun e w' => (∃ ao' cap', e = .returned (.slice ao' L.length cap') ∧ M.HasBy M.LieS w' ao' L) ∧ Below w.heap.size w w' := by
  subst hL
  exact symNames_any ys ao cap w h hn

set_option maxHeartbeats 1000000 in
theorem check_any (i : M.Im) (a : M.At) (w : World) (h : M.HasIm w a i) (hf : M.Fit i) : Calls Try.prog 50 #[.agg (M.cellsI a i)] w fun e w' => e = .returned (.int .i64 (M.chkN i)) ∧ Below w.heap.size w w' := by
  obtain ⟨an, cn, ag, cg, ay, cy, ar, cr⟩ := a
  obtain ⟨nm, ns, gs, ys, rs, en⟩ := i
  have HI := hideC h
  have HF := hideC hf
  have FY : Hid (∀ k, k < (ys.map (·.name)).length → M.Short (M.strAt (ys.map (·.name)) k).size) := fun k hk => by
    have hk' : k < ys.length := by simpa using hk
    rw [strAt_map ys k hk']
    exact (hf.sym k hk').1
  obtain ⟨L, hL⟩ : ∃ L, L = ys.map (·.name) := ⟨_, rfl⟩
  rw [← hL] at FY
  have HL := hideC hL
  have hyl' : ys.length ≤ 12 → M.Short L.length := fun h => by rw [hL]; unfold M.Short; simp; omega
  clear hL
  clear h hf
  simp only [M.cellsI]
  have HB := hideC ((Below.refl w.heap.size w).alloc (Nat.le_refl _) (.cells #[.string nm, .slice an ns.length cn, .slice ag gs.length cg, .slice ay ys.length cy, .slice ar rs.length cr, .int .i64 en] 27))
  have BX := hideC (B.new w #[.string nm, .slice an ns.length cn, .slice ag gs.length cg, .slice ay ys.length cy, .slice ar rs.length cr, .int .i64 en] 27)
  cases e1 : M.namesB ⟨nm, ns, gs, ys, rs, en⟩
  · have HR : Hid (M.chkN ⟨nm, ns, gs, ys, rs, en⟩ = 4) := by show _ = _; simp only [M.chkN, M.rangesB, M.thereB, M.placesB, ← HL.out, e1]; rfl
    go_enter Try.func50, Try.ntmps50
    go_wp2_with (first | (go_at_call 68; refine (rightNames_any ⟨nm, ns, gs, ys, rs, en⟩ ⟨an, cn, ag, cg, ay, cy, ar, cr⟩ _ (HI.out.below HB.out) HF.out).mono ?_; rintro e w' ⟨rfl, hb⟩; rw [e1]; have HB := hideC (HB.out.trans (hb.mono HB.out.size)); have BX := hideC (B.below BX.out hb (B.isLt BX.out)); have q0 := B.cell BX.out 0 rfl; have q1 := B.cell BX.out 1 rfl; have q2 := B.cell BX.out 2 rfl; have q3 := B.cell BX.out 3 rfl; have q4 := B.cell BX.out 4 rfl; have q5 := B.cell BX.out 5 rfl; clear hb))
    go_ret
    exact ⟨ret_i64 HR.out.symm, HB.out⟩
  · skip
    cases e2 : M.countsB ⟨nm, ns, gs, ys, rs, en⟩
    · have HR : Hid (M.chkN ⟨nm, ns, gs, ys, rs, en⟩ = 2) := by show _ = _; simp only [M.chkN, M.rangesB, M.thereB, M.placesB, ← HL.out, e1, e2]; rfl
      go_enter Try.func50, Try.ntmps50
      go_wp2_with (first | (go_at_call 68; refine (rightNames_any ⟨nm, ns, gs, ys, rs, en⟩ ⟨an, cn, ag, cg, ay, cy, ar, cr⟩ _ (HI.out.below HB.out) HF.out).mono ?_; rintro e w' ⟨rfl, hb⟩; rw [e1]; have HB := hideC (HB.out.trans (hb.mono HB.out.size)); have BX := hideC (B.below BX.out hb (B.isLt BX.out)); have q0 := B.cell BX.out 0 rfl; have q1 := B.cell BX.out 1 rfl; have q2 := B.cell BX.out 2 rfl; have q3 := B.cell BX.out 3 rfl; have q4 := B.cell BX.out 4 rfl; have q5 := B.cell BX.out 5 rfl; clear hb) | (go_at_call 69; refine (rightCounts_any ⟨nm, ns, gs, ys, rs, en⟩ ⟨an, cn, ag, cg, ay, cy, ar, cr⟩ _ HF.out).mono ?_; rintro e w' ⟨rfl, hb⟩; rw [e2]; have HB := hideC (HB.out.trans (hb.mono HB.out.size)); have BX := hideC (B.below BX.out hb (B.isLt BX.out)); have q0 := B.cell BX.out 0 rfl; have q1 := B.cell BX.out 1 rfl; have q2 := B.cell BX.out 2 rfl; have q3 := B.cell BX.out 3 rfl; have q4 := B.cell BX.out 4 rfl; have q5 := B.cell BX.out 5 rfl; clear hb))
      go_ret
      exact ⟨ret_i64 HR.out.symm, HB.out⟩
    · have hcn := of_decide_eq_true e2
      simp only at hcn
      have hy12 : ys.length ≤ 12 := hcn.2.2.2.1
      have hyl := hyl' hy12
      clear hcn hyl'
      cases e3 : gs.all M.rangeB
      · have HR : Hid (M.chkN ⟨nm, ns, gs, ys, rs, en⟩ = 3) := by show _ = _; simp only [M.chkN, M.rangesB, M.thereB, M.placesB, ← HL.out, e1, e2, e3]; rfl
        go_enter Try.func50, Try.ntmps50
        go_wp2_with (first | (go_at_call 68; refine (rightNames_any ⟨nm, ns, gs, ys, rs, en⟩ ⟨an, cn, ag, cg, ay, cy, ar, cr⟩ _ (HI.out.below HB.out) HF.out).mono ?_; rintro e w' ⟨rfl, hb⟩; rw [e1]; have HB := hideC (HB.out.trans (hb.mono HB.out.size)); have BX := hideC (B.below BX.out hb (B.isLt BX.out)); have q0 := B.cell BX.out 0 rfl; have q1 := B.cell BX.out 1 rfl; have q2 := B.cell BX.out 2 rfl; have q3 := B.cell BX.out 3 rfl; have q4 := B.cell BX.out 4 rfl; have q5 := B.cell BX.out 5 rfl; clear hb) | (go_at_call 69; refine (rightCounts_any ⟨nm, ns, gs, ys, rs, en⟩ ⟨an, cn, ag, cg, ay, cy, ar, cr⟩ _ HF.out).mono ?_; rintro e w' ⟨rfl, hb⟩; rw [e2]; have HB := hideC (HB.out.trans (hb.mono HB.out.size)); have BX := hideC (B.below BX.out hb (B.isLt BX.out)); have q0 := B.cell BX.out 0 rfl; have q1 := B.cell BX.out 1 rfl; have q2 := B.cell BX.out 2 rfl; have q3 := B.cell BX.out 3 rfl; have q4 := B.cell BX.out 4 rfl; have q5 := B.cell BX.out 5 rfl; clear hb) | (go_at_call 70; refine (rightRanges_any gs ag cg _ (HI.out.below HB.out).segs HF.out.segs HF.out.seg).mono ?_; rintro e w' ⟨rfl, hb⟩; rw [e3]; have HB := hideC (HB.out.trans (hb.mono HB.out.size)); have BX := hideC (B.below BX.out hb (B.isLt BX.out)); have q0 := B.cell BX.out 0 rfl; have q1 := B.cell BX.out 1 rfl; have q2 := B.cell BX.out 2 rfl; have q3 := B.cell BX.out 3 rfl; have q4 := B.cell BX.out 4 rfl; have q5 := B.cell BX.out 5 rfl; clear hb))
        go_ret
        exact ⟨ret_i64 HR.out.symm, HB.out⟩
      · skip
        cases e4 : M.apartB gs
        · have HR : Hid (M.chkN ⟨nm, ns, gs, ys, rs, en⟩ = 5) := by show _ = _; simp only [M.chkN, M.rangesB, M.thereB, M.placesB, ← HL.out, e1, e2, e3, e4]; rfl
          go_enter Try.func50, Try.ntmps50
          go_wp2_with (first | (go_at_call 68; refine (rightNames_any ⟨nm, ns, gs, ys, rs, en⟩ ⟨an, cn, ag, cg, ay, cy, ar, cr⟩ _ (HI.out.below HB.out) HF.out).mono ?_; rintro e w' ⟨rfl, hb⟩; rw [e1]; have HB := hideC (HB.out.trans (hb.mono HB.out.size)); have BX := hideC (B.below BX.out hb (B.isLt BX.out)); have q0 := B.cell BX.out 0 rfl; have q1 := B.cell BX.out 1 rfl; have q2 := B.cell BX.out 2 rfl; have q3 := B.cell BX.out 3 rfl; have q4 := B.cell BX.out 4 rfl; have q5 := B.cell BX.out 5 rfl; clear hb) | (go_at_call 69; refine (rightCounts_any ⟨nm, ns, gs, ys, rs, en⟩ ⟨an, cn, ag, cg, ay, cy, ar, cr⟩ _ HF.out).mono ?_; rintro e w' ⟨rfl, hb⟩; rw [e2]; have HB := hideC (HB.out.trans (hb.mono HB.out.size)); have BX := hideC (B.below BX.out hb (B.isLt BX.out)); have q0 := B.cell BX.out 0 rfl; have q1 := B.cell BX.out 1 rfl; have q2 := B.cell BX.out 2 rfl; have q3 := B.cell BX.out 3 rfl; have q4 := B.cell BX.out 4 rfl; have q5 := B.cell BX.out 5 rfl; clear hb) | (go_at_call 70; refine (rightRanges_any gs ag cg _ (HI.out.below HB.out).segs HF.out.segs HF.out.seg).mono ?_; rintro e w' ⟨rfl, hb⟩; rw [e3]; have HB := hideC (HB.out.trans (hb.mono HB.out.size)); have BX := hideC (B.below BX.out hb (B.isLt BX.out)); have q0 := B.cell BX.out 0 rfl; have q1 := B.cell BX.out 1 rfl; have q2 := B.cell BX.out 2 rfl; have q3 := B.cell BX.out 3 rfl; have q4 := B.cell BX.out 4 rfl; have q5 := B.cell BX.out 5 rfl; clear hb) | (go_at_call 71; refine (overlap_any gs ag cg _ (HI.out.below HB.out).segs HF.out.segs e3).mono ?_; rintro e w' ⟨rfl, hb⟩; rw [e4]; have HB := hideC (HB.out.trans (hb.mono HB.out.size)); have BX := hideC (B.below BX.out hb (B.isLt BX.out)); have q0 := B.cell BX.out 0 rfl; have q1 := B.cell BX.out 1 rfl; have q2 := B.cell BX.out 2 rfl; have q3 := B.cell BX.out 3 rfl; have q4 := B.cell BX.out 4 rfl; have q5 := B.cell BX.out 5 rfl; clear hb))
          go_ret
          exact ⟨ret_i64 HR.out.symm, HB.out⟩
        · skip
          cases e5 : M.onceB ns
          · have HR : Hid (M.chkN ⟨nm, ns, gs, ys, rs, en⟩ = 5) := by show _ = _; simp only [M.chkN, M.rangesB, M.thereB, M.placesB, ← HL.out, e1, e2, e3, e4, e5]; rfl
            go_enter Try.func50, Try.ntmps50
            go_wp2_with (first | (go_at_call 68; refine (rightNames_any ⟨nm, ns, gs, ys, rs, en⟩ ⟨an, cn, ag, cg, ay, cy, ar, cr⟩ _ (HI.out.below HB.out) HF.out).mono ?_; rintro e w' ⟨rfl, hb⟩; rw [e1]; have HB := hideC (HB.out.trans (hb.mono HB.out.size)); have BX := hideC (B.below BX.out hb (B.isLt BX.out)); have q0 := B.cell BX.out 0 rfl; have q1 := B.cell BX.out 1 rfl; have q2 := B.cell BX.out 2 rfl; have q3 := B.cell BX.out 3 rfl; have q4 := B.cell BX.out 4 rfl; have q5 := B.cell BX.out 5 rfl; clear hb) | (go_at_call 69; refine (rightCounts_any ⟨nm, ns, gs, ys, rs, en⟩ ⟨an, cn, ag, cg, ay, cy, ar, cr⟩ _ HF.out).mono ?_; rintro e w' ⟨rfl, hb⟩; rw [e2]; have HB := hideC (HB.out.trans (hb.mono HB.out.size)); have BX := hideC (B.below BX.out hb (B.isLt BX.out)); have q0 := B.cell BX.out 0 rfl; have q1 := B.cell BX.out 1 rfl; have q2 := B.cell BX.out 2 rfl; have q3 := B.cell BX.out 3 rfl; have q4 := B.cell BX.out 4 rfl; have q5 := B.cell BX.out 5 rfl; clear hb) | (go_at_call 70; refine (rightRanges_any gs ag cg _ (HI.out.below HB.out).segs HF.out.segs HF.out.seg).mono ?_; rintro e w' ⟨rfl, hb⟩; rw [e3]; have HB := hideC (HB.out.trans (hb.mono HB.out.size)); have BX := hideC (B.below BX.out hb (B.isLt BX.out)); have q0 := B.cell BX.out 0 rfl; have q1 := B.cell BX.out 1 rfl; have q2 := B.cell BX.out 2 rfl; have q3 := B.cell BX.out 3 rfl; have q4 := B.cell BX.out 4 rfl; have q5 := B.cell BX.out 5 rfl; clear hb) | (go_at_call 71; refine (overlap_any gs ag cg _ (HI.out.below HB.out).segs HF.out.segs e3).mono ?_; rintro e w' ⟨rfl, hb⟩; rw [e4]; have HB := hideC (HB.out.trans (hb.mono HB.out.size)); have BX := hideC (B.below BX.out hb (B.isLt BX.out)); have q0 := B.cell BX.out 0 rfl; have q1 := B.cell BX.out 1 rfl; have q2 := B.cell BX.out 2 rfl; have q3 := B.cell BX.out 3 rfl; have q4 := B.cell BX.out 4 rfl; have q5 := B.cell BX.out 5 rfl; clear hb) | (go_at_call 72; refine (twice_any ns an cn _ (HI.out.below HB.out).needs HF.out.needs HF.out.need).mono ?_; rintro e w' ⟨rfl, hb⟩; rw [e5]; have HB := hideC (HB.out.trans (hb.mono HB.out.size)); have BX := hideC (B.below BX.out hb (B.isLt BX.out)); have q0 := B.cell BX.out 0 rfl; have q1 := B.cell BX.out 1 rfl; have q2 := B.cell BX.out 2 rfl; have q3 := B.cell BX.out 3 rfl; have q4 := B.cell BX.out 4 rfl; have q5 := B.cell BX.out 5 rfl; clear hb))
            go_ret
            exact ⟨ret_i64 HR.out.symm, HB.out⟩
          · skip
            cases e6 : M.onceB L
            · have HR : Hid (M.chkN ⟨nm, ns, gs, ys, rs, en⟩ = 5) := by show _ = _; simp only [M.chkN, M.rangesB, M.thereB, M.placesB, ← HL.out, e1, e2, e3, e4, e5, e6]; rfl
              go_enter Try.func50, Try.ntmps50
              go_wp2_with (first | (go_at_call 72; refine (twice_any L ao' cap' _ HY.out hyl FY.out).mono ?_; rintro e w' ⟨rfl, hb⟩; rw [e6]; have HB := hideC (HB.out.trans (hb.mono HB.out.size)); have BX := hideC (B.below BX.out hb (B.isLt BX.out)); have q0 := B.cell BX.out 0 rfl; have q1 := B.cell BX.out 1 rfl; have q2 := B.cell BX.out 2 rfl; have q3 := B.cell BX.out 3 rfl; have q4 := B.cell BX.out 4 rfl; have q5 := B.cell BX.out 5 rfl; clear hb) | (go_at_call 68; refine (rightNames_any ⟨nm, ns, gs, ys, rs, en⟩ ⟨an, cn, ag, cg, ay, cy, ar, cr⟩ _ (HI.out.below HB.out) HF.out).mono ?_; rintro e w' ⟨rfl, hb⟩; rw [e1]; have HB := hideC (HB.out.trans (hb.mono HB.out.size)); have BX := hideC (B.below BX.out hb (B.isLt BX.out)); have q0 := B.cell BX.out 0 rfl; have q1 := B.cell BX.out 1 rfl; have q2 := B.cell BX.out 2 rfl; have q3 := B.cell BX.out 3 rfl; have q4 := B.cell BX.out 4 rfl; have q5 := B.cell BX.out 5 rfl; clear hb) | (go_at_call 69; refine (rightCounts_any ⟨nm, ns, gs, ys, rs, en⟩ ⟨an, cn, ag, cg, ay, cy, ar, cr⟩ _ HF.out).mono ?_; rintro e w' ⟨rfl, hb⟩; rw [e2]; have HB := hideC (HB.out.trans (hb.mono HB.out.size)); have BX := hideC (B.below BX.out hb (B.isLt BX.out)); have q0 := B.cell BX.out 0 rfl; have q1 := B.cell BX.out 1 rfl; have q2 := B.cell BX.out 2 rfl; have q3 := B.cell BX.out 3 rfl; have q4 := B.cell BX.out 4 rfl; have q5 := B.cell BX.out 5 rfl; clear hb) | (go_at_call 70; refine (rightRanges_any gs ag cg _ (HI.out.below HB.out).segs HF.out.segs HF.out.seg).mono ?_; rintro e w' ⟨rfl, hb⟩; rw [e3]; have HB := hideC (HB.out.trans (hb.mono HB.out.size)); have BX := hideC (B.below BX.out hb (B.isLt BX.out)); have q0 := B.cell BX.out 0 rfl; have q1 := B.cell BX.out 1 rfl; have q2 := B.cell BX.out 2 rfl; have q3 := B.cell BX.out 3 rfl; have q4 := B.cell BX.out 4 rfl; have q5 := B.cell BX.out 5 rfl; clear hb) | (go_at_call 71; refine (overlap_any gs ag cg _ (HI.out.below HB.out).segs HF.out.segs e3).mono ?_; rintro e w' ⟨rfl, hb⟩; rw [e4]; have HB := hideC (HB.out.trans (hb.mono HB.out.size)); have BX := hideC (B.below BX.out hb (B.isLt BX.out)); have q0 := B.cell BX.out 0 rfl; have q1 := B.cell BX.out 1 rfl; have q2 := B.cell BX.out 2 rfl; have q3 := B.cell BX.out 3 rfl; have q4 := B.cell BX.out 4 rfl; have q5 := B.cell BX.out 5 rfl; clear hb) | (go_at_call 72; refine (twice_any ns an cn _ (HI.out.below HB.out).needs HF.out.needs HF.out.need).mono ?_; rintro e w' ⟨rfl, hb⟩; rw [e5]; have HB := hideC (HB.out.trans (hb.mono HB.out.size)); have BX := hideC (B.below BX.out hb (B.isLt BX.out)); have q0 := B.cell BX.out 0 rfl; have q1 := B.cell BX.out 1 rfl; have q2 := B.cell BX.out 2 rfl; have q3 := B.cell BX.out 3 rfl; have q4 := B.cell BX.out 4 rfl; have q5 := B.cell BX.out 5 rfl; clear hb) | (go_at_call 73; refine (symNames_as L ys HL.out ay cy _ (HI.out.below HB.out).syms hy12).mono ?_; rintro e w' ⟨⟨ao', cap', rfl, hh⟩, hb⟩; have HY := hideC hh; clear hh; have HB := hideC (HB.out.trans (hb.mono HB.out.size)); have BX := hideC (B.below BX.out hb (B.isLt BX.out)); have q0 := B.cell BX.out 0 rfl; have q1 := B.cell BX.out 1 rfl; have q2 := B.cell BX.out 2 rfl; have q3 := B.cell BX.out 3 rfl; have q4 := B.cell BX.out 4 rfl; have q5 := B.cell BX.out 5 rfl; clear hb))
              go_ret
              exact ⟨ret_i64 HR.out.symm, HB.out⟩
            · skip
              cases e7 : ys.all (fun y => M.placedB gs y.pos)
              · have HR : Hid (M.chkN ⟨nm, ns, gs, ys, rs, en⟩ = 6) := by show _ = _; simp only [M.chkN, M.rangesB, M.thereB, M.placesB, ← HL.out, e1, e2, e3, e4, e5, e6, e7]; rfl
                go_enter Try.func50, Try.ntmps50
                go_wp2_with (first | (go_at_call 72; refine (twice_any L ao' cap' _ HY.out hyl FY.out).mono ?_; rintro e w' ⟨rfl, hb⟩; rw [e6]; have HB := hideC (HB.out.trans (hb.mono HB.out.size)); have BX := hideC (B.below BX.out hb (B.isLt BX.out)); have q0 := B.cell BX.out 0 rfl; have q1 := B.cell BX.out 1 rfl; have q2 := B.cell BX.out 2 rfl; have q3 := B.cell BX.out 3 rfl; have q4 := B.cell BX.out 4 rfl; have q5 := B.cell BX.out 5 rfl; clear hb) | (go_at_call 68; refine (rightNames_any ⟨nm, ns, gs, ys, rs, en⟩ ⟨an, cn, ag, cg, ay, cy, ar, cr⟩ _ (HI.out.below HB.out) HF.out).mono ?_; rintro e w' ⟨rfl, hb⟩; rw [e1]; have HB := hideC (HB.out.trans (hb.mono HB.out.size)); have BX := hideC (B.below BX.out hb (B.isLt BX.out)); have q0 := B.cell BX.out 0 rfl; have q1 := B.cell BX.out 1 rfl; have q2 := B.cell BX.out 2 rfl; have q3 := B.cell BX.out 3 rfl; have q4 := B.cell BX.out 4 rfl; have q5 := B.cell BX.out 5 rfl; clear hb) | (go_at_call 69; refine (rightCounts_any ⟨nm, ns, gs, ys, rs, en⟩ ⟨an, cn, ag, cg, ay, cy, ar, cr⟩ _ HF.out).mono ?_; rintro e w' ⟨rfl, hb⟩; rw [e2]; have HB := hideC (HB.out.trans (hb.mono HB.out.size)); have BX := hideC (B.below BX.out hb (B.isLt BX.out)); have q0 := B.cell BX.out 0 rfl; have q1 := B.cell BX.out 1 rfl; have q2 := B.cell BX.out 2 rfl; have q3 := B.cell BX.out 3 rfl; have q4 := B.cell BX.out 4 rfl; have q5 := B.cell BX.out 5 rfl; clear hb) | (go_at_call 70; refine (rightRanges_any gs ag cg _ (HI.out.below HB.out).segs HF.out.segs HF.out.seg).mono ?_; rintro e w' ⟨rfl, hb⟩; rw [e3]; have HB := hideC (HB.out.trans (hb.mono HB.out.size)); have BX := hideC (B.below BX.out hb (B.isLt BX.out)); have q0 := B.cell BX.out 0 rfl; have q1 := B.cell BX.out 1 rfl; have q2 := B.cell BX.out 2 rfl; have q3 := B.cell BX.out 3 rfl; have q4 := B.cell BX.out 4 rfl; have q5 := B.cell BX.out 5 rfl; clear hb) | (go_at_call 71; refine (overlap_any gs ag cg _ (HI.out.below HB.out).segs HF.out.segs e3).mono ?_; rintro e w' ⟨rfl, hb⟩; rw [e4]; have HB := hideC (HB.out.trans (hb.mono HB.out.size)); have BX := hideC (B.below BX.out hb (B.isLt BX.out)); have q0 := B.cell BX.out 0 rfl; have q1 := B.cell BX.out 1 rfl; have q2 := B.cell BX.out 2 rfl; have q3 := B.cell BX.out 3 rfl; have q4 := B.cell BX.out 4 rfl; have q5 := B.cell BX.out 5 rfl; clear hb) | (go_at_call 72; refine (twice_any ns an cn _ (HI.out.below HB.out).needs HF.out.needs HF.out.need).mono ?_; rintro e w' ⟨rfl, hb⟩; rw [e5]; have HB := hideC (HB.out.trans (hb.mono HB.out.size)); have BX := hideC (B.below BX.out hb (B.isLt BX.out)); have q0 := B.cell BX.out 0 rfl; have q1 := B.cell BX.out 1 rfl; have q2 := B.cell BX.out 2 rfl; have q3 := B.cell BX.out 3 rfl; have q4 := B.cell BX.out 4 rfl; have q5 := B.cell BX.out 5 rfl; clear hb) | (go_at_call 73; refine (symNames_as L ys HL.out ay cy _ (HI.out.below HB.out).syms hy12).mono ?_; rintro e w' ⟨⟨ao', cap', rfl, hh⟩, hb⟩; have HY := hideC hh; clear hh; have HB := hideC (HB.out.trans (hb.mono HB.out.size)); have BX := hideC (B.below BX.out hb (B.isLt BX.out)); have q0 := B.cell BX.out 0 rfl; have q1 := B.cell BX.out 1 rfl; have q2 := B.cell BX.out 2 rfl; have q3 := B.cell BX.out 3 rfl; have q4 := B.cell BX.out 4 rfl; have q5 := B.cell BX.out 5 rfl; clear hb) | (go_at_call 74; refine (symsPlaced_any ⟨nm, ns, gs, ys, rs, en⟩ ⟨an, cn, ag, cg, ay, cy, ar, cr⟩ _ (HI.out.below HB.out) HF.out e3).mono ?_; rintro e w' ⟨rfl, hb⟩; rw [e7]; have HB := hideC (HB.out.trans (hb.mono HB.out.size)); have BX := hideC (B.below BX.out hb (B.isLt BX.out)); have q0 := B.cell BX.out 0 rfl; have q1 := B.cell BX.out 1 rfl; have q2 := B.cell BX.out 2 rfl; have q3 := B.cell BX.out 3 rfl; have q4 := B.cell BX.out 4 rfl; have q5 := B.cell BX.out 5 rfl; clear hb))
                go_ret
                exact ⟨ret_i64 HR.out.symm, HB.out⟩
              · skip
                cases e8 : M.relsTo ⟨nm, ns, gs, ys, rs, en⟩ rs.length
                · have HR : Hid (M.chkN ⟨nm, ns, gs, ys, rs, en⟩ = 6) := by show _ = _; simp only [M.chkN, M.rangesB, M.thereB, M.placesB, ← HL.out, e1, e2, e3, e4, e5, e6, e7, e8]; rfl
                  go_enter Try.func50, Try.ntmps50
                  go_wp2_with (first | (go_at_call 72; refine (twice_any L ao' cap' _ HY.out hyl FY.out).mono ?_; rintro e w' ⟨rfl, hb⟩; rw [e6]; have HB := hideC (HB.out.trans (hb.mono HB.out.size)); have BX := hideC (B.below BX.out hb (B.isLt BX.out)); have q0 := B.cell BX.out 0 rfl; have q1 := B.cell BX.out 1 rfl; have q2 := B.cell BX.out 2 rfl; have q3 := B.cell BX.out 3 rfl; have q4 := B.cell BX.out 4 rfl; have q5 := B.cell BX.out 5 rfl; clear hb) | (go_at_call 68; refine (rightNames_any ⟨nm, ns, gs, ys, rs, en⟩ ⟨an, cn, ag, cg, ay, cy, ar, cr⟩ _ (HI.out.below HB.out) HF.out).mono ?_; rintro e w' ⟨rfl, hb⟩; rw [e1]; have HB := hideC (HB.out.trans (hb.mono HB.out.size)); have BX := hideC (B.below BX.out hb (B.isLt BX.out)); have q0 := B.cell BX.out 0 rfl; have q1 := B.cell BX.out 1 rfl; have q2 := B.cell BX.out 2 rfl; have q3 := B.cell BX.out 3 rfl; have q4 := B.cell BX.out 4 rfl; have q5 := B.cell BX.out 5 rfl; clear hb) | (go_at_call 69; refine (rightCounts_any ⟨nm, ns, gs, ys, rs, en⟩ ⟨an, cn, ag, cg, ay, cy, ar, cr⟩ _ HF.out).mono ?_; rintro e w' ⟨rfl, hb⟩; rw [e2]; have HB := hideC (HB.out.trans (hb.mono HB.out.size)); have BX := hideC (B.below BX.out hb (B.isLt BX.out)); have q0 := B.cell BX.out 0 rfl; have q1 := B.cell BX.out 1 rfl; have q2 := B.cell BX.out 2 rfl; have q3 := B.cell BX.out 3 rfl; have q4 := B.cell BX.out 4 rfl; have q5 := B.cell BX.out 5 rfl; clear hb) | (go_at_call 70; refine (rightRanges_any gs ag cg _ (HI.out.below HB.out).segs HF.out.segs HF.out.seg).mono ?_; rintro e w' ⟨rfl, hb⟩; rw [e3]; have HB := hideC (HB.out.trans (hb.mono HB.out.size)); have BX := hideC (B.below BX.out hb (B.isLt BX.out)); have q0 := B.cell BX.out 0 rfl; have q1 := B.cell BX.out 1 rfl; have q2 := B.cell BX.out 2 rfl; have q3 := B.cell BX.out 3 rfl; have q4 := B.cell BX.out 4 rfl; have q5 := B.cell BX.out 5 rfl; clear hb) | (go_at_call 71; refine (overlap_any gs ag cg _ (HI.out.below HB.out).segs HF.out.segs e3).mono ?_; rintro e w' ⟨rfl, hb⟩; rw [e4]; have HB := hideC (HB.out.trans (hb.mono HB.out.size)); have BX := hideC (B.below BX.out hb (B.isLt BX.out)); have q0 := B.cell BX.out 0 rfl; have q1 := B.cell BX.out 1 rfl; have q2 := B.cell BX.out 2 rfl; have q3 := B.cell BX.out 3 rfl; have q4 := B.cell BX.out 4 rfl; have q5 := B.cell BX.out 5 rfl; clear hb) | (go_at_call 72; refine (twice_any ns an cn _ (HI.out.below HB.out).needs HF.out.needs HF.out.need).mono ?_; rintro e w' ⟨rfl, hb⟩; rw [e5]; have HB := hideC (HB.out.trans (hb.mono HB.out.size)); have BX := hideC (B.below BX.out hb (B.isLt BX.out)); have q0 := B.cell BX.out 0 rfl; have q1 := B.cell BX.out 1 rfl; have q2 := B.cell BX.out 2 rfl; have q3 := B.cell BX.out 3 rfl; have q4 := B.cell BX.out 4 rfl; have q5 := B.cell BX.out 5 rfl; clear hb) | (go_at_call 73; refine (symNames_as L ys HL.out ay cy _ (HI.out.below HB.out).syms hy12).mono ?_; rintro e w' ⟨⟨ao', cap', rfl, hh⟩, hb⟩; have HY := hideC hh; clear hh; have HB := hideC (HB.out.trans (hb.mono HB.out.size)); have BX := hideC (B.below BX.out hb (B.isLt BX.out)); have q0 := B.cell BX.out 0 rfl; have q1 := B.cell BX.out 1 rfl; have q2 := B.cell BX.out 2 rfl; have q3 := B.cell BX.out 3 rfl; have q4 := B.cell BX.out 4 rfl; have q5 := B.cell BX.out 5 rfl; clear hb) | (go_at_call 74; refine (symsPlaced_any ⟨nm, ns, gs, ys, rs, en⟩ ⟨an, cn, ag, cg, ay, cy, ar, cr⟩ _ (HI.out.below HB.out) HF.out e3).mono ?_; rintro e w' ⟨rfl, hb⟩; rw [e7]; have HB := hideC (HB.out.trans (hb.mono HB.out.size)); have BX := hideC (B.below BX.out hb (B.isLt BX.out)); have q0 := B.cell BX.out 0 rfl; have q1 := B.cell BX.out 1 rfl; have q2 := B.cell BX.out 2 rfl; have q3 := B.cell BX.out 3 rfl; have q4 := B.cell BX.out 4 rfl; have q5 := B.cell BX.out 5 rfl; clear hb) | (go_at_call 75; refine (relsPlaced_any ⟨nm, ns, gs, ys, rs, en⟩ ⟨an, cn, ag, cg, ay, cy, ar, cr⟩ _ (HI.out.below HB.out) HF.out e3).mono ?_; rintro e w' ⟨rfl, hb⟩; rw [e8]; have HB := hideC (HB.out.trans (hb.mono HB.out.size)); have BX := hideC (B.below BX.out hb (B.isLt BX.out)); have q0 := B.cell BX.out 0 rfl; have q1 := B.cell BX.out 1 rfl; have q2 := B.cell BX.out 2 rfl; have q3 := B.cell BX.out 3 rfl; have q4 := B.cell BX.out 4 rfl; have q5 := B.cell BX.out 5 rfl; clear hb))
                  go_ret
                  exact ⟨ret_i64 HR.out.symm, HB.out⟩
                · skip
                  cases e9 : M.entryB ⟨nm, ns, gs, ys, rs, en⟩
                  · have HR : Hid (M.chkN ⟨nm, ns, gs, ys, rs, en⟩ = 6) := by show _ = _; simp only [M.chkN, M.rangesB, M.thereB, M.placesB, ← HL.out, e1, e2, e3, e4, e5, e6, e7, e8, e9]; rfl
                    go_enter Try.func50, Try.ntmps50
                    go_wp2_with (first | (go_at_call 72; refine (twice_any L ao' cap' _ HY.out hyl FY.out).mono ?_; rintro e w' ⟨rfl, hb⟩; rw [e6]; have HB := hideC (HB.out.trans (hb.mono HB.out.size)); have BX := hideC (B.below BX.out hb (B.isLt BX.out)); have q0 := B.cell BX.out 0 rfl; have q1 := B.cell BX.out 1 rfl; have q2 := B.cell BX.out 2 rfl; have q3 := B.cell BX.out 3 rfl; have q4 := B.cell BX.out 4 rfl; have q5 := B.cell BX.out 5 rfl; clear hb) | (go_at_call 68; refine (rightNames_any ⟨nm, ns, gs, ys, rs, en⟩ ⟨an, cn, ag, cg, ay, cy, ar, cr⟩ _ (HI.out.below HB.out) HF.out).mono ?_; rintro e w' ⟨rfl, hb⟩; rw [e1]; have HB := hideC (HB.out.trans (hb.mono HB.out.size)); have BX := hideC (B.below BX.out hb (B.isLt BX.out)); have q0 := B.cell BX.out 0 rfl; have q1 := B.cell BX.out 1 rfl; have q2 := B.cell BX.out 2 rfl; have q3 := B.cell BX.out 3 rfl; have q4 := B.cell BX.out 4 rfl; have q5 := B.cell BX.out 5 rfl; clear hb) | (go_at_call 69; refine (rightCounts_any ⟨nm, ns, gs, ys, rs, en⟩ ⟨an, cn, ag, cg, ay, cy, ar, cr⟩ _ HF.out).mono ?_; rintro e w' ⟨rfl, hb⟩; rw [e2]; have HB := hideC (HB.out.trans (hb.mono HB.out.size)); have BX := hideC (B.below BX.out hb (B.isLt BX.out)); have q0 := B.cell BX.out 0 rfl; have q1 := B.cell BX.out 1 rfl; have q2 := B.cell BX.out 2 rfl; have q3 := B.cell BX.out 3 rfl; have q4 := B.cell BX.out 4 rfl; have q5 := B.cell BX.out 5 rfl; clear hb) | (go_at_call 70; refine (rightRanges_any gs ag cg _ (HI.out.below HB.out).segs HF.out.segs HF.out.seg).mono ?_; rintro e w' ⟨rfl, hb⟩; rw [e3]; have HB := hideC (HB.out.trans (hb.mono HB.out.size)); have BX := hideC (B.below BX.out hb (B.isLt BX.out)); have q0 := B.cell BX.out 0 rfl; have q1 := B.cell BX.out 1 rfl; have q2 := B.cell BX.out 2 rfl; have q3 := B.cell BX.out 3 rfl; have q4 := B.cell BX.out 4 rfl; have q5 := B.cell BX.out 5 rfl; clear hb) | (go_at_call 71; refine (overlap_any gs ag cg _ (HI.out.below HB.out).segs HF.out.segs e3).mono ?_; rintro e w' ⟨rfl, hb⟩; rw [e4]; have HB := hideC (HB.out.trans (hb.mono HB.out.size)); have BX := hideC (B.below BX.out hb (B.isLt BX.out)); have q0 := B.cell BX.out 0 rfl; have q1 := B.cell BX.out 1 rfl; have q2 := B.cell BX.out 2 rfl; have q3 := B.cell BX.out 3 rfl; have q4 := B.cell BX.out 4 rfl; have q5 := B.cell BX.out 5 rfl; clear hb) | (go_at_call 72; refine (twice_any ns an cn _ (HI.out.below HB.out).needs HF.out.needs HF.out.need).mono ?_; rintro e w' ⟨rfl, hb⟩; rw [e5]; have HB := hideC (HB.out.trans (hb.mono HB.out.size)); have BX := hideC (B.below BX.out hb (B.isLt BX.out)); have q0 := B.cell BX.out 0 rfl; have q1 := B.cell BX.out 1 rfl; have q2 := B.cell BX.out 2 rfl; have q3 := B.cell BX.out 3 rfl; have q4 := B.cell BX.out 4 rfl; have q5 := B.cell BX.out 5 rfl; clear hb) | (go_at_call 73; refine (symNames_as L ys HL.out ay cy _ (HI.out.below HB.out).syms hy12).mono ?_; rintro e w' ⟨⟨ao', cap', rfl, hh⟩, hb⟩; have HY := hideC hh; clear hh; have HB := hideC (HB.out.trans (hb.mono HB.out.size)); have BX := hideC (B.below BX.out hb (B.isLt BX.out)); have q0 := B.cell BX.out 0 rfl; have q1 := B.cell BX.out 1 rfl; have q2 := B.cell BX.out 2 rfl; have q3 := B.cell BX.out 3 rfl; have q4 := B.cell BX.out 4 rfl; have q5 := B.cell BX.out 5 rfl; clear hb) | (go_at_call 74; refine (symsPlaced_any ⟨nm, ns, gs, ys, rs, en⟩ ⟨an, cn, ag, cg, ay, cy, ar, cr⟩ _ (HI.out.below HB.out) HF.out e3).mono ?_; rintro e w' ⟨rfl, hb⟩; rw [e7]; have HB := hideC (HB.out.trans (hb.mono HB.out.size)); have BX := hideC (B.below BX.out hb (B.isLt BX.out)); have q0 := B.cell BX.out 0 rfl; have q1 := B.cell BX.out 1 rfl; have q2 := B.cell BX.out 2 rfl; have q3 := B.cell BX.out 3 rfl; have q4 := B.cell BX.out 4 rfl; have q5 := B.cell BX.out 5 rfl; clear hb) | (go_at_call 75; refine (relsPlaced_any ⟨nm, ns, gs, ys, rs, en⟩ ⟨an, cn, ag, cg, ay, cy, ar, cr⟩ _ (HI.out.below HB.out) HF.out e3).mono ?_; rintro e w' ⟨rfl, hb⟩; rw [e8]; have HB := hideC (HB.out.trans (hb.mono HB.out.size)); have BX := hideC (B.below BX.out hb (B.isLt BX.out)); have q0 := B.cell BX.out 0 rfl; have q1 := B.cell BX.out 1 rfl; have q2 := B.cell BX.out 2 rfl; have q3 := B.cell BX.out 3 rfl; have q4 := B.cell BX.out 4 rfl; have q5 := B.cell BX.out 5 rfl; clear hb) | (go_at_call 76; refine (entryPlaced_any ⟨nm, ns, gs, ys, rs, en⟩ ⟨an, cn, ag, cg, ay, cy, ar, cr⟩ _ (HI.out.below HB.out) HF.out e3).mono ?_; rintro e w' ⟨rfl, hb⟩; rw [e9]; have HB := hideC (HB.out.trans (hb.mono HB.out.size)); have BX := hideC (B.below BX.out hb (B.isLt BX.out)); have q0 := B.cell BX.out 0 rfl; have q1 := B.cell BX.out 1 rfl; have q2 := B.cell BX.out 2 rfl; have q3 := B.cell BX.out 3 rfl; have q4 := B.cell BX.out 4 rfl; have q5 := B.cell BX.out 5 rfl; clear hb))
                    go_ret
                    exact ⟨ret_i64 HR.out.symm, HB.out⟩
                  · skip
                    have HR : Hid (M.chkN ⟨nm, ns, gs, ys, rs, en⟩ = 0) := by show _ = _; simp only [M.chkN, M.rangesB, M.thereB, M.placesB, ← HL.out, e1, e2, e3, e4, e5, e6, e7, e8, e9]; rfl
                    go_enter Try.func50, Try.ntmps50
                    go_wp2_with (first | (go_at_call 72; refine (twice_any L ao' cap' _ HY.out hyl FY.out).mono ?_; rintro e w' ⟨rfl, hb⟩; rw [e6]; have HB := hideC (HB.out.trans (hb.mono HB.out.size)); have BX := hideC (B.below BX.out hb (B.isLt BX.out)); have q0 := B.cell BX.out 0 rfl; have q1 := B.cell BX.out 1 rfl; have q2 := B.cell BX.out 2 rfl; have q3 := B.cell BX.out 3 rfl; have q4 := B.cell BX.out 4 rfl; have q5 := B.cell BX.out 5 rfl; clear hb) | (go_at_call 68; refine (rightNames_any ⟨nm, ns, gs, ys, rs, en⟩ ⟨an, cn, ag, cg, ay, cy, ar, cr⟩ _ (HI.out.below HB.out) HF.out).mono ?_; rintro e w' ⟨rfl, hb⟩; rw [e1]; have HB := hideC (HB.out.trans (hb.mono HB.out.size)); have BX := hideC (B.below BX.out hb (B.isLt BX.out)); have q0 := B.cell BX.out 0 rfl; have q1 := B.cell BX.out 1 rfl; have q2 := B.cell BX.out 2 rfl; have q3 := B.cell BX.out 3 rfl; have q4 := B.cell BX.out 4 rfl; have q5 := B.cell BX.out 5 rfl; clear hb) | (go_at_call 69; refine (rightCounts_any ⟨nm, ns, gs, ys, rs, en⟩ ⟨an, cn, ag, cg, ay, cy, ar, cr⟩ _ HF.out).mono ?_; rintro e w' ⟨rfl, hb⟩; rw [e2]; have HB := hideC (HB.out.trans (hb.mono HB.out.size)); have BX := hideC (B.below BX.out hb (B.isLt BX.out)); have q0 := B.cell BX.out 0 rfl; have q1 := B.cell BX.out 1 rfl; have q2 := B.cell BX.out 2 rfl; have q3 := B.cell BX.out 3 rfl; have q4 := B.cell BX.out 4 rfl; have q5 := B.cell BX.out 5 rfl; clear hb) | (go_at_call 70; refine (rightRanges_any gs ag cg _ (HI.out.below HB.out).segs HF.out.segs HF.out.seg).mono ?_; rintro e w' ⟨rfl, hb⟩; rw [e3]; have HB := hideC (HB.out.trans (hb.mono HB.out.size)); have BX := hideC (B.below BX.out hb (B.isLt BX.out)); have q0 := B.cell BX.out 0 rfl; have q1 := B.cell BX.out 1 rfl; have q2 := B.cell BX.out 2 rfl; have q3 := B.cell BX.out 3 rfl; have q4 := B.cell BX.out 4 rfl; have q5 := B.cell BX.out 5 rfl; clear hb) | (go_at_call 71; refine (overlap_any gs ag cg _ (HI.out.below HB.out).segs HF.out.segs e3).mono ?_; rintro e w' ⟨rfl, hb⟩; rw [e4]; have HB := hideC (HB.out.trans (hb.mono HB.out.size)); have BX := hideC (B.below BX.out hb (B.isLt BX.out)); have q0 := B.cell BX.out 0 rfl; have q1 := B.cell BX.out 1 rfl; have q2 := B.cell BX.out 2 rfl; have q3 := B.cell BX.out 3 rfl; have q4 := B.cell BX.out 4 rfl; have q5 := B.cell BX.out 5 rfl; clear hb) | (go_at_call 72; refine (twice_any ns an cn _ (HI.out.below HB.out).needs HF.out.needs HF.out.need).mono ?_; rintro e w' ⟨rfl, hb⟩; rw [e5]; have HB := hideC (HB.out.trans (hb.mono HB.out.size)); have BX := hideC (B.below BX.out hb (B.isLt BX.out)); have q0 := B.cell BX.out 0 rfl; have q1 := B.cell BX.out 1 rfl; have q2 := B.cell BX.out 2 rfl; have q3 := B.cell BX.out 3 rfl; have q4 := B.cell BX.out 4 rfl; have q5 := B.cell BX.out 5 rfl; clear hb) | (go_at_call 73; refine (symNames_as L ys HL.out ay cy _ (HI.out.below HB.out).syms hy12).mono ?_; rintro e w' ⟨⟨ao', cap', rfl, hh⟩, hb⟩; have HY := hideC hh; clear hh; have HB := hideC (HB.out.trans (hb.mono HB.out.size)); have BX := hideC (B.below BX.out hb (B.isLt BX.out)); have q0 := B.cell BX.out 0 rfl; have q1 := B.cell BX.out 1 rfl; have q2 := B.cell BX.out 2 rfl; have q3 := B.cell BX.out 3 rfl; have q4 := B.cell BX.out 4 rfl; have q5 := B.cell BX.out 5 rfl; clear hb) | (go_at_call 74; refine (symsPlaced_any ⟨nm, ns, gs, ys, rs, en⟩ ⟨an, cn, ag, cg, ay, cy, ar, cr⟩ _ (HI.out.below HB.out) HF.out e3).mono ?_; rintro e w' ⟨rfl, hb⟩; rw [e7]; have HB := hideC (HB.out.trans (hb.mono HB.out.size)); have BX := hideC (B.below BX.out hb (B.isLt BX.out)); have q0 := B.cell BX.out 0 rfl; have q1 := B.cell BX.out 1 rfl; have q2 := B.cell BX.out 2 rfl; have q3 := B.cell BX.out 3 rfl; have q4 := B.cell BX.out 4 rfl; have q5 := B.cell BX.out 5 rfl; clear hb) | (go_at_call 75; refine (relsPlaced_any ⟨nm, ns, gs, ys, rs, en⟩ ⟨an, cn, ag, cg, ay, cy, ar, cr⟩ _ (HI.out.below HB.out) HF.out e3).mono ?_; rintro e w' ⟨rfl, hb⟩; rw [e8]; have HB := hideC (HB.out.trans (hb.mono HB.out.size)); have BX := hideC (B.below BX.out hb (B.isLt BX.out)); have q0 := B.cell BX.out 0 rfl; have q1 := B.cell BX.out 1 rfl; have q2 := B.cell BX.out 2 rfl; have q3 := B.cell BX.out 3 rfl; have q4 := B.cell BX.out 4 rfl; have q5 := B.cell BX.out 5 rfl; clear hb) | (go_at_call 76; refine (entryPlaced_any ⟨nm, ns, gs, ys, rs, en⟩ ⟨an, cn, ag, cg, ay, cy, ar, cr⟩ _ (HI.out.below HB.out) HF.out e3).mono ?_; rintro e w' ⟨rfl, hb⟩; rw [e9]; have HB := hideC (HB.out.trans (hb.mono HB.out.size)); have BX := hideC (B.below BX.out hb (B.isLt BX.out)); have q0 := B.cell BX.out 0 rfl; have q1 := B.cell BX.out 1 rfl; have q2 := B.cell BX.out 2 rfl; have q3 := B.cell BX.out 3 rfl; have q4 := B.cell BX.out 4 rfl; have q5 := B.cell BX.out 5 rfl; clear hb))
                    go_ret
                    exact ⟨ret_i64 HR.out.symm, HB.out⟩
end Go.Proofs.Yteieplodndfbhaa.W
