import Derived.Test.YtgiohagjanodmaaW6
import Derived.Test.YtgiohagjanodmaaM3
import Derived.Deep.AppendLies
namespace Go.Proofs.Ytgiohagjanodmaa.W
open Go.RowKit
set_option linter.unusedVariables false

theorem index56 (F : Nat → M.St) (k : Nat) (hk : k < 256) (w : World) : (Instr.index 56 (.agg (M.cellsL F)) (.int .i64 k)).run Try.prog w = .ok (.agg #[.bool (F k).m, .int .i64 (F k).p, .bool (F k).z]) w := by
  have h1 : (k : Int) < 256 := by omega
  simp [Instr.index, run_underlying Try.underlying56, go_sem]
  rw [if_pos hk, M.cellsL_part F k hk]
theorem info24 : (Try.prog.info? 24).map (fun i => (i.zero, i.size, i.bytes)) = some (some (.agg #[.int .i64 0, .int .i64 0, .int .i64 0, .bool false]), 4, 32) := by kernel_rfl

/-- the value v holds the areas l -/
def Has (w : World) (v : Value) (l : List M.Ar) : Prop := ∃ ao cap, v = .slice ao l.length cap ∧ (l = [] ∨ ∃ b off, ao = some ⟨b, off, none⟩ ∧ M.Lie w b off l)

/-- behind the stores into the block of the page ahead, and one more block -/
theorem fin_last {w wx : World} {v : Value} {n : Nat} {xs : List Value} {C : Array Value} (hC : C.size = 3) (hown : wx.ownsRow (w.heap.size + 2) 24 4 v n xs) (hl : wx.heap[w.heap.size + 1]? = some (.cells C 51 (0, 0))) (hb : Below w.heap.size w wx) (x y z : Value) :
    (((wx.setCell ⟨w.heap.size + 1, 0, none⟩ x).setCell ⟨w.heap.size + 1, 1, none⟩ y).setCell ⟨w.heap.size + 1, 2, none⟩ z).ownsRow (w.heap.size + 2) 24 4 v n xs ∧
    (((wx.setCell ⟨w.heap.size + 1, 0, none⟩ x).setCell ⟨w.heap.size + 1, 1, none⟩ y).setCell ⟨w.heap.size + 1, 2, none⟩ z).heap[w.heap.size + 1]? = some (.cells #[x, y, z] 51 (0, 0)) ∧
    Below w.heap.size w (((wx.setCell ⟨w.heap.size + 1, 0, none⟩ x).setCell ⟨w.heap.size + 1, 1, none⟩ y).setCell ⟨w.heap.size + 1, 2, none⟩ z) := by
  refine ⟨ownsRow_setCell_below (ownsRow_setCell_below (ownsRow_setCell_below hown (by simp) _) (by simp) _) (by simp) _, ?_, ((hb.setCell (by simp) _).setCell (by simp) _).setCell (by simp) _⟩
  rw [B.set (B.set (B.set hl 0 x) 1 y) 2 z]
  congr 2
  match C, hC with
  | ⟨[a, b, c]⟩, _ => rfl

set_option maxRecDepth 100000 in
set_option maxHeartbeats 2000000 in
theorem gather_any (F : Nat → M.St) (w : World) :
    Calls Try.prog 35 #[.agg (M.cellsL F)] w fun e w' => ∃ v, e = .returned v ∧ Has w' v (M.gatherN F) ∧ Below w.heap.size w w' := by
  have hidx := index56 F
  obtain ⟨C, hC⟩ : ∃ C, C = M.cellsL F := ⟨_, rfl⟩
  have hCs : C.size = 768 := by rw [hC]; exact M.cellsL_size _
  rw [← hC] at hidx ⊢
  clear hC
  obtain ⟨i0, hi, hz0, hz1, hz2⟩ := info_parts info24
  have HX : Hid (((w.alloc (.cells C 56)).alloc (.cells #[.bool false, .int .i64 0, .bool false] 51)).heap[w.heap.size]? = some (.cells C 56 (0, 0))) := B.alloc (B.new w C 56) _
  have HL : Hid (((w.alloc (.cells C 56)).alloc (.cells #[.bool false, .int .i64 0, .bool false] 51)).heap[w.heap.size + 1]? = some (.cells #[.bool false, .int .i64 0, .bool false] 51 (0, 0))) := by
    have := B.new (w.alloc (.cells C 56)) #[.bool false, .int .i64 0, .bool false] 51
    show _ = _
    simpa using this
  have HB0 : Hid (Below w.heap.size w ((w.alloc (.cells C 56)).alloc (.cells #[.bool false, .int .i64 0, .bool false] 51))) := ((Below.refl _ _).alloc (Nat.le_refl _) _).alloc (by simp) _
  go_enter Try.func35, Try.ntmps35
  go_wp2_with (first | (refine wpList_load_row rfl 56 _ rfl w.heap.size rfl 56 _ (0, 0) _ HX.out Try.underlying56 rfl (by rw [hCs]; exact size56) ?_))
  go_loopw [3, 8] (fun v i wr => ∃ k : Nat, k ≤ 256 ∧ i = .int .i64 k ∧ wr.ownsRow (w.heap.size + 2) 24 4 v (M.gatherTo F k).length (M.areaCells (M.gatherTo F k)) ∧ wr.heap[w.heap.size + 1]? = some (.cells #[.bool (M.lastTo F k).m, .int .i64 (M.lastTo F k).p, .bool (M.lastTo F k).z] 51 (0, 0)) ∧ Below w.heap.size w wr) (fun _ i _ => 256 - (intOf i).toNat)
  case atStart => exact ⟨0, by omega, rfl, World.ownsRow_nil _ _ _ _, HL.out, HB0.out⟩
  case round =>
    obtain ⟨k, hk, rfl, hown, hl, hb⟩ := hrel
    have HO : Hid (wr.ownsRow (w.heap.size + 2) 24 4 u3 (M.gatherTo F k).length (M.areaCells (M.gatherTo F k))) := hown
    have HLr : Hid (wr.heap[w.heap.size + 1]? = some (.cells #[.bool (M.lastTo F k).m, .int .i64 (M.lastTo F k).p, .bool (M.lastTo F k).z] 51 (0, 0))) := hl
    have HB : Hid (Below w.heap.size w wr) := hb
    have hsz : w.heap.size + 1 < wr.heap.size := B.isLt hl
    have l0 := B.cell hl 0 rfl
    have l1 := B.cell hl 1 rfl
    have l2 := B.cell hl 2 rfl
    have lf := B.free hl
    clear hown hl hb
    by_cases hlt : k < 256
    · have hx := fun W => hidx k hlt W
      have hki : (k : Int) < 256 := by omega
      obtain ⟨s, hs⟩ : ∃ s, s = F k := ⟨_, rfl⟩
      obtain ⟨t, ht⟩ : ∃ t, t = M.lastTo F k := ⟨_, rfl⟩
      rw [← hs] at hx
      rw [← ht] at l0 l1 l2
      have HS : Hid (s = F k) := hs
      have HT : Hid (t = M.lastTo F k) := ht
      clear hs ht hidx
      by_cases hm : s.m = true
      · by_cases he : M.stEq s t = true
        · have hst : s = t := M.stEq_eq s t he
          have HG : Hid (M.gatherTo F (k + 1) = M.bump (M.gatherTo F k)) := by show _ = _; simp only [M.gatherTo]; rw [← HS.out, ← HT.out, hm, he]; rfl
          have hpos := M.gather_some F k (by rw [← HT.out, ← hst]; exact hm)
          have hlen := M.gather_len F k
          obtain ⟨G, hG⟩ : ∃ G, G = M.gatherTo F k := ⟨_, rfl⟩
          have hpg := M.gather_pages F k ((M.gatherTo F k).length - 1) (by omega)
          rw [← hG] at HO HG hpos hlen hpg
          clear hG
          rcases HO.out.2 with ⟨_, h0⟩ | ⟨g, cap, cur, hv, hbg, hg, hnc, hcm, hcs, htake⟩
          · omega
          · have HO2 := HO.out
            rw [hv] at HO2
            have p1 : wr.cell? ⟨g, (G.length - 1) * 4 + 1, none⟩ = some (.int .i64 (M.at_ G (G.length - 1)).pages) := by
              rw [HO2.cellAt _ (by omega), M.areaCells_get G _ 1 (by omega) (by omega)]; rfl
            have pf := HO2.frozenAt
            have HOv : Hid (wr.ownsRow (w.heap.size + 2) 24 4 (.slice (some ⟨g, 0, none⟩) G.length cap) G.length (M.areaCells G)) := HO2
            have Hv : Hid (u3 = .slice (some ⟨g, 0, none⟩) G.length cap) := hv
            have hgl : g < wr.heap.size := B.isLt hg
            rw [hv]
            clear HO HO2 hv hg htake hcs he
            obtain ⟨pp, hpp⟩ : ∃ pp, pp = (M.at_ G (G.length - 1)).pages := ⟨_, rfl⟩
            rw [← hpp] at p1 hpg
            have HP : Hid (pp = (M.at_ G (G.length - 1)).pages) := hpp
            clear hpp
            subst hst
            have hG1 : (1 : Int) ≤ (G.length : Int) := by omega
            have hG2 : (G.length : Int) ≤ 256 := by omega
            go_wp2
            go_roundw
            case rel =>
              have ho := (HOv.out.stored ((G.length - 1) * 4 + 1) (.int .i64 (pp + 1))).1
              have e : (M.areaCells G).set ((G.length - 1) * 4 + 1) (.int .i64 (pp + 1)) = M.areaCells (M.bump G) := by
                rw [HP.out]; exact (M.areaCells_set G (G.length - 1) _ (by omega)).symm
              rw [e] at ho
              have h := fin_last rfl ho (B.other HLr.out _ _ _ (by omega)) (HB.out.setCell (by simp; omega) _) (.bool true) (.int .i64 s.p) (.bool s.z)
              refine ⟨k + 1, by omega, by go_num, ?_, ?_, h.2.2.alloc h.2.2.size _⟩
              · rw [HG.out, M.bump_length]; exact h.1.alloc _
              · show _ = some (Obj.cells #[.bool (F k).m, .int .i64 (F k).p, .bool (F k).z] 51 (0, 0))
                rw [← HS.out, hm]
                exact B.alloc h.2.1 _
            case measure => simp [intOf]; omega
        · have he' : M.stEq s t = false := by simpa using he
          have HG : Hid (M.gatherTo F (k + 1) = M.gatherTo F k ++ [⟨(k : Int), 1, s.p, s.z⟩]) := by show _ = _; simp only [M.gatherTo]; rw [← HS.out, ← HT.out, hm, he']; rfl
          have hlen := M.gather_len F k
          obtain ⟨G, hG⟩ : ∃ G, G = M.gatherTo F k := ⟨_, rfl⟩
          rw [← hG] at HO HG hlen
          clear hG he
          have hrow : Hid (∀ j, u3.ownBlock = some j → w.heap.size + 2 ≤ j ∧ j < wr.heap.size) := HO.out.lt
          have hcas := M.stEq_ne s t he'
          obtain ⟨sm, sp, sz⟩ := s
          obtain ⟨tm, tp, tz⟩ := t
          simp only at hm hcas l0 l1 l2 HG
          subst hm
          have HN : Hid (((wr.alloc (.cells #[.bool true, .int .i64 sp, .bool sz] 51)).alloc (.cells #[.int .i64 (k : Int), .int .i64 1, .int .i64 sp, .bool sz] 24)).heap[wr.heap.size + 1]? = some (.cells #[.int .i64 (k : Int), .int .i64 1, .int .i64 sp, .bool sz] 24 (0, 0))) := by
            have := B.new (wr.alloc (.cells #[.bool true, .int .i64 sp, .bool sz] 51)) #[.int .i64 (k : Int), .int .i64 1, .int .i64 sp, .bool sz] 24
            show _ = _
            simpa using this
          have hcas' : tm = false ∨ (tm = true ∧ (sp == tp) = false) ∨ (tm = true ∧ sp = tp ∧ tz = !sz) := by
            cases tm
            · exact .inl rfl
            · rcases hcas with q | ⟨_, q⟩ | ⟨_, q1, q2⟩
              · cases q
              · exact .inr (.inl ⟨rfl, q⟩)
              · refine .inr (.inr ⟨rfl, by simpa using q1, ?_⟩)
                cases sz <;> cases tz <;> first | rfl | cases q2
          clear he' hcas
          rcases hcas' with rfl | ⟨rfl, q⟩ | ⟨rfl, rfl, rfl⟩
          all_goals
            go_wp2_with (at_builtin; refine wpList_append_lies _ rfl _ _ 22 rfl (w.heap.size + 2) 24 i0 (.agg #[.int .i64 0, .int .i64 0, .int .i64 0, .bool false]) 4 32 Try.underlying22 hi hz0 hz1 hz2 rfl (by decide) _ _ _ rfl ((HO.out.alloc _).alloc _) ⟨wr.heap.size + 1, 0, none⟩ 1 1 [.int .i64 (k : Int), .int .i64 1, .int .i64 sp, .bool sz] rfl rfl (B.news HN.out) (M.areaCells_one [⟨(k : Int), 1, sp, sz⟩]) (by decide) (by unfold maxLen; omega) (by omega) (by simp; omega) (wr.heap.size + 2) (by simp) ?_)
            intro g cap w1 hown1 hgrow hat hlt1
            have bS := B.grown (B.alloc (B.new wr #[.bool true, .int .i64 sp, .bool sz] 51) (.cells #[.int .i64 (k : Int), .int .i64 1, .int .i64 sp, .bool sz] 24)) hgrow (fun e => by have := hrow.out _ e.symm; omega)
            have bL := B.grown (B.alloc (B.alloc HLr.out (.cells #[.bool true, .int .i64 sp, .bool sz] 51)) (.cells #[.int .i64 (k : Int), .int .i64 1, .int .i64 sp, .bool sz] 24)) hgrow (fun e => by have := hrow.out _ e.symm; omega)
            have b0 := B.cell bS 0 rfl
            have b1 := B.cell bS 1 rfl
            have b2 := B.cell bS 2 rfl
            have m0 := B.cell bL 0 rfl
            have m1 := B.cell bL 1 rfl
            have m2 := B.cell bL 2 rfl
            have mf := B.free bL
            have HO1 : Hid (w1.ownsRow (w.heap.size + 2) 24 4 (Value.slice (some ⟨g, 0, none⟩) (G.length + 1) cap) (G.length + 1) (M.areaCells G ++ [.int .i64 (k : Int), .int .i64 1, .int .i64 sp, .bool sz])) := hown1
            have HL1 : Hid (w1.heap[w.heap.size + 1]? = some (.cells #[.bool (M.lastTo F k).m, .int .i64 (M.lastTo F k).p, .bool (M.lastTo F k).z] 51 (0, 0))) := bL
            have HB1 : Hid (Below w.heap.size w w1) := ((HB.out.alloc HB.out.size _).alloc (by have := HB.out.size; simp; omega) _).grown hgrow (by have := HB.out.size; simp; omega) (fun k' e => by have := hrow.out _ e; omega)
            clear bS bL hown1 hgrow hat l0 l1 l2 lf
            go_wp2
            go_roundw
            case rel =>
              have h := fin_last rfl HO1.out HL1.out HB1.out (.bool true) (.int .i64 sp) (.bool sz)
              refine ⟨k + 1, by omega, by go_num, ?_, ?_, h.2.2⟩
              · rw [HG.out, List.length_append, M.areaCells_append]; exact h.1
              · show _ = some (Obj.cells #[.bool (F k).m, .int .i64 (F k).p, .bool (F k).z] 51 (0, 0))
                rw [← HS.out]
                exact h.2.1
            case measure => simp [intOf]; omega
      · have hm' : s.m = false := by simpa using hm
        have HG : Hid (M.gatherTo F (k + 1) = M.gatherTo F k) := by show _ = _; simp only [M.gatherTo]; rw [← HS.out, hm']; rfl
        clear hm
        go_wp2
        go_roundw
        case rel =>
          have h := fin_last rfl HO.out HLr.out HB.out (.bool false) (.int .i64 s.p) (.bool s.z)
          refine ⟨k + 1, by omega, by go_num, ?_, ?_, h.2.2.alloc h.2.2.size _⟩
          · rw [HG.out]; exact h.1.alloc _
          · show _ = some (Obj.cells #[.bool (F k).m, .int .i64 (F k).p, .bool (F k).z] 51 (0, 0))
            rw [← HS.out, hm']
            exact B.alloc h.2.1 _
        case measure => simp [intOf]; omega
    · obtain rfl : k = 256 := by omega
      go_wp2
      go_ret
      refine ⟨_, rfl, ?_, HB.out⟩
      show Has wr u3 (M.gatherN F)
      rcases HO.out.2 with ⟨hv, h0⟩ | ⟨g, cap, cur, hv, hbg, hg, hnc, hcm, hcs, htake⟩
      · have h0' : (M.gatherN F).length = 0 := h0
        exact ⟨none, 0, by rw [hv, h0'], .inl (List.eq_nil_of_length_eq_zero h0')⟩
      · have ho := HO.out
        rw [hv] at ho
        refine ⟨some ⟨g, 0, none⟩, cap, hv, .inr ⟨g, 0, rfl, fun i hi => ?_⟩⟩
        have hi' : i < (M.gatherTo F 256).length := hi
        rw [Nat.zero_add]
        exact ⟨(ho.cellAt _ (by omega)).trans (M.areaCells_get _ i 0 hi' (by omega)), (ho.cellAt _ (by omega)).trans (M.areaCells_get _ i 1 hi' (by omega)), (ho.cellAt _ (by omega)).trans (M.areaCells_get _ i 2 hi' (by omega)), (ho.cellAt _ (by omega)).trans (M.areaCells_get _ i 3 hi' (by omega))⟩
end Go.Proofs.Ytgiohagjanodmaa.W
