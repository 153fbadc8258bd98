import Derived.Test.YtbgnagognnklbaaG08
import Derived.Test.YtbgnagognnklbaaG04
import Derived.Deep.AppendLies
namespace Go.Proofs.Ytbgnagognnklbaa.AW
open Go.RowKit
set_option linter.unusedVariables false
set_option maxRecDepth 100000

theorem index56 (F : Nat → AM.St) (k : Nat) (hk : k < 256) (w : World) : (Instr.index 162 (.agg (AM.cellsL F)) (.int .i64 k)).run Try.prog w = .ok (.agg #[.bool (F k).m, .int .i64 (F k).p, .bool (F k).z]) w := by
  have h1 : (k : Int) < 256 := by omega
  simp [Instr.index, run_underlying Try.underlying162, go_sem]
  rw [if_pos hk, AM.cellsL_part F k hk]
theorem info24 : (Try.prog.info? 99).map (fun i => (i.zero, i.size, i.bytes)) = some (some (.agg #[.int .i64 0, .int .i64 0, .int .i64 0, .bool false]), 4, 32) := by kernel_rfl

/-- the value v holds the areas l -/
def Has (w : World) (v : Value) (l : List AM.Ar) : Prop := ∃ ao cap, v = .slice ao l.length cap ∧ (l = [] ∨ ∃ b off, ao = some ⟨b, off, none⟩ ∧ AM.Lie w b off l)

/-- behind the stores into the block of the page ahead, and one more block -/
theorem fin_last {w wx : World} {v : Value} {n : Nat} {xs : List Value} {C : Array Value} (hC : C.size = 3) (hown : wx.ownsRow (w.heap.size + 2) 99 4 v n xs) (hl : wx.heap[w.heap.size + 1]? = some (.cells C 138 (0, 0))) (hb : Below w.heap.size w wx) (x y z : Value) :
    (((wx.setCell ⟨w.heap.size + 1, 0, none⟩ x).setCell ⟨w.heap.size + 1, 1, none⟩ y).setCell ⟨w.heap.size + 1, 2, none⟩ z).ownsRow (w.heap.size + 2) 99 4 v n xs ∧
    (((wx.setCell ⟨w.heap.size + 1, 0, none⟩ x).setCell ⟨w.heap.size + 1, 1, none⟩ y).setCell ⟨w.heap.size + 1, 2, none⟩ z).heap[w.heap.size + 1]? = some (.cells #[x, y, z] 138 (0, 0)) ∧
    Below w.heap.size w (((wx.setCell ⟨w.heap.size + 1, 0, none⟩ x).setCell ⟨w.heap.size + 1, 1, none⟩ y).setCell ⟨w.heap.size + 1, 2, none⟩ z) := by
  refine ⟨ownsRow_setCell_below (ownsRow_setCell_below (ownsRow_setCell_below hown (by simp) _) (by simp) _) (by simp) _, ?_, ((hb.setCell (by simp) _).setCell (by simp) _).setCell (by simp) _⟩
  rw [B.set (B.set (B.set hl 0 x) 1 y) 2 z]
  congr 2
  match C, hC with
  | ⟨[a, b, c]⟩, _ => rfl

/-- the areas lie in a row that is the call's own, at block lo or behind it -/
def Own (lo : Nat) (w : World) (v : Value) (l : List AM.Ar) : Prop := w.ownsRow lo 99 4 v l.length (AM.areaCells l)
theorem Own.nil (lo : Nat) (w : World) : Own lo w (.slice none 0 0) [] := World.ownsRow_nil _ _ _ _
theorem Own.mono {lo lo' : Nat} {w : World} {v : Value} {l : List AM.Ar} (h : Own lo w v l) (hl : lo' ≤ lo) : Own lo' w v l := by
  refine ⟨h.1, ?_⟩
  rcases h.2 with h2 | ⟨g, cap, cur, hv, hbg, rest⟩
  · exact .inl h2
  · exact .inr ⟨g, cap, cur, hv, Nat.le_trans hl hbg, rest⟩
theorem Own.has {lo : Nat} {w : World} {v : Value} {l : List AM.Ar} (h : Own lo w v l) : Has w v l := by
  rcases h.2 with ⟨hv, h0⟩ | ⟨g, cap, cur, hv, hbg, hg, hnc, hcm, hcs, htake⟩
  · exact ⟨none, 0, by rw [hv, h0], .inl (List.eq_nil_of_length_eq_zero h0)⟩
  · have ho := h
    unfold Own at ho
    rw [hv] at ho
    refine ⟨some ⟨g, 0, none⟩, cap, hv, .inr ⟨g, 0, rfl, fun i hi => ?_⟩⟩
    rw [Nat.zero_add]
    exact ⟨(ho.cellAt _ (by omega)).trans (AM.areaCells_get _ i 0 hi (by omega)), (ho.cellAt _ (by omega)).trans (AM.areaCells_get _ i 1 hi (by omega)), (ho.cellAt _ (by omega)).trans (AM.areaCells_get _ i 2 hi (by omega)), (ho.cellAt _ (by omega)).trans (AM.areaCells_get _ i 3 hi (by omega))⟩
set_option maxHeartbeats 2000000 in
theorem gather_own (F : Nat → AM.St) (w : World) :
    Calls Try.prog 97 #[.agg (AM.cellsL F)] w fun e w' => ∃ v, e = .returned v ∧ Own w.heap.size w' v (AM.gatherN F) ∧ Below w.heap.size w w' := by
  have hidx := index56 F
  obtain ⟨C, hC⟩ : ∃ C, C = AM.cellsL F := ⟨_, rfl⟩
  have hCs : C.size = 768 := by rw [hC]; exact AM.cellsL_size _
  rw [← hC] at hidx ⊢
  clear hC
  obtain ⟨i0, hi, hz0, hz1, hz2⟩ := info_parts info24
  have HX : Hid (((w.alloc (.cells C 162)).alloc (.cells #[.bool false, .int .i64 0, .bool false] 138)).heap[w.heap.size]? = some (.cells C 162 (0, 0))) := B.alloc (B.new w C 162) _
  have HL : Hid (((w.alloc (.cells C 162)).alloc (.cells #[.bool false, .int .i64 0, .bool false] 138)).heap[w.heap.size + 1]? = some (.cells #[.bool false, .int .i64 0, .bool false] 138 (0, 0))) := by
    have := B.new (w.alloc (.cells C 162)) #[.bool false, .int .i64 0, .bool false] 138
    show _ = _
    simpa using this
  have HB0 : Hid (Below w.heap.size w ((w.alloc (.cells C 162)).alloc (.cells #[.bool false, .int .i64 0, .bool false] 138))) := ((Below.refl _ _).alloc (Nat.le_refl _) _).alloc (by simp) _
  go_enter Try.func97, Try.ntmps97
  go_wp2_with (first | (refine wpList_load_row rfl 162 _ rfl w.heap.size rfl 162 _ (0, 0) _ HX.out Try.underlying162 rfl (by rw [hCs]; exact size56) ?_))
  go_loopw [3, 8] (fun v i wr => ∃ k : Nat, k ≤ 256 ∧ i = .int .i64 k ∧ wr.ownsRow (w.heap.size + 2) 99 4 v (AM.gatherTo F k).length (AM.areaCells (AM.gatherTo F k)) ∧ wr.heap[w.heap.size + 1]? = some (.cells #[.bool (AM.lastTo F k).m, .int .i64 (AM.lastTo F k).p, .bool (AM.lastTo F k).z] 138 (0, 0)) ∧ Below w.heap.size w wr) (fun _ i _ => 256 - (intOf i).toNat)
  case atStart => exact ⟨0, by omega, rfl, World.ownsRow_nil _ _ _ _, HL.out, HB0.out⟩
  case round =>
    obtain ⟨k, hk, rfl, hown, hl, hb⟩ := hrel
    have HO : Hid (wr.ownsRow (w.heap.size + 2) 99 4 u3 (AM.gatherTo F k).length (AM.areaCells (AM.gatherTo F k))) := hown
    have HLr : Hid (wr.heap[w.heap.size + 1]? = some (.cells #[.bool (AM.lastTo F k).m, .int .i64 (AM.lastTo F k).p, .bool (AM.lastTo F k).z] 138 (0, 0))) := hl
    have HB : Hid (Below w.heap.size w wr) := hb
    have hsz : w.heap.size + 1 < wr.heap.size := B.isLt hl
    have l0 := B.cell hl 0 rfl
    have l1 := B.cell hl 1 rfl
    have l2 := B.cell hl 2 rfl
    have lf := B.free hl
    clear hown hl hb
    by_cases hlt : k < 256
    · have hx := fun W => hidx k hlt W
      have hki : (k : Int) < 256 := by omega
      obtain ⟨s, hs⟩ : ∃ s, s = F k := ⟨_, rfl⟩
      obtain ⟨t, ht⟩ : ∃ t, t = AM.lastTo F k := ⟨_, rfl⟩
      rw [← hs] at hx
      rw [← ht] at l0 l1 l2
      have HS : Hid (s = F k) := hs
      have HT : Hid (t = AM.lastTo F k) := ht
      clear hs ht hidx
      by_cases hm : s.m = true
      · by_cases he : AM.stEq s t = true
        · have hst : s = t := AM.stEq_eq s t he
          have HG : Hid (AM.gatherTo F (k + 1) = AM.bump (AM.gatherTo F k)) := by show _ = _; simp only [AM.gatherTo]; rw [← HS.out, ← HT.out, hm, he]; rfl
          have hpos := AM.gather_some F k (by rw [← HT.out, ← hst]; exact hm)
          have hlen := AM.gather_len F k
          obtain ⟨G, hG⟩ : ∃ G, G = AM.gatherTo F k := ⟨_, rfl⟩
          have hpg := AM.gather_pages F k ((AM.gatherTo F k).length - 1) (by omega)
          rw [← hG] at HO HG hpos hlen hpg
          clear hG
          rcases HO.out.2 with ⟨_, h0⟩ | ⟨g, cap, cur, hv, hbg, hg, hnc, hcm, hcs, htake⟩
          · omega
          · have HO2 := HO.out
            rw [hv] at HO2
            have p1 : wr.cell? ⟨g, (G.length - 1) * 4 + 1, none⟩ = some (.int .i64 (AM.at_ G (G.length - 1)).pages) := by
              rw [HO2.cellAt _ (by omega), AM.areaCells_get G _ 1 (by omega) (by omega)]; rfl
            have pf := HO2.frozenAt
            have HOv : Hid (wr.ownsRow (w.heap.size + 2) 99 4 (.slice (some ⟨g, 0, none⟩) G.length cap) G.length (AM.areaCells G)) := HO2
            have Hv : Hid (u3 = .slice (some ⟨g, 0, none⟩) G.length cap) := hv
            have hgl : g < wr.heap.size := B.isLt hg
            rw [hv]
            clear HO HO2 hv hg htake hcs he
            obtain ⟨pp, hpp⟩ : ∃ pp, pp = (AM.at_ G (G.length - 1)).pages := ⟨_, rfl⟩
            rw [← hpp] at p1 hpg
            have HP : Hid (pp = (AM.at_ G (G.length - 1)).pages) := hpp
            clear hpp
            subst hst
            have hG1 : (1 : Int) ≤ (G.length : Int) := by omega
            have hG2 : (G.length : Int) ≤ 256 := by omega
            go_wp2
            go_roundw
            case rel =>
              have ho := (HOv.out.stored ((G.length - 1) * 4 + 1) (.int .i64 (pp + 1))).1
              have e : (AM.areaCells G).set ((G.length - 1) * 4 + 1) (.int .i64 (pp + 1)) = AM.areaCells (AM.bump G) := by
                rw [HP.out]; exact (AM.areaCells_set G (G.length - 1) _ (by omega)).symm
              rw [e] at ho
              have h := fin_last rfl ho (B.other HLr.out _ _ _ (by omega)) (HB.out.setCell (by simp; omega) _) (.bool true) (.int .i64 s.p) (.bool s.z)
              refine ⟨k + 1, by omega, by go_num, ?_, ?_, h.2.2.alloc h.2.2.size _⟩
              · rw [HG.out, AM.bump_length]; exact h.1.alloc _
              · show _ = some (Obj.cells #[.bool (F k).m, .int .i64 (F k).p, .bool (F k).z] 138 (0, 0))
                rw [← HS.out, hm]
                exact B.alloc h.2.1 _
            case measure => simp [intOf]; omega
        · have he' : AM.stEq s t = false := by simpa using he
          have HG : Hid (AM.gatherTo F (k + 1) = AM.gatherTo F k ++ [⟨(k : Int), 1, s.p, s.z⟩]) := by show _ = _; simp only [AM.gatherTo]; rw [← HS.out, ← HT.out, hm, he']; rfl
          have hlen := AM.gather_len F k
          obtain ⟨G, hG⟩ : ∃ G, G = AM.gatherTo F k := ⟨_, rfl⟩
          rw [← hG] at HO HG hlen
          clear hG he
          have hrow : Hid (∀ j, u3.ownBlock = some j → w.heap.size + 2 ≤ j ∧ j < wr.heap.size) := HO.out.lt
          have hcas := AM.stEq_ne s t he'
          obtain ⟨sm, sp, sz⟩ := s
          obtain ⟨tm, tp, tz⟩ := t
          simp only at hm hcas l0 l1 l2 HG
          subst hm
          have HN : Hid (((wr.alloc (.cells #[.bool true, .int .i64 sp, .bool sz] 138)).alloc (.cells #[.int .i64 (k : Int), .int .i64 1, .int .i64 sp, .bool sz] 99)).heap[wr.heap.size + 1]? = some (.cells #[.int .i64 (k : Int), .int .i64 1, .int .i64 sp, .bool sz] 99 (0, 0))) := by
            have := B.new (wr.alloc (.cells #[.bool true, .int .i64 sp, .bool sz] 138)) #[.int .i64 (k : Int), .int .i64 1, .int .i64 sp, .bool sz] 99
            show _ = _
            simpa using this
          have hcas' : tm = false ∨ (tm = true ∧ (sp == tp) = false) ∨ (tm = true ∧ sp = tp ∧ tz = !sz) := by
            cases tm
            · exact .inl rfl
            · rcases hcas with q | ⟨_, q⟩ | ⟨_, q1, q2⟩
              · cases q
              · exact .inr (.inl ⟨rfl, q⟩)
              · refine .inr (.inr ⟨rfl, by simpa using q1, ?_⟩)
                cases sz <;> cases tz <;> first | rfl | cases q2
          clear he' hcas
          rcases hcas' with rfl | ⟨rfl, q⟩ | ⟨rfl, rfl, rfl⟩
          all_goals
            go_wp2_with (at_builtin; refine wpList_append_lies _ rfl _ _ 29 rfl (w.heap.size + 2) 99 i0 (.agg #[.int .i64 0, .int .i64 0, .int .i64 0, .bool false]) 4 32 Try.underlying29 hi hz0 hz1 hz2 rfl (by decide) _ _ _ rfl ((HO.out.alloc _).alloc _) ⟨wr.heap.size + 1, 0, none⟩ 1 1 [.int .i64 (k : Int), .int .i64 1, .int .i64 sp, .bool sz] rfl rfl (B.news HN.out) (AM.areaCells_one [⟨(k : Int), 1, sp, sz⟩]) (by decide) (by unfold maxLen; omega) (by omega) (by simp; omega) (wr.heap.size + 2) (by simp) ?_)
            intro g cap w1 hown1 hgrow hat hlt1
            have bS := B.grown (B.alloc (B.new wr #[.bool true, .int .i64 sp, .bool sz] 138) (.cells #[.int .i64 (k : Int), .int .i64 1, .int .i64 sp, .bool sz] 99)) hgrow (fun e => by have := hrow.out _ e.symm; omega)
            have bL := B.grown (B.alloc (B.alloc HLr.out (.cells #[.bool true, .int .i64 sp, .bool sz] 138)) (.cells #[.int .i64 (k : Int), .int .i64 1, .int .i64 sp, .bool sz] 99)) hgrow (fun e => by have := hrow.out _ e.symm; omega)
            have b0 := B.cell bS 0 rfl
            have b1 := B.cell bS 1 rfl
            have b2 := B.cell bS 2 rfl
            have m0 := B.cell bL 0 rfl
            have m1 := B.cell bL 1 rfl
            have m2 := B.cell bL 2 rfl
            have mf := B.free bL
            have HO1 : Hid (w1.ownsRow (w.heap.size + 2) 99 4 (Value.slice (some ⟨g, 0, none⟩) (G.length + 1) cap) (G.length + 1) (AM.areaCells G ++ [.int .i64 (k : Int), .int .i64 1, .int .i64 sp, .bool sz])) := hown1
            have HL1 : Hid (w1.heap[w.heap.size + 1]? = some (.cells #[.bool (AM.lastTo F k).m, .int .i64 (AM.lastTo F k).p, .bool (AM.lastTo F k).z] 138 (0, 0))) := bL
            have HB1 : Hid (Below w.heap.size w w1) := ((HB.out.alloc HB.out.size _).alloc (by have := HB.out.size; simp; omega) _).grown hgrow (by have := HB.out.size; simp; omega) (fun k' e => by have := hrow.out _ e; omega)
            clear bS bL hown1 hgrow hat l0 l1 l2 lf
            go_wp2
            go_roundw
            case rel =>
              have h := fin_last rfl HO1.out HL1.out HB1.out (.bool true) (.int .i64 sp) (.bool sz)
              refine ⟨k + 1, by omega, by go_num, ?_, ?_, h.2.2⟩
              · rw [HG.out, List.length_append, AM.areaCells_append]; exact h.1
              · show _ = some (Obj.cells #[.bool (F k).m, .int .i64 (F k).p, .bool (F k).z] 138 (0, 0))
                rw [← HS.out]
                exact h.2.1
            case measure => simp [intOf]; omega
      · have hm' : s.m = false := by simpa using hm
        have HG : Hid (AM.gatherTo F (k + 1) = AM.gatherTo F k) := by show _ = _; simp only [AM.gatherTo]; rw [← HS.out, hm']; rfl
        clear hm
        go_wp2
        go_roundw
        case rel =>
          have h := fin_last rfl HO.out HLr.out HB.out (.bool false) (.int .i64 s.p) (.bool s.z)
          refine ⟨k + 1, by omega, by go_num, ?_, ?_, h.2.2.alloc h.2.2.size _⟩
          · rw [HG.out]; exact h.1.alloc _
          · show _ = some (Obj.cells #[.bool (F k).m, .int .i64 (F k).p, .bool (F k).z] 138 (0, 0))
            rw [← HS.out, hm']
            exact B.alloc h.2.1 _
        case measure => simp [intOf]; omega
    · obtain rfl : k = 256 := by omega
      go_wp2
      go_ret
      refine ⟨_, rfl, ?_, HB.out⟩
      exact Own.mono (lo := w.heap.size + 2) HO.out (by omega)
theorem gather_any (F : Nat → AM.St) (w : World) :
    Calls Try.prog 97 #[.agg (AM.cellsL F)] w fun e w' => ∃ v, e = .returned v ∧ Has w' v (AM.gatherN F) ∧ Below w.heap.size w w' :=
  (gather_own F w).mono fun e w' ⟨v, h1, h2, h3⟩ => ⟨v, h1, h2.has, h3⟩
end Go.Proofs.Ytbgnagognnklbaa.AW
namespace Go.Proofs.Ytbgnagognnklbaa.AW
open Go.RowKit
set_option linter.unusedVariables false
set_option maxRecDepth 100000

/-- how Map turns a page, and the error -/
def howMap (q : Int) (s : AM.St) : AM.St × Int := if s.m then (s, 5) else (⟨true, q, true⟩, 0)
def howUnmap (s : AM.St) : AM.St × Int := (AM.off, 0)
def howProtect (q : Int) (s : AM.St) : AM.St × Int := if s.m then (⟨s.m, q, s.z⟩, 0) else (s, 6)
def aggSt (s : AM.St) : Value := .agg #[.bool s.m, .int .i64 s.p, .bool s.z]

set_option maxHeartbeats 400000 in
theorem map1_any (s : AM.St) (q : Int) (P : Nat) (w : World) (hP : w.cell? ⟨P, 0, none⟩ = some (.int .i64 q)) :
    Calls Try.prog 82 #[.agg #[.bool s.m, .int .i64 s.p, .bool s.z], .pointer (some ⟨P, 0, none⟩)] w fun e w' => e = .returned (.tuple #[aggSt (howMap q s).1, .int .i64 (howMap q s).2]) ∧ Below w.heap.size w w' := by
  have hPl : P < w.heap.size := World.block_lt_of_cell? w _ hP
  obtain ⟨m, p, z⟩ := s
  cases m
  · go_enter Try.func82, Try.ntmps82
    go_wp2
    exact bodyPost_ret (v := .tuple #[.agg #[.bool true, .int .i64 q, .bool true], .int .i64 0]) (by simp [results, Try.results82, go_sem]) rfl ⟨rfl, ((Below.refl _ _).alloc (Nat.le_refl _) _).alloc (by simp) _⟩
  · go_enter Try.func82, Try.ntmps82
    go_wp2
    exact bodyPost_ret (v := .tuple #[.agg #[.bool true, .int .i64 p, .bool z], .int .i64 5]) (by simp [results, Try.results82, go_sem]) rfl ⟨rfl, ((Below.refl _ _).alloc (Nat.le_refl _) _).alloc (by simp) _⟩
theorem Has.below {w w' : World} {v : Value} {l : List AM.Ar} (h : Has w v l) (hb : Below w.heap.size w w') : Has w' v l := by
  obtain ⟨ao, cap, rfl, h⟩ := h
  rcases h with rfl | ⟨b, off, rfl, hl⟩
  · exact ⟨ao, cap, rfl, .inl rfl⟩
  · exact ⟨_, cap, rfl, .inr ⟨b, off, rfl, hl.below hb⟩⟩
def AllFit (l : List AM.Ar) : Prop := (∀ i, i < l.length → AM.Fits (AM.at_ l i)) ∧ l.length ≤ 140737488351232

theorem check_any (l : List AM.Ar) (v : Value) (w : World) (h : Has w v l) (hf : AllFit l) :
    Calls Try.prog 39 #[v] w fun e w' => e = .returned (.int .i64 (AM.checkN l)) ∧ Below w.heap.size w w' := by
  obtain ⟨ao, cap, rfl, h⟩ := h
  rcases h with rfl | ⟨b, off, rfl, hl⟩
  · exact check_nil ao cap w
  · exact check_some l b off cap w hl hf.1 hf.2
theorem find_any (l : List AM.Ar) (v : Value) (p : Int) (w : World) (h : Has w v l) (hf : AllFit l) :
    Calls Try.prog 66 #[v, .int .i64 p] w fun e w' => e = .returned (.tuple #[.agg (cellsOf (AM.findN l p).1), .bool (AM.findN l p).2]) ∧ Below w.heap.size w w' := by
  obtain ⟨ao, cap, rfl, h⟩ := h
  rcases h with rfl | ⟨b, off, rfl, hl⟩
  · exact find_nil ao cap p w
  · exact find_some l b off cap p w hl hf.1 hf.2
theorem spread_any (l : List AM.Ar) (v : Value) (w : World) (h : Has w v l) (hc : AM.checkN l = 0) :
    Calls Try.prog 96 #[v] w fun e w' => e = .returned (.agg (AM.cellsL (AM.spreadN l))) ∧ Below w.heap.size w w' := by
  obtain ⟨ao, cap, rfl, h⟩ := h
  rcases h with rfl | ⟨b, off, rfl, hl⟩
  · exact spread_nil ao cap w
  · exact spread_some l b off cap w hl hc
end Go.Proofs.Ytbgnagognnklbaa.AW
