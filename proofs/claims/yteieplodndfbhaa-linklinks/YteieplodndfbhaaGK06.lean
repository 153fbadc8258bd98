import Derived.Test.YteieplodndfbhaaGK05
import Derived.Test.YteieplodndfbhaaGK00
import Derived.Deep.WholeRow
import Derived.Laws.CopyOwn
import Derived.Test.YteieplodndfbhaaGK01
import Derived.Deep.AppendLies
namespace Go.Proofs.Yteieplodndfbhaa.AW
open Go.RowKit
set_option linter.unusedVariables false
set_option maxRecDepth 100000

theorem zero56 : (Try.prog.info? 162).map (fun i => (i.zero, i.size)) = some (some (.agg (AM.cellsL (fun _ => AM.off))), 768) := by kernel_rfl
theorem size56 : (Try.prog.info? 162).map (·.size) = some 768 := (zero_of_info zero56).2
theorem zv56 (w : World) : (zeroValue 162).run Try.prog w = .ok (.agg (AM.cellsL (fun _ => AM.off))) w := (zero_of_info zero56).1 w

set_option maxHeartbeats 2000000 in
theorem spread_some (l : List AM.Ar) (b off cap : Nat) (w : World) (hl : AM.Lie w b off l) (hc : AM.checkN l = 0) :
    Calls Try.prog 96 #[.slice (some ⟨b, off, none⟩) l.length cap] w fun e w' => e = .returned (.agg (AM.cellsL (AM.spreadN l))) ∧ Below w.heap.size w w' := by
  have hlen := AM.good_len l hc
  have HK : Hid (AM.checkN l = 0) := hc
  clear hc
  obtain ⟨Z, hZ⟩ : ∃ Z, Z = AM.cellsL (fun _ => AM.off) := ⟨_, rfl⟩
  have hz := zv56
  rw [← hZ] at hz
  have HZ : Hid (Z = AM.cellsL (fun _ => AM.off)) := hZ
  clear hZ
  go_enter Try.func96, Try.ntmps96
  go_wp2
  go_loopw [9] (fun i wr => ∃ k : Nat, k ≤ l.length ∧ i = .int .i64 k ∧ wr.heap[w.heap.size]? = some (.cells Z 162 (0, 0)) ∧ wr.heap[w.heap.size + 1]? = some (.cells (AM.cellsL (AM.spreadTo l k)) 162 (0, 0)) ∧ Below w.heap.size w wr) (fun i _ => l.length - (intOf i).toNat)
  case atStart =>
    refine ⟨0, by omega, rfl, B.alloc (B.new w Z 162) _, ?_, ((Below.refl _ _).alloc (Nat.le_refl _) _).alloc (by simp) _⟩
    show _ = some (Obj.cells (AM.cellsL (fun _ => AM.off)) 162 (0, 0))
    rw [← HZ.out]
    have := B.new (w.alloc (.cells Z 162)) Z 162
    simpa using this
  case round =>
    obtain ⟨k, hk, rfl, hR, hA, hb⟩ := hrel
    have HR : Hid (wr.heap[w.heap.size]? = some (.cells Z 162 (0, 0))) := hR
    have HA : Hid (wr.heap[w.heap.size + 1]? = some (.cells (AM.cellsL (AM.spreadTo l k)) 162 (0, 0))) := hA
    have HB : Hid (Below w.heap.size w wr) := hb
    have hsz : w.heap.size + 2 ≤ wr.heap.size := B.isLt hA
    by_cases hlt : k < l.length
    · obtain ⟨c0, c1, c2, c3⟩ := hl.below hb k hlt
      have hbk := AM.okAt_pages l k (AM.good_pages l HK.out k hlt)
      obtain ⟨a, ha⟩ : ∃ a, a = AM.at_ l k := ⟨_, rfl⟩
      rw [← ha] at c0 c1 c2 c3 hbk
      have HAr : Hid (a = AM.at_ l k) := ha
      clear ha hR hA hb
      obtain ⟨wo, hwo⟩ : ∃ wo : World, wo = wr := ⟨_, rfl⟩
      subst hwo
      have hcx : (k : Int) < (l.length : Int) := by omega
      go_wp2
      go_loopw [6] (fun t wi => ∃ n : Nat, a.page ≤ (n : Int) ∧ (n : Int) ≤ a.page + a.pages ∧ t = .int .i64 n ∧ wi.heap[w.heap.size]? = some (.cells Z 162 (0, 0)) ∧ wi.heap[w.heap.size + 1]? = some (.cells (AM.cellsL (AM.layTo (AM.spreadTo l k) a n)) 162 (0, 0)) ∧ wi.heap[wo.heap.size]? = some (.cells #[.int .i64 a.page, .int .i64 a.pages, .int .i64 a.prot, .bool a.zero] 99 (0, 0)) ∧ Below w.heap.size w wi) (fun t _ => (a.page + a.pages - intOf t).toNat)
      case atStart =>
        refine ⟨a.page.toNat, by omega, by omega, by rw [Int.toNat_of_nonneg (by omega)], B.alloc HR.out _, ?_, B.new _ _ _, HB.out.alloc HB.out.size _⟩
        rw [Int.toNat_of_nonneg (by omega), AM.layTo_begin]
        exact B.alloc HA.out _
      case round =>
        obtain ⟨n, hn1, hn2, rfl, iR, iA, iX, ib⟩ := hrel
        have IR : Hid (wr.heap[w.heap.size]? = some (.cells Z 162 (0, 0))) := iR
        have IA : Hid (wr.heap[w.heap.size + 1]? = some (.cells (AM.cellsL (AM.layTo (AM.spreadTo l k) a n)) 162 (0, 0))) := iA
        have IB : Hid (Below w.heap.size w wr) := ib
        have x0 := B.cell iX 0 rfl
        have x1 := B.cell iX 1 rfl
        have x2 := B.cell iX 2 rfl
        have x3 := B.cell iX 3 rfl
        have IX : Hid (wr.heap[wo.heap.size]? = some (.cells #[.int .i64 a.page, .int .i64 a.pages, .int .i64 a.prot, .bool a.zero] 99 (0, 0))) := iX
        have hxs : wo.heap.size < wr.heap.size := B.isLt iX
        clear iR iA iX ib
        by_cases hin : (n : Int) < a.page + a.pages
        · go_wp2_with fail
          refine (end_any _ _ _ _ _ (by omega) (by omega)).mono ?_
          rintro e w2 ⟨rfl, hb2⟩
          have jR := B.below IR.out hb2 (by omega)
          have jA := B.below IA.out hb2 (by omega)
          have jX := B.below IX.out hb2 hxs
          have y0 := B.cell jX 0 rfl
          have y1 := B.cell jX 1 rfl
          have y2 := B.cell jX 2 rfl
          have y3 := B.cell jX 3 rfl
          have z0 := B.cell jA (n * 3) (AM.cellsL_get0 _ n (by omega))
          have z1 := B.cell jA (n * 3 + 1) (AM.cellsL_get1 _ n (by omega))
          have z2 := B.cell jA (n * 3 + 2) (AM.cellsL_get2 _ n (by omega))
          have zf := B.free jA
          have JR : Hid (w2.heap[w.heap.size]? = some (.cells Z 162 (0, 0))) := jR
          have JA : Hid (w2.heap[w.heap.size + 1]? = some (.cells (AM.cellsL (AM.layTo (AM.spreadTo l k) a n)) 162 (0, 0))) := jA
          have JX : Hid (w2.heap[wo.heap.size]? = some (.cells #[.int .i64 a.page, .int .i64 a.pages, .int .i64 a.prot, .bool a.zero] 99 (0, 0))) := jX
          have JB : Hid (Below w.heap.size w w2) := IB.out.trans (hb2.mono IB.out.size)
          clear jR jA jX hb2 x0 x1 x2 x3
          have hn256 : (n : Int) < 256 := by omega
          go_wp2
          go_roundw
          case rel =>
            refine ⟨n + 1, by omega, by omega, by go_num, B.other (B.other (B.other JR.out _ _ _ (by omega)) _ _ _ (by omega)) _ _ _ (by omega), ?_, B.other (B.other (B.other JX.out _ _ _ (by omega)) _ _ _ (by omega)) _ _ _ (by omega), ((JB.out.setCell (by simp) _).setCell (by simp) _).setCell (by simp) _⟩
            have h := B.set (B.set (B.set JA.out (n * 3) (.bool true)) (n * 3 + 1) (.int .i64 a.prot)) (n * 3 + 2) (.bool a.zero)
            rw [AM.cellsL_set (AM.layTo (AM.spreadTo l k) a n) n ⟨true, a.prot, a.zero⟩ (by omega), AM.layTo_step _ _ _ hn1] at h
            rw [show ((n + 1 : Nat) : Int) = (n : Int) + 1 from by omega]
            exact h
          case measure => simp [intOf]; omega
        · have hend : (n : Int) = a.page + a.pages := by omega
          have HE : Hid ((n : Int) = a.page + a.pages) := hend
          clear hend
          go_wp2_with fail
          refine (end_any _ _ _ _ _ (by omega) (by omega)).mono ?_
          rintro e w2 ⟨rfl, hb2⟩
          have JR : Hid (w2.heap[w.heap.size]? = some (.cells Z 162 (0, 0))) := B.below IR.out hb2 (by omega)
          have JA : Hid (w2.heap[w.heap.size + 1]? = some (.cells (AM.cellsL (AM.layTo (AM.spreadTo l k) a n)) 162 (0, 0))) := B.below IA.out hb2 (by omega)
          have JB : Hid (Below w.heap.size w w2) := IB.out.trans (hb2.mono IB.out.size)
          clear hb2 x0 x1 x2 x3
          go_wp2
          go_roundw
          case rel =>
            refine ⟨k + 1, by omega, by go_num, JR.out, ?_, JB.out⟩
            have h := JA.out
            rw [HE.out] at h
            show _ = some (Obj.cells (AM.cellsL (AM.layTo (AM.spreadTo l k) (AM.at_ l k) (AM.at_ l k).last0)) 162 (0, 0))
            rw [← HAr.out]
            exact h
          case measure => simp [intOf]; omega
    · obtain rfl : k = l.length := by omega
      have hZs : Z.size = 768 := by rw [HZ.out]; exact AM.cellsL_size _
      clear hR hA hb
      go_wp2_with (first | (refine wpList_load_row rfl 162 _ rfl (w.heap.size + 1) rfl 162 _ (0, 0) _ HA.out Try.underlying162 rfl (by rw [AM.cellsL_size]; exact size56) ?_) | (refine wpList_store_row rfl 162 _ _ rfl w.heap.size _ rfl rfl 162 Z HR.out (by rw [AM.cellsL_size]; exact size56) (by rw [hZs, AM.cellsL_size]) (AM.cellsL_one _) ?_))
      exact bodyPost_ret (v := .agg (AM.cellsL (AM.spreadTo l l.length))) (results_cell_row rfl _ _ w.heap.size 162 _ (0, 0) _ rfl (setRow_heap _ _ _ _ 162 (0, 0) HR.out) Try.underlying162 rfl (by rw [AM.cellsL_size]; exact size56)) rfl ⟨rfl, below_setRow HB.out (Nat.le_refl _) _⟩

set_option maxHeartbeats 1000000 in
theorem spread_nil (ao : Option Addr) (cap : Nat) (w : World) :
    Calls Try.prog 96 #[.slice ao 0 cap] w fun e w' => e = .returned (.agg (AM.cellsL (AM.spreadN []))) ∧ Below w.heap.size w w' := by
  obtain ⟨Z, hZ⟩ : ∃ Z, Z = AM.cellsL (fun _ => AM.off) := ⟨_, rfl⟩
  have hz := zv56
  rw [← hZ] at hz
  have hZs : Z.size = 768 := by rw [hZ]; exact AM.cellsL_size _
  have HZ : Hid (Z = AM.cellsL (fun _ => AM.off)) := hZ
  clear hZ
  have HR : Hid (((w.alloc (.cells Z 162)).alloc (.cells Z 162)).heap[w.heap.size]? = some (.cells Z 162 (0, 0))) := B.alloc (B.new w Z 162) _
  have HA : Hid (((w.alloc (.cells Z 162)).alloc (.cells Z 162)).heap[w.heap.size + 1]? = some (.cells Z 162 (0, 0))) := by
    have := B.new (w.alloc (.cells Z 162)) Z 162
    show _ = _
    simpa using this
  go_enter Try.func96, Try.ntmps96
  go_wp2
  refine wp_loop_rounds 1 ?_
  rw [rounds_succ]
  go_wp2_with (first | (refine wpList_load_row rfl 162 _ rfl (w.heap.size + 1) rfl 162 _ (0, 0) _ HA.out Try.underlying162 rfl (by rw [hZs]; exact size56) ?_) | (refine wpList_store_row rfl 162 _ _ rfl w.heap.size _ rfl rfl 162 Z HR.out (by rw [hZs]; exact size56) rfl (by rw [HZ.out]; exact AM.cellsL_one _) ?_))
  exact bodyPost_ret (v := .agg Z) (results_cell_row rfl _ _ w.heap.size 162 _ (0, 0) _ rfl (setRow_heap _ _ _ _ 162 (0, 0) HR.out) Try.underlying162 rfl (by rw [hZs]; exact size56)) rfl ⟨by rw [HZ.out]; rfl, below_setRow (((Below.refl _ _).alloc (Nat.le_refl _) _).alloc (by simp) _) (Nat.le_refl _) _⟩
end Go.Proofs.Yteieplodndfbhaa.AW
namespace Go.Proofs.Yteieplodndfbhaa.AW
open Go.RowKit
set_option linter.unusedVariables false
set_option maxRecDepth 100000

theorem index56 (F : Nat → AM.St) (k : Nat) (hk : k < 256) (w : World) : (Instr.index 162 (.agg (AM.cellsL F)) (.int .i64 k)).run Try.prog w = .ok (.agg #[.bool (F k).m, .int .i64 (F k).p, .bool (F k).z]) w := by
  have h1 : (k : Int) < 256 := by omega
  simp [Instr.index, run_underlying Try.underlying162, go_sem]
  rw [if_pos hk, AM.cellsL_part F k hk]
theorem info24 : (Try.prog.info? 99).map (fun i => (i.zero, i.size, i.bytes)) = some (some (.agg #[.int .i64 0, .int .i64 0, .int .i64 0, .bool false]), 4, 32) := by kernel_rfl

/-- the value v holds the areas l -/
def Has (w : World) (v : Value) (l : List AM.Ar) : Prop := ∃ ao cap, v = .slice ao l.length cap ∧ (l = [] ∨ ∃ b off, ao = some ⟨b, off, none⟩ ∧ AM.Lie w b off l)

/-- behind the stores into the block of the page ahead, and one more block -/
theorem fin_last {w wx : World} {v : Value} {n : Nat} {xs : List Value} {C : Array Value} (hC : C.size = 3) (hown : wx.ownsRow (w.heap.size + 2) 99 4 v n xs) (hl : wx.heap[w.heap.size + 1]? = some (.cells C 138 (0, 0))) (hb : Below w.heap.size w wx) (x y z : Value) :
    (((wx.setCell ⟨w.heap.size + 1, 0, none⟩ x).setCell ⟨w.heap.size + 1, 1, none⟩ y).setCell ⟨w.heap.size + 1, 2, none⟩ z).ownsRow (w.heap.size + 2) 99 4 v n xs ∧
    (((wx.setCell ⟨w.heap.size + 1, 0, none⟩ x).setCell ⟨w.heap.size + 1, 1, none⟩ y).setCell ⟨w.heap.size + 1, 2, none⟩ z).heap[w.heap.size + 1]? = some (.cells #[x, y, z] 138 (0, 0)) ∧
    Below w.heap.size w (((wx.setCell ⟨w.heap.size + 1, 0, none⟩ x).setCell ⟨w.heap.size + 1, 1, none⟩ y).setCell ⟨w.heap.size + 1, 2, none⟩ z) := by
  refine ⟨ownsRow_setCell_below (ownsRow_setCell_below (ownsRow_setCell_below hown (by simp) _) (by simp) _) (by simp) _, ?_, ((hb.setCell (by simp) _).setCell (by simp) _).setCell (by simp) _⟩
  rw [B.set (B.set (B.set hl 0 x) 1 y) 2 z]
  congr 2
  match C, hC with
  | ⟨[a, b, c]⟩, _ => rfl

/-- the areas lie in a row that is the call's own, at block lo or behind it -/
def Own (lo : Nat) (w : World) (v : Value) (l : List AM.Ar) : Prop := w.ownsRow lo 99 4 v l.length (AM.areaCells l)
theorem Own.nil (lo : Nat) (w : World) : Own lo w (.slice none 0 0) [] := World.ownsRow_nil _ _ _ _
theorem Own.mono {lo lo' : Nat} {w : World} {v : Value} {l : List AM.Ar} (h : Own lo w v l) (hl : lo' ≤ lo) : Own lo' w v l := by
  refine ⟨h.1, ?_⟩
  rcases h.2 with h2 | ⟨g, cap, cur, hv, hbg, rest⟩
  · exact .inl h2
  · exact .inr ⟨g, cap, cur, hv, Nat.le_trans hl hbg, rest⟩
theorem Own.has {lo : Nat} {w : World} {v : Value} {l : List AM.Ar} (h : Own lo w v l) : Has w v l := by
  rcases h.2 with ⟨hv, h0⟩ | ⟨g, cap, cur, hv, hbg, hg, hnc, hcm, hcs, htake⟩
  · exact ⟨none, 0, by rw [hv, h0], .inl (List.eq_nil_of_length_eq_zero h0)⟩
  · have ho := h
    unfold Own at ho
    rw [hv] at ho
    refine ⟨some ⟨g, 0, none⟩, cap, hv, .inr ⟨g, 0, rfl, fun i hi => ?_⟩⟩
    rw [Nat.zero_add]
    exact ⟨(ho.cellAt _ (by omega)).trans (AM.areaCells_get _ i 0 hi (by omega)), (ho.cellAt _ (by omega)).trans (AM.areaCells_get _ i 1 hi (by omega)), (ho.cellAt _ (by omega)).trans (AM.areaCells_get _ i 2 hi (by omega)), (ho.cellAt _ (by omega)).trans (AM.areaCells_get _ i 3 hi (by omega))⟩
set_option maxHeartbeats 2000000 in
theorem gather_own (F : Nat → AM.St) (w : World) :
    Calls Try.prog 97 #[.agg (AM.cellsL F)] w fun e w' => ∃ v, e = .returned v ∧ Own w.heap.size w' v (AM.gatherN F) ∧ Below w.heap.size w w' := by
  have hidx := index56 F
  obtain ⟨C, hC⟩ : ∃ C, C = AM.cellsL F := ⟨_, rfl⟩
  have hCs : C.size = 768 := by rw [hC]; exact AM.cellsL_size _
  rw [← hC] at hidx ⊢
  clear hC
  obtain ⟨i0, hi, hz0, hz1, hz2⟩ := info_parts info24
  have HX : Hid (((w.alloc (.cells C 162)).alloc (.cells #[.bool false, .int .i64 0, .bool false] 138)).heap[w.heap.size]? = some (.cells C 162 (0, 0))) := B.alloc (B.new w C 162) _
  have HL : Hid (((w.alloc (.cells C 162)).alloc (.cells #[.bool false, .int .i64 0, .bool false] 138)).heap[w.heap.size + 1]? = some (.cells #[.bool false, .int .i64 0, .bool false] 138 (0, 0))) := by
    have := B.new (w.alloc (.cells C 162)) #[.bool false, .int .i64 0, .bool false] 138
    show _ = _
    simpa using this
  have HB0 : Hid (Below w.heap.size w ((w.alloc (.cells C 162)).alloc (.cells #[.bool false, .int .i64 0, .bool false] 138))) := ((Below.refl _ _).alloc (Nat.le_refl _) _).alloc (by simp) _
  go_enter Try.func97, Try.ntmps97
  go_wp2_with (first | (refine wpList_load_row rfl 162 _ rfl w.heap.size rfl 162 _ (0, 0) _ HX.out Try.underlying162 rfl (by rw [hCs]; exact size56) ?_))
  go_loopw [3, 8] (fun v i wr => ∃ k : Nat, k ≤ 256 ∧ i = .int .i64 k ∧ wr.ownsRow (w.heap.size + 2) 99 4 v (AM.gatherTo F k).length (AM.areaCells (AM.gatherTo F k)) ∧ wr.heap[w.heap.size + 1]? = some (.cells #[.bool (AM.lastTo F k).m, .int .i64 (AM.lastTo F k).p, .bool (AM.lastTo F k).z] 138 (0, 0)) ∧ Below w.heap.size w wr) (fun _ i _ => 256 - (intOf i).toNat)
  case atStart => exact ⟨0, by omega, rfl, World.ownsRow_nil _ _ _ _, HL.out, HB0.out⟩
  case round =>
    obtain ⟨k, hk, rfl, hown, hl, hb⟩ := hrel
    have HO : Hid (wr.ownsRow (w.heap.size + 2) 99 4 u3 (AM.gatherTo F k).length (AM.areaCells (AM.gatherTo F k))) := hown
    have HLr : Hid (wr.heap[w.heap.size + 1]? = some (.cells #[.bool (AM.lastTo F k).m, .int .i64 (AM.lastTo F k).p, .bool (AM.lastTo F k).z] 138 (0, 0))) := hl
    have HB : Hid (Below w.heap.size w wr) := hb
    have hsz : w.heap.size + 1 < wr.heap.size := B.isLt hl
    have l0 := B.cell hl 0 rfl
    have l1 := B.cell hl 1 rfl
    have l2 := B.cell hl 2 rfl
    have lf := B.free hl
    clear hown hl hb
    by_cases hlt : k < 256
    · have hx := fun W => hidx k hlt W
      have hki : (k : Int) < 256 := by omega
      obtain ⟨s, hs⟩ : ∃ s, s = F k := ⟨_, rfl⟩
      obtain ⟨t, ht⟩ : ∃ t, t = AM.lastTo F k := ⟨_, rfl⟩
      rw [← hs] at hx
      rw [← ht] at l0 l1 l2
      have HS : Hid (s = F k) := hs
      have HT : Hid (t = AM.lastTo F k) := ht
      clear hs ht hidx
      by_cases hm : s.m = true
      · by_cases he : AM.stEq s t = true
        · have hst : s = t := AM.stEq_eq s t he
          have HG : Hid (AM.gatherTo F (k + 1) = AM.bump (AM.gatherTo F k)) := by show _ = _; simp only [AM.gatherTo]; rw [← HS.out, ← HT.out, hm, he]; rfl
          have hpos := AM.gather_some F k (by rw [← HT.out, ← hst]; exact hm)
          have hlen := AM.gather_len F k
          obtain ⟨G, hG⟩ : ∃ G, G = AM.gatherTo F k := ⟨_, rfl⟩
          have hpg := AM.gather_pages F k ((AM.gatherTo F k).length - 1) (by omega)
          rw [← hG] at HO HG hpos hlen hpg
          clear hG
          rcases HO.out.2 with ⟨_, h0⟩ | ⟨g, cap, cur, hv, hbg, hg, hnc, hcm, hcs, htake⟩
          · omega
          · have HO2 := HO.out
            rw [hv] at HO2
            have p1 : wr.cell? ⟨g, (G.length - 1) * 4 + 1, none⟩ = some (.int .i64 (AM.at_ G (G.length - 1)).pages) := by
              rw [HO2.cellAt _ (by omega), AM.areaCells_get G _ 1 (by omega) (by omega)]; rfl
            have pf := HO2.frozenAt
            have HOv : Hid (wr.ownsRow (w.heap.size + 2) 99 4 (.slice (some ⟨g, 0, none⟩) G.length cap) G.length (AM.areaCells G)) := HO2
            have Hv : Hid (u3 = .slice (some ⟨g, 0, none⟩) G.length cap) := hv
            have hgl : g < wr.heap.size := B.isLt hg
            rw [hv]
            clear HO HO2 hv hg htake hcs he
            obtain ⟨pp, hpp⟩ : ∃ pp, pp = (AM.at_ G (G.length - 1)).pages := ⟨_, rfl⟩
            rw [← hpp] at p1 hpg
            have HP : Hid (pp = (AM.at_ G (G.length - 1)).pages) := hpp
            clear hpp
            subst hst
            have hG1 : (1 : Int) ≤ (G.length : Int) := by omega
            have hG2 : (G.length : Int) ≤ 256 := by omega
            go_wp2
            go_roundw
            case rel =>
              have ho := (HOv.out.stored ((G.length - 1) * 4 + 1) (.int .i64 (pp + 1))).1
              have e : (AM.areaCells G).set ((G.length - 1) * 4 + 1) (.int .i64 (pp + 1)) = AM.areaCells (AM.bump G) := by
                rw [HP.out]; exact (AM.areaCells_set G (G.length - 1) _ (by omega)).symm
              rw [e] at ho
              have h := fin_last rfl ho (B.other HLr.out _ _ _ (by omega)) (HB.out.setCell (by simp; omega) _) (.bool true) (.int .i64 s.p) (.bool s.z)
              refine ⟨k + 1, by omega, by go_num, ?_, ?_, h.2.2.alloc h.2.2.size _⟩
              · rw [HG.out, AM.bump_length]; exact h.1.alloc _
              · show _ = some (Obj.cells #[.bool (F k).m, .int .i64 (F k).p, .bool (F k).z] 138 (0, 0))
                rw [← HS.out, hm]
                exact B.alloc h.2.1 _
            case measure => simp [intOf]; omega
        · have he' : AM.stEq s t = false := by simpa using he
          have HG : Hid (AM.gatherTo F (k + 1) = AM.gatherTo F k ++ [⟨(k : Int), 1, s.p, s.z⟩]) := by show _ = _; simp only [AM.gatherTo]; rw [← HS.out, ← HT.out, hm, he']; rfl
          have hlen := AM.gather_len F k
          obtain ⟨G, hG⟩ : ∃ G, G = AM.gatherTo F k := ⟨_, rfl⟩
          rw [← hG] at HO HG hlen
          clear hG he
          have hrow : Hid (∀ j, u3.ownBlock = some j → w.heap.size + 2 ≤ j ∧ j < wr.heap.size) := HO.out.lt
          have hcas := AM.stEq_ne s t he'
          obtain ⟨sm, sp, sz⟩ := s
          obtain ⟨tm, tp, tz⟩ := t
          simp only at hm hcas l0 l1 l2 HG
          subst hm
          have HN : Hid (((wr.alloc (.cells #[.bool true, .int .i64 sp, .bool sz] 138)).alloc (.cells #[.int .i64 (k : Int), .int .i64 1, .int .i64 sp, .bool sz] 99)).heap[wr.heap.size + 1]? = some (.cells #[.int .i64 (k : Int), .int .i64 1, .int .i64 sp, .bool sz] 99 (0, 0))) := by
            have := B.new (wr.alloc (.cells #[.bool true, .int .i64 sp, .bool sz] 138)) #[.int .i64 (k : Int), .int .i64 1, .int .i64 sp, .bool sz] 99
            show _ = _
            simpa using this
          have hcas' : tm = false ∨ (tm = true ∧ (sp == tp) = false) ∨ (tm = true ∧ sp = tp ∧ tz = !sz) := by
            cases tm
            · exact .inl rfl
            · rcases hcas with q | ⟨_, q⟩ | ⟨_, q1, q2⟩
              · cases q
              · exact .inr (.inl ⟨rfl, q⟩)
              · refine .inr (.inr ⟨rfl, by simpa using q1, ?_⟩)
                cases sz <;> cases tz <;> first | rfl | cases q2
          clear he' hcas
          rcases hcas' with rfl | ⟨rfl, q⟩ | ⟨rfl, rfl, rfl⟩
          all_goals
            go_wp2_with (at_builtin; refine wpList_append_lies _ rfl _ _ 29 rfl (w.heap.size + 2) 99 i0 (.agg #[.int .i64 0, .int .i64 0, .int .i64 0, .bool false]) 4 32 Try.underlying29 hi hz0 hz1 hz2 rfl (by decide) _ _ _ rfl ((HO.out.alloc _).alloc _) ⟨wr.heap.size + 1, 0, none⟩ 1 1 [.int .i64 (k : Int), .int .i64 1, .int .i64 sp, .bool sz] rfl rfl (B.news HN.out) (AM.areaCells_one [⟨(k : Int), 1, sp, sz⟩]) (by decide) (by unfold maxLen; omega) (by omega) (by simp; omega) (wr.heap.size + 2) (by simp) ?_)
            intro g cap w1 hown1 hgrow hat hlt1
            have bS := B.grown (B.alloc (B.new wr #[.bool true, .int .i64 sp, .bool sz] 138) (.cells #[.int .i64 (k : Int), .int .i64 1, .int .i64 sp, .bool sz] 99)) hgrow (fun e => by have := hrow.out _ e.symm; omega)
            have bL := B.grown (B.alloc (B.alloc HLr.out (.cells #[.bool true, .int .i64 sp, .bool sz] 138)) (.cells #[.int .i64 (k : Int), .int .i64 1, .int .i64 sp, .bool sz] 99)) hgrow (fun e => by have := hrow.out _ e.symm; omega)
            have b0 := B.cell bS 0 rfl
            have b1 := B.cell bS 1 rfl
            have b2 := B.cell bS 2 rfl
            have m0 := B.cell bL 0 rfl
            have m1 := B.cell bL 1 rfl
            have m2 := B.cell bL 2 rfl
            have mf := B.free bL
            have HO1 : Hid (w1.ownsRow (w.heap.size + 2) 99 4 (Value.slice (some ⟨g, 0, none⟩) (G.length + 1) cap) (G.length + 1) (AM.areaCells G ++ [.int .i64 (k : Int), .int .i64 1, .int .i64 sp, .bool sz])) := hown1
            have HL1 : Hid (w1.heap[w.heap.size + 1]? = some (.cells #[.bool (AM.lastTo F k).m, .int .i64 (AM.lastTo F k).p, .bool (AM.lastTo F k).z] 138 (0, 0))) := bL
            have HB1 : Hid (Below w.heap.size w w1) := ((HB.out.alloc HB.out.size _).alloc (by have := HB.out.size; simp; omega) _).grown hgrow (by have := HB.out.size; simp; omega) (fun k' e => by have := hrow.out _ e; omega)
            clear bS bL hown1 hgrow hat l0 l1 l2 lf
            go_wp2
            go_roundw
            case rel =>
              have h := fin_last rfl HO1.out HL1.out HB1.out (.bool true) (.int .i64 sp) (.bool sz)
              refine ⟨k + 1, by omega, by go_num, ?_, ?_, h.2.2⟩
              · rw [HG.out, List.length_append, AM.areaCells_append]; exact h.1
              · show _ = some (Obj.cells #[.bool (F k).m, .int .i64 (F k).p, .bool (F k).z] 138 (0, 0))
                rw [← HS.out]
                exact h.2.1
            case measure => simp [intOf]; omega
      · have hm' : s.m = false := by simpa using hm
        have HG : Hid (AM.gatherTo F (k + 1) = AM.gatherTo F k) := by show _ = _; simp only [AM.gatherTo]; rw [← HS.out, hm']; rfl
        clear hm
        go_wp2
        go_roundw
        case rel =>
          have h := fin_last rfl HO.out HLr.out HB.out (.bool false) (.int .i64 s.p) (.bool s.z)
          refine ⟨k + 1, by omega, by go_num, ?_, ?_, h.2.2.alloc h.2.2.size _⟩
          · rw [HG.out]; exact h.1.alloc _
          · show _ = some (Obj.cells #[.bool (F k).m, .int .i64 (F k).p, .bool (F k).z] 138 (0, 0))
            rw [← HS.out, hm']
            exact B.alloc h.2.1 _
        case measure => simp [intOf]; omega
    · obtain rfl : k = 256 := by omega
      go_wp2
      go_ret
      refine ⟨_, rfl, ?_, HB.out⟩
      exact Own.mono (lo := w.heap.size + 2) HO.out (by omega)
theorem gather_any (F : Nat → AM.St) (w : World) :
    Calls Try.prog 97 #[.agg (AM.cellsL F)] w fun e w' => ∃ v, e = .returned v ∧ Has w' v (AM.gatherN F) ∧ Below w.heap.size w w' :=
  (gather_own F w).mono fun e w' ⟨v, h1, h2, h3⟩ => ⟨v, h1, h2.has, h3⟩
end Go.Proofs.Yteieplodndfbhaa.AW
namespace Go.Proofs.Yteieplodndfbhaa.AW
open Go.RowKit
set_option linter.unusedVariables false
set_option maxRecDepth 100000

/-- how Map turns a page, and the error -/
def howMap (q : Int) (s : AM.St) : AM.St × Int := if s.m then (s, 5) else (⟨true, q, true⟩, 0)
def howUnmap (s : AM.St) : AM.St × Int := (AM.off, 0)
def howProtect (q : Int) (s : AM.St) : AM.St × Int := if s.m then (⟨s.m, q, s.z⟩, 0) else (s, 6)
def aggSt (s : AM.St) : Value := .agg #[.bool s.m, .int .i64 s.p, .bool s.z]

set_option maxHeartbeats 400000 in
theorem map1_any (s : AM.St) (q : Int) (P : Nat) (w : World) (hP : w.cell? ⟨P, 0, none⟩ = some (.int .i64 q)) :
    Calls Try.prog 82 #[.agg #[.bool s.m, .int .i64 s.p, .bool s.z], .pointer (some ⟨P, 0, none⟩)] w fun e w' => e = .returned (.tuple #[aggSt (howMap q s).1, .int .i64 (howMap q s).2]) ∧ Below w.heap.size w w' := by
  have hPl : P < w.heap.size := World.block_lt_of_cell? w _ hP
  obtain ⟨m, p, z⟩ := s
  cases m
  · go_enter Try.func82, Try.ntmps82
    go_wp2
    exact bodyPost_ret (v := .tuple #[.agg #[.bool true, .int .i64 q, .bool true], .int .i64 0]) (by simp [results, Try.results82, go_sem]) rfl ⟨rfl, ((Below.refl _ _).alloc (Nat.le_refl _) _).alloc (by simp) _⟩
  · go_enter Try.func82, Try.ntmps82
    go_wp2
    exact bodyPost_ret (v := .tuple #[.agg #[.bool true, .int .i64 p, .bool z], .int .i64 5]) (by simp [results, Try.results82, go_sem]) rfl ⟨rfl, ((Below.refl _ _).alloc (Nat.le_refl _) _).alloc (by simp) _⟩
theorem Has.below {w w' : World} {v : Value} {l : List AM.Ar} (h : Has w v l) (hb : Below w.heap.size w w') : Has w' v l := by
  obtain ⟨ao, cap, rfl, h⟩ := h
  rcases h with rfl | ⟨b, off, rfl, hl⟩
  · exact ⟨ao, cap, rfl, .inl rfl⟩
  · exact ⟨_, cap, rfl, .inr ⟨b, off, rfl, hl.below hb⟩⟩
def AllFit (l : List AM.Ar) : Prop := (∀ i, i < l.length → AM.Fits (AM.at_ l i)) ∧ l.length ≤ 140737488351232

theorem check_any (l : List AM.Ar) (v : Value) (w : World) (h : Has w v l) (hf : AllFit l) :
    Calls Try.prog 39 #[v] w fun e w' => e = .returned (.int .i64 (AM.checkN l)) ∧ Below w.heap.size w w' := by
  obtain ⟨ao, cap, rfl, h⟩ := h
  rcases h with rfl | ⟨b, off, rfl, hl⟩
  · exact check_nil ao cap w
  · exact check_some l b off cap w hl hf.1 hf.2
theorem find_any (l : List AM.Ar) (v : Value) (p : Int) (w : World) (h : Has w v l) (hf : AllFit l) :
    Calls Try.prog 66 #[v, .int .i64 p] w fun e w' => e = .returned (.tuple #[.agg (cellsOf (AM.findN l p).1), .bool (AM.findN l p).2]) ∧ Below w.heap.size w w' := by
  obtain ⟨ao, cap, rfl, h⟩ := h
  rcases h with rfl | ⟨b, off, rfl, hl⟩
  · exact find_nil ao cap p w
  · exact find_some l b off cap p w hl hf.1 hf.2
theorem spread_any (l : List AM.Ar) (v : Value) (w : World) (h : Has w v l) (hc : AM.checkN l = 0) :
    Calls Try.prog 96 #[v] w fun e w' => e = .returned (.agg (AM.cellsL (AM.spreadN l))) ∧ Below w.heap.size w w' := by
  obtain ⟨ao, cap, rfl, h⟩ := h
  rcases h with rfl | ⟨b, off, rfl, hl⟩
  · exact spread_nil ao cap w
  · exact spread_some l b off cap w hl hc
end Go.Proofs.Yteieplodndfbhaa.AW
namespace Go.Proofs.Yteieplodndfbhaa.AW
open Go.RowKit
set_option linter.unusedVariables false
set_option maxRecDepth 100000

set_option maxHeartbeats 2000000 in
theorem turn_map_own (l : List AM.Ar) (v : Value) (page pages q : Int) (P : Nat) (w : World) (h : Has w v l) (hf : AllFit l) (hp : -9223372036854775808 ≤ page ∧ page ≤ 9223372036854775807) (hn : -9223372036854775808 ≤ pages ∧ pages ≤ 9223372036854775807) (hP : w.cell? ⟨P, 0, none⟩ = some (.int .i64 q)) :
    Calls Try.prog 81 #[v, .int .i64 page, .int .i64 pages, .int .i64 q, .func (.func 82) #[] #[.pointer (some ⟨P, 0, none⟩)]] w fun e w' => ∃ r, e = .returned (.tuple #[r, .int .i64 (AM.turnN l page pages q (howMap q)).2]) ∧ Own w.heap.size w' r (AM.turnN l page pages q (howMap q)).1 ∧ Below w.heap.size w w' := by
  by_cases hc : AM.checkN l = 0
  · by_cases hpp : AM.pagesB page pages = true
    · by_cases hqq : AM.protB q = true
      · have HT : Hid (AM.turnN l page pages q (howMap q) = if AM.errFrom (AM.spreadN l) (howMap q) page.toNat pages.toNat = 0 then (AM.gatherN (AM.turned (AM.spreadN l) (howMap q) page (page + pages)), 0) else ([], AM.errFrom (AM.spreadN l) (howMap q) page.toNat pages.toNat)) := by
          show _ = _; simp [AM.turnN, hc, hpp, hqq]
        have hpb := (AM.pagesB_iff page pages).1 hpp
        obtain ⟨Z, hZ⟩ : ∃ Z, Z = AM.cellsL (fun _ => AM.off) := ⟨_, rfl⟩
        have hz := zv56
        rw [← hZ] at hz
        have hZs : Z.size = 768 := by rw [hZ]; exact AM.cellsL_size _
        clear hZ
        go_enter Try.func81, Try.ntmps81
        go_wp2_with fail
        refine (check_any l v _ h hf).mono ?_
        rintro e w1 ⟨rfl, hb1⟩
        rw [hc]
        have HC : Hid (AM.checkN l = 0) := hc
        clear hc
        go_wp2_with fail
        refine (rightPages_any _ _ _ hp hn).mono ?_
        rintro e w' ⟨rfl, rfl⟩
        go_wp2_with fail
        refine (rightProt_any _ _).mono ?_
        rintro e w' ⟨rfl, rfl⟩
        go_wp2_with fail
        refine (spread_any l v _ (h.below hb1) HC.out).mono ?_
        rintro e w2 ⟨rfl, hb2⟩
        have HB2 : Hid (Below w.heap.size w w2) := hb1.trans (hb2.mono hb1.size)
        obtain ⟨F, hF⟩ : ∃ F, F = AM.spreadN l := ⟨_, rfl⟩
        rw [← hF] at HT ⊢
        obtain ⟨C, hC⟩ : ∃ C, C = AM.cellsL F := ⟨_, rfl⟩
        have hCs : C.size = 768 := by rw [hC]; exact AM.cellsL_size _
        have HCF : Hid (C = AM.cellsL F) := hC
        rw [← hC]
        clear hb1 hb2 hF hC hpp hqq
        have hn2 : Hid ((w2.alloc (.cells Z 162)).heap[w2.heap.size]? = some (.cells Z 162 (0, 0))) := B.new w2 Z 162
        go_wp2_with (refine wpList_store_row rfl 162 _ _ rfl w2.heap.size C rfl rfl 162 Z hn2.out (by rw [hCs]; exact size56) (by rw [hZs, hCs]) (by rw [HCF.out]; exact AM.cellsL_one _) ?_)
        have HA0 : Hid (((w2.alloc (.cells Z 162)).setRow w2.heap.size C).heap[w2.heap.size]? = some (.cells C 162 (0, 0))) := setRow_heap _ _ _ _ 162 (0, 0) hn2.out
        have HB3 : Hid (Below w.heap.size w ((w2.alloc (.cells Z 162)).setRow w2.heap.size C)) := below_setRow (HB2.out.alloc HB2.out.size _) HB2.out.size _
        have hsz2 := HB2.out.size
        go_loopw [14] (fun t wr => ∃ n : Nat, page ≤ (n : Int) ∧ (n : Int) ≤ page + pages ∧ t = .int .i64 n ∧ (∀ k : Nat, page.toNat ≤ k → k < n → ((howMap q) (F k)).2 = 0) ∧ wr.heap[w2.heap.size]? = some (.cells (AM.cellsL (AM.turned F (howMap q) page n)) 162 (0, 0)) ∧ Below w.heap.size w wr) (fun t _ => (page + pages - intOf t).toNat)
        case atStart =>
          refine ⟨page.toNat, by omega, by omega, by rw [Int.toNat_of_nonneg (by omega)], fun k h1 h2 => by omega, ?_, HB3.out⟩
          rw [Int.toNat_of_nonneg (by omega), AM.turned_begin, ← HCF.out]
          exact HA0.out
        case round =>
          obtain ⟨n, hn1, hn3, rfl, hno, hA, hb⟩ := hrel
          have HN : Hid (∀ k : Nat, page.toNat ≤ k → k < n → ((howMap q) (F k)).2 = 0) := hno
          have HA : Hid (wr.heap[w2.heap.size]? = some (.cells (AM.cellsL (AM.turned F (howMap q) page n)) 162 (0, 0))) := hA
          have HB : Hid (Below w.heap.size w wr) := hb
          have hAl : w2.heap.size < wr.heap.size := B.isLt hA
          have hPw : wr.cell? ⟨P, 0, none⟩ = some (.int .i64 q) := (hb.cell (p := ⟨P, 0, none⟩) (World.block_lt_of_cell? w _ hP)).trans hP
          by_cases hin : (n : Int) < page + pages
          · have z0 := B.cell hA (n * 3) (AM.cellsL_get0 _ n (by omega))
            have z1 := B.cell hA (n * 3 + 1) (AM.cellsL_get1 _ n (by omega))
            have z2 := B.cell hA (n * 3 + 2) (AM.cellsL_get2 _ n (by omega))
            rw [AM.turned_at] at z0 z1 z2
            have hn256 : (n : Int) < 256 := by omega
            clear hno hA hb
            obtain ⟨s, hs⟩ : ∃ s, s = F n := ⟨_, rfl⟩
            rw [← hs] at z0 z1 z2
            have HS : Hid (s = F n) := hs
            clear hs
            go_wp2_with fail
            refine (map1_any s q P _ hPw).mono ?_
            rintro e w3 ⟨rfl, hb3⟩
            have bA := B.below HA.out hb3 hAl
            have y0 := B.cell bA (n * 3) (AM.cellsL_get0 _ n (by omega))
            have y1 := B.cell bA (n * 3 + 1) (AM.cellsL_get1 _ n (by omega))
            have y2 := B.cell bA (n * 3 + 2) (AM.cellsL_get2 _ n (by omega))
            have yf := B.free bA
            have HA3 : Hid (w3.heap[w2.heap.size]? = some (.cells (AM.cellsL (AM.turned F (howMap q) page n)) 162 (0, 0))) := bA
            have HBB : Hid (Below w.heap.size w w3) := HB.out.trans (hb3.mono HB.out.size)
            have hsz3 : w2.heap.size < w3.heap.size := B.isLt bA
            clear bA hb3 z0 z1 z2
            obtain ⟨r, hr⟩ : ∃ r, r = (howMap q) s := ⟨_, rfl⟩
            rw [← hr]
            have HR : Hid (r = (howMap q) s) := hr
            clear hr
            unfold aggSt
            by_cases he : r.2 = 0
            · have he' : (r.2 != 0) = false := by simp [he]
              have HE : Hid (r.2 = 0) := he
              clear he
              go_wp2
              go_roundw
              case rel =>
                have hset := B.set (B.set (B.set HA3.out (n * 3) (.bool r.1.m)) (n * 3 + 1) (.int .i64 r.1.p)) (n * 3 + 2) (.bool r.1.z)
                have est := AM.turned_step F (howMap q) page n hn1
                rw [← HS.out, ← HR.out] at est
                rw [AM.cellsL_set (AM.turned F (howMap q) page n) n r.1 (by omega), est] at hset
                refine ⟨n + 1, by omega, by omega, by go_num, fun k h1 h2 => if e : k = n then by rw [e, ← HS.out, ← HR.out]; exact HE.out else HN.out k h1 (by omega), ?_, ?_⟩
                · rw [show ((n + 1 : Nat) : Int) = (n : Int) + 1 from by omega]
                  exact B.alloc hset _
                · have hb4 := ((HBB.out.setCell (p := ⟨w2.heap.size, n * 3, none⟩) hsz2 (.bool r.1.m)).setCell (p := ⟨w2.heap.size, n * 3 + 1, none⟩) hsz2 (.int .i64 r.1.p)).setCell (p := ⟨w2.heap.size, n * 3 + 2, none⟩) hsz2 (.bool r.1.z)
                  exact hb4.alloc hb4.size _
              case measure => simp [intOf]; omega
            · have he' : (r.2 != 0) = true := by simpa using he
              have HE : Hid (r.2 ≠ 0) := he
              clear he
              have ht : Hid (AM.turnN l page pages q (howMap q) = ([], r.2)) := by
                have herr : AM.errFrom F (howMap q) page.toNat pages.toNat = r.2 := by
                  rw [HR.out, HS.out]
                  exact AM.errFrom_at F (howMap q) _ _ n (by omega) (by omega) HN.out (by rw [← HS.out, ← HR.out]; exact HE.out)
                show _ = _
                rw [HT.out, herr, if_neg HE.out]
              go_wp2
              go_ret2
              exact ⟨.slice none 0 0, by rw [ht.out]; rfl, by rw [ht.out]; exact Own.nil _ _, HBB.out.alloc HBB.out.size _⟩
          · have hend : Hid ((n : Int) = page + pages) := by show _ = _; omega
            have ht : Hid (AM.turnN l page pages q (howMap q) = (AM.gatherN (AM.turned F (howMap q) page n), 0)) := by
              have herr : AM.errFrom F (howMap q) page.toNat pages.toNat = 0 := AM.errFrom_zero F (howMap q) _ _ (fun k h1 h2 => HN.out k h1 (by have := hend.out; omega))
              show _ = _
              rw [HT.out, herr, if_pos rfl, hend.out]
            clear hno hA hb
            go_wp2_with (refine wpList_load_row rfl 162 _ rfl w2.heap.size rfl 162 _ (0, 0) _ HA.out Try.underlying162 rfl (by rw [AM.cellsL_size]; exact size56) ?_)
            refine (gather_own _ _).mono ?_
            rintro e w4 ⟨r, rfl, hr, hb4⟩
            go_wp2
            go_ret2
            exact ⟨r, by rw [ht.out]; rfl, by rw [ht.out]; exact hr.mono HB.out.size, HB.out.trans (hb4.mono HB.out.size)⟩
      · have hqq' : AM.protB q = false := by simpa using hqq
        have HT : Hid (AM.turnN l page pages q (howMap q) = ([], 3)) := by show _ = _; simp [AM.turnN, hc, hpp, hqq']
        clear hqq
        go_enter Try.func81, Try.ntmps81
        go_wp2_with fail
        refine (check_any l v _ h hf).mono ?_
        rintro e w1 ⟨rfl, hb1⟩
        rw [hc]
        clear hc
        go_wp2_with fail
        refine (rightPages_any _ _ _ hp hn).mono ?_
        rintro e w' ⟨rfl, rfl⟩
        go_wp2_with fail
        refine (rightProt_any _ _).mono ?_
        rintro e w' ⟨rfl, rfl⟩
        go_wp2
        go_ret2
        exact ⟨.slice none 0 0, by rw [HT.out]; rfl, by rw [HT.out]; exact Own.nil _ _, hb1⟩
    · have hpp' : AM.pagesB page pages = false := by simpa using hpp
      have HT : Hid (AM.turnN l page pages q (howMap q) = ([], 3)) := by show _ = _; simp [AM.turnN, hc, hpp']
      clear hpp
      go_enter Try.func81, Try.ntmps81
      go_wp2_with fail
      refine (check_any l v _ h hf).mono ?_
      rintro e w1 ⟨rfl, hb1⟩
      rw [hc]
      clear hc
      go_wp2_with fail
      refine (rightPages_any _ _ _ hp hn).mono ?_
      rintro e w' ⟨rfl, rfl⟩
      go_wp2
      go_ret2
      exact ⟨.slice none 0 0, by rw [HT.out]; rfl, by rw [HT.out]; exact Own.nil _ _, hb1⟩
  · have HT : Hid (AM.turnN l page pages q (howMap q) = ([], AM.checkN l)) := by show _ = _; simp [AM.turnN, hc]
    have hc' : (AM.checkN l != 0) = true := by simpa using hc
    go_enter Try.func81, Try.ntmps81
    go_wp2_with fail
    refine (check_any l v _ h hf).mono ?_
    rintro e w1 ⟨rfl, hb1⟩
    go_wp2
    go_ret2
    exact ⟨.slice none 0 0, by rw [HT.out]; rfl, by rw [HT.out]; exact Own.nil _ _, hb1⟩
theorem turn_map (l : List AM.Ar) (v : Value) (page pages q : Int) (P : Nat) (w : World) (h : Has w v l) (hf : AllFit l) (hp : -9223372036854775808 ≤ page ∧ page ≤ 9223372036854775807) (hn : -9223372036854775808 ≤ pages ∧ pages ≤ 9223372036854775807) (hP : w.cell? ⟨P, 0, none⟩ = some (.int .i64 q)) :
    Calls Try.prog 81 #[v, .int .i64 page, .int .i64 pages, .int .i64 q, .func (.func 82) #[] #[.pointer (some ⟨P, 0, none⟩)]] w fun e w' => ∃ r, e = .returned (.tuple #[r, .int .i64 (AM.turnN l page pages q (howMap q)).2]) ∧ Has w' r (AM.turnN l page pages q (howMap q)).1 ∧ Below w.heap.size w w' :=
  (turn_map_own l v page pages q P w h hf hp hn hP).mono fun e w' ⟨r, h1, h2, h3⟩ => ⟨r, h1, h2.has, h3⟩
end Go.Proofs.Yteieplodndfbhaa.AW
namespace Go.Proofs.Yteieplodndfbhaa.AW
open Go.RowKit
set_option linter.unusedVariables false
set_option maxRecDepth 100000

end Go.Proofs.Yteieplodndfbhaa.AW
namespace Go.Proofs.Yteieplodndfbhaa.AW
open Go.RowKit
set_option linter.unusedVariables false
set_option maxRecDepth 100000

end Go.Proofs.Yteieplodndfbhaa.AW
namespace Go.Proofs.Yteieplodndfbhaa.AW
open Go.RowKit
set_option linter.unusedVariables false
set_option maxRecDepth 100000

/-- what Map, Unmap, Protect answer -/
def mapN (l : List AM.Ar) (page pages q : Int) : List AM.Ar × Int := AM.turnN l page pages q (howMap q)
def unmapN (l : List AM.Ar) (page pages : Int) : List AM.Ar × Int := AM.turnN l page pages 0 howUnmap
def protectN (l : List AM.Ar) (page pages q : Int) : List AM.Ar × Int := AM.turnN l page pages q (howProtect q)
def I64 (n : Int) : Prop := -9223372036854775808 ≤ n ∧ n ≤ 9223372036854775807

set_option maxHeartbeats 400000 in
theorem map_own (l : List AM.Ar) (v : Value) (page pages q : Int) (w : World) (h : Has w v l) (hf : AllFit l) (hp : I64 page) (hn : I64 pages) :
    Calls Try.prog 56 #[v, .int .i64 page, .int .i64 pages, .int .i64 q] w fun e w' => ∃ r, e = .returned (.tuple #[r, .int .i64 (mapN l page pages q).2]) ∧ Own w.heap.size w' r (mapN l page pages q).1 ∧ Below w.heap.size w w' := by
  have hb0 : Below w.heap.size w (w.alloc (.cells #[.int .i64 q] 3)) := (Below.refl _ _).alloc (Nat.le_refl _) _
  have hP := B.cell (B.new w #[.int .i64 q] 3) 0 rfl
  have H := h.below hb0
  have HP : Hid ((w.alloc (.cells #[.int .i64 q] 3)).cell? ⟨w.heap.size, 0, none⟩ = some (.int .i64 q)) := hP
  clear hP
  go_enter Try.func56, Try.ntmps56
  go_wp2_with fail
  refine (turn_map_own l v page pages q w.heap.size _ H hf hp hn HP.out).mono ?_
  rintro e w1 ⟨r, rfl, hr, hb1⟩
  go_wp2
  go_ret2
  exact ⟨r, rfl, hr.mono hb0.size, hb0.trans (hb1.mono hb0.size)⟩
theorem map_any (l : List AM.Ar) (v : Value) (page pages q : Int) (w : World) (h : Has w v l) (hf : AllFit l) (hp : I64 page) (hn : I64 pages) :
    Calls Try.prog 56 #[v, .int .i64 page, .int .i64 pages, .int .i64 q] w fun e w' => ∃ r, e = .returned (.tuple #[r, .int .i64 (mapN l page pages q).2]) ∧ Has w' r (mapN l page pages q).1 ∧ Below w.heap.size w w' :=
  (map_own l v page pages q w h hf hp hn).mono fun e w' ⟨r, h1, h2, h3⟩ => ⟨r, h1, h2.has, h3⟩
end Go.Proofs.Yteieplodndfbhaa.AW
namespace Go.Proofs.Yteieplodndfbhaa.AW
open Go.RowKit
set_option linter.unusedVariables false
set_option maxRecDepth 100000

def b1 : AM.Ar := ⟨3, 4, 1, true⟩
def c1 : AM.Ar := ⟨3, 1, 1, true⟩
def c2 : AM.Ar := ⟨4, 1, 0, true⟩
def c3 : AM.Ar := ⟨5, 2, 1, true⟩
theorem e1 : mapN [] 3 4 1 = ([b1], 0) := by kernel_rfl
theorem e2 : protectN [b1] 4 1 0 = ([c1, c2, c3], 0) := by kernel_rfl
theorem e3 : unmapN [c1, c2, c3] 5 9 = ([c1, c2], 0) := by kernel_rfl
theorem e4 : AM.findN [c1, c2] 4 = (c2, true) := by kernel_rfl
theorem e5 : AM.totalN [c1, c2] = 2 := by kernel_rfl

theorem fit_all {l : List AM.Ar} (h : ∀ a ∈ l, AM.Fits a) (hn : l.length ≤ 140737488351232) : AllFit l := by
  refine ⟨fun i hi => ?_, hn⟩
  have e : AM.at_ l i = l[i] := by simp [AM.at_, hi]
  rw [e]
  exact h _ (List.getElem_mem hi)
theorem fit_nil : AllFit [] := fit_all (fun a h => by simp at h) (by simp)
theorem fit_b1 : AllFit [b1] := fit_all (fun a h => by simp at h; subst h; exact ⟨⟨by decide, by decide⟩, ⟨by decide, by decide⟩, by decide, by decide⟩) (by simp)
theorem fit_c : AllFit [c1, c2, c3] := fit_all (fun a h => by
  simp at h
  rcases h with rfl | rfl | rfl <;> exact ⟨⟨by decide, by decide⟩, ⟨by decide, by decide⟩, by decide, by decide⟩) (by simp)
theorem fit_d : AllFit [c1, c2] := fit_all (fun a h => by
  simp at h
  rcases h with rfl | rfl <;> exact ⟨⟨by decide, by decide⟩, ⟨by decide, by decide⟩, by decide, by decide⟩) (by simp)

theorem neg_tmod (c n : Int) (h0 : c < 0) (h1 : 1 ≤ n) : 0 ≤ -(c + 1).tmod n ∧ -(c + 1).tmod n < n := by
  have e : -(c + 1).tmod n = (-(c + 1)) % n := by
    rw [← Int.neg_tmod, Int.tmod_eq_emod_of_nonneg (by omega)]
  rw [e]
  exact ⟨Int.emod_nonneg _ (by omega), Int.emod_lt_of_pos _ (by omega)⟩
end Go.Proofs.Yteieplodndfbhaa.AW
