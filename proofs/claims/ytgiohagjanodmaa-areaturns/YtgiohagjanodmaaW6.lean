import Derived.Test.YtgiohagjanodmaaW5
import Derived.Test.YtgiohagjanodmaaM2
import Derived.Deep.WholeRow
import Derived.Laws.CopyOwn
namespace Go.Proofs.Ytgiohagjanodmaa.W
open Go.RowKit
set_option linter.unusedVariables false

theorem zero56 : (Try.prog.info? 56).map (fun i => (i.zero, i.size)) = some (some (.agg (M.cellsL (fun _ => M.off))), 768) := by kernel_rfl
theorem size56 : (Try.prog.info? 56).map (·.size) = some 768 := (zero_of_info zero56).2
theorem zv56 (w : World) : (zeroValue 56).run Try.prog w = .ok (.agg (M.cellsL (fun _ => M.off))) w := (zero_of_info zero56).1 w

set_option maxHeartbeats 2000000 in
theorem spread_some (l : List M.Ar) (b off cap : Nat) (w : World) (hl : M.Lie w b off l) (hc : M.checkN l = 0) :
    Calls Try.prog 34 #[.slice (some ⟨b, off, none⟩) l.length cap] w fun e w' => e = .returned (.agg (M.cellsL (M.spreadN l))) ∧ Below w.heap.size w w' := by
  have hlen := M.good_len l hc
  have HK : Hid (M.checkN l = 0) := hc
  clear hc
  obtain ⟨Z, hZ⟩ : ∃ Z, Z = M.cellsL (fun _ => M.off) := ⟨_, rfl⟩
  have hz := zv56
  rw [← hZ] at hz
  have HZ : Hid (Z = M.cellsL (fun _ => M.off)) := hZ
  clear hZ
  go_enter Try.func34, Try.ntmps34
  go_wp2
  go_loopw [9] (fun i wr => ∃ k : Nat, k ≤ l.length ∧ i = .int .i64 k ∧ wr.heap[w.heap.size]? = some (.cells Z 56 (0, 0)) ∧ wr.heap[w.heap.size + 1]? = some (.cells (M.cellsL (M.spreadTo l k)) 56 (0, 0)) ∧ Below w.heap.size w wr) (fun i _ => l.length - (intOf i).toNat)
  case atStart =>
    refine ⟨0, by omega, rfl, B.alloc (B.new w Z 56) _, ?_, ((Below.refl _ _).alloc (Nat.le_refl _) _).alloc (by simp) _⟩
    show _ = some (Obj.cells (M.cellsL (fun _ => M.off)) 56 (0, 0))
    rw [← HZ.out]
    have := B.new (w.alloc (.cells Z 56)) Z 56
    simpa using this
  case round =>
    obtain ⟨k, hk, rfl, hR, hA, hb⟩ := hrel
    have HR : Hid (wr.heap[w.heap.size]? = some (.cells Z 56 (0, 0))) := hR
    have HA : Hid (wr.heap[w.heap.size + 1]? = some (.cells (M.cellsL (M.spreadTo l k)) 56 (0, 0))) := hA
    have HB : Hid (Below w.heap.size w wr) := hb
    have hsz : w.heap.size + 2 ≤ wr.heap.size := B.isLt hA
    by_cases hlt : k < l.length
    · obtain ⟨c0, c1, c2, c3⟩ := hl.below hb k hlt
      have hbk := M.okAt_pages l k (M.good_pages l HK.out k hlt)
      obtain ⟨a, ha⟩ : ∃ a, a = M.at_ l k := ⟨_, rfl⟩
      rw [← ha] at c0 c1 c2 c3 hbk
      have HAr : Hid (a = M.at_ l k) := ha
      clear ha hR hA hb
      obtain ⟨wo, hwo⟩ : ∃ wo : World, wo = wr := ⟨_, rfl⟩
      subst hwo
      have hcx : (k : Int) < (l.length : Int) := by omega
      go_wp2
      go_loopw [6] (fun t wi => ∃ n : Nat, a.page ≤ (n : Int) ∧ (n : Int) ≤ a.page + a.pages ∧ t = .int .i64 n ∧ wi.heap[w.heap.size]? = some (.cells Z 56 (0, 0)) ∧ wi.heap[w.heap.size + 1]? = some (.cells (M.cellsL (M.layTo (M.spreadTo l k) a n)) 56 (0, 0)) ∧ wi.heap[wo.heap.size]? = some (.cells #[.int .i64 a.page, .int .i64 a.pages, .int .i64 a.prot, .bool a.zero] 24 (0, 0)) ∧ Below w.heap.size w wi) (fun t _ => (a.page + a.pages - intOf t).toNat)
      case atStart =>
        refine ⟨a.page.toNat, by omega, by omega, by rw [Int.toNat_of_nonneg (by omega)], B.alloc HR.out _, ?_, B.new _ _ _, HB.out.alloc HB.out.size _⟩
        rw [Int.toNat_of_nonneg (by omega), M.layTo_begin]
        exact B.alloc HA.out _
      case round =>
        obtain ⟨n, hn1, hn2, rfl, iR, iA, iX, ib⟩ := hrel
        have IR : Hid (wr.heap[w.heap.size]? = some (.cells Z 56 (0, 0))) := iR
        have IA : Hid (wr.heap[w.heap.size + 1]? = some (.cells (M.cellsL (M.layTo (M.spreadTo l k) a n)) 56 (0, 0))) := iA
        have IB : Hid (Below w.heap.size w wr) := ib
        have x0 := B.cell iX 0 rfl
        have x1 := B.cell iX 1 rfl
        have x2 := B.cell iX 2 rfl
        have x3 := B.cell iX 3 rfl
        have IX : Hid (wr.heap[wo.heap.size]? = some (.cells #[.int .i64 a.page, .int .i64 a.pages, .int .i64 a.prot, .bool a.zero] 24 (0, 0))) := iX
        have hxs : wo.heap.size < wr.heap.size := B.isLt iX
        clear iR iA iX ib
        by_cases hin : (n : Int) < a.page + a.pages
        · go_wp2_with fail
          refine (end_any _ _ _ _ _ (by omega) (by omega)).mono ?_
          rintro e w2 ⟨rfl, hb2⟩
          have jR := B.below IR.out hb2 (by omega)
          have jA := B.below IA.out hb2 (by omega)
          have jX := B.below IX.out hb2 hxs
          have y0 := B.cell jX 0 rfl
          have y1 := B.cell jX 1 rfl
          have y2 := B.cell jX 2 rfl
          have y3 := B.cell jX 3 rfl
          have z0 := B.cell jA (n * 3) (M.cellsL_get0 _ n (by omega))
          have z1 := B.cell jA (n * 3 + 1) (M.cellsL_get1 _ n (by omega))
          have z2 := B.cell jA (n * 3 + 2) (M.cellsL_get2 _ n (by omega))
          have zf := B.free jA
          have JR : Hid (w2.heap[w.heap.size]? = some (.cells Z 56 (0, 0))) := jR
          have JA : Hid (w2.heap[w.heap.size + 1]? = some (.cells (M.cellsL (M.layTo (M.spreadTo l k) a n)) 56 (0, 0))) := jA
          have JX : Hid (w2.heap[wo.heap.size]? = some (.cells #[.int .i64 a.page, .int .i64 a.pages, .int .i64 a.prot, .bool a.zero] 24 (0, 0))) := jX
          have JB : Hid (Below w.heap.size w w2) := IB.out.trans (hb2.mono IB.out.size)
          clear jR jA jX hb2 x0 x1 x2 x3
          have hn256 : (n : Int) < 256 := by omega
          go_wp2
          go_roundw
          case rel =>
            refine ⟨n + 1, by omega, by omega, by go_num, B.other (B.other (B.other JR.out _ _ _ (by omega)) _ _ _ (by omega)) _ _ _ (by omega), ?_, B.other (B.other (B.other JX.out _ _ _ (by omega)) _ _ _ (by omega)) _ _ _ (by omega), ((JB.out.setCell (by simp) _).setCell (by simp) _).setCell (by simp) _⟩
            have h := B.set (B.set (B.set JA.out (n * 3) (.bool true)) (n * 3 + 1) (.int .i64 a.prot)) (n * 3 + 2) (.bool a.zero)
            rw [M.cellsL_set (M.layTo (M.spreadTo l k) a n) n ⟨true, a.prot, a.zero⟩ (by omega), M.layTo_step _ _ _ hn1] at h
            rw [show ((n + 1 : Nat) : Int) = (n : Int) + 1 from by omega]
            exact h
          case measure => simp [intOf]; omega
        · have hend : (n : Int) = a.page + a.pages := by omega
          have HE : Hid ((n : Int) = a.page + a.pages) := hend
          clear hend
          go_wp2_with fail
          refine (end_any _ _ _ _ _ (by omega) (by omega)).mono ?_
          rintro e w2 ⟨rfl, hb2⟩
          have JR : Hid (w2.heap[w.heap.size]? = some (.cells Z 56 (0, 0))) := B.below IR.out hb2 (by omega)
          have JA : Hid (w2.heap[w.heap.size + 1]? = some (.cells (M.cellsL (M.layTo (M.spreadTo l k) a n)) 56 (0, 0))) := B.below IA.out hb2 (by omega)
          have JB : Hid (Below w.heap.size w w2) := IB.out.trans (hb2.mono IB.out.size)
          clear hb2 x0 x1 x2 x3
          go_wp2
          go_roundw
          case rel =>
            refine ⟨k + 1, by omega, by go_num, JR.out, ?_, JB.out⟩
            have h := JA.out
            rw [HE.out] at h
            show _ = some (Obj.cells (M.cellsL (M.layTo (M.spreadTo l k) (M.at_ l k) (M.at_ l k).last0)) 56 (0, 0))
            rw [← HAr.out]
            exact h
          case measure => simp [intOf]; omega
    · obtain rfl : k = l.length := by omega
      have hZs : Z.size = 768 := by rw [HZ.out]; exact M.cellsL_size _
      clear hR hA hb
      go_wp2_with (first | (refine wpList_load_row rfl 56 _ rfl (w.heap.size + 1) rfl 56 _ (0, 0) _ HA.out Try.underlying56 rfl (by rw [M.cellsL_size]; exact size56) ?_) | (refine wpList_store_row rfl 56 _ _ rfl w.heap.size _ rfl rfl 56 Z HR.out (by rw [M.cellsL_size]; exact size56) (by rw [hZs, M.cellsL_size]) (M.cellsL_one _) ?_))
      exact bodyPost_ret (v := .agg (M.cellsL (M.spreadTo l l.length))) (results_cell_row rfl _ _ w.heap.size 56 _ (0, 0) _ rfl (setRow_heap _ _ _ _ 56 (0, 0) HR.out) Try.underlying56 rfl (by rw [M.cellsL_size]; exact size56)) rfl ⟨rfl, below_setRow HB.out (Nat.le_refl _) _⟩

set_option maxHeartbeats 1000000 in
theorem spread_nil (ao : Option Addr) (cap : Nat) (w : World) :
    Calls Try.prog 34 #[.slice ao 0 cap] w fun e w' => e = .returned (.agg (M.cellsL (M.spreadN []))) ∧ Below w.heap.size w w' := by
  obtain ⟨Z, hZ⟩ : ∃ Z, Z = M.cellsL (fun _ => M.off) := ⟨_, rfl⟩
  have hz := zv56
  rw [← hZ] at hz
  have hZs : Z.size = 768 := by rw [hZ]; exact M.cellsL_size _
  have HZ : Hid (Z = M.cellsL (fun _ => M.off)) := hZ
  clear hZ
  have HR : Hid (((w.alloc (.cells Z 56)).alloc (.cells Z 56)).heap[w.heap.size]? = some (.cells Z 56 (0, 0))) := B.alloc (B.new w Z 56) _
  have HA : Hid (((w.alloc (.cells Z 56)).alloc (.cells Z 56)).heap[w.heap.size + 1]? = some (.cells Z 56 (0, 0))) := by
    have := B.new (w.alloc (.cells Z 56)) Z 56
    show _ = _
    simpa using this
  go_enter Try.func34, Try.ntmps34
  go_wp2
  refine wp_loop_rounds 1 ?_
  rw [rounds_succ]
  go_wp2_with (first | (refine wpList_load_row rfl 56 _ rfl (w.heap.size + 1) rfl 56 _ (0, 0) _ HA.out Try.underlying56 rfl (by rw [hZs]; exact size56) ?_) | (refine wpList_store_row rfl 56 _ _ rfl w.heap.size _ rfl rfl 56 Z HR.out (by rw [hZs]; exact size56) rfl (by rw [HZ.out]; exact M.cellsL_one _) ?_))
  exact bodyPost_ret (v := .agg Z) (results_cell_row rfl _ _ w.heap.size 56 _ (0, 0) _ rfl (setRow_heap _ _ _ _ 56 (0, 0) HR.out) Try.underlying56 rfl (by rw [hZs]; exact size56)) rfl ⟨by rw [HZ.out]; rfl, below_setRow (((Below.refl _ _).alloc (Nat.le_refl _) _).alloc (by simp) _) (Nat.le_refl _) _⟩
end Go.Proofs.Ytgiohagjanodmaa.W
