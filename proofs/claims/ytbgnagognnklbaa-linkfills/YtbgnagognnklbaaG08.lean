import Derived.Test.YtbgnagognnklbaaG07
import Derived.Test.YtbgnagognnklbaaG02
import Derived.Test.YtbgnagognnklbaaG04
import Derived.Deep.WholeRow
import Derived.Laws.CopyOwn
namespace Go.Proofs.Ytbgnagognnklbaa.AW
open Go.RowKit
set_option linter.unusedVariables false
set_option maxRecDepth 100000

/-- the values of an area -/
def cellsOf (a : AM.Ar) : Array Value := #[.int .i64 a.page, .int .i64 a.pages, .int .i64 a.prot, .bool a.zero]

set_option maxHeartbeats 2000000 in
theorem find_some (l : List AM.Ar) (b off cap : Nat) (p : Int) (w : World) (hl : AM.Lie w b off l) (hf : ∀ i, i < l.length → AM.Fits (AM.at_ l i)) (hn : l.length ≤ 140737488351232) :
    Calls Try.prog 66 #[.slice (some ⟨b, off, none⟩) l.length cap, .int .i64 p] w fun e w' => e = .returned (.tuple #[.agg (cellsOf (AM.findN l p).1), .bool (AM.findN l p).2]) ∧ Below w.heap.size w w' := by
  have hbz : Below w.heap.size w (w.alloc (.cells #[.int .i64 0, .int .i64 0, .int .i64 0, .bool false] 99)) := (Below.refl _ _).alloc (Nat.le_refl _) _
  by_cases hc : AM.checkN l = 0
  · have hlen := AM.good_len l hc
    have HC : Hid (AM.findN l p = AM.findFrom l p) := by show _ = _; simp [AM.findN, hc]
    have HK : Hid (AM.checkN l = 0) := hc
    go_enter Try.func66, Try.ntmps66
    go_wp2_with fail
    refine (check_some l b off cap _ (hl.below hbz) hf hn).mono ?_
    rintro e w1 ⟨rfl, hb1⟩
    rw [hc]
    clear hc
    go_wp2
    go_loopw [14] (fun i wr => ∃ k : Nat, k ≤ l.length ∧ i = .int .i64 k ∧ (∀ j, j < k → AM.hit (AM.at_ l j) p = false) ∧ Below (w.heap.size + 1) (w.alloc (.cells #[.int .i64 0, .int .i64 0, .int .i64 0, .bool false] 99)) wr) (fun i _ => l.length - (intOf i).toNat)
    case atStart => exact ⟨0, by omega, rfl, fun j hj => by omega, hb1.mono (by simp)⟩
    case round =>
      obtain ⟨k, hk, rfl, hno, hb⟩ := hrel
      have HN : Hid (∀ j, j < k → AM.hit (AM.at_ l j) p = false) := hno
      have hbw : Hid (Below w.heap.size w wr) := hbz.trans (hb.mono (Nat.le_succ _))
      have hsz : w.heap.size + 1 ≤ wr.heap.size := by have := hb.size; simpa using this
      have hlr := hl.below hbw.out
      have hR : wr.heap[w.heap.size]? = some (.cells #[.int .i64 0, .int .i64 0, .int .i64 0, .bool false] 99 (0, 0)) := B.below (B.new w _ _) hb (Nat.lt_succ_self _)
      have HR : Hid (wr.heap[w.heap.size]? = some (.cells #[.int .i64 0, .int .i64 0, .int .i64 0, .bool false] 99 (0, 0))) := hR
      have HB : Hid (Below (w.heap.size + 1) (w.alloc (.cells #[.int .i64 0, .int .i64 0, .int .i64 0, .bool false] 99)) wr) := hb
      clear hR hb
      clear hno hb1
      by_cases hlt : k < l.length
      · obtain ⟨c0, c1, c2, c3⟩ := hlr k hlt
        have hbk := AM.okAt_pages l k (AM.good_pages l HK.out k hlt)
        obtain ⟨a, ha⟩ : ∃ a, a = AM.at_ l k := ⟨_, rfl⟩
        rw [← ha] at c0 c1 c2 c3 hbk
        have HA : Hid (a = AM.at_ l k) := ha
        clear ha
        by_cases h1 : a.page ≤ p
        · by_cases h2 : p < a.page + a.pages
          · have hres : Hid (AM.findN l p = (a, true)) := by
              show _ = _
              rw [HC.out, AM.findFrom_at l p k hlt HN.out (by rw [← HA.out]; simp [AM.hit, AM.Ar.last0, h1, h2]), ← HA.out]
            go_wp2_with fail
            refine (end_any _ _ _ _ _ (by omega) (by omega)).mono ?_
            rintro e w2 ⟨rfl, hb2⟩
            have hA2 := B.below (B.new wr #[.int .i64 a.page, .int .i64 a.pages, .int .i64 a.prot, .bool a.zero] 99) hb2 (by simp)
            have hR2 := B.below (B.alloc HR.out _) hb2 (by simp; omega)
            have s0 := B.cell hA2 0 rfl
            have s1 := B.cell hA2 1 rfl
            have s2 := B.cell hA2 2 rfl
            have s3 := B.cell hA2 3 rfl
            have t0 := B.cell hR2 0 rfl
            have t1 := B.cell hR2 1 rfl
            have t2 := B.cell hR2 2 rfl
            have t3 := B.cell hR2 3 rfl
            have u0 := B.free hR2
            have hbe : Hid (Below w.heap.size w w2) := (hbw.out.alloc hbw.out.size _).trans (hb2.mono (by simp; omega))
            have hsz2 : wr.heap.size + 1 ≤ w2.heap.size := by have := hb2.size; simpa using this
            clear hb2 hA2 hR2
            go_wp2
            exact bodyPost_ret (v := .tuple #[.agg #[.int .i64 a.page, .int .i64 a.pages, .int .i64 a.prot, .bool a.zero], .bool true]) (by simp [results, Try.results66, go_sem, t0, t1, t2, t3]) rfl ⟨by rw [hres.out]; rfl, (((hbe.out.setCell (Nat.le_refl _) _).setCell (Nat.le_refl _) _).setCell (Nat.le_refl _) _).setCell (Nat.le_refl _) _⟩
          · have hmiss : Hid (AM.hit (AM.at_ l k) p = false) := by show _ = _; rw [← HA.out]; unfold AM.hit AM.Ar.last0; exact decide_eq_false (by omega)
            go_wp2_with fail
            refine (end_any _ _ _ _ _ (by omega) (by omega)).mono ?_
            rintro e w2 ⟨rfl, hb2⟩
            have hbe : Hid (Below (w.heap.size + 1) (w.alloc (.cells #[.int .i64 0, .int .i64 0, .int .i64 0, .bool false] 99)) w2) := (HB.out.alloc (by omega) _).trans (hb2.mono (by simp; omega))
            clear hb2
            go_wp2
            go_roundw
            case rel => exact ⟨k + 1, by omega, by go_num, fun j hj => if e : j = k then by rw [e]; exact hmiss.out else HN.out j (by omega), hbe.out⟩
            case measure => simp [intOf]; omega
        · have hmiss : Hid (AM.hit (AM.at_ l k) p = false) := by show _ = _; rw [← HA.out]; unfold AM.hit AM.Ar.last0; exact decide_eq_false (by omega)
          have d1 : decide (a.page ≤ p) = false := by simp; omega
          go_wp2
          go_roundw
          case rel => exact ⟨k + 1, by omega, by go_num, fun j hj => if e : j = k then by rw [e]; exact hmiss.out else HN.out j (by omega), HB.out.alloc (by omega) _⟩
          case measure => simp [intOf]; omega
      · obtain rfl : k = l.length := by omega
        have hres : Hid (AM.findN l p = (AM.nil, false)) := by show _ = _; rw [HC.out, AM.findFrom_none l p HN.out]
        have t0 := B.cell HR.out 0 rfl
        have t1 := B.cell HR.out 1 rfl
        have t2 := B.cell HR.out 2 rfl
        have t3 := B.cell HR.out 3 rfl
        have u0 := B.free HR.out
        go_wp2
        exact bodyPost_ret (v := .tuple #[.agg #[.int .i64 0, .int .i64 0, .int .i64 0, .bool false], .bool false]) (by simp [results, Try.results66, go_sem, t0, t1, t2, t3]) rfl ⟨by rw [hres.out]; rfl, (((hbw.out.setCell (Nat.le_refl _) _).setCell (Nat.le_refl _) _).setCell (Nat.le_refl _) _).setCell (Nat.le_refl _) _⟩
  · have HC : Hid (AM.findN l p = (AM.nil, false)) := by show _ = _; simp [AM.findN, hc]
    have hc' : (AM.checkN l != 0) = true := by simpa using hc
    go_enter Try.func66, Try.ntmps66
    go_wp2_with fail
    refine (check_some l b off cap _ (hl.below hbz) hf hn).mono ?_
    rintro e w1 ⟨rfl, hb1⟩
    have hR1 := B.below (B.new w #[.int .i64 0, .int .i64 0, .int .i64 0, .bool false] 99) hb1 (by simp)
    have t0 := B.cell hR1 0 rfl
    have t1 := B.cell hR1 1 rfl
    have t2 := B.cell hR1 2 rfl
    have t3 := B.cell hR1 3 rfl
    have u0 := B.free hR1
    clear hR1
    go_wp2
    exact bodyPost_ret (v := .tuple #[.agg #[.int .i64 0, .int .i64 0, .int .i64 0, .bool false], .bool false]) (by simp [results, Try.results66, go_sem, t0, t1, t2, t3]) rfl ⟨by rw [HC.out]; rfl, ((((hbz.trans (hb1.mono (by simp))).setCell (Nat.le_refl _) _).setCell (Nat.le_refl _) _).setCell (Nat.le_refl _) _).setCell (Nat.le_refl _) _⟩

theorem find_nil (ao : Option Addr) (cap : Nat) (p : Int) (w : World) :
    Calls Try.prog 66 #[.slice ao 0 cap, .int .i64 p] w fun e w' => e = .returned (.tuple #[.agg (cellsOf (AM.findN [] p).1), .bool (AM.findN [] p).2]) ∧ Below w.heap.size w w' := by
  have hbz : Below w.heap.size w (w.alloc (.cells #[.int .i64 0, .int .i64 0, .int .i64 0, .bool false] 99)) := (Below.refl _ _).alloc (Nat.le_refl _) _
  have e2 : AM.checkN [] = 0 := by decide
  go_enter Try.func66, Try.ntmps66
  go_wp2_with fail
  refine (check_nil ao cap _).mono ?_
  rintro e w1 ⟨rfl, hb1⟩
  rw [e2]
  have hR1 := B.below (B.new w #[.int .i64 0, .int .i64 0, .int .i64 0, .bool false] 99) hb1 (by simp)
  have t0 := B.cell hR1 0 rfl
  have t1 := B.cell hR1 1 rfl
  have t2 := B.cell hR1 2 rfl
  have t3 := B.cell hR1 3 rfl
  have u0 := B.free hR1
  clear hR1
  go_wp2
  refine wp_loop_rounds 1 ?_
  rw [rounds_succ]
  go_wp2
  exact bodyPost_ret (v := .tuple #[.agg #[.int .i64 0, .int .i64 0, .int .i64 0, .bool false], .bool false]) (by simp [results, Try.results66, go_sem, t0, t1, t2, t3]) rfl ⟨rfl, ((((hbz.trans (hb1.mono (by simp))).setCell (Nat.le_refl _) _).setCell (Nat.le_refl _) _).setCell (Nat.le_refl _) _).setCell (Nat.le_refl _) _⟩
end Go.Proofs.Ytbgnagognnklbaa.AW
namespace Go.Proofs.Ytbgnagognnklbaa.AW
open Go.RowKit
set_option linter.unusedVariables false
set_option maxRecDepth 100000

theorem zero56 : (Try.prog.info? 162).map (fun i => (i.zero, i.size)) = some (some (.agg (AM.cellsL (fun _ => AM.off))), 768) := by kernel_rfl
theorem size56 : (Try.prog.info? 162).map (·.size) = some 768 := (zero_of_info zero56).2
theorem zv56 (w : World) : (zeroValue 162).run Try.prog w = .ok (.agg (AM.cellsL (fun _ => AM.off))) w := (zero_of_info zero56).1 w

set_option maxHeartbeats 2000000 in
theorem spread_some (l : List AM.Ar) (b off cap : Nat) (w : World) (hl : AM.Lie w b off l) (hc : AM.checkN l = 0) :
    Calls Try.prog 96 #[.slice (some ⟨b, off, none⟩) l.length cap] w fun e w' => e = .returned (.agg (AM.cellsL (AM.spreadN l))) ∧ Below w.heap.size w w' := by
  have hlen := AM.good_len l hc
  have HK : Hid (AM.checkN l = 0) := hc
  clear hc
  obtain ⟨Z, hZ⟩ : ∃ Z, Z = AM.cellsL (fun _ => AM.off) := ⟨_, rfl⟩
  have hz := zv56
  rw [← hZ] at hz
  have HZ : Hid (Z = AM.cellsL (fun _ => AM.off)) := hZ
  clear hZ
  go_enter Try.func96, Try.ntmps96
  go_wp2
  go_loopw [9] (fun i wr => ∃ k : Nat, k ≤ l.length ∧ i = .int .i64 k ∧ wr.heap[w.heap.size]? = some (.cells Z 162 (0, 0)) ∧ wr.heap[w.heap.size + 1]? = some (.cells (AM.cellsL (AM.spreadTo l k)) 162 (0, 0)) ∧ Below w.heap.size w wr) (fun i _ => l.length - (intOf i).toNat)
  case atStart =>
    refine ⟨0, by omega, rfl, B.alloc (B.new w Z 162) _, ?_, ((Below.refl _ _).alloc (Nat.le_refl _) _).alloc (by simp) _⟩
    show _ = some (Obj.cells (AM.cellsL (fun _ => AM.off)) 162 (0, 0))
    rw [← HZ.out]
    have := B.new (w.alloc (.cells Z 162)) Z 162
    simpa using this
  case round =>
    obtain ⟨k, hk, rfl, hR, hA, hb⟩ := hrel
    have HR : Hid (wr.heap[w.heap.size]? = some (.cells Z 162 (0, 0))) := hR
    have HA : Hid (wr.heap[w.heap.size + 1]? = some (.cells (AM.cellsL (AM.spreadTo l k)) 162 (0, 0))) := hA
    have HB : Hid (Below w.heap.size w wr) := hb
    have hsz : w.heap.size + 2 ≤ wr.heap.size := B.isLt hA
    by_cases hlt : k < l.length
    · obtain ⟨c0, c1, c2, c3⟩ := hl.below hb k hlt
      have hbk := AM.okAt_pages l k (AM.good_pages l HK.out k hlt)
      obtain ⟨a, ha⟩ : ∃ a, a = AM.at_ l k := ⟨_, rfl⟩
      rw [← ha] at c0 c1 c2 c3 hbk
      have HAr : Hid (a = AM.at_ l k) := ha
      clear ha hR hA hb
      obtain ⟨wo, hwo⟩ : ∃ wo : World, wo = wr := ⟨_, rfl⟩
      subst hwo
      have hcx : (k : Int) < (l.length : Int) := by omega
      go_wp2
      go_loopw [6] (fun t wi => ∃ n : Nat, a.page ≤ (n : Int) ∧ (n : Int) ≤ a.page + a.pages ∧ t = .int .i64 n ∧ wi.heap[w.heap.size]? = some (.cells Z 162 (0, 0)) ∧ wi.heap[w.heap.size + 1]? = some (.cells (AM.cellsL (AM.layTo (AM.spreadTo l k) a n)) 162 (0, 0)) ∧ wi.heap[wo.heap.size]? = some (.cells #[.int .i64 a.page, .int .i64 a.pages, .int .i64 a.prot, .bool a.zero] 99 (0, 0)) ∧ Below w.heap.size w wi) (fun t _ => (a.page + a.pages - intOf t).toNat)
      case atStart =>
        refine ⟨a.page.toNat, by omega, by omega, by rw [Int.toNat_of_nonneg (by omega)], B.alloc HR.out _, ?_, B.new _ _ _, HB.out.alloc HB.out.size _⟩
        rw [Int.toNat_of_nonneg (by omega), AM.layTo_begin]
        exact B.alloc HA.out _
      case round =>
        obtain ⟨n, hn1, hn2, rfl, iR, iA, iX, ib⟩ := hrel
        have IR : Hid (wr.heap[w.heap.size]? = some (.cells Z 162 (0, 0))) := iR
        have IA : Hid (wr.heap[w.heap.size + 1]? = some (.cells (AM.cellsL (AM.layTo (AM.spreadTo l k) a n)) 162 (0, 0))) := iA
        have IB : Hid (Below w.heap.size w wr) := ib
        have x0 := B.cell iX 0 rfl
        have x1 := B.cell iX 1 rfl
        have x2 := B.cell iX 2 rfl
        have x3 := B.cell iX 3 rfl
        have IX : Hid (wr.heap[wo.heap.size]? = some (.cells #[.int .i64 a.page, .int .i64 a.pages, .int .i64 a.prot, .bool a.zero] 99 (0, 0))) := iX
        have hxs : wo.heap.size < wr.heap.size := B.isLt iX
        clear iR iA iX ib
        by_cases hin : (n : Int) < a.page + a.pages
        · go_wp2_with fail
          refine (end_any _ _ _ _ _ (by omega) (by omega)).mono ?_
          rintro e w2 ⟨rfl, hb2⟩
          have jR := B.below IR.out hb2 (by omega)
          have jA := B.below IA.out hb2 (by omega)
          have jX := B.below IX.out hb2 hxs
          have y0 := B.cell jX 0 rfl
          have y1 := B.cell jX 1 rfl
          have y2 := B.cell jX 2 rfl
          have y3 := B.cell jX 3 rfl
          have z0 := B.cell jA (n * 3) (AM.cellsL_get0 _ n (by omega))
          have z1 := B.cell jA (n * 3 + 1) (AM.cellsL_get1 _ n (by omega))
          have z2 := B.cell jA (n * 3 + 2) (AM.cellsL_get2 _ n (by omega))
          have zf := B.free jA
          have JR : Hid (w2.heap[w.heap.size]? = some (.cells Z 162 (0, 0))) := jR
          have JA : Hid (w2.heap[w.heap.size + 1]? = some (.cells (AM.cellsL (AM.layTo (AM.spreadTo l k) a n)) 162 (0, 0))) := jA
          have JX : Hid (w2.heap[wo.heap.size]? = some (.cells #[.int .i64 a.page, .int .i64 a.pages, .int .i64 a.prot, .bool a.zero] 99 (0, 0))) := jX
          have JB : Hid (Below w.heap.size w w2) := IB.out.trans (hb2.mono IB.out.size)
          clear jR jA jX hb2 x0 x1 x2 x3
          have hn256 : (n : Int) < 256 := by omega
          go_wp2
          go_roundw
          case rel =>
            refine ⟨n + 1, by omega, by omega, by go_num, B.other (B.other (B.other JR.out _ _ _ (by omega)) _ _ _ (by omega)) _ _ _ (by omega), ?_, B.other (B.other (B.other JX.out _ _ _ (by omega)) _ _ _ (by omega)) _ _ _ (by omega), ((JB.out.setCell (by simp) _).setCell (by simp) _).setCell (by simp) _⟩
            have h := B.set (B.set (B.set JA.out (n * 3) (.bool true)) (n * 3 + 1) (.int .i64 a.prot)) (n * 3 + 2) (.bool a.zero)
            rw [AM.cellsL_set (AM.layTo (AM.spreadTo l k) a n) n ⟨true, a.prot, a.zero⟩ (by omega), AM.layTo_step _ _ _ hn1] at h
            rw [show ((n + 1 : Nat) : Int) = (n : Int) + 1 from by omega]
            exact h
          case measure => simp [intOf]; omega
        · have hend : (n : Int) = a.page + a.pages := by omega
          have HE : Hid ((n : Int) = a.page + a.pages) := hend
          clear hend
          go_wp2_with fail
          refine (end_any _ _ _ _ _ (by omega) (by omega)).mono ?_
          rintro e w2 ⟨rfl, hb2⟩
          have JR : Hid (w2.heap[w.heap.size]? = some (.cells Z 162 (0, 0))) := B.below IR.out hb2 (by omega)
          have JA : Hid (w2.heap[w.heap.size + 1]? = some (.cells (AM.cellsL (AM.layTo (AM.spreadTo l k) a n)) 162 (0, 0))) := B.below IA.out hb2 (by omega)
          have JB : Hid (Below w.heap.size w w2) := IB.out.trans (hb2.mono IB.out.size)
          clear hb2 x0 x1 x2 x3
          go_wp2
          go_roundw
          case rel =>
            refine ⟨k + 1, by omega, by go_num, JR.out, ?_, JB.out⟩
            have h := JA.out
            rw [HE.out] at h
            show _ = some (Obj.cells (AM.cellsL (AM.layTo (AM.spreadTo l k) (AM.at_ l k) (AM.at_ l k).last0)) 162 (0, 0))
            rw [← HAr.out]
            exact h
          case measure => simp [intOf]; omega
    · obtain rfl : k = l.length := by omega
      have hZs : Z.size = 768 := by rw [HZ.out]; exact AM.cellsL_size _
      clear hR hA hb
      go_wp2_with (first | (refine wpList_load_row rfl 162 _ rfl (w.heap.size + 1) rfl 162 _ (0, 0) _ HA.out Try.underlying162 rfl (by rw [AM.cellsL_size]; exact size56) ?_) | (refine wpList_store_row rfl 162 _ _ rfl w.heap.size _ rfl rfl 162 Z HR.out (by rw [AM.cellsL_size]; exact size56) (by rw [hZs, AM.cellsL_size]) (AM.cellsL_one _) ?_))
      exact bodyPost_ret (v := .agg (AM.cellsL (AM.spreadTo l l.length))) (results_cell_row rfl _ _ w.heap.size 162 _ (0, 0) _ rfl (setRow_heap _ _ _ _ 162 (0, 0) HR.out) Try.underlying162 rfl (by rw [AM.cellsL_size]; exact size56)) rfl ⟨rfl, below_setRow HB.out (Nat.le_refl _) _⟩

set_option maxHeartbeats 1000000 in
theorem spread_nil (ao : Option Addr) (cap : Nat) (w : World) :
    Calls Try.prog 96 #[.slice ao 0 cap] w fun e w' => e = .returned (.agg (AM.cellsL (AM.spreadN []))) ∧ Below w.heap.size w w' := by
  obtain ⟨Z, hZ⟩ : ∃ Z, Z = AM.cellsL (fun _ => AM.off) := ⟨_, rfl⟩
  have hz := zv56
  rw [← hZ] at hz
  have hZs : Z.size = 768 := by rw [hZ]; exact AM.cellsL_size _
  have HZ : Hid (Z = AM.cellsL (fun _ => AM.off)) := hZ
  clear hZ
  have HR : Hid (((w.alloc (.cells Z 162)).alloc (.cells Z 162)).heap[w.heap.size]? = some (.cells Z 162 (0, 0))) := B.alloc (B.new w Z 162) _
  have HA : Hid (((w.alloc (.cells Z 162)).alloc (.cells Z 162)).heap[w.heap.size + 1]? = some (.cells Z 162 (0, 0))) := by
    have := B.new (w.alloc (.cells Z 162)) Z 162
    show _ = _
    simpa using this
  go_enter Try.func96, Try.ntmps96
  go_wp2
  refine wp_loop_rounds 1 ?_
  rw [rounds_succ]
  go_wp2_with (first | (refine wpList_load_row rfl 162 _ rfl (w.heap.size + 1) rfl 162 _ (0, 0) _ HA.out Try.underlying162 rfl (by rw [hZs]; exact size56) ?_) | (refine wpList_store_row rfl 162 _ _ rfl w.heap.size _ rfl rfl 162 Z HR.out (by rw [hZs]; exact size56) rfl (by rw [HZ.out]; exact AM.cellsL_one _) ?_))
  exact bodyPost_ret (v := .agg Z) (results_cell_row rfl _ _ w.heap.size 162 _ (0, 0) _ rfl (setRow_heap _ _ _ _ 162 (0, 0) HR.out) Try.underlying162 rfl (by rw [hZs]; exact size56)) rfl ⟨by rw [HZ.out]; rfl, below_setRow (((Below.refl _ _).alloc (Nat.le_refl _) _).alloc (by simp) _) (Nat.le_refl _) _⟩
end Go.Proofs.Ytbgnagognnklbaa.AW
