import Derived.Test.YtbgnagognnklbaaG24
import Derived.Test.YtbgnagognnklbaaG25
namespace Go.Proofs.Ytbgnagognnklbaa.AW
open Go.RowKit
set_option linter.unusedVariables false
set_option maxRecDepth 100000

theorem within_any (n a b : Int) (w : World) : Calls Try.prog 37 #[.int .i64 n, .int .i64 a, .int .i64 b] w fun e w' => e = .returned (.bool (decide (a ≤ n ∧ n ≤ b))) ∧ w = w' := by
  by_cases h1 : a ≤ n
  · by_cases h2 : n ≤ b
    · rw [show decide (a ≤ n ∧ n ≤ b) = true from decide_eq_true ⟨h1, h2⟩]
      go_enter Try.func37, Try.ntmps37
      go_wp2
      go_ret
      exact ⟨rfl, rfl⟩
    · have d : decide (n ≤ b) = false := decide_eq_false h2
      rw [show decide (a ≤ n ∧ n ≤ b) = false from decide_eq_false (by omega)]
      go_enter Try.func37, Try.ntmps37
      go_wp2
      go_ret
      exact ⟨rfl, rfl⟩
  · have d : decide (a ≤ n) = false := decide_eq_false h1
    rw [show decide (a ≤ n ∧ n ≤ b) = false from decide_eq_false (by omega)]
    go_enter Try.func37, Try.ntmps37
    go_wp2
    go_ret
    exact ⟨rfl, rfl⟩

theorem mark_any (p : Int) (z : Bool) (w : World) (h : 0 ≤ p ∧ p ≤ 3) : Calls Try.prog 28 #[.int .i64 p, .bool z] w fun e w' => e = .returned (.int .i64 (AM.mark p z)) ∧ w = w' := by
  cases z
  · go_enter Try.func28, Try.ntmps28
    go_wp2
    go_ret
    exact ⟨ret_int (by simp [AM.mark]), rfl⟩
  · go_enter Try.func28, Try.ntmps28
    go_wp2
    go_ret
    exact ⟨ret_int (by simp [AM.mark]), rfl⟩

theorem zero42 : (Try.prog.info? 77).map (fun i => (i.zero, i.size)) = some (some (.agg (AM.cellsB (fun _ => 0))), 256) := by kernel_rfl
theorem size42 : (Try.prog.info? 77).map (·.size) = some 256 := (zero_of_info zero42).2
theorem zv42 (w : World) : (zeroValue 77).run Try.prog w = .ok (.agg (AM.cellsB (fun _ => 0))) w := (zero_of_info zero42).1 w

/-- the board of what pages have -/
def bd (F : Nat → AM.St) : Array Value := AM.cellsB (fun n => AM.enc (F n))
theorem bd_size (F : Nat → AM.St) : (bd F).size = 256 := AM.cellsB_size _

def Board (l : List AM.Ar) (C : Array Value) : Prop := C.size = 256 ∧ C.all (·.oneCell') = true ∧ (AM.riseTo l l.length = true → C = bd (AM.spreadN l))

set_option maxHeartbeats 2000000 in
theorem boardOf_some (l : List AM.Ar) (b off cap : Nat) (w : World) (hl : AM.Lie w b off l) (he : AM.eachTo l l.length = true) (hn : l.length ≤ 255) :
    Calls Try.prog 67 #[.slice (some ⟨b, off, none⟩) l.length cap] w fun e w' => ∃ C, e = .returned (.tuple #[.agg C, .bool (AM.riseTo l l.length)]) ∧ Board l C ∧ Below w.heap.size w w' := by
  have HE : Hid (AM.eachTo l l.length = true) := he
  clear he
  obtain ⟨Z, hZ⟩ : ∃ Z, Z = AM.cellsB (fun _ => 0) := ⟨_, rfl⟩
  have hz := zv42
  rw [← hZ] at hz
  have HZ : Hid (Z = AM.cellsB (fun _ => 0)) := hZ
  have hZs : Z.size = 256 := by rw [hZ]; exact AM.cellsB_size _
  clear hZ
  go_enter Try.func67, Try.ntmps67
  go_wp2
  go_loopw [5, 6] (fun la i wr => ∃ (k : Nat) (t : Int), k ≤ l.length ∧ i = .int .i64 k ∧ la = .int .i64 t ∧ (k = 0 ∧ t = 0 ∨ 0 < k ∧ t = (AM.at_ l (k - 1)).page + (AM.at_ l (k - 1)).pages - 1) ∧ AM.riseTo l k = true ∧ wr.heap[w.heap.size]? = some (.cells Z 77 (0, 0)) ∧ wr.heap[w.heap.size + 1]? = some (.cells (bd (AM.spreadTo l k)) 77 (0, 0)) ∧ Below w.heap.size w wr) (fun _ i _ => l.length - (intOf i).toNat)
  case atStart =>
    refine ⟨0, 0, by omega, rfl, rfl, .inl ⟨rfl, rfl⟩, rfl, B.alloc (B.new w Z 77) _, ?_, ((Below.refl _ _).alloc (Nat.le_refl _) _).alloc (by simp) _⟩
    have e : bd (AM.spreadTo l 0) = Z := by rw [HZ.out]; rfl
    rw [e]
    have := B.new (w.alloc (.cells Z 77)) Z 77
    simpa using this
  case round =>
    obtain ⟨k, t, hk, rfl, rfl, hlast, hri, hR, hA, hb⟩ := hrel
    have HR : Hid (wr.heap[w.heap.size]? = some (.cells Z 77 (0, 0))) := hR
    have HA : Hid (wr.heap[w.heap.size + 1]? = some (.cells (bd (AM.spreadTo l k)) 77 (0, 0))) := hA
    have HB : Hid (Below w.heap.size w wr) := hb
    have HRI : Hid (AM.riseTo l k = true) := hri
    have HL : Hid (k = 0 ∧ t = 0 ∨ 0 < k ∧ t = (AM.at_ l (k - 1)).page + (AM.at_ l (k - 1)).pages - 1) := hlast
    have hsz : w.heap.size + 2 ≤ wr.heap.size := B.isLt hA
    by_cases hlt : k < l.length
    · obtain ⟨c0, c1, c2, c3⟩ := hl.below hb k hlt
      have hek := AM.each_at l _ HE.out k hlt
      have hbk := (AM.pagesB_iff _ _).1 hek.1
      have hpr : 0 ≤ (AM.at_ l k).prot ∧ (AM.at_ l k).prot ≤ 3 := of_decide_eq_true hek.2
      have hrk : Hid (AM.riseAt l k = decide (t < (AM.at_ l k).page)) := by
        show _ = _
        unfold AM.riseAt
        rcases HL.out with ⟨h1, h2⟩ | ⟨h1, h2⟩
        · rw [h1, h2]
          rw [h1] at hbk
          simp
          omega
        · have hk0 : (k == 0) = false := by simp; omega
          rw [hk0, Bool.false_or]
          unfold AM.Ar.last0
          rw [h2]
          exact decide_eq_decide.2 (by omega)
      obtain ⟨a, ha⟩ : ∃ a, a = AM.at_ l k := ⟨_, rfl⟩
      rw [← ha] at c0 c1 c2 c3 hbk hrk hpr
      have HAr : Hid (a = AM.at_ l k) := ha
      clear ha hR hA hb hlast hri hek
      have hkl : (k : Int) < (l.length : Int) := by omega
      by_cases hup : t < a.page
      · have hup' : ¬ a.page ≤ t := by omega
        obtain ⟨wo, hwo⟩ : ∃ wo : World, wo = wr := ⟨_, rfl⟩
        subst hwo
        go_wp2
        go_loopw [8] (fun tt wi => ∃ n : Nat, a.page ≤ (n : Int) ∧ (n : Int) ≤ a.page + a.pages ∧ tt = .int .i64 n ∧ wi.heap[w.heap.size]? = some (.cells Z 77 (0, 0)) ∧ wi.heap[w.heap.size + 1]? = some (.cells (bd (AM.layTo (AM.spreadTo l k) a n)) 77 (0, 0)) ∧ wi.heap[wo.heap.size]? = some (.cells #[.int .i64 a.page, .int .i64 a.pages, .int .i64 a.prot, .bool a.zero] 99 (0, 0)) ∧ Below w.heap.size w wi) (fun tt _ => (a.page + a.pages - intOf tt).toNat)
        case atStart =>
          refine ⟨a.page.toNat, by omega, by omega, by rw [Int.toNat_of_nonneg (by omega)], B.alloc HR.out _, ?_, B.new _ _ _, HB.out.alloc HB.out.size _⟩
          rw [Int.toNat_of_nonneg (by omega), AM.layTo_begin]
          exact B.alloc HA.out _
        case round =>
          obtain ⟨n, hn1, hn2, rfl, iR, iA, iX, ib⟩ := hrel
          have IR : Hid (wr.heap[w.heap.size]? = some (.cells Z 77 (0, 0))) := iR
          have IA : Hid (wr.heap[w.heap.size + 1]? = some (.cells (bd (AM.layTo (AM.spreadTo l k) a n)) 77 (0, 0))) := iA
          have IB : Hid (Below w.heap.size w wr) := ib
          have x0 := B.cell iX 0 rfl
          have x1 := B.cell iX 1 rfl
          have x2 := B.cell iX 2 rfl
          have x3 := B.cell iX 3 rfl
          have IX : Hid (wr.heap[wo.heap.size]? = some (.cells #[.int .i64 a.page, .int .i64 a.pages, .int .i64 a.prot, .bool a.zero] 99 (0, 0))) := iX
          clear iR iX ib
          by_cases hin : (n : Int) < a.page + a.pages
          · have hin' : (n : Int) ≤ a.page + a.pages - 1 := by omega
            have z0 := B.cell iA n (AM.cellsB_get _ n (by omega))
            have zf := B.free iA
            have hn256 : (n : Int) < 256 := by omega
            clear iA
            go_wp2_with (first | (go_at_call 28; refine (mark_any _ _ _ hpr).mono ?_; rintro e w' ⟨rfl, rfl⟩))
            go_roundw
            case rel =>
              refine ⟨n + 1, by omega, by omega, by go_num, B.other IR.out _ _ _ (by omega), ?_, B.other IX.out _ _ _ (by omega), IB.out.setCell (by simp) _⟩
              have h := B.set IA.out n (.int .i64 (AM.mark a.prot a.zero))
              have e : (bd (AM.layTo (AM.spreadTo l k) a n)).setIfInBounds n (.int .i64 (AM.mark a.prot a.zero)) = bd (AM.layTo (AM.spreadTo l k) a ((n : Int) + 1)) := by
                unfold bd
                rw [AM.cellsB_set _ n _ (by omega), ← AM.layTo_step _ _ _ hn1]
                congr 1
                exact AM.updI_enc (AM.layTo (AM.spreadTo l k) a n) n ⟨true, a.prot, a.zero⟩
              rw [e] at h
              rw [show ((n + 1 : Nat) : Int) = (n : Int) + 1 from by omega]
              exact h
            case measure => simp [intOf]; omega
          · have hin' : ¬ (n : Int) ≤ a.page + a.pages - 1 := by omega
            have hE2 : Hid ((n : Int) = a.page + a.pages) := by show _ = _; omega
            clear iA
            go_wp2
            go_roundw
            case rel =>
              refine ⟨k + 1, a.page + a.pages - 1, by omega, by go_num, rfl, .inr ⟨by omega, ?_⟩, ?_, IR.out, ?_, IB.out⟩
              · rw [Nat.add_sub_cancel, ← HAr.out]
              · simp only [AM.riseTo, HRI.out, hrk.out, Bool.true_and]
                exact decide_eq_true hup
              · have h := IA.out
                rw [hE2.out] at h
                show _ = some (Obj.cells (bd (AM.layTo (AM.spreadTo l k) (AM.at_ l k) (AM.at_ l k).last0)) 77 (0, 0))
                rw [← HAr.out]
                exact h
            case measure => simp [intOf]; omega
      · have hup' : a.page ≤ t := by omega
        have hbad : Hid (AM.riseTo l l.length = false) := by
          show _ = _
          have e : AM.riseTo l (k + 1) = false := by simp only [AM.riseTo, HRI.out, hrk.out, Bool.true_and]; exact decide_eq_false hup
          exact AM.riseTo_false l (k + 1) l.length (by omega) e
        have hA2 : Hid ((wr.alloc (.cells #[.int .i64 a.page, .int .i64 a.pages, .int .i64 a.prot, .bool a.zero] 99)).heap[w.heap.size + 1]? = some (.cells (bd (AM.spreadTo l k)) 77 (0, 0))) := B.alloc HA.out _
        have hR2 : Hid ((wr.alloc (.cells #[.int .i64 a.page, .int .i64 a.pages, .int .i64 a.prot, .bool a.zero] 99)).heap[w.heap.size]? = some (.cells Z 77 (0, 0))) := B.alloc HR.out _
        have hB2 : Hid (Below w.heap.size w (wr.alloc (.cells #[.int .i64 a.page, .int .i64 a.pages, .int .i64 a.prot, .bool a.zero] 99))) := HB.out.alloc HB.out.size _
        obtain ⟨D, hD⟩ : ∃ D, D = bd (AM.spreadTo l k) := ⟨_, rfl⟩
        have hDs : D.size = 256 := by rw [hD]; exact bd_size _
        have hDo : D.all (·.oneCell') = true := by rw [hD]; exact AM.cellsB_one _
        rw [← hD] at hA2
        clear hD
        go_wp2_with (first | (refine wpList_load_row rfl 77 _ rfl (w.heap.size + 1) rfl 77 D (0, 0) _ hA2.out Try.underlying77 rfl (by rw [hDs]; exact size42) ?_) | (refine wpList_store_row rfl 77 _ _ rfl w.heap.size D rfl rfl 77 Z hR2.out (by rw [hDs]; exact size42) (by rw [hZs, hDs]) hDo ?_))
        have hfin := setRow_heap _ _ _ D 77 (0, 0) hR2.out
        have hld := run_loadVar_row (P := Try.prog) _ _ 77 77 D (0, 0) _ hfin Try.underlying77 rfl (by rw [hDs]; exact size42)
        refine bodyPost_ret (v := .tuple #[.agg D, .bool false]) ?_ rfl ⟨D, by rw [hbad.out], ⟨hDs, hDo, fun h => (by rw [hbad.out] at h; cases h)⟩, below_setRow hB2.out (Nat.le_refl _) _⟩
        rw [results_cell_tmp rfl]
        simp [asAddr, Result.andThen, hld]
    · obtain rfl : k = l.length := by omega
      obtain ⟨D, hD⟩ : ∃ D, D = bd (AM.spreadTo l l.length) := ⟨_, rfl⟩
      have hDs : D.size = 256 := by rw [hD]; exact bd_size _
      have hDo : D.all (·.oneCell') = true := by rw [hD]; exact AM.cellsB_one _
      have HD : Hid (D = bd (AM.spreadTo l l.length)) := hD
      rw [← hD] at HA
      clear hD hR hA hb hlast hri
      go_wp2_with (first | (refine wpList_load_row rfl 77 _ rfl (w.heap.size + 1) rfl 77 D (0, 0) _ HA.out Try.underlying77 rfl (by rw [hDs]; exact size42) ?_) | (refine wpList_store_row rfl 77 _ _ rfl w.heap.size D rfl rfl 77 Z HR.out (by rw [hDs]; exact size42) (by rw [hZs, hDs]) hDo ?_))
      have hfin := setRow_heap _ _ _ D 77 (0, 0) HR.out
      have hld := run_loadVar_row (P := Try.prog) _ _ 77 77 D (0, 0) _ hfin Try.underlying77 rfl (by rw [hDs]; exact size42)
      refine bodyPost_ret (v := .tuple #[.agg D, .bool true]) ?_ rfl ⟨D, by rw [HRI.out], ⟨hDs, hDo, fun _ => HD.out⟩, below_setRow HB.out (Nat.le_refl _) _⟩
      rw [results_cell_tmp rfl]
      simp [asAddr, Result.andThen, hld]
end Go.Proofs.Ytbgnagognnklbaa.AW
