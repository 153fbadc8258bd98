import Derived.Test.YtgiohagjanodmaaA
import Derived.Test.YtgiohagjanodmaaM7
namespace Go.Proofs.Ytgiohagjanodmaa.W
open Go.RowKit
set_option linter.unusedVariables false

theorem within_any (n a b : Int) (w : World) : Calls Try.prog 22 #[.int .i64 n, .int .i64 a, .int .i64 b] w fun e w' => e = .returned (.bool (decide (a ≤ n ∧ n ≤ b))) ∧ w = w' := by
  by_cases h1 : a ≤ n
  · by_cases h2 : n ≤ b
    · rw [show decide (a ≤ n ∧ n ≤ b) = true from decide_eq_true ⟨h1, h2⟩]
      go_enter Try.func22, Try.ntmps22
      go_wp2
      go_ret
      exact ⟨rfl, rfl⟩
    · have d : decide (n ≤ b) = false := decide_eq_false h2
      rw [show decide (a ≤ n ∧ n ≤ b) = false from decide_eq_false (by omega)]
      go_enter Try.func22, Try.ntmps22
      go_wp2
      go_ret
      exact ⟨rfl, rfl⟩
  · have d : decide (a ≤ n) = false := decide_eq_false h1
    rw [show decide (a ≤ n ∧ n ≤ b) = false from decide_eq_false (by omega)]
    go_enter Try.func22, Try.ntmps22
    go_wp2
    go_ret
    exact ⟨rfl, rfl⟩

theorem mark_any (p : Int) (z : Bool) (w : World) (h : 0 ≤ p ∧ p ≤ 3) : Calls Try.prog 33 #[.int .i64 p, .bool z] w fun e w' => e = .returned (.int .i64 (M.mark p z)) ∧ w = w' := by
  cases z
  · go_enter Try.func33, Try.ntmps33
    go_wp2
    go_ret
    exact ⟨ret_int (by simp [M.mark]), rfl⟩
  · go_enter Try.func33, Try.ntmps33
    go_wp2
    go_ret
    exact ⟨ret_int (by simp [M.mark]), rfl⟩

theorem zero42 : (Try.prog.info? 42).map (fun i => (i.zero, i.size)) = some (some (.agg (M.cellsB (fun _ => 0))), 256) := by kernel_rfl
theorem size42 : (Try.prog.info? 42).map (·.size) = some 256 := (zero_of_info zero42).2
theorem zv42 (w : World) : (zeroValue 42).run Try.prog w = .ok (.agg (M.cellsB (fun _ => 0))) w := (zero_of_info zero42).1 w

/-- the board of what pages have -/
def bd (F : Nat → M.St) : Array Value := M.cellsB (fun n => M.enc (F n))
theorem bd_size (F : Nat → M.St) : (bd F).size = 256 := M.cellsB_size _

def Board (l : List M.Ar) (C : Array Value) : Prop := C.size = 256 ∧ C.all (·.oneCell') = true ∧ (M.riseTo l l.length = true → C = bd (M.spreadN l))

set_option maxRecDepth 100000 in
set_option maxHeartbeats 2000000 in
theorem boardOf_some (l : List M.Ar) (b off cap : Nat) (w : World) (hl : M.Lie w b off l) (he : M.eachTo l l.length = true) (hn : l.length ≤ 255) :
    Calls Try.prog 23 #[.slice (some ⟨b, off, none⟩) l.length cap] w fun e w' => ∃ C, e = .returned (.tuple #[.agg C, .bool (M.riseTo l l.length)]) ∧ Board l C ∧ Below w.heap.size w w' := by
  have HE : Hid (M.eachTo l l.length = true) := he
  clear he
  obtain ⟨Z, hZ⟩ : ∃ Z, Z = M.cellsB (fun _ => 0) := ⟨_, rfl⟩
  have hz := zv42
  rw [← hZ] at hz
  have HZ : Hid (Z = M.cellsB (fun _ => 0)) := hZ
  have hZs : Z.size = 256 := by rw [hZ]; exact M.cellsB_size _
  clear hZ
  go_enter Try.func23, Try.ntmps23
  go_wp2
  go_loopw [5, 6] (fun la i wr => ∃ (k : Nat) (t : Int), k ≤ l.length ∧ i = .int .i64 k ∧ la = .int .i64 t ∧ (k = 0 ∧ t = 0 ∨ 0 < k ∧ t = (M.at_ l (k - 1)).page + (M.at_ l (k - 1)).pages - 1) ∧ M.riseTo l k = true ∧ wr.heap[w.heap.size]? = some (.cells Z 42 (0, 0)) ∧ wr.heap[w.heap.size + 1]? = some (.cells (bd (M.spreadTo l k)) 42 (0, 0)) ∧ Below w.heap.size w wr) (fun _ i _ => l.length - (intOf i).toNat)
  case atStart =>
    refine ⟨0, 0, by omega, rfl, rfl, .inl ⟨rfl, rfl⟩, rfl, B.alloc (B.new w Z 42) _, ?_, ((Below.refl _ _).alloc (Nat.le_refl _) _).alloc (by simp) _⟩
    have e : bd (M.spreadTo l 0) = Z := by rw [HZ.out]; rfl
    rw [e]
    have := B.new (w.alloc (.cells Z 42)) Z 42
    simpa using this
  case round =>
    obtain ⟨k, t, hk, rfl, rfl, hlast, hri, hR, hA, hb⟩ := hrel
    have HR : Hid (wr.heap[w.heap.size]? = some (.cells Z 42 (0, 0))) := hR
    have HA : Hid (wr.heap[w.heap.size + 1]? = some (.cells (bd (M.spreadTo l k)) 42 (0, 0))) := hA
    have HB : Hid (Below w.heap.size w wr) := hb
    have HRI : Hid (M.riseTo l k = true) := hri
    have HL : Hid (k = 0 ∧ t = 0 ∨ 0 < k ∧ t = (M.at_ l (k - 1)).page + (M.at_ l (k - 1)).pages - 1) := hlast
    have hsz : w.heap.size + 2 ≤ wr.heap.size := B.isLt hA
    by_cases hlt : k < l.length
    · obtain ⟨c0, c1, c2, c3⟩ := hl.below hb k hlt
      have hek := M.each_at l _ HE.out k hlt
      have hbk := (M.pagesB_iff _ _).1 hek.1
      have hpr : 0 ≤ (M.at_ l k).prot ∧ (M.at_ l k).prot ≤ 3 := of_decide_eq_true hek.2
      have hrk : Hid (M.riseAt l k = decide (t < (M.at_ l k).page)) := by
        show _ = _
        unfold M.riseAt
        rcases HL.out with ⟨h1, h2⟩ | ⟨h1, h2⟩
        · rw [h1, h2]
          rw [h1] at hbk
          simp
          omega
        · have hk0 : (k == 0) = false := by simp; omega
          rw [hk0, Bool.false_or]
          unfold M.Ar.last0
          rw [h2]
          exact decide_eq_decide.2 (by omega)
      obtain ⟨a, ha⟩ : ∃ a, a = M.at_ l k := ⟨_, rfl⟩
      rw [← ha] at c0 c1 c2 c3 hbk hrk hpr
      have HAr : Hid (a = M.at_ l k) := ha
      clear ha hR hA hb hlast hri hek
      have hkl : (k : Int) < (l.length : Int) := by omega
      by_cases hup : t < a.page
      · have hup' : ¬ a.page ≤ t := by omega
        obtain ⟨wo, hwo⟩ : ∃ wo : World, wo = wr := ⟨_, rfl⟩
        subst hwo
        go_wp2
        go_loopw [8] (fun tt wi => ∃ n : Nat, a.page ≤ (n : Int) ∧ (n : Int) ≤ a.page + a.pages ∧ tt = .int .i64 n ∧ wi.heap[w.heap.size]? = some (.cells Z 42 (0, 0)) ∧ wi.heap[w.heap.size + 1]? = some (.cells (bd (M.layTo (M.spreadTo l k) a n)) 42 (0, 0)) ∧ wi.heap[wo.heap.size]? = some (.cells #[.int .i64 a.page, .int .i64 a.pages, .int .i64 a.prot, .bool a.zero] 24 (0, 0)) ∧ Below w.heap.size w wi) (fun tt _ => (a.page + a.pages - intOf tt).toNat)
        case atStart =>
          refine ⟨a.page.toNat, by omega, by omega, by rw [Int.toNat_of_nonneg (by omega)], B.alloc HR.out _, ?_, B.new _ _ _, HB.out.alloc HB.out.size _⟩
          rw [Int.toNat_of_nonneg (by omega), M.layTo_begin]
          exact B.alloc HA.out _
        case round =>
          obtain ⟨n, hn1, hn2, rfl, iR, iA, iX, ib⟩ := hrel
          have IR : Hid (wr.heap[w.heap.size]? = some (.cells Z 42 (0, 0))) := iR
          have IA : Hid (wr.heap[w.heap.size + 1]? = some (.cells (bd (M.layTo (M.spreadTo l k) a n)) 42 (0, 0))) := iA
          have IB : Hid (Below w.heap.size w wr) := ib
          have x0 := B.cell iX 0 rfl
          have x1 := B.cell iX 1 rfl
          have x2 := B.cell iX 2 rfl
          have x3 := B.cell iX 3 rfl
          have IX : Hid (wr.heap[wo.heap.size]? = some (.cells #[.int .i64 a.page, .int .i64 a.pages, .int .i64 a.prot, .bool a.zero] 24 (0, 0))) := iX
          clear iR iX ib
          by_cases hin : (n : Int) < a.page + a.pages
          · have hin' : (n : Int) ≤ a.page + a.pages - 1 := by omega
            have z0 := B.cell iA n (M.cellsB_get _ n (by omega))
            have zf := B.free iA
            have hn256 : (n : Int) < 256 := by omega
            clear iA
            go_wp2_with (first | (go_at_call 33; refine (mark_any _ _ _ hpr).mono ?_; rintro e w' ⟨rfl, rfl⟩))
            go_roundw
            case rel =>
              refine ⟨n + 1, by omega, by omega, by go_num, B.other IR.out _ _ _ (by omega), ?_, B.other IX.out _ _ _ (by omega), IB.out.setCell (by simp) _⟩
              have h := B.set IA.out n (.int .i64 (M.mark a.prot a.zero))
              have e : (bd (M.layTo (M.spreadTo l k) a n)).setIfInBounds n (.int .i64 (M.mark a.prot a.zero)) = bd (M.layTo (M.spreadTo l k) a ((n : Int) + 1)) := by
                unfold bd
                rw [M.cellsB_set _ n _ (by omega), ← M.layTo_step _ _ _ hn1]
                congr 1
                exact M.updI_enc (M.layTo (M.spreadTo l k) a n) n ⟨true, a.prot, a.zero⟩
              rw [e] at h
              rw [show ((n + 1 : Nat) : Int) = (n : Int) + 1 from by omega]
              exact h
            case measure => simp [intOf]; omega
          · have hin' : ¬ (n : Int) ≤ a.page + a.pages - 1 := by omega
            have hE2 : Hid ((n : Int) = a.page + a.pages) := by show _ = _; omega
            clear iA
            go_wp2
            go_roundw
            case rel =>
              refine ⟨k + 1, a.page + a.pages - 1, by omega, by go_num, rfl, .inr ⟨by omega, ?_⟩, ?_, IR.out, ?_, IB.out⟩
              · rw [Nat.add_sub_cancel, ← HAr.out]
              · simp only [M.riseTo, HRI.out, hrk.out, Bool.true_and]
                exact decide_eq_true hup
              · have h := IA.out
                rw [hE2.out] at h
                show _ = some (Obj.cells (bd (M.layTo (M.spreadTo l k) (M.at_ l k) (M.at_ l k).last0)) 42 (0, 0))
                rw [← HAr.out]
                exact h
            case measure => simp [intOf]; omega
      · have hup' : a.page ≤ t := by omega
        have hbad : Hid (M.riseTo l l.length = false) := by
          show _ = _
          have e : M.riseTo l (k + 1) = false := by simp only [M.riseTo, HRI.out, hrk.out, Bool.true_and]; exact decide_eq_false hup
          exact M.riseTo_false l (k + 1) l.length (by omega) e
        have hA2 : Hid ((wr.alloc (.cells #[.int .i64 a.page, .int .i64 a.pages, .int .i64 a.prot, .bool a.zero] 24)).heap[w.heap.size + 1]? = some (.cells (bd (M.spreadTo l k)) 42 (0, 0))) := B.alloc HA.out _
        have hR2 : Hid ((wr.alloc (.cells #[.int .i64 a.page, .int .i64 a.pages, .int .i64 a.prot, .bool a.zero] 24)).heap[w.heap.size]? = some (.cells Z 42 (0, 0))) := B.alloc HR.out _
        have hB2 : Hid (Below w.heap.size w (wr.alloc (.cells #[.int .i64 a.page, .int .i64 a.pages, .int .i64 a.prot, .bool a.zero] 24))) := HB.out.alloc HB.out.size _
        obtain ⟨D, hD⟩ : ∃ D, D = bd (M.spreadTo l k) := ⟨_, rfl⟩
        have hDs : D.size = 256 := by rw [hD]; exact bd_size _
        have hDo : D.all (·.oneCell') = true := by rw [hD]; exact M.cellsB_one _
        rw [← hD] at hA2
        clear hD
        go_wp2_with (first | (refine wpList_load_row rfl 42 _ rfl (w.heap.size + 1) rfl 42 D (0, 0) _ hA2.out Try.underlying42 rfl (by rw [hDs]; exact size42) ?_) | (refine wpList_store_row rfl 42 _ _ rfl w.heap.size D rfl rfl 42 Z hR2.out (by rw [hDs]; exact size42) (by rw [hZs, hDs]) hDo ?_))
        have hfin := setRow_heap _ _ _ D 42 (0, 0) hR2.out
        have hld := run_loadVar_row (P := Try.prog) _ _ 42 42 D (0, 0) _ hfin Try.underlying42 rfl (by rw [hDs]; exact size42)
        refine bodyPost_ret (v := .tuple #[.agg D, .bool false]) ?_ rfl ⟨D, by rw [hbad.out], ⟨hDs, hDo, fun h => (by rw [hbad.out] at h; cases h)⟩, below_setRow hB2.out (Nat.le_refl _) _⟩
        rw [results_cell_tmp rfl]
        simp [asAddr, Result.andThen, hld]
    · obtain rfl : k = l.length := by omega
      obtain ⟨D, hD⟩ : ∃ D, D = bd (M.spreadTo l l.length) := ⟨_, rfl⟩
      have hDs : D.size = 256 := by rw [hD]; exact bd_size _
      have hDo : D.all (·.oneCell') = true := by rw [hD]; exact M.cellsB_one _
      have HD : Hid (D = bd (M.spreadTo l l.length)) := hD
      rw [← hD] at HA
      clear hD hR hA hb hlast hri
      go_wp2_with (first | (refine wpList_load_row rfl 42 _ rfl (w.heap.size + 1) rfl 42 D (0, 0) _ HA.out Try.underlying42 rfl (by rw [hDs]; exact size42) ?_) | (refine wpList_store_row rfl 42 _ _ rfl w.heap.size D rfl rfl 42 Z HR.out (by rw [hDs]; exact size42) (by rw [hZs, hDs]) hDo ?_))
      have hfin := setRow_heap _ _ _ D 42 (0, 0) HR.out
      have hld := run_loadVar_row (P := Try.prog) _ _ 42 42 D (0, 0) _ hfin Try.underlying42 rfl (by rw [hDs]; exact size42)
      refine bodyPost_ret (v := .tuple #[.agg D, .bool true]) ?_ rfl ⟨D, by rw [HRI.out], ⟨hDs, hDo, fun _ => HD.out⟩, below_setRow HB.out (Nat.le_refl _) _⟩
      rw [results_cell_tmp rfl]
      simp [asAddr, Result.andThen, hld]
end Go.Proofs.Ytgiohagjanodmaa.W
