import Derived.Test.YteieplodndfbhaaGK10
import Derived.Test.YteieplodndfbhaaGK07
import Derived.Test.YteieplodndfbhaaGK08
import Derived.Deep.RegionLaw
import Derived.Test.YteieplodndfbhaaGK02
import Derived.Test.YteieplodndfbhaaGK03
import Derived.Shelf.Strings.Repeat
import Derived.Test.YteieplodndfbhaaProg
import Derived.Test.YteieplodndfbhaaGK05
namespace Go.Proofs.Yteieplodndfbhaa.AW
open Go.RowKit
set_option linter.unusedVariables false
set_option maxRecDepth 100000

theorem within_any (n a b : Int) (w : World) : Calls Try.prog 37 #[.int .i64 n, .int .i64 a, .int .i64 b] w fun e w' => e = .returned (.bool (decide (a ≤ n ∧ n ≤ b))) ∧ w = w' := by
  by_cases h1 : a ≤ n
  · by_cases h2 : n ≤ b
    · rw [show decide (a ≤ n ∧ n ≤ b) = true from decide_eq_true ⟨h1, h2⟩]
      go_enter Try.func37, Try.ntmps37
      go_wp2
      go_ret
      exact ⟨rfl, rfl⟩
    · have d : decide (n ≤ b) = false := decide_eq_false h2
      rw [show decide (a ≤ n ∧ n ≤ b) = false from decide_eq_false (by omega)]
      go_enter Try.func37, Try.ntmps37
      go_wp2
      go_ret
      exact ⟨rfl, rfl⟩
  · have d : decide (a ≤ n) = false := decide_eq_false h1
    rw [show decide (a ≤ n ∧ n ≤ b) = false from decide_eq_false (by omega)]
    go_enter Try.func37, Try.ntmps37
    go_wp2
    go_ret
    exact ⟨rfl, rfl⟩

theorem mark_any (p : Int) (z : Bool) (w : World) (h : 0 ≤ p ∧ p ≤ 3) : Calls Try.prog 28 #[.int .i64 p, .bool z] w fun e w' => e = .returned (.int .i64 (AM.mark p z)) ∧ w = w' := by
  cases z
  · go_enter Try.func28, Try.ntmps28
    go_wp2
    go_ret
    exact ⟨ret_int (by simp [AM.mark]), rfl⟩
  · go_enter Try.func28, Try.ntmps28
    go_wp2
    go_ret
    exact ⟨ret_int (by simp [AM.mark]), rfl⟩

theorem zero42 : (Try.prog.info? 77).map (fun i => (i.zero, i.size)) = some (some (.agg (AM.cellsB (fun _ => 0))), 256) := by kernel_rfl
theorem size42 : (Try.prog.info? 77).map (·.size) = some 256 := (zero_of_info zero42).2
theorem zv42 (w : World) : (zeroValue 77).run Try.prog w = .ok (.agg (AM.cellsB (fun _ => 0))) w := (zero_of_info zero42).1 w

/-- the board of what pages have -/
def bd (F : Nat → AM.St) : Array Value := AM.cellsB (fun n => AM.enc (F n))
theorem bd_size (F : Nat → AM.St) : (bd F).size = 256 := AM.cellsB_size _

def Board (l : List AM.Ar) (C : Array Value) : Prop := C.size = 256 ∧ C.all (·.oneCell') = true ∧ (AM.riseTo l l.length = true → C = bd (AM.spreadN l))

set_option maxHeartbeats 2000000 in
theorem boardOf_some (l : List AM.Ar) (b off cap : Nat) (w : World) (hl : AM.Lie w b off l) (he : AM.eachTo l l.length = true) (hn : l.length ≤ 255) :
    Calls Try.prog 67 #[.slice (some ⟨b, off, none⟩) l.length cap] w fun e w' => ∃ C, e = .returned (.tuple #[.agg C, .bool (AM.riseTo l l.length)]) ∧ Board l C ∧ Below w.heap.size w w' := by
  have HE : Hid (AM.eachTo l l.length = true) := he
  clear he
  obtain ⟨Z, hZ⟩ : ∃ Z, Z = AM.cellsB (fun _ => 0) := ⟨_, rfl⟩
  have hz := zv42
  rw [← hZ] at hz
  have HZ : Hid (Z = AM.cellsB (fun _ => 0)) := hZ
  have hZs : Z.size = 256 := by rw [hZ]; exact AM.cellsB_size _
  clear hZ
  go_enter Try.func67, Try.ntmps67
  go_wp2
  go_loopw [5, 6] (fun la i wr => ∃ (k : Nat) (t : Int), k ≤ l.length ∧ i = .int .i64 k ∧ la = .int .i64 t ∧ (k = 0 ∧ t = 0 ∨ 0 < k ∧ t = (AM.at_ l (k - 1)).page + (AM.at_ l (k - 1)).pages - 1) ∧ AM.riseTo l k = true ∧ wr.heap[w.heap.size]? = some (.cells Z 77 (0, 0)) ∧ wr.heap[w.heap.size + 1]? = some (.cells (bd (AM.spreadTo l k)) 77 (0, 0)) ∧ Below w.heap.size w wr) (fun _ i _ => l.length - (intOf i).toNat)
  case atStart =>
    refine ⟨0, 0, by omega, rfl, rfl, .inl ⟨rfl, rfl⟩, rfl, B.alloc (B.new w Z 77) _, ?_, ((Below.refl _ _).alloc (Nat.le_refl _) _).alloc (by simp) _⟩
    have e : bd (AM.spreadTo l 0) = Z := by rw [HZ.out]; rfl
    rw [e]
    have := B.new (w.alloc (.cells Z 77)) Z 77
    simpa using this
  case round =>
    obtain ⟨k, t, hk, rfl, rfl, hlast, hri, hR, hA, hb⟩ := hrel
    have HR : Hid (wr.heap[w.heap.size]? = some (.cells Z 77 (0, 0))) := hR
    have HA : Hid (wr.heap[w.heap.size + 1]? = some (.cells (bd (AM.spreadTo l k)) 77 (0, 0))) := hA
    have HB : Hid (Below w.heap.size w wr) := hb
    have HRI : Hid (AM.riseTo l k = true) := hri
    have HL : Hid (k = 0 ∧ t = 0 ∨ 0 < k ∧ t = (AM.at_ l (k - 1)).page + (AM.at_ l (k - 1)).pages - 1) := hlast
    have hsz : w.heap.size + 2 ≤ wr.heap.size := B.isLt hA
    by_cases hlt : k < l.length
    · obtain ⟨c0, c1, c2, c3⟩ := hl.below hb k hlt
      have hek := AM.each_at l _ HE.out k hlt
      have hbk := (AM.pagesB_iff _ _).1 hek.1
      have hpr : 0 ≤ (AM.at_ l k).prot ∧ (AM.at_ l k).prot ≤ 3 := of_decide_eq_true hek.2
      have hrk : Hid (AM.riseAt l k = decide (t < (AM.at_ l k).page)) := by
        show _ = _
        unfold AM.riseAt
        rcases HL.out with ⟨h1, h2⟩ | ⟨h1, h2⟩
        · rw [h1, h2]
          rw [h1] at hbk
          simp
          omega
        · have hk0 : (k == 0) = false := by simp; omega
          rw [hk0, Bool.false_or]
          unfold AM.Ar.last0
          rw [h2]
          exact decide_eq_decide.2 (by omega)
      obtain ⟨a, ha⟩ : ∃ a, a = AM.at_ l k := ⟨_, rfl⟩
      rw [← ha] at c0 c1 c2 c3 hbk hrk hpr
      have HAr : Hid (a = AM.at_ l k) := ha
      clear ha hR hA hb hlast hri hek
      have hkl : (k : Int) < (l.length : Int) := by omega
      by_cases hup : t < a.page
      · have hup' : ¬ a.page ≤ t := by omega
        obtain ⟨wo, hwo⟩ : ∃ wo : World, wo = wr := ⟨_, rfl⟩
        subst hwo
        go_wp2
        go_loopw [8] (fun tt wi => ∃ n : Nat, a.page ≤ (n : Int) ∧ (n : Int) ≤ a.page + a.pages ∧ tt = .int .i64 n ∧ wi.heap[w.heap.size]? = some (.cells Z 77 (0, 0)) ∧ wi.heap[w.heap.size + 1]? = some (.cells (bd (AM.layTo (AM.spreadTo l k) a n)) 77 (0, 0)) ∧ wi.heap[wo.heap.size]? = some (.cells #[.int .i64 a.page, .int .i64 a.pages, .int .i64 a.prot, .bool a.zero] 99 (0, 0)) ∧ Below w.heap.size w wi) (fun tt _ => (a.page + a.pages - intOf tt).toNat)
        case atStart =>
          refine ⟨a.page.toNat, by omega, by omega, by rw [Int.toNat_of_nonneg (by omega)], B.alloc HR.out _, ?_, B.new _ _ _, HB.out.alloc HB.out.size _⟩
          rw [Int.toNat_of_nonneg (by omega), AM.layTo_begin]
          exact B.alloc HA.out _
        case round =>
          obtain ⟨n, hn1, hn2, rfl, iR, iA, iX, ib⟩ := hrel
          have IR : Hid (wr.heap[w.heap.size]? = some (.cells Z 77 (0, 0))) := iR
          have IA : Hid (wr.heap[w.heap.size + 1]? = some (.cells (bd (AM.layTo (AM.spreadTo l k) a n)) 77 (0, 0))) := iA
          have IB : Hid (Below w.heap.size w wr) := ib
          have x0 := B.cell iX 0 rfl
          have x1 := B.cell iX 1 rfl
          have x2 := B.cell iX 2 rfl
          have x3 := B.cell iX 3 rfl
          have IX : Hid (wr.heap[wo.heap.size]? = some (.cells #[.int .i64 a.page, .int .i64 a.pages, .int .i64 a.prot, .bool a.zero] 99 (0, 0))) := iX
          clear iR iX ib
          by_cases hin : (n : Int) < a.page + a.pages
          · have hin' : (n : Int) ≤ a.page + a.pages - 1 := by omega
            have z0 := B.cell iA n (AM.cellsB_get _ n (by omega))
            have zf := B.free iA
            have hn256 : (n : Int) < 256 := by omega
            clear iA
            go_wp2_with (first | (go_at_call 28; refine (mark_any _ _ _ hpr).mono ?_; rintro e w' ⟨rfl, rfl⟩))
            go_roundw
            case rel =>
              refine ⟨n + 1, by omega, by omega, by go_num, B.other IR.out _ _ _ (by omega), ?_, B.other IX.out _ _ _ (by omega), IB.out.setCell (by simp) _⟩
              have h := B.set IA.out n (.int .i64 (AM.mark a.prot a.zero))
              have e : (bd (AM.layTo (AM.spreadTo l k) a n)).setIfInBounds n (.int .i64 (AM.mark a.prot a.zero)) = bd (AM.layTo (AM.spreadTo l k) a ((n : Int) + 1)) := by
                unfold bd
                rw [AM.cellsB_set _ n _ (by omega), ← AM.layTo_step _ _ _ hn1]
                congr 1
                exact AM.updI_enc (AM.layTo (AM.spreadTo l k) a n) n ⟨true, a.prot, a.zero⟩
              rw [e] at h
              rw [show ((n + 1 : Nat) : Int) = (n : Int) + 1 from by omega]
              exact h
            case measure => simp [intOf]; omega
          · have hin' : ¬ (n : Int) ≤ a.page + a.pages - 1 := by omega
            have hE2 : Hid ((n : Int) = a.page + a.pages) := by show _ = _; omega
            clear iA
            go_wp2
            go_roundw
            case rel =>
              refine ⟨k + 1, a.page + a.pages - 1, by omega, by go_num, rfl, .inr ⟨by omega, ?_⟩, ?_, IR.out, ?_, IB.out⟩
              · rw [Nat.add_sub_cancel, ← HAr.out]
              · simp only [AM.riseTo, HRI.out, hrk.out, Bool.true_and]
                exact decide_eq_true hup
              · have h := IA.out
                rw [hE2.out] at h
                show _ = some (Obj.cells (bd (AM.layTo (AM.spreadTo l k) (AM.at_ l k) (AM.at_ l k).last0)) 77 (0, 0))
                rw [← HAr.out]
                exact h
            case measure => simp [intOf]; omega
      · have hup' : a.page ≤ t := by omega
        have hbad : Hid (AM.riseTo l l.length = false) := by
          show _ = _
          have e : AM.riseTo l (k + 1) = false := by simp only [AM.riseTo, HRI.out, hrk.out, Bool.true_and]; exact decide_eq_false hup
          exact AM.riseTo_false l (k + 1) l.length (by omega) e
        have hA2 : Hid ((wr.alloc (.cells #[.int .i64 a.page, .int .i64 a.pages, .int .i64 a.prot, .bool a.zero] 99)).heap[w.heap.size + 1]? = some (.cells (bd (AM.spreadTo l k)) 77 (0, 0))) := B.alloc HA.out _
        have hR2 : Hid ((wr.alloc (.cells #[.int .i64 a.page, .int .i64 a.pages, .int .i64 a.prot, .bool a.zero] 99)).heap[w.heap.size]? = some (.cells Z 77 (0, 0))) := B.alloc HR.out _
        have hB2 : Hid (Below w.heap.size w (wr.alloc (.cells #[.int .i64 a.page, .int .i64 a.pages, .int .i64 a.prot, .bool a.zero] 99))) := HB.out.alloc HB.out.size _
        obtain ⟨D, hD⟩ : ∃ D, D = bd (AM.spreadTo l k) := ⟨_, rfl⟩
        have hDs : D.size = 256 := by rw [hD]; exact bd_size _
        have hDo : D.all (·.oneCell') = true := by rw [hD]; exact AM.cellsB_one _
        rw [← hD] at hA2
        clear hD
        go_wp2_with (first | (refine wpList_load_row rfl 77 _ rfl (w.heap.size + 1) rfl 77 D (0, 0) _ hA2.out Try.underlying77 rfl (by rw [hDs]; exact size42) ?_) | (refine wpList_store_row rfl 77 _ _ rfl w.heap.size D rfl rfl 77 Z hR2.out (by rw [hDs]; exact size42) (by rw [hZs, hDs]) hDo ?_))
        have hfin := setRow_heap _ _ _ D 77 (0, 0) hR2.out
        have hld := run_loadVar_row (P := Try.prog) _ _ 77 77 D (0, 0) _ hfin Try.underlying77 rfl (by rw [hDs]; exact size42)
        refine bodyPost_ret (v := .tuple #[.agg D, .bool false]) ?_ rfl ⟨D, by rw [hbad.out], ⟨hDs, hDo, fun h => (by rw [hbad.out] at h; cases h)⟩, below_setRow hB2.out (Nat.le_refl _) _⟩
        rw [results_cell_tmp rfl]
        simp [asAddr, Result.andThen, hld]
    · obtain rfl : k = l.length := by omega
      obtain ⟨D, hD⟩ : ∃ D, D = bd (AM.spreadTo l l.length) := ⟨_, rfl⟩
      have hDs : D.size = 256 := by rw [hD]; exact bd_size _
      have hDo : D.all (·.oneCell') = true := by rw [hD]; exact AM.cellsB_one _
      have HD : Hid (D = bd (AM.spreadTo l l.length)) := hD
      rw [← hD] at HA
      clear hD hR hA hb hlast hri
      go_wp2_with (first | (refine wpList_load_row rfl 77 _ rfl (w.heap.size + 1) rfl 77 D (0, 0) _ HA.out Try.underlying77 rfl (by rw [hDs]; exact size42) ?_) | (refine wpList_store_row rfl 77 _ _ rfl w.heap.size D rfl rfl 77 Z HR.out (by rw [hDs]; exact size42) (by rw [hZs, hDs]) hDo ?_))
      have hfin := setRow_heap _ _ _ D 77 (0, 0) HR.out
      have hld := run_loadVar_row (P := Try.prog) _ _ 77 77 D (0, 0) _ hfin Try.underlying77 rfl (by rw [hDs]; exact size42)
      refine bodyPost_ret (v := .tuple #[.agg D, .bool true]) ?_ rfl ⟨D, by rw [HRI.out], ⟨hDs, hDo, fun _ => HD.out⟩, below_setRow HB.out (Nat.le_refl _) _⟩
      rw [results_cell_tmp rfl]
      simp [asAddr, Result.andThen, hld]
end Go.Proofs.Yteieplodndfbhaa.AW
/- The reference: is a sheet right, and what it is filled with. -/
namespace Go.Proofs.Yteieplodndfbhaa.LW
open Go.RowKit
open Go.Proofs.Yteieplodndfbhaa.W (hideC)
set_option linter.unusedVariables false
set_option maxRecDepth 100000

set_option maxHeartbeats 3000000 in
theorem sheetFine_any (s : LM.Sh) (w : World) (h : LM.HasF w s.ao s.fixes) (hf : LM.FitH s) :
    Calls Try.prog 12 #[.agg (LM.cellsH s)] w fun e w' => e = .returned (.bool (LM.sheetB s)) ∧ Below w.heap.size w w' := by
  obtain ⟨f1, f2, f3, f4⟩ := hf
  obtain ⟨pg, dt, fs, ao, cap⟩ := s
  simp only at f1 f2 f3 f4
  unfold M.I64 at f1
  unfold M.Short at f2 f3
  simp only [LM.cellsH]
  have hdl : dt.size ≤ maxLen := by unfold maxLen; omega
  have F4 := hideC f4
  have HH := hideC h
  clear f4 h
  have HB := hideC ((Below.refl w.heap.size w).alloc (Nat.le_refl _) (.cells #[.int .i64 pg, .string dt, .slice ao fs.length cap] 43))
  have BX := hideC (B.new w #[.int .i64 pg, .string dt, .slice ao fs.length cap] 43)
  by_cases h1 : 1 ≤ pg ∧ pg ≤ 255
  · have d1 : decide (1 ≤ pg ∧ pg ≤ 255) = true := decide_eq_true h1
    by_cases h3 : dt.size = 16
    · by_cases h4 : fs.length ≤ 16
      · have h3' : (dt.size : Int) = 16 := by omega
        have h4' : ¬ (16 : Int) < (fs.length : Int) := by omega
        have e : LM.headB ⟨pg, dt, fs, ao, cap⟩ = true := by
          unfold LM.headB
          exact decide_eq_true ⟨h1.1, h1.2, h3⟩
        have E : Hid (LM.sheetB ⟨pg, dt, fs, ao, cap⟩ = LM.fixesTo fs fs.length) := by
          show _ = _
          unfold LM.sheetB
          rw [e, Bool.true_and]
        clear e h3
        go_enter Try.func12, Try.ntmps12
        go_wp2_with (go_at_call 37; refine (AW.within_any _ _ _ _).mono ?_; rintro e w' ⟨rfl, rfl⟩; rw [d1])
        go_loopw [4, 3] (fun i en wr => ∃ k : Nat, k ≤ fs.length ∧ i = .int .i64 k ∧ en = .int .i64 (LM.endTo fs k) ∧ LM.fixesTo fs k = true ∧ Below w.heap.size w wr ∧ wr.heap[w.heap.size]? = some (.cells #[.int .i64 pg, .string dt, .slice ao fs.length cap] 43 (0, 0))) (fun i _ _ => fs.length - (intOf i).toNat)
        case atStart => exact ⟨0, by omega, rfl, rfl, rfl, HB.out, BX.out⟩
        case round =>
          obtain ⟨k, hk, rfl, rfl, hg, hb, hbx⟩ := hrel
          have HG := hideC hg
          have HBr := hideC hb
          have BXr := hideC hbx
          have x2 := B.cell hbx 2 rfl
          clear hg hbx
          by_cases hlt : k < fs.length
          · obtain ⟨b, off, hao, hbl, hlie⟩ := (HH.out.below hb) (by omega)
            subst hao
            obtain ⟨c0, c1⟩ := hlie k hlt
            obtain ⟨g1, g2⟩ := F4.out k hlt
            have hed := LM.endTo_ge fs k HG.out
            obtain ⟨f, hfe⟩ : ∃ f, f = LM.fxAt fs k := ⟨_, rfl⟩
            rw [← hfe] at c0 c1 g1 g2
            unfold M.I64 at g1
            unfold M.Short at g2
            have hfl : f.bytes.size ≤ maxLen := by unfold maxLen; omega
            have HFE := hideC hfe
            clear hfe hlie hb
            obtain ⟨en, hen⟩ : ∃ en, en = LM.endTo fs k := ⟨_, rfl⟩
            rw [← hen] at hed
            have HEN := hideC hen
            rw [← hen]
            clear hen
            have HBA := hideC (HBr.out.alloc HBr.out.size (.cells #[.int .i64 f.off, .string f.bytes] 89))
            have BXA := hideC (B.alloc BXr.out (.cells #[.int .i64 f.off, .string f.bytes] 89))
            by_cases q1 : en ≤ f.off ∧ f.off ≤ 16
            · have z1 : decide (en ≤ f.off ∧ f.off ≤ 16) = true := decide_eq_true q1
              by_cases q3 : 1 ≤ (f.bytes.size : Int) ∧ (f.bytes.size : Int) ≤ 16 - f.off
              · have z2 : decide (1 ≤ (f.bytes.size : Int) ∧ (f.bytes.size : Int) ≤ 16 - f.off) = true := decide_eq_true q3
                have HX : Hid (LM.fixesTo fs (k + 1) = true) := by
                  show _ = _
                  simp only [LM.fixesTo, Bool.and_eq_true]
                  exact ⟨HG.out, by rw [← HFE.out, ← HEN.out]; exact (LM.fixB_iff _ _).2 (by omega)⟩
                have HY : Hid (LM.endTo fs (k + 1) = f.off + (f.bytes.size : Int)) := by show _ = _; simp only [LM.endTo]; rw [← HFE.out]
                go_wp2_with (first | (go_at_call 37; have _ := FA; refine (AW.within_any _ _ _ _).mono ?_; rintro e w' ⟨rfl, rfl⟩; rw [z2]) | (go_at_call 37; refine (AW.within_any _ _ _ _).mono ?_; rintro e w' ⟨rfl, rfl⟩; rw [z1]; have FA := trivial))
                go_roundw
                case rel => exact ⟨k + 1, by omega, by go_num, by rw [HY.out], HX.out, HBA.out, BXA.out⟩
                case measure => simp [intOf]; omega
              · have z2 : decide (1 ≤ (f.bytes.size : Int) ∧ (f.bytes.size : Int) ≤ 16 - f.off) = false := decide_eq_false q3
                have HX : Hid (LM.fixesTo fs fs.length = false) := LM.fixes_bad fs k hlt (by rw [← HFE.out, ← HEN.out]; exact LM.fixB_no (by omega))
                go_wp2_with (first | (go_at_call 37; have _ := FA; refine (AW.within_any _ _ _ _).mono ?_; rintro e w' ⟨rfl, rfl⟩; rw [z2]) | (go_at_call 37; refine (AW.within_any _ _ _ _).mono ?_; rintro e w' ⟨rfl, rfl⟩; rw [z1]; have FA := trivial))
                go_ret
                exact ⟨ret_bool (by rw [E.out, HX.out]), HBA.out⟩
            · have z1 : decide (en ≤ f.off ∧ f.off ≤ 16) = false := decide_eq_false q1
              have HX : Hid (LM.fixesTo fs fs.length = false) := LM.fixes_bad fs k hlt (by rw [← HFE.out, ← HEN.out]; exact LM.fixB_no (by omega))
              go_wp2_with (go_at_call 37; refine (AW.within_any _ _ _ _).mono ?_; rintro e w' ⟨rfl, rfl⟩; rw [z1])
              go_ret
              exact ⟨ret_bool (by rw [E.out, HX.out]), HBA.out⟩
          · obtain rfl : k = fs.length := by omega
            go_wp2
            go_ret
            exact ⟨ret_bool (by rw [E.out, HG.out]), HBr.out⟩
      · have h3' : (dt.size : Int) = 16 := by omega
        have h4' : (16 : Int) < (fs.length : Int) := by omega
        have e : LM.sheetB ⟨pg, dt, fs, ao, cap⟩ = false := by
          unfold LM.sheetB
          cases e : LM.fixesTo fs fs.length
          · exact Bool.and_false _
          · have := LM.endTo_ge fs fs.length e
            omega
        rw [e]
        go_enter Try.func12, Try.ntmps12
        go_wp2_with (go_at_call 37; refine (AW.within_any _ _ _ _).mono ?_; rintro e w' ⟨rfl, rfl⟩; rw [d1])
        go_ret
        exact ⟨rfl, HB.out⟩
    · have h3' : ((dt.size : Int) == 16) = false := by simp; omega
      have e : LM.sheetB ⟨pg, dt, fs, ao, cap⟩ = false := by
        unfold LM.sheetB LM.headB
        rw [decide_eq_false (fun h => h3 h.2.2), Bool.false_and]
      rw [e]
      go_enter Try.func12, Try.ntmps12
      go_wp2_with (go_at_call 37; refine (AW.within_any _ _ _ _).mono ?_; rintro e w' ⟨rfl, rfl⟩; rw [d1])
      go_ret
      exact ⟨rfl, HB.out⟩
  · have d1 : decide (1 ≤ pg ∧ pg ≤ 255) = false := decide_eq_false h1
    have e : LM.sheetB ⟨pg, dt, fs, ao, cap⟩ = false := by
      unfold LM.sheetB LM.headB
      rw [decide_eq_false (fun h => h1 ⟨h.1, h.2.1⟩), Bool.false_and]
    rw [e]
    go_enter Try.func12, Try.ntmps12
    go_wp2_with (go_at_call 37; refine (AW.within_any _ _ _ _).mono ?_; rintro e w' ⟨rfl, rfl⟩; rw [d1])
    go_ret
    exact ⟨rfl, HB.out⟩

set_option maxHeartbeats 3000000 in
theorem filled_any (s : LM.Sh) (w : World) (h : LM.HasF w s.ao s.fixes) (hf : LM.FitH s) (hs : LM.sheetB s = true) :
    Calls Try.prog 13 #[.agg (LM.cellsH s)] w fun e w' => e = .returned (.string (LM.fillS s)) ∧ Below w.heap.size w w' := by
  obtain ⟨f1, f2, f3, f4⟩ := hf
  obtain ⟨pg, dt, fs, ao, cap⟩ := s
  simp only at f1 f2 f3 f4
  unfold M.Short at f2 f3
  simp only [LM.cellsH]
  have hdl : dt.size ≤ maxLen := by unfold maxLen; omega
  have HH := hideC h
  clear f4 h f1
  have HB := hideC ((Below.refl w.heap.size w).alloc (Nat.le_refl _) (.cells #[.int .i64 pg, .string dt, .slice ao fs.length cap] 43))
  have BX := hideC (B.new w #[.int .i64 pg, .string dt, .slice ao fs.length cap] 43)
  have HN : Hid (LM.fillS ⟨pg, dt, fs, ao, cap⟩ = LM.laidTo dt fs fs.length) := rfl
  obtain ⟨hd, hfx⟩ : LM.headB ⟨pg, dt, fs, ao, cap⟩ = true ∧ LM.fixesTo fs fs.length = true := by
    unfold LM.sheetB at hs
    simpa using hs
  have h16 : dt.size = 16 := by
    unfold LM.headB at hd
    exact (of_decide_eq_true hd).2.2
  have HFX := hideC hfx
  clear hs hd hfx
  rw [HN.out]
  go_enter Try.func13, Try.ntmps13
  go_wp2
  go_loopw [4, 3] (fun i d wr => ∃ k : Nat, k ≤ fs.length ∧ i = .int .i64 k ∧ d = .string (LM.laidTo dt fs k) ∧ Below w.heap.size w wr ∧ wr.heap[w.heap.size]? = some (.cells #[.int .i64 pg, .string dt, .slice ao fs.length cap] 43 (0, 0))) (fun i _ _ => fs.length - (intOf i).toNat)
  case atStart => exact ⟨0, by omega, rfl, rfl, HB.out, BX.out⟩
  case round =>
    obtain ⟨k, hk, rfl, rfl, hb, hbx⟩ := hrel
    have HBr := hideC hb
    have BXr := hideC hbx
    have x2 := B.cell hbx 2 rfl
    clear hbx
    by_cases hlt : k < fs.length
    · obtain ⟨b, off, hao, hbl, hlie⟩ := (HH.out.below hb) (by omega)
      subst hao
      obtain ⟨c0, c1⟩ := hlie k hlt
      have hok := (LM.fixB_iff _ _).1 (LM.fixesTo_ok fs fs.length HFX.out k hlt)
      have hgk : LM.fixesTo fs k = true := by
        cases e : LM.fixesTo fs k
        · rw [LM.fixesTo_false fs k fs.length (by omega) e] at HFX
          cases HFX
        · rfl
      have hed := LM.endTo_ge fs k hgk
      have hsz := LM.laidTo_size dt fs h16 k hgk
      have HNX : Hid (LM.laidTo dt fs (k + 1) = CL.over (LM.laidTo dt fs k) (LM.fxAt fs k).off.toNat (LM.fxAt fs k).bytes) := rfl
      obtain ⟨f, hfe⟩ : ∃ f, f = LM.fxAt fs k := ⟨_, rfl⟩
      rw [← hfe] at c0 c1 hok HNX
      obtain ⟨D, hD⟩ : ∃ D, D = LM.laidTo dt fs k := ⟨_, rfl⟩
      rw [← hD] at hsz HNX
      rw [← hD]
      obtain ⟨o, ho⟩ : ∃ o : Nat, f.off = (o : Int) := ⟨f.off.toNat, by omega⟩
      rw [ho] at c0 hok
      rw [ho, Int.toNat_natCast] at HNX
      have HBd := hideC (below_drew wr)
      clear hfe hD hgk hlie hb
      go_wp2
      go_region_law (go_simp; go_at_call 38; refine (CW.over_any D f.bytes o _ (by omega) (by omega)).mono ?_; rintro e w3 ⟨rfl, hb⟩; have HB3 := hideC (HBr.out.trans ((HBd.out.trans hb).mono HBr.out.size)); have BX3 := hideC (B.below (B.below BXr.out HBd.out (B.isLt BXr.out)) hb (by have := B.isLt BXr.out; simpa using this)); clear hb; go_simp)
      all_goals
        go_wp2
        go_roundw
        case rel => exact ⟨k + 1, by omega, by go_num, by rw [HNX.out], HB3.out, BX3.out⟩
        case measure => simp [intOf]; omega
    · obtain rfl : k = fs.length := by omega
      go_wp2
      go_ret
      exact ⟨rfl, HBr.out⟩
end Go.Proofs.Yteieplodndfbhaa.LW
/- The reference: sheets that are right and rise. -/
namespace Go.Proofs.Yteieplodndfbhaa.LW
open Go.RowKit
open Go.Proofs.Yteieplodndfbhaa.W (hideC)
set_option linter.unusedVariables false
set_option maxRecDepth 100000

/-- a call in a region that draws, in a world that keeps what was there -/
theorem calls_kin {P : Program} {f : FuncId} {args : Array Value} {v : Value} {w : World} (x : Q.Kin w.heap.size w) (h : ∀ W, Below w.heap.size w W → Calls P f args W fun e w' => e = .returned v ∧ Below W.heap.size W w') :
    Calls P f args x.world fun e w'' => e = .returned v ∧ ∃ y : Q.Kin w.heap.size w, w'' = y.world :=
  (h x.world x.keeps).mono fun e w'' ⟨he, hb⟩ => ⟨he, ⟨w'', x.keeps.trans (hb.mono x.keeps.size)⟩, rfl⟩

set_option maxHeartbeats 3000000 in
theorem sheetsRise_any (hs : List LM.Sh) (ao : Option Addr) (cap : Nat) (w : World) (h : LM.HasH w ao hs) (hf : LM.FitHs hs) :
    Calls Try.prog 46 #[.slice ao hs.length cap] w fun e w' => e = .returned (.bool (LM.riseB hs)) ∧ Below w.heap.size w w' := by
  have HF := hideC hf
  have HH := hideC h
  have hn : hs.length ≤ 140737488351232 := hf.1
  clear h hf
  go_enter Try.func46, Try.ntmps46
  go_wp2
  go_loopw [3] (fun i wr => ∃ k : Nat, k ≤ hs.length ∧ i = .int .i64 k ∧ LM.riseTo hs k = true ∧ Below w.heap.size w wr) (fun i _ => hs.length - (intOf i).toNat)
  case atStart => exact ⟨0, by omega, rfl, rfl, Below.refl _ _⟩
  case round =>
    obtain ⟨k, hk, rfl, hz, hb⟩ := hrel
    have HZ := hideC hz
    have HBr := hideC hb
    clear hz
    by_cases hlt : k < hs.length
    · obtain ⟨b, off, hao, hbl, hlie⟩ := (HH.out.below hb) (by omega)
      subst hao
      obtain ⟨c0, c1, c2, c3⟩ := hlie k hlt
      have hfk := HF.out.2 k hlt
      have HE : Hid (LM.riseTo hs (k + 1) = (LM.sheetB (LM.shAt hs k) && LM.riseAt hs k)) := by
        show _ = _
        simp only [LM.riseTo]
        rw [HZ.out, Bool.true_and]
      have HE2 : Hid ((LM.sheetB (LM.shAt hs k) && LM.riseAt hs k) = false → LM.riseB hs = false) := fun e => LM.rise_bad hs k hlt e
      have hkin := Q.kin_some wr
      have hkc := @Q.cell_kin wr
      have PREV : Hid (0 < k → wr.cell? ⟨b, off + (k - 1) * 3, none⟩ = some (.int .i64 (LM.shAt hs (k - 1)).page)) := fun h0 => (hlie (k - 1) (by omega)).1
      have HRI : Hid (LM.riseAt hs k = (k == 0 || decide ((LM.shAt hs (k - 1)).page < (LM.shAt hs k).page))) := rfl
      obtain ⟨s, hse⟩ : ∃ s, s = LM.shAt hs k := ⟨_, rfl⟩
      rw [← hse] at c0 c1 c2 c3 hfk HE HE2 HRI
      have e0 : ∀ x : Q.Kin wr.heap.size wr, x.world.cell? ⟨b, off + k * 3, none⟩ = some (.int .i64 s.page) := fun x => by rw [hkc x _ _ hbl, c0]
      have e1 : ∀ x : Q.Kin wr.heap.size wr, x.world.cell? ⟨b, off + k * 3 + 1, none⟩ = some (.string s.data) := fun x => by rw [hkc x _ _ hbl, c1]
      have e2 : ∀ x : Q.Kin wr.heap.size wr, x.world.cell? ⟨b, off + k * 3 + 2, none⟩ = some (.slice s.ao s.fixes.length s.cap) := fun x => by rw [hkc x _ _ hbl, c2]
      have HC : Hid (∀ W, Below wr.heap.size wr W → Calls Try.prog 12 #[.agg #[.int .i64 s.page, .string s.data, .slice s.ao s.fixes.length s.cap]] W fun e w' => e = .returned (.bool (LM.sheetB s)) ∧ Below W.heap.size W w') := fun W hb => sheetFine_any s W (c3.below hb) hfk
      clear hse hlie hb c0 c1 c2 c3 hfk
      cases e : LM.sheetB s with
      | false =>
        have HX := hideC (HE2.out (by rw [e]; rfl))
        rw [e] at HC
        clear e HE HE2 HRI PREV hkc
        go_wp2
        refine Q.region_kin (by kernel_rfl) (by kernel_rfl) ?_
        repeat (first | go_big_quiet_step ((go_at_call 12; exact calls_kin _ HC.out)) | quiet_step ((go_at_call 12; exact calls_kin _ HC.out)))
        refine wpQuiet_nil ?_
        intro _ hw'
        obtain ⟨x, hw''⟩ := hw'
        subst hw''
        go_wp2
        go_ret
        exact ⟨ret_bool HX.out.symm, HBr.out.trans (x.keeps.mono HBr.out.size)⟩
      | true =>
        rw [e] at HC HE HE2
        rw [Bool.true_and] at HE HE2
        clear e
        by_cases hk0 : k = 0
        · have z1 : decide ((0 : Int) < (k : Int)) = false := by simp; omega
          have z2 : decide (0 < k) = false := by simp; omega
          have HX : Hid (LM.riseAt hs k = true) := by show _ = _; rw [HRI.out, hk0]; rfl
          rw [HX.out] at HE
          clear hk0 HE2 HRI PREV hkc HX
          go_wp2
          refine Q.region_kin (by kernel_rfl) (by kernel_rfl) ?_
          repeat (first | go_big_quiet_step ((go_at_call 12; exact calls_kin _ HC.out)) | quiet_step ((go_at_call 12; exact calls_kin _ HC.out)))
          refine wpQuiet_nil ?_
          intro _ hw'
          obtain ⟨x, hw''⟩ := hw'
          subst hw''
          go_wp2
          go_roundw
          case rel => exact ⟨k + 1, by omega, by go_num, HE.out, HBr.out.trans (x.keeps.mono HBr.out.size)⟩
          case measure => simp [intOf]; omega
        · have hk1 : (1 : Int) ≤ (k : Int) := by omega
          have hk2 : 0 < k := by omega
          have hk3 : (0 : Int) < (k : Int) := by omega
          have hkz : (k == 0) = false := by simpa using hk0
          obtain ⟨p, hp⟩ : ∃ p, p = (LM.shAt hs (k - 1)).page := ⟨_, rfl⟩
          have hpv := PREV.out hk2
          rw [← hp] at hpv HRI
          rw [hkz, Bool.false_or] at HRI
          have e3 : ∀ x : Q.Kin wr.heap.size wr, x.world.cell? ⟨b, off + (k - 1) * 3, none⟩ = some (.int .i64 p) := fun x => by rw [hkc x _ _ hbl, hpv]
          clear hp hpv hk0 PREV hkc hkz
          by_cases hlt2 : p < s.page
          · have HX : Hid (LM.riseAt hs k = true) := by show _ = _; rw [HRI.out, decide_eq_true hlt2]
            rw [HX.out] at HE
            have hnl : ¬ s.page ≤ p := by omega
            clear HE2 HRI HX
            go_wp2
            refine Q.region_kin (by kernel_rfl) (by kernel_rfl) ?_
            repeat (first | go_big_quiet_step ((go_at_call 12; exact calls_kin _ HC.out)) | quiet_step ((go_at_call 12; exact calls_kin _ HC.out)))
            refine wpQuiet_nil ?_
            intro _ hw'
            obtain ⟨x, hw''⟩ := hw'
            subst hw''
            go_wp2
            go_roundw
            case rel => exact ⟨k + 1, by omega, by go_num, HE.out, HBr.out.trans (x.keeps.mono HBr.out.size)⟩
            case measure => simp [intOf]; omega
          · have HX : Hid (LM.riseB hs = false) := HE2.out (by rw [HRI.out, decide_eq_false hlt2])
            have hnl : s.page ≤ p := by omega
            clear HE HE2 HRI
            go_wp2
            refine Q.region_kin (by kernel_rfl) (by kernel_rfl) ?_
            repeat (first | go_big_quiet_step ((go_at_call 12; exact calls_kin _ HC.out)) | quiet_step ((go_at_call 12; exact calls_kin _ HC.out)))
            refine wpQuiet_nil ?_
            intro _ hw'
            obtain ⟨x, hw''⟩ := hw'
            subst hw''
            go_wp2
            go_ret
            exact ⟨ret_bool HX.out.symm, HBr.out.trans (x.keeps.mono HBr.out.size)⟩
    · obtain rfl : k = hs.length := by omega
      go_wp2
      go_ret
      exact ⟨ret_bool HZ.out.symm, HBr.out⟩
end Go.Proofs.Yteieplodndfbhaa.LW
/-
  DERIVED: THE SHELF's CONTRACTS AT THIS DUMP, IN PLAIN WORDS (tools/lay-plain.mjs out of 'TryRep.lean', which tools/lay-shelf.mjs wrote): THE SAME DECLARATIONS UNDER THE SAME NAMES: 'import', 'namespace', 'open', 'def', 'theorem' AND NOTHING ELSE: no command of the shelf's: FOR A HAND-IN. Each laying: the table of numbers ('.._ren') and one theorem, a field a fact of the dump's own or the kernel's comparison; each contract: ONE APPLICATION.
-/
namespace Go.Proofs
open Go.Shelf
def Try.lays105_ren : Go.Shelf.Ren := ⟨fun | 105 => 80 | 212 => 90 | 99 => 91 | 165 => 92 | 166 => 93 | 170 => 94 | 169 => 95 | 263 => 101 | 264 => 102 | 206 => 103 | 240 => 104 | 241 => 105 | 276 => 106 | 277 => 107 | n => n, fun | 9 => 9 | 3 => 3 | 4 => 4 | 20 => 20 | 0 => 0 | 46 => 127 | 109 => 149 | 5 => 5 | 72 => 154 | 76 => 158 | 51 => 169 | 146 => 170 | 53 => 148 | 148 => 172 | 70 => 152 | 37 => 80 | 75 => 157 | 127 => 142 | 164 => 174 | 80 => 160 | n => n, fun | n => n⟩
theorem Try.lays105 : Go.Proofs.Lays.n105 Try.prog Try.lays105_ren := {
  mixed := by kernel_rfl
  f99 := Try.func91.trans (congrArg some (by kernel_rfl))
  f105 := Try.func80.trans (congrArg some (by kernel_rfl))
  f165 := Try.func92.trans (congrArg some (by kernel_rfl))
  f166 := Try.func93.trans (congrArg some (by kernel_rfl))
  f169 := Try.func95.trans (congrArg some (by kernel_rfl))
  f170 := Try.func94.trans (congrArg some (by kernel_rfl))
  f206 := Try.func103.trans (congrArg some (by kernel_rfl))
  f212 := Try.func90.trans (congrArg some (by kernel_rfl))
  f240 := Try.func104.trans (congrArg some (by kernel_rfl))
  f241 := Try.func105.trans (congrArg some (by kernel_rfl))
  f263 := Try.func101.trans (congrArg some (by kernel_rfl))
  f264 := Try.func102.trans (congrArg some (by kernel_rfl))
  f276 := Try.func106.trans (congrArg some (by kernel_rfl))
  f277 := Try.func107.trans (congrArg some (by kernel_rfl))
  t0 := Try.underlying0
  a0 := Try.isAgg0
  z0 := Try.sizeOf0
  v0 := Try.zeroValue0
  t3 := Try.underlying3
  a3 := Try.isAgg3
  z3 := Try.sizeOf3
  v3 := Try.zeroValue3
  t4 := Try.underlying4
  a4 := Try.isAgg4
  z4 := Try.sizeOf4
  v4 := Try.zeroValue4
  t5 := Try.underlying5
  a5 := Try.isAgg5
  z5 := Try.sizeOf5
  v5 := Try.zeroValue5
  t9 := Try.underlying9
  a9 := Try.isAgg9
  z9 := Try.sizeOf9
  v9 := Try.zeroValue9
  t20 := Try.underlying20
  a20 := Try.isAgg20
  z20 := Try.sizeOf20
  v20 := Try.zeroValue20
  t37 := Try.underlying80
  a37 := Try.isAgg80
  z37 := Try.sizeOf80
  v37 := Try.zeroValue80
  t46 := Try.underlying127
  a46 := Try.isAgg127
  z46 := Try.sizeOf127
  v46 := Try.zeroValue127
  t51 := Try.underlying169
  a51 := Try.isAgg169
  z51 := Try.sizeOf169
  v51 := Try.zeroValue169
  t53 := Try.underlying148
  a53 := Try.isAgg148
  z53 := Try.sizeOf148
  v53 := Try.zeroValue148
  t70 := Try.underlying152
  a70 := Try.isAgg152
  z70 := Try.sizeOf152
  v70 := Try.zeroValue152
  t72 := Try.underlying154
  a72 := Try.isAgg154
  z72 := Try.sizeOf154
  v72 := Try.zeroValue154
  t75 := Try.underlying157
  a75 := Try.isAgg157
  z75 := Try.sizeOf157
  v75 := Try.zeroValue157
  t76 := Try.underlying158
  a76 := Try.isAgg158
  z76 := Try.sizeOf158
  v76 := Try.zeroValue158
  t109 := Try.underlying149
  a109 := Try.isAgg149
  z109 := Try.sizeOf149
  v109 := Try.zeroValue149
  t127 := Try.underlying142
  a127 := Try.isAgg142
  z127 := Try.sizeOf142
  v127 := Try.zeroValue142
  t146 := Try.underlying170
  a146 := Try.isAgg170
  z146 := Try.sizeOf170
  v146 := Try.zeroValue170
  t148 := Try.underlying172
  a148 := Try.isAgg172
  z148 := Try.sizeOf172
  v148 := Try.zeroValue172
  t164 := Try.underlying174
  a164 := Try.isAgg174
  z164 := Try.sizeOf174
  v164 := Try.zeroValue174 }
theorem Try.Builder_Extra_105 : Builder.Extra Try.prog Try.lays105_ren := {
  sizeBuilder := by kernel_rfl
  liesBuilder := by kernel_rfl
  t5 := Try.underlying5
  a5 := Try.isAgg5
  z5 := Try.sizeOf5
  v5 := Try.zeroValue5
  infoByte := by kernel_rfl
  cellsByte := by kernel_rfl
  sizeByte := by kernel_rfl
  neB5 := by decide }
open Go.RowKit Go.Lib in
/-- THE MAIN CASE: at least two copies of a string that is not empty. (LAID: no walk: one application.) -/
theorem Try.strings_Repeat_main (s : ByteArray) (c : Nat) (w : World) (hc2 : 2 ≤ c) (hc : c ≤ 9223372036854775807) (hlen : s.size * c ≤ 140737488355328) (h0 : 0 < s.size) :
    Calls Try.prog 80 #[.string s, .int .i64 c] w fun e w' => e = .returned (.string ⟨(Lib.repeatL s.data.toList c).toArray⟩) ∧ Below w.heap.size w w' := Any.strings_Repeat_main Try.lays105 Try.Builder_Extra_105 s c w hc2 hc hlen h0
end Go.Proofs
/- The linker: a page of a segment; what of the patches is in a page. -/
namespace Go.Proofs.Yteieplodndfbhaa.LW
open Go.RowKit
open Go.Proofs.Yteieplodndfbhaa.W (hideC)
set_option linter.unusedVariables false
set_option maxRecDepth 100000

theorem zeros_any (w : World) : Calls Try.prog 80 #[.string ⟨#[0]⟩, .int .i64 16] w fun e w' => e = .returned (.string LM.zeros16) ∧ Below w.heap.size w w' :=
  Try.strings_Repeat_main ⟨#[0]⟩ 16 w (by decide) (by decide) (by decide) (by decide)

set_option maxHeartbeats 2000000 in
theorem pageOf_any (s : M.Sg) (n : Nat) (w : World) (hn : n ≤ 1000) (hs : s.data.size ≤ 100000) :
    Calls Try.prog 54 #[.agg #[.int .i64 s.page, .int .i64 s.pages, .string s.data, .bool s.wr, .bool s.ex], .int .i64 n] w fun e w' => e = .returned (.string (LM.pageN s n)) ∧ Below w.heap.size w w' := by
  obtain ⟨pg, pn, dt, wr, ex⟩ := s
  simp only at hs
  have hml : dt.size ≤ maxLen := by unfold maxLen; omega
  obtain ⟨b, hb⟩ : ∃ b : Nat, b = min (n * 16) dt.size := ⟨_, rfl⟩
  obtain ⟨e, he⟩ : ∃ e : Nat, e = min (b + 16) dt.size := ⟨_, rfl⟩
  have HPN : Hid (LM.pageN ⟨pg, pn, dt, wr, ex⟩ n = CL.over LM.zeros16 0 (dt.extract b e)) := by
    show _ = _
    unfold LM.pageN
    simp only
    rw [← hb, ← he]
  have hbI : min ((n : Int) * 16) (dt.size : Int) = (b : Int) := by omega
  have heI : min ((b : Int) + 16) (dt.size : Int) = (e : Int) := by omega
  have h1 : b ≤ e := by omega
  have h2 : e ≤ dt.size := by omega
  have h3 : e ≤ b + 16 := by omega
  have HLY : Hid (∀ V, Calls Try.prog 36 #[.string LM.zeros16, .int .i64 0, .string (dt.extract b e)] V fun e w' => e = .returned (.tuple #[.string (LM.pageN ⟨pg, pn, dt, wr, ex⟩ n), .int .i64 0]) ∧ Below V.heap.size V w') := fun V => by
    rw [HPN.out]
    exact CW.lay_yes LM.zeros16 (dt.extract b e) 0 V (by rw [LM.zeros16_size]; omega) (by rw [LM.zeros16_size, LM.extract_size _ _ _ h1 h2]; omega)
  have BX := hideC (B.new w #[.int .i64 pg, .int .i64 pn, .string dt, .bool wr, .bool ex] 79)
  have HB := hideC ((Below.refl w.heap.size w).alloc (Nat.le_refl _) (.cells #[.int .i64 pg, .int .i64 pn, .string dt, .bool wr, .bool ex] 79))
  obtain ⟨W, hW⟩ : ∃ W, W = w.alloc (.cells #[.int .i64 pg, .int .i64 pn, .string dt, .bool wr, .bool ex] 79) := ⟨_, rfl⟩
  rw [← hW] at BX HB
  have HW := hideC hW
  clear hW hb he
  have hbx := B.isLt BX.out
  have hkin := Q.kin_some W
  have hkc := @Q.cell_kin W
  have e2 : ∀ x : Q.Kin W.heap.size W, x.world.cell? ⟨w.heap.size, 2, none⟩ = some (.string dt) := fun x => by rw [hkc x _ _ hbx]; exact B.cell BX.out 2 rfl
  have HZ : Hid (∀ V, Below W.heap.size W V → Calls Try.prog 80 #[.string ⟨#[0]⟩, .int .i64 16] V fun e w' => e = .returned (.string LM.zeros16) ∧ Below V.heap.size V w') := fun V _ => zeros_any V
  have HL2 : Hid (∀ V, Below W.heap.size W V → Calls Try.prog 36 #[.string LM.zeros16, .int .i64 0, .string (dt.extract b e)] V fun e w' => e = .returned (.tuple #[.string (LM.pageN ⟨pg, pn, dt, wr, ex⟩ n), .int .i64 0]) ∧ Below V.heap.size V w') := fun V _ => HLY.out V
  clear hkc HLY
  go_enter Try.func54, Try.ntmps54
  go_wp2
  rw [← HW.out]
  refine Q.region_kin (by kernel_rfl) (by kernel_rfl) ?_
  repeat (first | go_big_quiet_step ((first | (go_at_call 80; exact calls_kin _ HZ.out) | (go_at_call 36; exact calls_kin _ HL2.out))) | quiet_step ((first | (go_at_call 80; exact calls_kin _ HZ.out) | (go_at_call 36; exact calls_kin _ HL2.out))))
  refine wpQuiet_nil ?_
  intro _ hw'
  obtain ⟨x, hw''⟩ := hw'
  subst hw''
  go_wp2
  go_ret
  exact ⟨rfl, HB.out.trans (x.keeps.mono HB.out.size)⟩

theorem infoFx : (Try.prog.info? 89).map (fun i => (i.zero, i.size, i.bytes)) = some (some (.agg #[.int .i64 0, .string ⟨#[]⟩]), 2, 24) := by kernel_rfl
set_option maxHeartbeats 3000000 in
theorem fixesOf_any (page : Int) (ps : List LM.Pt) (ao : Option Addr) (cap : Nat) (w : World) (h0 : 0 ≤ page) (h1 : page ≤ 3000) (h : LM.HasP w ao ps) (hn : ps.length ≤ 1000) (hf : ∀ k, k < ps.length → LM.FitP (LM.ptAt ps k)) :
    Calls Try.prog 55 #[.int .i64 page, .slice ao ps.length cap] w fun e w' => (∃ v, e = .returned v ∧ w'.ownsRow w.heap.size 89 2 v (LM.fixesN page ps).length ((LM.fixesN page ps).flatMap LM.cellF)) ∧ Below w.heap.size w w' := by
  have HH := hideC h
  have HF := hideC hf
  clear h hf
  obtain ⟨i0, hi, hz0, hz1, hz2⟩ := info_parts infoFx
  go_enter Try.func55, Try.ntmps55
  go_wp2
  go_loopw [17, 6] (fun i v wr => ∃ k : Nat, k ≤ ps.length ∧ i = .int .i64 k ∧ wr.ownsRow w.heap.size 89 2 v (LM.fixesN page (ps.take k)).length ((LM.fixesN page (ps.take k)).flatMap LM.cellF) ∧ Below w.heap.size w wr) (fun i _ _ => ps.length - (intOf i).toNat)
  case atStart => exact ⟨0, by omega, rfl, World.ownsRow_nil _ _ _ _, Below.refl _ _⟩
  case round =>
    obtain ⟨k, hk, rfl, hown, hb⟩ := hrel
    have HOW := hideC hown
    have HBr := hideC hb
    have hsz := hb.size
    by_cases hlt : k < ps.length
    · obtain ⟨b, off, hao, hbl, hlie⟩ := (HH.out.below hb) (by omega)
      subst hao
      obtain ⟨c0, c1⟩ := hlie k hlt
      obtain ⟨f1, f2, f3⟩ := HF.out k hlt
      have HT : Hid (LM.fixesN page (ps.take (k + 1)) = LM.fixesN page (ps.take k) ++ LM.cutP page (LM.ptAt ps k)) := by
        show _ = _
        rw [LM.take_snoc ps LM.pt0 k hlt, LM.fixesN_snoc]
        rfl
      have hlen := LM.fixes_len page (ps.take k)
      rw [List.length_take] at hlen
      obtain ⟨G, hG⟩ : ∃ G, G = LM.fixesN page (ps.take k) := ⟨_, rfl⟩
      rw [← hG] at HOW HT hlen
      obtain ⟨p, hp⟩ : ∃ p, p = LM.ptAt ps k := ⟨_, rfl⟩
      rw [← hp] at c0 c1 f1 f2 f3 HT
      clear hG hp hlie hb hown
      obtain ⟨P, by_⟩ := p
      simp only at c0 c1 f1 f2 f3
      have HBA := hideC (HBr.out.alloc HBr.out.size (.cells #[.int .i64 P, .string by_] 134))
      have HRA := hideC ((Below.refl wr.heap.size wr).alloc (Nat.le_refl _) (.cells #[.int .i64 P, .string by_] 134))
      obtain ⟨A, hA⟩ : ∃ A, A = max (page * 16) P := ⟨_, rfl⟩
      obtain ⟨E, hE⟩ : ∃ E, E = min (page * 16 + 16) (P + 8) := ⟨_, rfl⟩
      have hAb : page * 16 ≤ A ∧ P ≤ A ∧ A ≤ 1000000 := by omega
      have hEb : E ≤ page * 16 + 16 ∧ E ≤ P + 8 := by omega
      have hA' : max (page * 16) P = A := hA.symm
      have hE' : min (page * 16 + 16) (P + 8) = E := hE.symm
      have HCUT : Hid (LM.cutP page ⟨P, by_⟩ = if A < E then [⟨A - page * 16, by_.extract (A - P).toNat (A - P + (E - A)).toNat⟩] else []) := by
        show _ = _
        unfold LM.cutP
        simp only
        rw [hA', hE']
      clear hA hE
      by_cases hAE : A < E
      · rw [HCUT.out, if_pos hAE] at HT
        obtain ⟨u, hu⟩ : ∃ u : Nat, A - P = (u : Int) := ⟨(A - P).toNat, by omega⟩
        obtain ⟨n, hn⟩ : ∃ n : Nat, E - A = (n : Int) := ⟨(E - A).toNat, by omega⟩
        have hun : (A - P + (E - A)).toNat = u + n := by omega
        have hu2 : (A - P).toNat = u := by omega
        rw [hun, hu2] at HT
        have HPT : Hid (∀ V, Calls Try.prog 17 #[.string by_, .int .i64 (A - P), .int .i64 (E - A)] V fun e w' => e = .returned (.tuple #[.string (by_.extract u (u + n)), .int .i64 0]) ∧ Below V.heap.size V w') := fun V => by
          rw [hu, hn]
          exact CW.part_yes by_ u n V (by omega) (by omega)
        obtain ⟨s, hs⟩ : ∃ s, s = by_.extract u (u + n) := ⟨_, rfl⟩
        rw [← hs] at HPT HT
        clear hu hn hun hu2 hs HCUT
        have hAE' : ¬ E ≤ A := by omega
        go_wp2_with (first
          | (go_at_call 17; refine (HPT.out _).mono ?_; rintro e w1 ⟨rfl, hb⟩; have HB1 := hideC (HBA.out.trans (hb.mono HBA.out.size)); have HOW1 := hideC ((row_grown HOW.out (HRA.out.trans (hb.mono HRA.out.size))).alloc (.cells #[.int .i64 (A - page * 16), .string s] 89)); have hrow1 := HOW1.out.lt; have HN1 := hideC (B.new w1 #[.int .i64 (A - page * 16), .string s] 89); have BP := hideC (B.below (B.new wr #[.int .i64 P, .string by_] 134) hb (by simp)); have y0 := B.cell BP.out 0 rfl; have y1 := B.cell BP.out 1 rfl; clear hb)
          | (at_builtin; refine wpList_append_lies _ rfl _ _ 41 rfl w.heap.size 89 i0 (.agg #[.int .i64 0, .string ⟨#[]⟩]) 2 24 Try.underlying41 hi hz0 hz1 hz2 rfl (by decide) _ _ _ rfl HOW1.out ⟨w1.heap.size, 0, none⟩ 1 1 [.int .i64 (A - page * 16), .string s] rfl rfl (B.news HN1.out) (by intro u hu; simp at hu; rcases hu with rfl | rfl <;> rfl) (by decide) (by unfold maxLen; omega) (by omega) (by have := HB1.out.size; simp; omega) (w1.heap.size + 1) (by simp) ?_; intro gg capg w2 hown2 hgrow hatt hlt2; have HOW2 := hideC hown2; have HB2 := hideC ((HB1.out.alloc HB1.out.size (.cells #[.int .i64 (A - page * 16), .string s] 89)).grown hgrow (by have := HB1.out.size; simp; omega) (fun q hq => (hrow1 _ hq).1)); clear hown2 hgrow hatt))
        go_roundw
        case rel => exact ⟨k + 1, by omega, by go_num, by rw [HT.out, List.length_append, List.flatMap_append]; exact HOW2.out, HB2.out⟩
        case measure => simp [intOf]; omega
      · rw [HCUT.out, if_neg hAE, List.append_nil] at HT
        have hAE' : E ≤ A := by omega
        clear HCUT
        go_wp2
        go_roundw
        case rel => exact ⟨k + 1, by omega, by go_num, by rw [HT.out]; exact HOW.out.alloc _, HBA.out⟩
        case measure => simp [intOf]; omega
    · obtain rfl : k = ps.length := by omega
      rw [List.take_length] at HOW
      clear hown hb
      go_wp2
      go_ret
      exact ⟨⟨_, rfl, HOW.out⟩, HBr.out⟩
end Go.Proofs.Yteieplodndfbhaa.LW
