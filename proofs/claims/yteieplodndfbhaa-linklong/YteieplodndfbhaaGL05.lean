import Derived.Test.YteieplodndfbhaaProg
import Derived.Test.YteieplodndfbhaaGL00
import Derived.Test.YteieplodndfbhaaGL02
import Derived.WalkLawsBesides
import Derived.WalkSpells
import Derived.Laws.BytesArg
import Derived.Laws.OwnMore
import Derived.Lib.Walk
import Derived.Lib.BufferWrite
import Derived.Lib.Hide
import Derived.Laws.MakeOwn
import Derived.Laws.IdiomStrings
import Derived.Deep.QuietTactic
import Derived.BigQuiet
import Derived.Laws.CopyOwn
import Derived.Test.YteieplodndfbhaaGL03
/- The linker: is a sheet right? -/
namespace Go.Proofs.Yteieplodndfbhaa.LW
open Go.RowKit
open Go.Proofs.Yteieplodndfbhaa.W (hideC)
set_option linter.unusedVariables false
set_option maxRecDepth 100000

theorem below_drew (w : World) : Below w.heap.size w w.drew := ⟨rfl, rfl, rfl, Nat.le_refl _, fun _ _ => rfl⟩
theorem ret_bool {a b : Bool} (h : a = b) : Ending.returned (.bool a) = .returned (.bool b) := by rw [h]

set_option maxHeartbeats 2000000 in
theorem rightSheet_any (s : LM.Sh) (w : World) (h : LM.HasF w s.ao s.fixes) (hf : LM.FitH s) :
    Calls Try.prog 34 #[.agg (LM.cellsH s)] w fun e w' => e = .returned (.bool (LM.sheetB s)) ∧ Below w.heap.size w w' := by
  obtain ⟨f1, f2, f3, f4⟩ := hf
  obtain ⟨pg, dt, fs, ao, cap⟩ := s
  simp only at f1 f2 f3 f4
  unfold M.I64 at f1
  unfold M.Short at f2 f3
  simp only [LM.cellsH]
  have hdl : dt.size ≤ maxLen := by unfold maxLen; omega
  have F4 := hideC f4
  have HH := hideC h
  clear f4 h
  have HB := hideC ((Below.refl w.heap.size w).alloc (Nat.le_refl _) (.cells #[.int .i64 pg, .string dt, .slice ao fs.length cap] 43))
  by_cases h1 : pg < 1
  · have e : LM.sheetB ⟨pg, dt, fs, ao, cap⟩ = false := by
      unfold LM.sheetB LM.headB
      rw [decide_eq_false (by simp only; omega), Bool.false_and]
    rw [e]
    go_enter Try.func34, Try.ntmps34
    go_wp2
    go_ret
    exact ⟨rfl, HB.out⟩
  by_cases h2 : 255 < pg
  · have e : LM.sheetB ⟨pg, dt, fs, ao, cap⟩ = false := by
      unfold LM.sheetB LM.headB
      rw [decide_eq_false (by simp only; omega), Bool.false_and]
    rw [e]
    go_enter Try.func34, Try.ntmps34
    go_wp2
    go_ret
    exact ⟨rfl, HB.out⟩
  by_cases h3 : dt.size = 16
  · have h3' : (dt.size : Int) = 16 := by omega
    have e : LM.headB ⟨pg, dt, fs, ao, cap⟩ = true := by
      unfold LM.headB
      exact decide_eq_true ⟨by simp only; omega, by simp only; omega, h3⟩
    have E : Hid (LM.sheetB ⟨pg, dt, fs, ao, cap⟩ = LM.fixesTo fs fs.length) := by
      show _ = _
      unfold LM.sheetB
      rw [e, Bool.true_and]
    clear e h3
    go_enter Try.func34, Try.ntmps34
    go_wp2
    go_loopw [23, 3] (fun i en wr => ∃ k : Nat, k ≤ fs.length ∧ i = .int .i64 k ∧ en = .int .i64 (LM.endTo fs k) ∧ LM.fixesTo fs k = true ∧ Below w.heap.size w wr) (fun i _ _ => fs.length - (intOf i).toNat)
    case atStart => exact ⟨0, by omega, rfl, rfl, rfl, HB.out⟩
    case round =>
      obtain ⟨k, hk, rfl, rfl, hg, hb⟩ := hrel
      have HG := hideC hg
      have HBr := hideC hb
      clear hg
      by_cases hlt : k < fs.length
      · obtain ⟨b, off, hao, hbl, hlie⟩ := (HH.out.below hb) (by omega)
        subst hao
        obtain ⟨c0, c1⟩ := hlie k hlt
        obtain ⟨g1, g2⟩ := F4.out k hlt
        have hed := LM.endTo_ge fs k HG.out
        obtain ⟨f, hfe⟩ : ∃ f, f = LM.fxAt fs k := ⟨_, rfl⟩
        rw [← hfe] at c0 c1 g1 g2
        unfold M.I64 at g1
        unfold M.Short at g2
        have hfl : f.bytes.size ≤ maxLen := by unfold maxLen; omega
        have HFE := hideC hfe
        clear hfe hlie hb
        obtain ⟨en, hen⟩ : ∃ en, en = LM.endTo fs k := ⟨_, rfl⟩
        rw [← hen] at hed
        have HEN := hideC hen
        rw [← hen]
        clear hen
        have HBA := hideC (HBr.out.alloc HBr.out.size (.cells #[.int .i64 f.off, .string f.bytes] 89))
        by_cases q1 : f.off < en
        · have HX : Hid (LM.fixesTo fs fs.length = false) := LM.fixes_bad fs k hlt (by rw [← HFE.out, ← HEN.out]; exact LM.fixB_no (by omega))
          go_wp2
          go_ret
          exact ⟨ret_bool (by rw [E.out, HX.out]), HBA.out⟩
        by_cases q2 : 16 < f.off
        · have HX : Hid (LM.fixesTo fs fs.length = false) := LM.fixes_bad fs k hlt (by rw [← HFE.out, ← HEN.out]; exact LM.fixB_no (by omega))
          go_wp2
          go_ret
          exact ⟨ret_bool (by rw [E.out, HX.out]), HBA.out⟩
        by_cases q3 : (f.bytes.size : Int) < 1
        · have HX : Hid (LM.fixesTo fs fs.length = false) := LM.fixes_bad fs k hlt (by rw [← HFE.out, ← HEN.out]; exact LM.fixB_no (by omega))
          go_wp2
          go_ret
          exact ⟨ret_bool (by rw [E.out, HX.out]), HBA.out⟩
        by_cases q4 : 16 - f.off < (f.bytes.size : Int)
        · have HX : Hid (LM.fixesTo fs fs.length = false) := LM.fixes_bad fs k hlt (by rw [← HFE.out, ← HEN.out]; exact LM.fixB_no (by omega))
          go_wp2
          go_ret
          exact ⟨ret_bool (by rw [E.out, HX.out]), HBA.out⟩
        · have HX : Hid (LM.fixesTo fs (k + 1) = true) := by
            show _ = _
            simp only [LM.fixesTo, Bool.and_eq_true]
            exact ⟨HG.out, by rw [← HFE.out, ← HEN.out]; exact (LM.fixB_iff _ _).2 (by omega)⟩
          have HY : Hid (LM.endTo fs (k + 1) = f.off + (f.bytes.size : Int)) := by show _ = _; simp only [LM.endTo]; rw [← HFE.out]
          go_wp2
          go_roundw
          case rel => exact ⟨k + 1, by omega, by go_num, by rw [HY.out], HX.out, HBA.out⟩
          case measure => simp [intOf]; omega
      · obtain rfl : k = fs.length := by omega
        go_wp2
        go_ret
        exact ⟨ret_bool (by rw [E.out, HG.out]), HBr.out⟩
  · have e : LM.sheetB ⟨pg, dt, fs, ao, cap⟩ = false := by
      unfold LM.sheetB LM.headB
      rw [decide_eq_false (fun h => h3 h.2.2), Bool.false_and]
    have h3' : ((dt.size : Int) == 16) = false := by simp; omega
    rw [e]
    go_enter Try.func34, Try.ntmps34
    go_wp2
    go_ret
    exact ⟨rfl, HB.out⟩
end Go.Proofs.Yteieplodndfbhaa.LW
namespace Go.Proofs.Yteieplodndfbhaa.CW
open Go.RowKit
set_option linter.unusedVariables false
set_option maxRecDepth 100000

theorem ret_int {k : IntKind} {a b : Int} (h : a = b) : Value.int k a = .int k b := by rw [h]

theorem rightSize_yes (n : Int) (w : World) (h1 : 1 ≤ n) (h2 : n ≤ 8) :
    Calls Try.prog 89 #[.int .i64 n] w fun e w' => e = .returned (.bool true) ∧ w = w' := by
  go_enter Try.func89, Try.ntmps89
  go_wp2
  go_ret
  exact ⟨rfl, rfl⟩
theorem rightSize_no (n : Int) (w : World) (h1 : n < 1 ∨ 8 < n) :
    Calls Try.prog 89 #[.int .i64 n] w fun e w' => e = .returned (.bool false) ∧ w = w' := by
  rcases h1 with h | h
  · go_enter Try.func89, Try.ntmps89
    go_wp2
    go_ret
    exact ⟨rfl, rfl⟩
  · have h' : 1 ≤ n := by omega
    have h'' : decide (n ≤ 8) = false := by simp; omega
    go_enter Try.func89, Try.ntmps89
    go_wp2
    go_ret
    exact ⟨rfl, rfl⟩

end Go.Proofs.Yteieplodndfbhaa.CW
namespace Go.Proofs.Yteieplodndfbhaa.CW
open Go.RowKit
set_option linter.unusedVariables false
set_option maxRecDepth 100000

set_option maxHeartbeats 400000 in
theorem bytes_any (n : Int) (size : Nat) (w : World) (h2 : size ≤ 8) :
    Calls Try.prog 48 #[.int .i64 n, .int .i64 size] w fun e w' => e = .returned (.string ⟨(Lib.leBytes size (CM.low n)).toArray⟩) ∧ Below w.heap.size w w' := by
  go_enter Try.func48, Try.ntmps48
  go_wp2
  go_loopw [0, 5, 6] (fun t s i wr => ∃ k : Nat, k ≤ size ∧ i = .int .i64 k ∧ t = .int .i64 (CM.shr n k) ∧ s = .string ⟨(Lib.leBytes k (CM.low n)).toArray⟩ ∧ Below w.heap.size w wr) (fun _ _ i _ => size - (intOf i).toNat)
  case atStart => exact ⟨0, by omega, rfl, by rw [CM.shr_zero], rfl, Below.refl _ _⟩
  case round =>
    obtain ⟨k, hk, rfl, rfl, rfl, hb⟩ := hrel
    by_cases hlt : k < size
    · have hcv : (convert 80 9 (.slice (some ⟨wr.heap.size, 0, none⟩) 1 1)).run Try.prog (wr.alloc (.cells #[.int .u8 (CM.shr n k % 256)] 5)) = .ok (.string ⟨#[(CM.low n / 256 ^ k % 256).toUInt8]⟩) (wr.alloc (.cells #[.int .u8 (CM.shr n k % 256)] 5)) := by
        rw [← CM.strOfNums_byte n k (by omega)]
        refine run_convert_bytes_arg _ 80 5 Try.underlying80 Try.underlying5 _ 0 1 1 [CM.shr n k % 256] rfl ?_ 9 Try.underlying9
        intro i hi
        obtain rfl : i = 0 := by omega
        simp
      have hl : (Lib.leBytes k (CM.low n)).length = k := Lib.leBytes_length _ _
      have HN : Hid (Lib.leBytes (k + 1) (CM.low n) = Lib.leBytes k (CM.low n) ++ [(CM.low n / 256 ^ k % 256).toUInt8]) := CM.leBytes_snoc _ _
      go_wp2
      go_roundw
      case rel => exact ⟨k + 1, by omega, by go_num, by rw [← CM.shr_succ], by rw [HN.out]; exact congrArg Value.string (CM.mk_append _ [_]), hb.alloc (by have := hb.size; omega) _⟩
      case measure => simp [intOf]; omega
    · obtain rfl : k = size := by omega
      go_wp2
      go_ret
      exact ⟨rfl, hb⟩
end Go.Proofs.Yteieplodndfbhaa.CW
namespace Go.Proofs.Yteieplodndfbhaa.CW
open Go.RowKit
set_option linter.unusedVariables false
set_option maxRecDepth 100000

theorem info5 : (Try.prog.info? 5).map (fun i => (i.zero, i.size, i.bytes)) = some (some (.int .u8 0), 1, 1) := by kernel_rfl

theorem put_no (n size : Int) (w : World) (h1 : size < 1 ∨ 8 < size) :
    Calls Try.prog 79 #[.int .i64 n, .int .i64 size] w fun e w' => e = .returned (.tuple #[.string ⟨#[]⟩, .int .i64 3]) ∧ w = w' := by
  go_enter Try.func79, Try.ntmps79
  go_wp2_with (go_at_call 89; refine (rightSize_no _ _ h1).mono ?_; rintro e w' ⟨rfl, rfl⟩)
  go_ret2
  exact ⟨rfl, rfl⟩

set_option maxHeartbeats 400000 in
theorem put_yes (n : Int) (size : Nat) (w : World) (h1 : 1 ≤ size) (h2 : size ≤ 8) :
    Calls Try.prog 79 #[.int .i64 n, .int .i64 size] w fun e w' => e = .returned (.tuple #[.string ⟨(Lib.leBytes size (CM.low n)).toArray⟩, .int .i64 0]) ∧ Below w.heap.size w w' := by
  obtain ⟨i0, hi, hz0, hz1, hz2⟩ := info_parts info5
  obtain ⟨w1, hmk, hown1, hgr1⟩ := run_make_full (P := Try.prog) w w.heap.size 80 5 i0 (.int .u8 0) 1 Try.underlying80 hi hz0 hz1 .i64 .i64 size (by rw [hz2]; omega) (by unfold maxLen; omega) (Nat.le_refl _)
  have hb1 : Below w.heap.size w w1 := (Below.refl _ _).grown hgr1 (Nat.le_refl _) (by intro k h; cases h)
  rw [Nat.mul_one, show (Value.int .u8 0).cells = #[Value.int .u8 0] from rfl, toList_madeCells_one, ← CM.row_zero size (CM.low n)] at hown1
  go_enter Try.func79, Try.ntmps79
  go_wp2_with (go_at_call 89; refine (rightSize_yes _ _ (by omega) (by omega)).mono ?_; rintro e w' ⟨rfl, rfl⟩)
  go_loopw [6, 18] (fun r i wr => ∃ k : Nat, k ≤ size ∧ i = .int .i64 k ∧ r = .int .u64 ((CM.low n / 256 ^ k : Nat) : Int) ∧ wr.ownsRow w.heap.size 5 1 (.slice (some ⟨w.heap.size, 0, none⟩) size size) size (CM.row size k (CM.low n)) ∧ Below w.heap.size w wr) (fun _ i _ => size - (intOf i).toNat)
  case atStart => exact ⟨0, by omega, rfl, by rw [CM.u64_low]; simp, hown1, hb1⟩
  case round =>
    obtain ⟨k, hk, rfl, rfl, hown, hb⟩ := hrel
    by_cases hlt : k < size
    · have hc : wr.cell? ⟨w.heap.size, k, none⟩ = some (.int .u8 0) := (hown.cellAt k (by omega)).trans (CM.row_get _ _ _ hlt)
      have hf : wr.frozen? ⟨w.heap.size, k, none⟩ = false := hown.frozenAt k
      have HS : Hid ((wr.setCell ⟨w.heap.size, k, none⟩ (.int .u8 (((CM.low n / 256 ^ k : Nat) : Int) % 256))).ownsRow w.heap.size 5 1 (.slice (some ⟨w.heap.size, 0, none⟩) size size) size (CM.row size (k + 1) (CM.low n)) ∧ Below w.heap.size w (wr.setCell ⟨w.heap.size, k, none⟩ (.int .u8 (((CM.low n / 256 ^ k : Nat) : Int) % 256)))) := by
        have h := hown.stored k (.int .u8 (((CM.low n / 256 ^ k : Nat) : Int) % 256))
        rw [CM.row_set _ _ _ hlt] at h
        exact ⟨h.1, hb.setCell (Nat.le_refl _) _⟩
      go_wp2
      go_roundw
      case rel => exact ⟨k + 1, by omega, by go_num, ret_int (CM.low_shr n k), HS.out.1, HS.out.2⟩
      case measure => simp [intOf]; omega
    · obtain rfl : k = size := by omega
      have hcv : (convert 80 9 (.slice (some ⟨w.heap.size, 0, none⟩) k k)).run Try.prog wr = .ok (.string ⟨(Lib.leBytes k (CM.low n)).toArray⟩) wr := by
        rw [← CM.strOfNums_bytes]
        refine run_convert_bytes_arg _ 80 5 Try.underlying80 Try.underlying5 _ 0 k k _ (by simp [Lib.leBytes_length]) ?_ 9 Try.underlying9
        intro i hi
        rw [Nat.zero_add, hown.cellAt i (by omega), CM.row_full]
        exact CM.byteCells_get _ i (by rw [Lib.leBytes_length]; exact hi)
      go_wp2
      go_ret2
      exact ⟨rfl, hb⟩
end Go.Proofs.Yteieplodndfbhaa.CW
namespace Go.Proofs.Yteieplodndfbhaa.CW
open Go.RowKit
set_option linter.unusedVariables false
set_option maxRecDepth 100000

set_option maxHeartbeats 400000 in
theorem clone18 (s : ByteArray) (w : World) (hlim : s.size ≤ 281474976710656) :
    Calls Try.prog 62 #[.string s] w fun e w' => e = .returned (.string s) ∧ Below w.heap.size w w' := by
  by_cases h0 : s.size = 0
  · have hs : s = ⟨#[]⟩ := by
      apply ByteArray.ext
      exact Array.eq_empty_of_size_eq_zero h0
    subst hs
    go_enter Try.func62, Try.ntmps62
    go_wp2
    go_ret
    exact ⟨rfl, Below.refl _ _⟩
  · obtain ⟨i0, hi, hz0, hz1, hz2⟩ := info_parts info5
    have hinfo : (Try.prog.info? 5).map (·.size) = some 1 := by rw [hi]; simp [hz1]
    have hco : Try.prog.cellsOf 5 = 1 := by simp [Program.cellsOf, hi, hz1]
    obtain ⟨M, hM⟩ : ∃ M, M = madeCells (Value.int .u8 0).cells (((s.size : Nat) : Int).toNat * i0.size) := ⟨_, rfl⟩
    have hMs : M.size = s.size := by rw [hM, size_madeCells, hz1]; simp
    have hmk : ∀ W : World, (Instr.makeSlice 80 (.int .i64 (s.size : Int)) (.int .i64 (s.size : Int))).run Try.prog W = .ok (.slice (some ⟨W.heap.size, 0, none⟩) s.size s.size) (W.alloc (.cells M 5)) := fun W => by
      have h := run_make (P := Try.prog) W 80 5 i0 (.int .u8 0) Try.underlying80 hi hz0 .i64 .i64 (s.size : Int) (s.size : Int) (by omega) (by omega) (by rw [hz2]; omega) (by omega)
      rw [← hM] at h
      simpa using h
    clear hM
    have hcp := Lib.run_copy_row_string (P := Try.prog) (w.alloc (.cells M 5)) 80 9 3 5 w.heap.size 0 s.size s.size s M 5 Try.underlying80 hinfo (heap_alloc_new w _) (Nat.le_refl _) (by omega)
    obtain ⟨Y, hY⟩ : ∃ Y, Y = (M.toList.take 0 ++ Lib.byteCells s.data.toList ++ M.toList.drop (0 + s.size)).toArray := ⟨_, rfl⟩
    rw [← hY] at hcp
    have hYl : Y.toList = Lib.byteCells s.data.toList := by
      rw [hY, List.toList_toArray, List.take_zero, List.nil_append, List.drop_of_length_le (by rw [Array.length_toList]; omega), List.append_nil]
    have hYs : Y.size = s.size := by rw [← Array.length_toList, hYl, Lib.byteCells_length, ← Lib.size_eq]
    have hgY : ((w.alloc (.cells M 5)).setRow w.heap.size Y).heap[w.heap.size]? = some (.cells Y 5 (0, 0)) := setRow_heap _ _ M _ 5 (0, 0) (heap_alloc_new w _)
    have hne : s.data.toList ≠ [] := fun e => h0 (by rw [Lib.size_eq, e]; rfl)
    have hUS := Lib.run_unsafeString_row (P := Try.prog) ((w.alloc (.cells M 5)).setRow w.heap.size Y) 142 3 9 5 Try.underlying142 hco w.heap.size Y.size (by unfold World.shape?; rw [hgY]) s.data.toList hne (by rw [← Lib.size_eq]; omega) (by rw [← Lib.size_eq]; omega)
      (fun j x hx => Lib.cells_of_row hgY Y.size j _ (by rw [List.take_of_length_le (by rw [Array.length_toList]; exact Nat.le_refl _), hYl]; simp [Lib.byteCells, hx]))
    rw [← Lib.size_eq] at hUS
    clear hY
    go_enter Try.func62, Try.ntmps62
    go_wp2
    go_ret
    have hb1 : Below w.heap.size w (w.alloc (.cells M 5)) := (Below.refl _ w).alloc (Nat.le_refl _) _
    have hb2 : Below w.heap.size (w.alloc (.cells M 5)) ((w.alloc (.cells M 5)).setRow w.heap.size Y) := ⟨rfl, rfl, rfl, by simp, fun k hk => setRow_other _ _ _ _ (by omega)⟩
    exact ⟨rfl, Lib.below_freeze (hb1.trans hb2) (p := ⟨w.heap.size, 0, none⟩) (Nat.le_refl _) _⟩

theorem clone17 (s : ByteArray) (w : World) (hlim : s.size ≤ 281474976710656) :
    Calls Try.prog 35 #[.string s] w fun e w' => e = .returned (.string s) ∧ Below w.heap.size w w' := by
  go_enter Try.func35, Try.ntmps35
  go_wp2_with (go_at_call 62; refine (clone18 _ _ hlim).mono ?_; rintro e w' ⟨rfl, hb⟩)
  go_ret
  exact ⟨rfl, by assumption⟩

theorem inside_yes (l o n : Int) (w : World) (h1 : 0 ≤ o) (h2 : 0 ≤ n) (h3 : o ≤ l) (h4 : n ≤ l - o) (h5 : l ≤ 9223372036854775807) :
    Calls Try.prog 49 #[.int .i64 l, .int .i64 o, .int .i64 n] w fun e w' => e = .returned (.bool true) ∧ w = w' := by
  go_enter Try.func49, Try.ntmps49
  go_wp2
  go_ret
  exact ⟨rfl, rfl⟩

theorem inside_no (l o n : Int) (w : World) (h : ¬ (0 ≤ o ∧ 0 ≤ n ∧ o ≤ l ∧ n ≤ l - o)) (h0 : 0 ≤ l) (h5 : l ≤ 9223372036854775807) :
    Calls Try.prog 49 #[.int .i64 l, .int .i64 o, .int .i64 n] w fun e w' => e = .returned (.bool false) ∧ w = w' := by
  by_cases h1 : 0 ≤ o
  · by_cases h2 : 0 ≤ n
    · by_cases h3 : o ≤ l
      · have h4 : decide (n ≤ l - o) = false := by simp; omega
        clear h
        go_enter Try.func49, Try.ntmps49
        go_wp2
        go_ret
        exact ⟨rfl, rfl⟩
      · have h4 : decide (o ≤ l) = false := by simp; omega
        clear h
        go_enter Try.func49, Try.ntmps49
        go_wp2
        go_ret
        exact ⟨rfl, rfl⟩
    · have h4 : decide (0 ≤ n) = false := by simp; omega
      clear h
      go_enter Try.func49, Try.ntmps49
      go_wp2
      go_ret
      exact ⟨rfl, rfl⟩
  · have h4 : decide (0 ≤ o) = false := by simp; omega
    clear h
    go_enter Try.func49, Try.ntmps49
    go_wp2
    go_ret
    exact ⟨rfl, rfl⟩

theorem part_no (s : ByteArray) (o n : Int) (w : World) (hs : s.size ≤ maxLen) (h : ¬ (0 ≤ o ∧ 0 ≤ n ∧ o ≤ (s.size : Int) ∧ n ≤ (s.size : Int) - o)) :
    Calls Try.prog 17 #[.string s, .int .i64 o, .int .i64 n] w fun e w' => e = .returned (.tuple #[.string ⟨#[]⟩, .int .i64 3]) ∧ w = w' := by
  unfold maxLen at hs
  have H : Hid (¬ (0 ≤ o ∧ 0 ≤ n ∧ o ≤ (s.size : Int) ∧ n ≤ (s.size : Int) - o)) := h
  clear h
  go_enter Try.func17, Try.ntmps17
  go_wp2_with (go_at_call 49; refine (inside_no _ _ _ _ H.out (by omega) (by omega)).mono ?_; rintro e w' ⟨rfl, rfl⟩)
  go_ret2
  exact ⟨rfl, rfl⟩

theorem part_yes (s : ByteArray) (o n : Nat) (w : World) (hs : s.size ≤ 140737488351232) (h : o + n ≤ s.size) :
    Calls Try.prog 17 #[.string s, .int .i64 o, .int .i64 n] w fun e w' => e = .returned (.tuple #[.string (s.extract o (o + n)), .int .i64 0]) ∧ Below w.heap.size w w' := by
  go_enter Try.func17, Try.ntmps17
  go_wp2_with (first | (go_at_call 49; refine (inside_yes _ _ _ _ (by omega) (by omega) (by omega) (by omega) (by omega)).mono ?_; rintro e w' ⟨rfl, rfl⟩) | (go_at_call 35; refine (clone17 _ _ (by simp; omega)).mono ?_; rintro e w' ⟨rfl, hb⟩))
  go_ret2
  exact ⟨rfl, by assumption⟩

theorem lay_no (s t : ByteArray) (o : Int) (w : World) (hs : s.size ≤ maxLen) (ht : t.size ≤ maxLen) (h : ¬ (0 ≤ o ∧ 0 ≤ (t.size : Int) ∧ o ≤ (s.size : Int) ∧ (t.size : Int) ≤ (s.size : Int) - o)) :
    Calls Try.prog 36 #[.string s, .int .i64 o, .string t] w fun e w' => e = .returned (.tuple #[.string ⟨#[]⟩, .int .i64 3]) ∧ w = w' := by
  unfold maxLen at hs ht
  have H : Hid (¬ (0 ≤ o ∧ 0 ≤ (t.size : Int) ∧ o ≤ (s.size : Int) ∧ (t.size : Int) ≤ (s.size : Int) - o)) := h
  clear h
  go_enter Try.func36, Try.ntmps36
  go_wp2_with (go_at_call 49; refine (inside_no _ _ _ _ H.out (by omega) (by omega)).mono ?_; rintro e w' ⟨rfl, rfl⟩)
  go_ret2
  exact ⟨rfl, rfl⟩

set_option maxHeartbeats 400000 in
theorem lay_yes (s t : ByteArray) (o : Nat) (w : World) (hs : s.size ≤ 140737488351232) (h : o + t.size ≤ s.size) :
    Calls Try.prog 36 #[.string s, .int .i64 o, .string t] w fun e w' => e = .returned (.tuple #[.string (CL.over s o t), .int .i64 0]) ∧ Below w.heap.size w w' := by
  obtain ⟨i0, hi, hz0, hz1, hz2⟩ := info_parts info5
  have hinfo : (Try.prog.info? 5).map (·.size) = some 1 := by rw [hi]; simp [hz1]
  obtain ⟨c, hc⟩ : ∃ c, grownCap w s.size 0 5 = c := ⟨_, rfl⟩
  have hcs : s.size ≤ c := by rw [← hc]; exact grownCap_ge _ _ _ _
  have hcv := run_bytes_of_string (P := Try.prog) w 9 80 5 s Try.underlying9 Try.underlying80 Try.underlying5
  rw [hc] at hcv
  clear hc
  have hRs : (bytesRow s c).size = c := by rw [CL.bytesRow_size]; omega
  have hov := CL.over_cells s o t c h
  obtain ⟨R, hR⟩ : ∃ R, R = bytesRow s c := ⟨_, rfl⟩
  rw [← hR] at hcv hRs hov
  clear hR
  rw [hRs] at hcv
  have hgR : ((w.alloc (.cells R 5 (c, c + 1))).drew).heap[w.heap.size]? = some (.cells R 5 (c, c + 1)) := heap_alloc_new w _
  by_cases h0 : t.size = 0
  · have hcp := fun W d l c => Lib.run_copy_empty_string (P := Try.prog) W 80 9 3 5 d l c t Try.underlying80 (by rw [hinfo]; rfl) h0
    rw [CL.over_nil s o t h0] at hov ⊢
    have hcb : (convert 80 9 (.slice (some ⟨w.heap.size, 0, none⟩) s.size c)).run Try.prog ((w.alloc (.cells R 5 (c, c + 1))).drew) = .ok (.string s) ((w.alloc (.cells R 5 (c, c + 1))).drew) := by
      have es : strOfNums (s.data.toList.map fun b => (b.toNat : Int)) = s := (CM.strOfNums_bytes _).trans (Lib.mk_data s)
      refine Eq.trans ?_ (congrArg (fun x => Result.ok (Value.string x) ((w.alloc (.cells R 5 (c, c + 1))).drew)) es)
      refine run_convert_bytes_arg _ 80 5 Try.underlying80 Try.underlying5 _ 0 s.size c _ (by rw [List.length_map, ← Lib.size_eq]) ?_ 9 Try.underlying9
      intro i hi
      have ht : t.data.toList = [] := List.eq_nil_of_length_eq_zero (by rw [← Lib.size_eq]; exact h0)
      have e := hov i hi
      rw [ht, h0] at e
      rw [Nat.zero_add, cell_of_row _ _ _ _ _ _ hgR]
      simpa [Lib.byteCells] using e
    go_enter Try.func36, Try.ntmps36
    go_wp2_with (first | (go_at_call 49; refine (inside_yes _ _ _ _ (by omega) (by omega) (by omega) (by omega) (by omega)).mono ?_; rintro e w' ⟨rfl, rfl⟩))
    all_goals go_ret2
    all_goals exact ⟨rfl, ((Below.refl _ _).alloc (Nat.le_refl _) _).drew⟩
  · have hno : ¬ c = o := by omega
    have hcp := CL.copy_marked (P := Try.prog) ((w.alloc (.cells R 5 (c, c + 1))).drew) 80 9 3 5 w.heap.size o (s.size - o) (c - o) t R 5 c (c + 1) Try.underlying80 hinfo hgR (by omega) (by omega) (by omega)
    obtain ⟨Y, hY⟩ : ∃ Y, Y = (R.toList.take o ++ Lib.byteCells t.data.toList ++ R.toList.drop (o + t.size)).toArray := ⟨_, rfl⟩
    rw [← hY] at hcp
    have hgY : (((w.alloc (.cells R 5 (c, c + 1))).drew).setRow w.heap.size Y).heap[w.heap.size]? = some (.cells Y 5 (c, c + 1)) := setRow_heap _ _ R _ 5 (c, c + 1) hgR
    have hcb : (convert 80 9 (.slice (some ⟨w.heap.size, 0, none⟩) s.size c)).run Try.prog (((w.alloc (.cells R 5 (c, c + 1))).drew).setRow w.heap.size Y) = .ok (.string (CL.over s o t)) (((w.alloc (.cells R 5 (c, c + 1))).drew).setRow w.heap.size Y) := by
      rw [← Lib.mk_data (CL.over s o t), ← CM.strOfNums_bytes]
      refine run_convert_bytes_arg _ 80 5 Try.underlying80 Try.underlying5 _ 0 s.size c _ (by rw [List.length_map]; exact CL.over_size s o t h) ?_ 9 Try.underlying9
      intro i hi
      rw [Nat.zero_add, cell_of_row _ _ _ _ _ _ hgY, hY]
      simpa using hov i hi
    clear hov hY
    go_enter Try.func36, Try.ntmps36
    go_wp2_with (first | (go_at_call 49; refine (inside_yes _ _ _ _ (by omega) (by omega) (by omega) (by omega) (by omega)).mono ?_; rintro e w' ⟨rfl, rfl⟩))
    go_ret2
    exact ⟨rfl, below_setRow ((Below.refl _ _).alloc (Nat.le_refl _) _).drew (Nat.le_refl _) _⟩

set_option maxHeartbeats 400000 in
theorem over_any (s t : ByteArray) (o : Nat) (w : World) (hs : s.size ≤ 140737488351232) (h : o + t.size ≤ s.size) :
    Calls Try.prog 38 #[.string s, .int .i64 o, .string t] w fun e w' => e = .returned (.string (CL.over s o t)) ∧ Below w.heap.size w w' := by
  have h1 : (o : Int) ≤ (s.size : Int) := by omega
  have h2 : (o : Int) + (t.size : Int) ≤ (s.size : Int) := by omega
  go_enter Try.func38, Try.ntmps38
  go_wp2
  go_quiet (fail)
  go_wp2
  go_ret
  exact ⟨by rw [← CL.over_parts s o t]; rfl, below_drewN (Below.refl _ _) _⟩

end Go.Proofs.Yteieplodndfbhaa.CW
/- The linker: a page with that sheet. -/
namespace Go.Proofs.Yteieplodndfbhaa.LW
open Go.RowKit
open Go.Proofs.Yteieplodndfbhaa.W (hideC)
set_option linter.unusedVariables false
set_option maxRecDepth 100000

theorem ret_sn {s t : ByteArray} {a b : Int} (h : s = t) (g : a = b) : Ending.returned (.tuple #[.string s, .int .i64 a]) = .returned (.tuple #[.string t, .int .i64 b]) := by rw [h, g]

set_option maxHeartbeats 2000000 in
theorem fill_any (s : LM.Sh) (w : World) (h : LM.HasF w s.ao s.fixes) (hf : LM.FitH s) :
    Calls Try.prog 11 #[.agg (LM.cellsH s)] w fun e w' => e = .returned (.tuple #[.string (LM.fillN s).1, .int .i64 (LM.fillN s).2]) ∧ Below w.heap.size w w' := by
  have HR : Hid (∀ W, Below w.heap.size w W → Calls Try.prog 34 #[.agg (LM.cellsH s)] W fun e w' => e = .returned (.bool (LM.sheetB s)) ∧ Below W.heap.size W w') := fun W hb => rightSheet_any s W (h.below hb) hf
  obtain ⟨f1, f2, f3, f4⟩ := hf
  obtain ⟨pg, dt, fs, ao, cap⟩ := s
  simp only at f1 f2 f3 f4
  unfold M.Short at f2 f3
  simp only [LM.cellsH] at HR
  simp only [LM.cellsH]
  have hdl : dt.size ≤ maxLen := by unfold maxLen; omega
  have F4 := hideC f4
  have HH := hideC h
  clear f4 h f1
  have HB := hideC ((Below.refl w.heap.size w).alloc (Nat.le_refl _) (.cells #[.int .i64 pg, .string dt, .slice ao fs.length cap] 43))
  have BX := hideC (B.new w #[.int .i64 pg, .string dt, .slice ao fs.length cap] 43)
  by_cases hs : LM.sheetB ⟨pg, dt, fs, ao, cap⟩ = true
  · have HN : Hid (LM.fillN ⟨pg, dt, fs, ao, cap⟩ = (LM.laidTo dt fs fs.length, 0)) := by
      show _ = _
      unfold LM.fillN
      rw [if_pos hs]
      rfl
    obtain ⟨hd, hfx⟩ : LM.headB ⟨pg, dt, fs, ao, cap⟩ = true ∧ LM.fixesTo fs fs.length = true := by
      unfold LM.sheetB at hs
      simpa using hs
    have h16 : dt.size = 16 := by
      unfold LM.headB at hd
      exact (of_decide_eq_true hd).2.2
    have HFX := hideC hfx
    rw [hs] at HR
    clear hs hd hfx
    go_enter Try.func11, Try.ntmps11
    go_wp2_with (first | (go_at_call 34; refine (HR.out _ HB.out).mono ?_; rintro e w1 ⟨rfl, hb⟩; have HB := hideC (HB.out.trans (hb.mono HB.out.size)); have BX := hideC (B.below BX.out hb (B.isLt BX.out)); have q0 := B.cell BX.out 0 rfl; have q1 := B.cell BX.out 1 rfl; have q2 := B.cell BX.out 2 rfl; clear hb) | (go_at_call 35; refine (CW.clone17 _ _ (by omega)).mono ?_; rintro e w2 ⟨rfl, hb⟩; have HB := hideC (HB.out.trans (hb.mono HB.out.size)); have BX := hideC (B.below BX.out hb (B.isLt BX.out)); have q0 := B.cell BX.out 0 rfl; have q1 := B.cell BX.out 1 rfl; have q2 := B.cell BX.out 2 rfl; clear hb))
    go_loopw [16, 4] (fun i d wr => ∃ k : Nat, k ≤ fs.length ∧ i = .int .i64 k ∧ d = .string (LM.laidTo dt fs k) ∧ Below w.heap.size w wr) (fun i _ _ => fs.length - (intOf i).toNat)
    case atStart => exact ⟨0, by omega, rfl, rfl, HB.out⟩
    case round =>
      obtain ⟨k, hk, rfl, rfl, hb⟩ := hrel
      have HBr := hideC hb
      by_cases hlt : k < fs.length
      · obtain ⟨b, off, hao, hbl, hlie⟩ := (HH.out.below hb) (by omega)
        subst hao
        obtain ⟨c0, c1⟩ := hlie k hlt
        have hok := (LM.fixB_iff _ _).1 (LM.fixesTo_ok fs fs.length HFX.out k hlt)
        have hgk : LM.fixesTo fs k = true := by
          cases e : LM.fixesTo fs k
          · rw [LM.fixesTo_false fs k fs.length (by omega) e] at HFX
            cases HFX
          · rfl
        have hed := LM.endTo_ge fs k hgk
        have hsz := LM.laidTo_size dt fs h16 k hgk
        have HNX : Hid (LM.laidTo dt fs (k + 1) = CL.over (LM.laidTo dt fs k) (LM.fxAt fs k).off.toNat (LM.fxAt fs k).bytes) := rfl
        obtain ⟨f, hfe⟩ : ∃ f, f = LM.fxAt fs k := ⟨_, rfl⟩
        rw [← hfe] at c0 c1 hok HNX
        obtain ⟨D, hD⟩ : ∃ D, D = LM.laidTo dt fs k := ⟨_, rfl⟩
        rw [← hD] at hsz HNX
        rw [← hD]
        obtain ⟨o, ho⟩ : ∃ o : Nat, f.off = (o : Int) := ⟨f.off.toNat, by omega⟩
        rw [ho] at c0 hok
        rw [ho, Int.toNat_natCast] at HNX
        clear hfe hD hgk hlie hb
        have HBA := hideC (HBr.out.alloc HBr.out.size (.cells #[.int .i64 (o : Int), .string f.bytes] 89))
        go_wp2_with (go_at_call 36; refine (CW.lay_yes D f.bytes o _ (by omega) (by omega)).mono ?_; rintro e w3 ⟨rfl, hb⟩; have HBA := hideC (HBA.out.trans (hb.mono HBA.out.size)); clear hb)
        go_roundw
        case rel => exact ⟨k + 1, by omega, by go_num, by rw [HNX.out], HBA.out⟩
        case measure => simp [intOf]; omega
      · obtain rfl : k = fs.length := by omega
        go_wp2
        go_ret2
        exact ⟨ret_sn (by rw [HN.out]) (by rw [HN.out]), HBr.out⟩
  · have hs' : LM.sheetB ⟨pg, dt, fs, ao, cap⟩ = false := by simpa using hs
    have HN : Hid (LM.fillN ⟨pg, dt, fs, ao, cap⟩ = (⟨#[]⟩, 1)) := by
      show _ = _
      unfold LM.fillN
      rw [if_neg hs]
    rw [hs'] at HR
    clear hs hs'
    rw [HN.out]
    go_enter Try.func11, Try.ntmps11
    go_wp2_with (go_at_call 34; refine (HR.out _ HB.out).mono ?_; rintro e w1 ⟨rfl, hb⟩; have HB := hideC (HB.out.trans (hb.mono HB.out.size)); clear hb)
    go_ret2
    exact ⟨rfl, HB.out⟩
end Go.Proofs.Yteieplodndfbhaa.LW
namespace Go.Proofs.Yteieplodndfbhaa.AW
open Go.RowKit
set_option linter.unusedVariables false
set_option maxRecDepth 100000

set_option maxHeartbeats 400000 in
theorem end_any (p n t : Int) (z : Bool) (w : World) (h1 : -9223372036854775808 ≤ p + n) (h2 : p + n ≤ 9223372036854775807) :
    Calls Try.prog 85 #[.agg #[.int .i64 p, .int .i64 n, .int .i64 t, .bool z]] w fun e w' => e = .returned (.int .i64 (p + n)) ∧ Below w.heap.size w w' := by
  go_enter Try.func85, Try.ntmps85
  go_wp2
  go_ret
  exact ⟨rfl, (Below.refl _ _).alloc (Nat.le_refl _) _⟩

theorem rightPages_any (p n : Int) (w : World) (hp : -9223372036854775808 ≤ p ∧ p ≤ 9223372036854775807) (hn : -9223372036854775808 ≤ n ∧ n ≤ 9223372036854775807) :
    Calls Try.prog 63 #[.int .i64 p, .int .i64 n] w fun e w' => e = .returned (.bool (AM.pagesB p n)) ∧ w = w' := by
  by_cases h1 : 1 ≤ p
  · by_cases h2 : 1 ≤ n
    · by_cases h3 : n ≤ 256 - p
      · have e : AM.pagesB p n = true := by simp [AM.pagesB, h1, h2, h3]
        have h4 : n ≤ 255 - p + 1 := by omega
        rw [e]
        go_enter Try.func63, Try.ntmps63
        go_wp2
        go_ret
        exact ⟨rfl, rfl⟩
      · have e : AM.pagesB p n = false := by simp [AM.pagesB]; omega
        have h4 : decide (n ≤ 255 - p + 1) = false := by simp; omega
        rw [e]
        go_enter Try.func63, Try.ntmps63
        go_wp2
        go_ret
        exact ⟨rfl, rfl⟩
    · have e : AM.pagesB p n = false := by simp [AM.pagesB]; omega
      have h4 : decide (1 ≤ n) = false := by simp; omega
      rw [e]
      go_enter Try.func63, Try.ntmps63
      go_wp2
      go_ret
      exact ⟨rfl, rfl⟩
  · have e : AM.pagesB p n = false := by simp [AM.pagesB]; omega
    have h4 : decide (1 ≤ p) = false := by simp; omega
    rw [e]
    go_enter Try.func63, Try.ntmps63
    go_wp2
    go_ret
    exact ⟨rfl, rfl⟩

theorem rightProt_any (p : Int) (w : World) :
    Calls Try.prog 64 #[.int .i64 p] w fun e w' => e = .returned (.bool (AM.protB p)) ∧ w = w' := by
  by_cases h1 : 0 ≤ p
  · by_cases h2 : p ≤ 3
    · have e : AM.protB p = true := by simp [AM.protB, h1, h2]
      rw [e]
      go_enter Try.func64, Try.ntmps64
      go_wp2
      go_ret
      exact ⟨rfl, rfl⟩
    · have e : AM.protB p = false := by simp [AM.protB]; omega
      have h4 : decide (p ≤ 3) = false := by simp; omega
      rw [e]
      go_enter Try.func64, Try.ntmps64
      go_wp2
      go_ret
      exact ⟨rfl, rfl⟩
  · have e : AM.protB p = false := by simp [AM.protB]; omega
    have h4 : decide (0 ≤ p) = false := by simp; omega
    rw [e]
    go_enter Try.func64, Try.ntmps64
    go_wp2
    go_ret
    exact ⟨rfl, rfl⟩
end Go.Proofs.Yteieplodndfbhaa.AW
namespace Go.Proofs.Yteieplodndfbhaa.AW
open Go.RowKit
set_option linter.unusedVariables false
set_option maxRecDepth 100000

set_option maxHeartbeats 400000 in
theorem mayFollow_eq (ap an at' bp bn bt : Int) (az bz : Bool) (w : World) (h1 : -9223372036854775808 ≤ ap + an) (h2 : ap + an ≤ 9223372036854775807) (he : bp = ap + an) :
    Calls Try.prog 65 #[.agg #[.int .i64 ap, .int .i64 an, .int .i64 at', .bool az], .agg #[.int .i64 bp, .int .i64 bn, .int .i64 bt, .bool bz]] w fun e w' => e = .returned (.bool (bt != at' || bz != az)) ∧ Below w.heap.size w w' := by
  obtain ⟨W, hW⟩ : ∃ W, W = (w.alloc (.cells #[.int .i64 ap, .int .i64 an, .int .i64 at', .bool az] 99)).alloc (.cells #[.int .i64 bp, .int .i64 bn, .int .i64 bt, .bool bz] 99) := ⟨_, rfl⟩
  have hs : W.heap.size = w.heap.size + 2 := by rw [hW]; simp
  have hkin := Q.kin_some W
  have hkc := @Q.cell_kin W
  have c0 : ∀ x : Q.Kin W.heap.size W, x.world.cell? ⟨w.heap.size, 0, none⟩ = some (.int .i64 ap) := fun x => by rw [hkc x _ _ (by omega), hW]; simp
  have c1 : ∀ x : Q.Kin W.heap.size W, x.world.cell? ⟨w.heap.size, 1, none⟩ = some (.int .i64 an) := fun x => by rw [hkc x _ _ (by omega), hW]; simp
  have c2 : ∀ x : Q.Kin W.heap.size W, x.world.cell? ⟨w.heap.size, 2, none⟩ = some (.int .i64 at') := fun x => by rw [hkc x _ _ (by omega), hW]; simp
  have c3 : ∀ x : Q.Kin W.heap.size W, x.world.cell? ⟨w.heap.size, 3, none⟩ = some (.bool az) := fun x => by rw [hkc x _ _ (by omega), hW]; simp
  have d0 : ∀ x : Q.Kin W.heap.size W, x.world.cell? ⟨w.heap.size + 1, 0, none⟩ = some (.int .i64 bp) := fun x => by rw [hkc x _ _ (by omega), hW]; simp
  have d2 : ∀ x : Q.Kin W.heap.size W, x.world.cell? ⟨w.heap.size + 1, 2, none⟩ = some (.int .i64 bt) := fun x => by rw [hkc x _ _ (by omega), hW]; simp
  have d3 : ∀ x : Q.Kin W.heap.size W, x.world.cell? ⟨w.heap.size + 1, 3, none⟩ = some (.bool bz) := fun x => by rw [hkc x _ _ (by omega), hW]; simp
  have hbW : Hid (Below w.heap.size w W) := by show Below _ _ _; rw [hW]; exact ((Below.refl _ _).alloc (Nat.le_refl _) _).alloc (by simp) _
  have HW : Hid (W = (w.alloc (.cells #[.int .i64 ap, .int .i64 an, .int .i64 at', .bool az] 99)).alloc (.cells #[.int .i64 bp, .int .i64 bn, .int .i64 bt, .bool bz] 99)) := hW
  clear hW hs hkc
  have hx : (bp == ap + an) = true := by simp [he]
  clear he
  go_enter Try.func65, Try.ntmps65
  go_wp2_with fail
  rw [← HW.out]
  refine Q.region_kin (by kernel_rfl) (by kernel_rfl) ?_
  repeat (first | go_big_quiet_step ((go_at_call 85; exact Q.calls_kin (fun W => end_any _ _ _ _ W h1 h2) _)) | quiet_step ((go_at_call 85; exact Q.calls_kin (fun W => end_any _ _ _ _ W h1 h2) _)))
  refine wpQuiet_nil ?_
  intro _ hw'
  obtain ⟨x, hw''⟩ := hw'
  subst hw''
  go_wp2
  all_goals go_ret
  all_goals exact ⟨by first | (simp [*]; done) | (simp [*]; cases bz <;> cases az <;> rfl), hbW.out.trans (x.keeps.mono hbW.out.size)⟩

set_option maxHeartbeats 400000 in
theorem mayFollow_ne (ap an at' bp bn bt : Int) (az bz : Bool) (w : World) (h1 : -9223372036854775808 ≤ ap + an) (h2 : ap + an ≤ 9223372036854775807) (he : ¬ bp = ap + an) :
    Calls Try.prog 65 #[.agg #[.int .i64 ap, .int .i64 an, .int .i64 at', .bool az], .agg #[.int .i64 bp, .int .i64 bn, .int .i64 bt, .bool bz]] w fun e w' => e = .returned (.bool (decide (ap + an < bp))) ∧ Below w.heap.size w w' := by
  obtain ⟨W, hW⟩ : ∃ W, W = (w.alloc (.cells #[.int .i64 ap, .int .i64 an, .int .i64 at', .bool az] 99)).alloc (.cells #[.int .i64 bp, .int .i64 bn, .int .i64 bt, .bool bz] 99) := ⟨_, rfl⟩
  have hs : W.heap.size = w.heap.size + 2 := by rw [hW]; simp
  have hkin := Q.kin_some W
  have hkc := @Q.cell_kin W
  have c0 : ∀ x : Q.Kin W.heap.size W, x.world.cell? ⟨w.heap.size, 0, none⟩ = some (.int .i64 ap) := fun x => by rw [hkc x _ _ (by omega), hW]; simp
  have c1 : ∀ x : Q.Kin W.heap.size W, x.world.cell? ⟨w.heap.size, 1, none⟩ = some (.int .i64 an) := fun x => by rw [hkc x _ _ (by omega), hW]; simp
  have c2 : ∀ x : Q.Kin W.heap.size W, x.world.cell? ⟨w.heap.size, 2, none⟩ = some (.int .i64 at') := fun x => by rw [hkc x _ _ (by omega), hW]; simp
  have c3 : ∀ x : Q.Kin W.heap.size W, x.world.cell? ⟨w.heap.size, 3, none⟩ = some (.bool az) := fun x => by rw [hkc x _ _ (by omega), hW]; simp
  have d0 : ∀ x : Q.Kin W.heap.size W, x.world.cell? ⟨w.heap.size + 1, 0, none⟩ = some (.int .i64 bp) := fun x => by rw [hkc x _ _ (by omega), hW]; simp
  have hbW : Hid (Below w.heap.size w W) := by show Below _ _ _; rw [hW]; exact ((Below.refl _ _).alloc (Nat.le_refl _) _).alloc (by simp) _
  have HW : Hid (W = (w.alloc (.cells #[.int .i64 ap, .int .i64 an, .int .i64 at', .bool az] 99)).alloc (.cells #[.int .i64 bp, .int .i64 bn, .int .i64 bt, .bool bz] 99)) := hW
  have hs2 : Hid (w.heap.size + 2 ≤ W.heap.size) := by show _ ≤ _; omega
  clear hW hs hkc
  have hx : (bp == ap + an) = false := by simp [he]
  clear he
  go_enter Try.func65, Try.ntmps65
  go_wp2_with fail
  rw [← HW.out]
  refine Q.region_kin (by kernel_rfl) (by kernel_rfl) ?_
  repeat (first | go_big_quiet_step ((go_at_call 85; exact Q.calls_kin (fun W => end_any _ _ _ _ W h1 h2) _)) | quiet_step ((go_at_call 85; exact Q.calls_kin (fun W => end_any _ _ _ _ W h1 h2) _)))
  refine wpQuiet_nil ?_
  intro _ hw'
  obtain ⟨x, hw''⟩ := hw'
  subst hw''
  have c0x := c0 x
  have c1x := c1 x
  have c2x := c2 x
  have c3x := c3 x
  have d0x := d0 x
  have hsx : Hid (w.heap.size + 2 ≤ x.world.heap.size) := Nat.le_trans hs2.out x.keeps.size
  have hbx : Hid (Below w.heap.size w x.world) := hbW.out.trans (x.keeps.mono hbW.out.size)
  clear HW c0 c1 c2 c3 d0 hkin hbW hs2
  obtain ⟨V, hV⟩ : ∃ V, V = x.world := ⟨_, rfl⟩
  rw [← hV] at c0x c1x c2x c3x d0x hsx hbx ⊢
  clear hV
  have hkin := Q.kin_some V
  have hkc := @Q.cell_kin V
  have hsx' := hsx.out
  have c0 : ∀ x : Q.Kin V.heap.size V, x.world.cell? ⟨w.heap.size, 0, none⟩ = some (.int .i64 ap) := fun x => by rw [hkc x _ _ (by omega), c0x]
  have c1 : ∀ x : Q.Kin V.heap.size V, x.world.cell? ⟨w.heap.size, 1, none⟩ = some (.int .i64 an) := fun x => by rw [hkc x _ _ (by omega), c1x]
  have c2 : ∀ x : Q.Kin V.heap.size V, x.world.cell? ⟨w.heap.size, 2, none⟩ = some (.int .i64 at') := fun x => by rw [hkc x _ _ (by omega), c2x]
  have c3 : ∀ x : Q.Kin V.heap.size V, x.world.cell? ⟨w.heap.size, 3, none⟩ = some (.bool az) := fun x => by rw [hkc x _ _ (by omega), c3x]
  have d0 : ∀ x : Q.Kin V.heap.size V, x.world.cell? ⟨w.heap.size + 1, 0, none⟩ = some (.int .i64 bp) := fun x => by rw [hkc x _ _ (by omega), d0x]
  clear hkc hsx'
  go_wp2_with fail
  refine Q.region_kin (by kernel_rfl) (by kernel_rfl) ?_
  repeat (first | go_big_quiet_step ((go_at_call 85; exact Q.calls_kin (fun W => end_any _ _ _ _ W h1 h2) _)) | quiet_step ((go_at_call 85; exact Q.calls_kin (fun W => end_any _ _ _ _ W h1 h2) _)))
  refine wpQuiet_nil ?_
  intro _ hw'
  obtain ⟨y, hw''⟩ := hw'
  subst hw''
  go_wp2
  go_ret
  exact ⟨rfl, hbx.out.trans (y.keeps.mono hbx.out.size)⟩

theorem mayFollow_any (a b : AM.Ar) (w : World) (h1 : -9223372036854775808 ≤ a.page + a.pages) (h2 : a.page + a.pages ≤ 9223372036854775807) :
    Calls Try.prog 65 #[.agg #[.int .i64 a.page, .int .i64 a.pages, .int .i64 a.prot, .bool a.zero], .agg #[.int .i64 b.page, .int .i64 b.pages, .int .i64 b.prot, .bool b.zero]] w fun e w' => e = .returned (.bool (AM.followB a b)) ∧ Below w.heap.size w w' := by
  unfold AM.followB AM.Ar.last0
  split
  · exact mayFollow_eq _ _ _ _ _ _ _ _ w h1 h2 (by assumption)
  · exact mayFollow_ne _ _ _ _ _ _ _ _ w h1 h2 (by assumption)
end Go.Proofs.Yteieplodndfbhaa.AW
