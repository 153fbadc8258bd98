import Derived.Test.YtmgifpmajmojoaaW3
import Derived.Test.YtmgifpmajmojoaaL
import Derived.Lib.Walk
import Derived.Lib.BufferWrite
import Derived.Lib.Hide
import Derived.Laws.MakeOwn
import Derived.Laws.IdiomStrings
import Derived.WalkSpells
import Derived.Deep.QuietTactic
import Derived.BigQuiet
import Derived.Laws.CopyOwn
namespace Go.Proofs.Ytmgifpmajmojoaa.W
open Go.RowKit
set_option linter.unusedVariables false

set_option maxHeartbeats 400000 in
theorem clone18 (s : ByteArray) (w : World) (hlim : s.size ≤ 281474976710656) :
    Calls Try.prog 18 #[.string s] w fun e w' => e = .returned (.string s) ∧ Below w.heap.size w w' := by
  by_cases h0 : s.size = 0
  · have hs : s = ⟨#[]⟩ := by
      apply ByteArray.ext
      exact Array.eq_empty_of_size_eq_zero h0
    subst hs
    go_enter Try.func18, Try.ntmps18
    go_wp2
    go_ret
    exact ⟨rfl, Below.refl _ _⟩
  · obtain ⟨i0, hi, hz0, hz1, hz2⟩ := info_parts info5
    have hinfo : (Try.prog.info? 5).map (·.size) = some 1 := by rw [hi]; simp [hz1]
    have hco : Try.prog.cellsOf 5 = 1 := by simp [Program.cellsOf, hi, hz1]
    obtain ⟨M, hM⟩ : ∃ M, M = madeCells (Value.int .u8 0).cells (((s.size : Nat) : Int).toNat * i0.size) := ⟨_, rfl⟩
    have hMs : M.size = s.size := by rw [hM, size_madeCells, hz1]; simp
    have hmk : ∀ W : World, (Instr.makeSlice 39 (.int .i64 (s.size : Int)) (.int .i64 (s.size : Int))).run Try.prog W = .ok (.slice (some ⟨W.heap.size, 0, none⟩) s.size s.size) (W.alloc (.cells M 5)) := fun W => by
      have h := run_make (P := Try.prog) W 39 5 i0 (.int .u8 0) Try.underlying39 hi hz0 .i64 .i64 (s.size : Int) (s.size : Int) (by omega) (by omega) (by rw [hz2]; omega) (by omega)
      rw [← hM] at h
      simpa using h
    clear hM
    have hcp := Lib.run_copy_row_string (P := Try.prog) (w.alloc (.cells M 5)) 39 9 3 5 w.heap.size 0 s.size s.size s M 5 Try.underlying39 hinfo (heap_alloc_new w _) (Nat.le_refl _) (by omega)
    obtain ⟨Y, hY⟩ : ∃ Y, Y = (M.toList.take 0 ++ Lib.byteCells s.data.toList ++ M.toList.drop (0 + s.size)).toArray := ⟨_, rfl⟩
    rw [← hY] at hcp
    have hYl : Y.toList = Lib.byteCells s.data.toList := by
      rw [hY, List.toList_toArray, List.take_zero, List.nil_append, List.drop_of_length_le (by rw [Array.length_toList]; omega), List.append_nil]
    have hYs : Y.size = s.size := by rw [← Array.length_toList, hYl, Lib.byteCells_length, ← Lib.size_eq]
    have hgY : ((w.alloc (.cells M 5)).setRow w.heap.size Y).heap[w.heap.size]? = some (.cells Y 5 (0, 0)) := setRow_heap _ _ M _ 5 (0, 0) (heap_alloc_new w _)
    have hne : s.data.toList ≠ [] := fun e => h0 (by rw [Lib.size_eq, e]; rfl)
    have hUS := Lib.run_unsafeString_row (P := Try.prog) ((w.alloc (.cells M 5)).setRow w.heap.size Y) 43 3 9 5 Try.underlying43 hco w.heap.size Y.size (by unfold World.shape?; rw [hgY]) s.data.toList hne (by rw [← Lib.size_eq]; omega) (by rw [← Lib.size_eq]; omega)
      (fun j x hx => Lib.cells_of_row hgY Y.size j _ (by rw [List.take_of_length_le (by rw [Array.length_toList]; exact Nat.le_refl _), hYl]; simp [Lib.byteCells, hx]))
    rw [← Lib.size_eq] at hUS
    clear hY
    go_enter Try.func18, Try.ntmps18
    go_wp2
    go_ret
    have hb1 : Below w.heap.size w (w.alloc (.cells M 5)) := (Below.refl _ w).alloc (Nat.le_refl _) _
    have hb2 : Below w.heap.size (w.alloc (.cells M 5)) ((w.alloc (.cells M 5)).setRow w.heap.size Y) := ⟨rfl, rfl, rfl, by simp, fun k hk => setRow_other _ _ _ _ (by omega)⟩
    exact ⟨rfl, Lib.below_freeze (hb1.trans hb2) (p := ⟨w.heap.size, 0, none⟩) (Nat.le_refl _) _⟩

theorem clone17 (s : ByteArray) (w : World) (hlim : s.size ≤ 281474976710656) :
    Calls Try.prog 17 #[.string s] w fun e w' => e = .returned (.string s) ∧ Below w.heap.size w w' := by
  go_enter Try.func17, Try.ntmps17
  go_wp2_with (go_at_call 18; refine (clone18 _ _ hlim).mono ?_; rintro e w' ⟨rfl, hb⟩)
  go_ret
  exact ⟨rfl, by assumption⟩

theorem inside_yes (l o n : Int) (w : World) (h1 : 0 ≤ o) (h2 : 0 ≤ n) (h3 : o ≤ l) (h4 : n ≤ l - o) (h5 : l ≤ 9223372036854775807) :
    Calls Try.prog 16 #[.int .i64 l, .int .i64 o, .int .i64 n] w fun e w' => e = .returned (.bool true) ∧ w = w' := by
  go_enter Try.func16, Try.ntmps16
  go_wp2
  go_ret
  exact ⟨rfl, rfl⟩

theorem inside_no (l o n : Int) (w : World) (h : ¬ (0 ≤ o ∧ 0 ≤ n ∧ o ≤ l ∧ n ≤ l - o)) (h0 : 0 ≤ l) (h5 : l ≤ 9223372036854775807) :
    Calls Try.prog 16 #[.int .i64 l, .int .i64 o, .int .i64 n] w fun e w' => e = .returned (.bool false) ∧ w = w' := by
  by_cases h1 : 0 ≤ o
  · by_cases h2 : 0 ≤ n
    · by_cases h3 : o ≤ l
      · have h4 : decide (n ≤ l - o) = false := by simp; omega
        clear h
        go_enter Try.func16, Try.ntmps16
        go_wp2
        go_ret
        exact ⟨rfl, rfl⟩
      · have h4 : decide (o ≤ l) = false := by simp; omega
        clear h
        go_enter Try.func16, Try.ntmps16
        go_wp2
        go_ret
        exact ⟨rfl, rfl⟩
    · have h4 : decide (0 ≤ n) = false := by simp; omega
      clear h
      go_enter Try.func16, Try.ntmps16
      go_wp2
      go_ret
      exact ⟨rfl, rfl⟩
  · have h4 : decide (0 ≤ o) = false := by simp; omega
    clear h
    go_enter Try.func16, Try.ntmps16
    go_wp2
    go_ret
    exact ⟨rfl, rfl⟩

theorem part_no (s : ByteArray) (o n : Int) (w : World) (hs : s.size ≤ maxLen) (h : ¬ (0 ≤ o ∧ 0 ≤ n ∧ o ≤ (s.size : Int) ∧ n ≤ (s.size : Int) - o)) :
    Calls Try.prog 11 #[.string s, .int .i64 o, .int .i64 n] w fun e w' => e = .returned (.tuple #[.string ⟨#[]⟩, .int .i64 3]) ∧ w = w' := by
  unfold maxLen at hs
  have H : Hid (¬ (0 ≤ o ∧ 0 ≤ n ∧ o ≤ (s.size : Int) ∧ n ≤ (s.size : Int) - o)) := h
  clear h
  go_enter Try.func11, Try.ntmps11
  go_wp2_with (go_at_call 16; refine (inside_no _ _ _ _ H.out (by omega) (by omega)).mono ?_; rintro e w' ⟨rfl, rfl⟩)
  go_ret2
  exact ⟨rfl, rfl⟩

theorem part_yes (s : ByteArray) (o n : Nat) (w : World) (hs : s.size ≤ 140737488351232) (h : o + n ≤ s.size) :
    Calls Try.prog 11 #[.string s, .int .i64 o, .int .i64 n] w fun e w' => e = .returned (.tuple #[.string (s.extract o (o + n)), .int .i64 0]) ∧ Below w.heap.size w w' := by
  go_enter Try.func11, Try.ntmps11
  go_wp2_with (first | (go_at_call 16; refine (inside_yes _ _ _ _ (by omega) (by omega) (by omega) (by omega) (by omega)).mono ?_; rintro e w' ⟨rfl, rfl⟩) | (go_at_call 17; refine (clone17 _ _ (by simp; omega)).mono ?_; rintro e w' ⟨rfl, hb⟩))
  go_ret2
  exact ⟨rfl, by assumption⟩

theorem lay_no (s t : ByteArray) (o : Int) (w : World) (hs : s.size ≤ maxLen) (ht : t.size ≤ maxLen) (h : ¬ (0 ≤ o ∧ 0 ≤ (t.size : Int) ∧ o ≤ (s.size : Int) ∧ (t.size : Int) ≤ (s.size : Int) - o)) :
    Calls Try.prog 12 #[.string s, .int .i64 o, .string t] w fun e w' => e = .returned (.tuple #[.string ⟨#[]⟩, .int .i64 3]) ∧ w = w' := by
  unfold maxLen at hs ht
  have H : Hid (¬ (0 ≤ o ∧ 0 ≤ (t.size : Int) ∧ o ≤ (s.size : Int) ∧ (t.size : Int) ≤ (s.size : Int) - o)) := h
  clear h
  go_enter Try.func12, Try.ntmps12
  go_wp2_with (go_at_call 16; refine (inside_no _ _ _ _ H.out (by omega) (by omega)).mono ?_; rintro e w' ⟨rfl, rfl⟩)
  go_ret2
  exact ⟨rfl, rfl⟩

set_option maxHeartbeats 400000 in
theorem lay_yes (s t : ByteArray) (o : Nat) (w : World) (hs : s.size ≤ 140737488351232) (h : o + t.size ≤ s.size) :
    Calls Try.prog 12 #[.string s, .int .i64 o, .string t] w fun e w' => e = .returned (.tuple #[.string (L.over s o t), .int .i64 0]) ∧ Below w.heap.size w w' := by
  obtain ⟨i0, hi, hz0, hz1, hz2⟩ := info_parts info5
  have hinfo : (Try.prog.info? 5).map (·.size) = some 1 := by rw [hi]; simp [hz1]
  obtain ⟨c, hc⟩ : ∃ c, grownCap w s.size 0 5 = c := ⟨_, rfl⟩
  have hcs : s.size ≤ c := by rw [← hc]; exact grownCap_ge _ _ _ _
  have hcv := run_bytes_of_string (P := Try.prog) w 9 39 5 s Try.underlying9 Try.underlying39 Try.underlying5
  rw [hc] at hcv
  clear hc
  have hRs : (bytesRow s c).size = c := by rw [L.bytesRow_size]; omega
  have hov := L.over_cells s o t c h
  obtain ⟨R, hR⟩ : ∃ R, R = bytesRow s c := ⟨_, rfl⟩
  rw [← hR] at hcv hRs hov
  clear hR
  rw [hRs] at hcv
  have hgR : ((w.alloc (.cells R 5 (c, c + 1))).drew).heap[w.heap.size]? = some (.cells R 5 (c, c + 1)) := heap_alloc_new w _
  by_cases h0 : t.size = 0
  · have hcp := fun W d l c => Lib.run_copy_empty_string (P := Try.prog) W 39 9 3 5 d l c t Try.underlying39 (by rw [hinfo]; rfl) h0
    rw [L.over_nil s o t h0] at hov ⊢
    have hcb : (convert 39 9 (.slice (some ⟨w.heap.size, 0, none⟩) s.size c)).run Try.prog ((w.alloc (.cells R 5 (c, c + 1))).drew) = .ok (.string s) ((w.alloc (.cells R 5 (c, c + 1))).drew) := by
      have es : strOfNums (s.data.toList.map fun b => (b.toNat : Int)) = s := (M.strOfNums_bytes _).trans (Lib.mk_data s)
      refine Eq.trans ?_ (congrArg (fun x => Result.ok (Value.string x) ((w.alloc (.cells R 5 (c, c + 1))).drew)) es)
      refine run_convert_bytes_arg _ 39 5 Try.underlying39 Try.underlying5 _ 0 s.size c _ (by rw [List.length_map, ← Lib.size_eq]) ?_ 9 Try.underlying9
      intro i hi
      have ht : t.data.toList = [] := List.eq_nil_of_length_eq_zero (by rw [← Lib.size_eq]; exact h0)
      have e := hov i hi
      rw [ht, h0] at e
      rw [Nat.zero_add, cell_of_row _ _ _ _ _ _ hgR]
      simpa [Lib.byteCells] using e
    go_enter Try.func12, Try.ntmps12
    go_wp2_with (first | (go_at_call 16; refine (inside_yes _ _ _ _ (by omega) (by omega) (by omega) (by omega) (by omega)).mono ?_; rintro e w' ⟨rfl, rfl⟩))
    all_goals go_ret2
    all_goals exact ⟨rfl, ((Below.refl _ _).alloc (Nat.le_refl _) _).drew⟩
  · have hno : ¬ c = o := by omega
    have hcp := L.copy_marked (P := Try.prog) ((w.alloc (.cells R 5 (c, c + 1))).drew) 39 9 3 5 w.heap.size o (s.size - o) (c - o) t R 5 c (c + 1) Try.underlying39 hinfo hgR (by omega) (by omega) (by omega)
    obtain ⟨Y, hY⟩ : ∃ Y, Y = (R.toList.take o ++ Lib.byteCells t.data.toList ++ R.toList.drop (o + t.size)).toArray := ⟨_, rfl⟩
    rw [← hY] at hcp
    have hgY : (((w.alloc (.cells R 5 (c, c + 1))).drew).setRow w.heap.size Y).heap[w.heap.size]? = some (.cells Y 5 (c, c + 1)) := setRow_heap _ _ R _ 5 (c, c + 1) hgR
    have hcb : (convert 39 9 (.slice (some ⟨w.heap.size, 0, none⟩) s.size c)).run Try.prog (((w.alloc (.cells R 5 (c, c + 1))).drew).setRow w.heap.size Y) = .ok (.string (L.over s o t)) (((w.alloc (.cells R 5 (c, c + 1))).drew).setRow w.heap.size Y) := by
      rw [← Lib.mk_data (L.over s o t), ← M.strOfNums_bytes]
      refine run_convert_bytes_arg _ 39 5 Try.underlying39 Try.underlying5 _ 0 s.size c _ (by rw [List.length_map]; exact L.over_size s o t h) ?_ 9 Try.underlying9
      intro i hi
      rw [Nat.zero_add, cell_of_row _ _ _ _ _ _ hgY, hY]
      simpa using hov i hi
    clear hov hY
    go_enter Try.func12, Try.ntmps12
    go_wp2_with (first | (go_at_call 16; refine (inside_yes _ _ _ _ (by omega) (by omega) (by omega) (by omega) (by omega)).mono ?_; rintro e w' ⟨rfl, rfl⟩))
    go_ret2
    exact ⟨rfl, below_setRow ((Below.refl _ _).alloc (Nat.le_refl _) _).drew (Nat.le_refl _) _⟩

set_option maxHeartbeats 400000 in
theorem over_any (s t : ByteArray) (o : Nat) (w : World) (hs : s.size ≤ 140737488351232) (h : o + t.size ≤ s.size) :
    Calls Try.prog 13 #[.string s, .int .i64 o, .string t] w fun e w' => e = .returned (.string (L.over s o t)) ∧ Below w.heap.size w w' := by
  have h1 : (o : Int) ≤ (s.size : Int) := by omega
  have h2 : (o : Int) + (t.size : Int) ≤ (s.size : Int) := by omega
  go_enter Try.func13, Try.ntmps13
  go_wp2
  go_quiet (fail)
  go_wp2
  go_ret
  exact ⟨by rw [← L.over_parts s o t]; rfl, below_drewN (Below.refl _ _) _⟩

theorem choose_any (c n : Int) (w : World) (hc0 : -9223372036854775808 ≤ c) (hc1 : c ≤ 9223372036854775807) (h1 : 1 ≤ n) (h2 : n ≤ 9223372036854775807) :
    Calls Try.prog 14 #[.int .i64 c, .int .i64 n] w fun e w' => ∃ x : Int, 0 ≤ x ∧ x < n ∧ e = .returned (.int .i64 x) ∧ w = w' := by
  by_cases h0 : c < 0
  · go_enter Try.func14, Try.ntmps14
    go_wp2
    go_ret
    exact ⟨_, (M.neg_tmod c n h0 h1).1, (M.neg_tmod c n h0 h1).2, rfl, rfl⟩
  · go_enter Try.func14, Try.ntmps14
    go_wp2
    go_ret
    exact ⟨_, Int.emod_nonneg _ (by omega), Int.emod_lt_of_pos _ (by omega), rfl, rfl⟩
end Go.Proofs.Ytmgifpmajmojoaa.W
