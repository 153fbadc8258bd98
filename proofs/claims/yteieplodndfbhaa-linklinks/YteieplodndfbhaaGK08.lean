import Derived.Test.YteieplodndfbhaaGK07
import Derived.Test.YteieplodndfbhaaGK00
import Derived.Lib.Walk
import Derived.Lib.BufferWrite
import Derived.Lib.Hide
import Derived.Laws.MakeOwn
import Derived.Laws.IdiomStrings
import Derived.WalkSpells
import Derived.Deep.QuietTactic
import Derived.BigQuiet
import Derived.Laws.CopyOwn
import Derived.Test.YteieplodndfbhaaGK01
import Derived.Test.YteieplodndfbhaaGK06
import Derived.Test.YteieplodndfbhaaGK02
namespace Go.Proofs.Yteieplodndfbhaa.CW
open Go.RowKit
set_option linter.unusedVariables false
set_option maxRecDepth 100000

set_option maxHeartbeats 400000 in
theorem clone18 (s : ByteArray) (w : World) (hlim : s.size ≤ 281474976710656) :
    Calls Try.prog 62 #[.string s] w fun e w' => e = .returned (.string s) ∧ Below w.heap.size w w' := by
  by_cases h0 : s.size = 0
  · have hs : s = ⟨#[]⟩ := by
      apply ByteArray.ext
      exact Array.eq_empty_of_size_eq_zero h0
    subst hs
    go_enter Try.func62, Try.ntmps62
    go_wp2
    go_ret
    exact ⟨rfl, Below.refl _ _⟩
  · obtain ⟨i0, hi, hz0, hz1, hz2⟩ := info_parts info5
    have hinfo : (Try.prog.info? 5).map (·.size) = some 1 := by rw [hi]; simp [hz1]
    have hco : Try.prog.cellsOf 5 = 1 := by simp [Program.cellsOf, hi, hz1]
    obtain ⟨M, hM⟩ : ∃ M, M = madeCells (Value.int .u8 0).cells (((s.size : Nat) : Int).toNat * i0.size) := ⟨_, rfl⟩
    have hMs : M.size = s.size := by rw [hM, size_madeCells, hz1]; simp
    have hmk : ∀ W : World, (Instr.makeSlice 80 (.int .i64 (s.size : Int)) (.int .i64 (s.size : Int))).run Try.prog W = .ok (.slice (some ⟨W.heap.size, 0, none⟩) s.size s.size) (W.alloc (.cells M 5)) := fun W => by
      have h := run_make (P := Try.prog) W 80 5 i0 (.int .u8 0) Try.underlying80 hi hz0 .i64 .i64 (s.size : Int) (s.size : Int) (by omega) (by omega) (by rw [hz2]; omega) (by omega)
      rw [← hM] at h
      simpa using h
    clear hM
    have hcp := Lib.run_copy_row_string (P := Try.prog) (w.alloc (.cells M 5)) 80 9 3 5 w.heap.size 0 s.size s.size s M 5 Try.underlying80 hinfo (heap_alloc_new w _) (Nat.le_refl _) (by omega)
    obtain ⟨Y, hY⟩ : ∃ Y, Y = (M.toList.take 0 ++ Lib.byteCells s.data.toList ++ M.toList.drop (0 + s.size)).toArray := ⟨_, rfl⟩
    rw [← hY] at hcp
    have hYl : Y.toList = Lib.byteCells s.data.toList := by
      rw [hY, List.toList_toArray, List.take_zero, List.nil_append, List.drop_of_length_le (by rw [Array.length_toList]; omega), List.append_nil]
    have hYs : Y.size = s.size := by rw [← Array.length_toList, hYl, Lib.byteCells_length, ← Lib.size_eq]
    have hgY : ((w.alloc (.cells M 5)).setRow w.heap.size Y).heap[w.heap.size]? = some (.cells Y 5 (0, 0)) := setRow_heap _ _ M _ 5 (0, 0) (heap_alloc_new w _)
    have hne : s.data.toList ≠ [] := fun e => h0 (by rw [Lib.size_eq, e]; rfl)
    have hUS := Lib.run_unsafeString_row (P := Try.prog) ((w.alloc (.cells M 5)).setRow w.heap.size Y) 142 3 9 5 Try.underlying142 hco w.heap.size Y.size (by unfold World.shape?; rw [hgY]) s.data.toList hne (by rw [← Lib.size_eq]; omega) (by rw [← Lib.size_eq]; omega)
      (fun j x hx => Lib.cells_of_row hgY Y.size j _ (by rw [List.take_of_length_le (by rw [Array.length_toList]; exact Nat.le_refl _), hYl]; simp [Lib.byteCells, hx]))
    rw [← Lib.size_eq] at hUS
    clear hY
    go_enter Try.func62, Try.ntmps62
    go_wp2
    go_ret
    have hb1 : Below w.heap.size w (w.alloc (.cells M 5)) := (Below.refl _ w).alloc (Nat.le_refl _) _
    have hb2 : Below w.heap.size (w.alloc (.cells M 5)) ((w.alloc (.cells M 5)).setRow w.heap.size Y) := ⟨rfl, rfl, rfl, by simp, fun k hk => setRow_other _ _ _ _ (by omega)⟩
    exact ⟨rfl, Lib.below_freeze (hb1.trans hb2) (p := ⟨w.heap.size, 0, none⟩) (Nat.le_refl _) _⟩

theorem clone17 (s : ByteArray) (w : World) (hlim : s.size ≤ 281474976710656) :
    Calls Try.prog 35 #[.string s] w fun e w' => e = .returned (.string s) ∧ Below w.heap.size w w' := by
  go_enter Try.func35, Try.ntmps35
  go_wp2_with (go_at_call 62; refine (clone18 _ _ hlim).mono ?_; rintro e w' ⟨rfl, hb⟩)
  go_ret
  exact ⟨rfl, by assumption⟩

theorem inside_yes (l o n : Int) (w : World) (h1 : 0 ≤ o) (h2 : 0 ≤ n) (h3 : o ≤ l) (h4 : n ≤ l - o) (h5 : l ≤ 9223372036854775807) :
    Calls Try.prog 49 #[.int .i64 l, .int .i64 o, .int .i64 n] w fun e w' => e = .returned (.bool true) ∧ w = w' := by
  go_enter Try.func49, Try.ntmps49
  go_wp2
  go_ret
  exact ⟨rfl, rfl⟩

theorem inside_no (l o n : Int) (w : World) (h : ¬ (0 ≤ o ∧ 0 ≤ n ∧ o ≤ l ∧ n ≤ l - o)) (h0 : 0 ≤ l) (h5 : l ≤ 9223372036854775807) :
    Calls Try.prog 49 #[.int .i64 l, .int .i64 o, .int .i64 n] w fun e w' => e = .returned (.bool false) ∧ w = w' := by
  by_cases h1 : 0 ≤ o
  · by_cases h2 : 0 ≤ n
    · by_cases h3 : o ≤ l
      · have h4 : decide (n ≤ l - o) = false := by simp; omega
        clear h
        go_enter Try.func49, Try.ntmps49
        go_wp2
        go_ret
        exact ⟨rfl, rfl⟩
      · have h4 : decide (o ≤ l) = false := by simp; omega
        clear h
        go_enter Try.func49, Try.ntmps49
        go_wp2
        go_ret
        exact ⟨rfl, rfl⟩
    · have h4 : decide (0 ≤ n) = false := by simp; omega
      clear h
      go_enter Try.func49, Try.ntmps49
      go_wp2
      go_ret
      exact ⟨rfl, rfl⟩
  · have h4 : decide (0 ≤ o) = false := by simp; omega
    clear h
    go_enter Try.func49, Try.ntmps49
    go_wp2
    go_ret
    exact ⟨rfl, rfl⟩

theorem part_no (s : ByteArray) (o n : Int) (w : World) (hs : s.size ≤ maxLen) (h : ¬ (0 ≤ o ∧ 0 ≤ n ∧ o ≤ (s.size : Int) ∧ n ≤ (s.size : Int) - o)) :
    Calls Try.prog 17 #[.string s, .int .i64 o, .int .i64 n] w fun e w' => e = .returned (.tuple #[.string ⟨#[]⟩, .int .i64 3]) ∧ w = w' := by
  unfold maxLen at hs
  have H : Hid (¬ (0 ≤ o ∧ 0 ≤ n ∧ o ≤ (s.size : Int) ∧ n ≤ (s.size : Int) - o)) := h
  clear h
  go_enter Try.func17, Try.ntmps17
  go_wp2_with (go_at_call 49; refine (inside_no _ _ _ _ H.out (by omega) (by omega)).mono ?_; rintro e w' ⟨rfl, rfl⟩)
  go_ret2
  exact ⟨rfl, rfl⟩

theorem part_yes (s : ByteArray) (o n : Nat) (w : World) (hs : s.size ≤ 140737488351232) (h : o + n ≤ s.size) :
    Calls Try.prog 17 #[.string s, .int .i64 o, .int .i64 n] w fun e w' => e = .returned (.tuple #[.string (s.extract o (o + n)), .int .i64 0]) ∧ Below w.heap.size w w' := by
  go_enter Try.func17, Try.ntmps17
  go_wp2_with (first | (go_at_call 49; refine (inside_yes _ _ _ _ (by omega) (by omega) (by omega) (by omega) (by omega)).mono ?_; rintro e w' ⟨rfl, rfl⟩) | (go_at_call 35; refine (clone17 _ _ (by simp; omega)).mono ?_; rintro e w' ⟨rfl, hb⟩))
  go_ret2
  exact ⟨rfl, by assumption⟩

theorem lay_no (s t : ByteArray) (o : Int) (w : World) (hs : s.size ≤ maxLen) (ht : t.size ≤ maxLen) (h : ¬ (0 ≤ o ∧ 0 ≤ (t.size : Int) ∧ o ≤ (s.size : Int) ∧ (t.size : Int) ≤ (s.size : Int) - o)) :
    Calls Try.prog 36 #[.string s, .int .i64 o, .string t] w fun e w' => e = .returned (.tuple #[.string ⟨#[]⟩, .int .i64 3]) ∧ w = w' := by
  unfold maxLen at hs ht
  have H : Hid (¬ (0 ≤ o ∧ 0 ≤ (t.size : Int) ∧ o ≤ (s.size : Int) ∧ (t.size : Int) ≤ (s.size : Int) - o)) := h
  clear h
  go_enter Try.func36, Try.ntmps36
  go_wp2_with (go_at_call 49; refine (inside_no _ _ _ _ H.out (by omega) (by omega)).mono ?_; rintro e w' ⟨rfl, rfl⟩)
  go_ret2
  exact ⟨rfl, rfl⟩

set_option maxHeartbeats 400000 in
theorem lay_yes (s t : ByteArray) (o : Nat) (w : World) (hs : s.size ≤ 140737488351232) (h : o + t.size ≤ s.size) :
    Calls Try.prog 36 #[.string s, .int .i64 o, .string t] w fun e w' => e = .returned (.tuple #[.string (CL.over s o t), .int .i64 0]) ∧ Below w.heap.size w w' := by
  obtain ⟨i0, hi, hz0, hz1, hz2⟩ := info_parts info5
  have hinfo : (Try.prog.info? 5).map (·.size) = some 1 := by rw [hi]; simp [hz1]
  obtain ⟨c, hc⟩ : ∃ c, grownCap w s.size 0 5 = c := ⟨_, rfl⟩
  have hcs : s.size ≤ c := by rw [← hc]; exact grownCap_ge _ _ _ _
  have hcv := run_bytes_of_string (P := Try.prog) w 9 80 5 s Try.underlying9 Try.underlying80 Try.underlying5
  rw [hc] at hcv
  clear hc
  have hRs : (bytesRow s c).size = c := by rw [CL.bytesRow_size]; omega
  have hov := CL.over_cells s o t c h
  obtain ⟨R, hR⟩ : ∃ R, R = bytesRow s c := ⟨_, rfl⟩
  rw [← hR] at hcv hRs hov
  clear hR
  rw [hRs] at hcv
  have hgR : ((w.alloc (.cells R 5 (c, c + 1))).drew).heap[w.heap.size]? = some (.cells R 5 (c, c + 1)) := heap_alloc_new w _
  by_cases h0 : t.size = 0
  · have hcp := fun W d l c => Lib.run_copy_empty_string (P := Try.prog) W 80 9 3 5 d l c t Try.underlying80 (by rw [hinfo]; rfl) h0
    rw [CL.over_nil s o t h0] at hov ⊢
    have hcb : (convert 80 9 (.slice (some ⟨w.heap.size, 0, none⟩) s.size c)).run Try.prog ((w.alloc (.cells R 5 (c, c + 1))).drew) = .ok (.string s) ((w.alloc (.cells R 5 (c, c + 1))).drew) := by
      have es : strOfNums (s.data.toList.map fun b => (b.toNat : Int)) = s := (CM.strOfNums_bytes _).trans (Lib.mk_data s)
      refine Eq.trans ?_ (congrArg (fun x => Result.ok (Value.string x) ((w.alloc (.cells R 5 (c, c + 1))).drew)) es)
      refine run_convert_bytes_arg _ 80 5 Try.underlying80 Try.underlying5 _ 0 s.size c _ (by rw [List.length_map, ← Lib.size_eq]) ?_ 9 Try.underlying9
      intro i hi
      have ht : t.data.toList = [] := List.eq_nil_of_length_eq_zero (by rw [← Lib.size_eq]; exact h0)
      have e := hov i hi
      rw [ht, h0] at e
      rw [Nat.zero_add, cell_of_row _ _ _ _ _ _ hgR]
      simpa [Lib.byteCells] using e
    go_enter Try.func36, Try.ntmps36
    go_wp2_with (first | (go_at_call 49; refine (inside_yes _ _ _ _ (by omega) (by omega) (by omega) (by omega) (by omega)).mono ?_; rintro e w' ⟨rfl, rfl⟩))
    all_goals go_ret2
    all_goals exact ⟨rfl, ((Below.refl _ _).alloc (Nat.le_refl _) _).drew⟩
  · have hno : ¬ c = o := by omega
    have hcp := CL.copy_marked (P := Try.prog) ((w.alloc (.cells R 5 (c, c + 1))).drew) 80 9 3 5 w.heap.size o (s.size - o) (c - o) t R 5 c (c + 1) Try.underlying80 hinfo hgR (by omega) (by omega) (by omega)
    obtain ⟨Y, hY⟩ : ∃ Y, Y = (R.toList.take o ++ Lib.byteCells t.data.toList ++ R.toList.drop (o + t.size)).toArray := ⟨_, rfl⟩
    rw [← hY] at hcp
    have hgY : (((w.alloc (.cells R 5 (c, c + 1))).drew).setRow w.heap.size Y).heap[w.heap.size]? = some (.cells Y 5 (c, c + 1)) := setRow_heap _ _ R _ 5 (c, c + 1) hgR
    have hcb : (convert 80 9 (.slice (some ⟨w.heap.size, 0, none⟩) s.size c)).run Try.prog (((w.alloc (.cells R 5 (c, c + 1))).drew).setRow w.heap.size Y) = .ok (.string (CL.over s o t)) (((w.alloc (.cells R 5 (c, c + 1))).drew).setRow w.heap.size Y) := by
      rw [← Lib.mk_data (CL.over s o t), ← CM.strOfNums_bytes]
      refine run_convert_bytes_arg _ 80 5 Try.underlying80 Try.underlying5 _ 0 s.size c _ (by rw [List.length_map]; exact CL.over_size s o t h) ?_ 9 Try.underlying9
      intro i hi
      rw [Nat.zero_add, cell_of_row _ _ _ _ _ _ hgY, hY]
      simpa using hov i hi
    clear hov hY
    go_enter Try.func36, Try.ntmps36
    go_wp2_with (first | (go_at_call 49; refine (inside_yes _ _ _ _ (by omega) (by omega) (by omega) (by omega) (by omega)).mono ?_; rintro e w' ⟨rfl, rfl⟩))
    go_ret2
    exact ⟨rfl, below_setRow ((Below.refl _ _).alloc (Nat.le_refl _) _).drew (Nat.le_refl _) _⟩

set_option maxHeartbeats 400000 in
theorem over_any (s t : ByteArray) (o : Nat) (w : World) (hs : s.size ≤ 140737488351232) (h : o + t.size ≤ s.size) :
    Calls Try.prog 38 #[.string s, .int .i64 o, .string t] w fun e w' => e = .returned (.string (CL.over s o t)) ∧ Below w.heap.size w w' := by
  have h1 : (o : Int) ≤ (s.size : Int) := by omega
  have h2 : (o : Int) + (t.size : Int) ≤ (s.size : Int) := by omega
  go_enter Try.func38, Try.ntmps38
  go_wp2
  go_quiet (fail)
  go_wp2
  go_ret
  exact ⟨by rw [← CL.over_parts s o t]; rfl, below_drewN (Below.refl _ _) _⟩

end Go.Proofs.Yteieplodndfbhaa.CW
/- The linker: a page with that sheet. -/
namespace Go.Proofs.Yteieplodndfbhaa.LW
open Go.RowKit
open Go.Proofs.Yteieplodndfbhaa.W (hideC)
set_option linter.unusedVariables false
set_option maxRecDepth 100000

theorem ret_sn {s t : ByteArray} {a b : Int} (h : s = t) (g : a = b) : Ending.returned (.tuple #[.string s, .int .i64 a]) = .returned (.tuple #[.string t, .int .i64 b]) := by rw [h, g]

set_option maxHeartbeats 2000000 in
theorem fill_any (s : LM.Sh) (w : World) (h : LM.HasF w s.ao s.fixes) (hf : LM.FitH s) :
    Calls Try.prog 11 #[.agg (LM.cellsH s)] w fun e w' => e = .returned (.tuple #[.string (LM.fillN s).1, .int .i64 (LM.fillN s).2]) ∧ Below w.heap.size w w' := by
  have HR : Hid (∀ W, Below w.heap.size w W → Calls Try.prog 34 #[.agg (LM.cellsH s)] W fun e w' => e = .returned (.bool (LM.sheetB s)) ∧ Below W.heap.size W w') := fun W hb => rightSheet_any s W (h.below hb) hf
  obtain ⟨f1, f2, f3, f4⟩ := hf
  obtain ⟨pg, dt, fs, ao, cap⟩ := s
  simp only at f1 f2 f3 f4
  unfold M.Short at f2 f3
  simp only [LM.cellsH] at HR
  simp only [LM.cellsH]
  have hdl : dt.size ≤ maxLen := by unfold maxLen; omega
  have F4 := hideC f4
  have HH := hideC h
  clear f4 h f1
  have HB := hideC ((Below.refl w.heap.size w).alloc (Nat.le_refl _) (.cells #[.int .i64 pg, .string dt, .slice ao fs.length cap] 43))
  have BX := hideC (B.new w #[.int .i64 pg, .string dt, .slice ao fs.length cap] 43)
  by_cases hs : LM.sheetB ⟨pg, dt, fs, ao, cap⟩ = true
  · have HN : Hid (LM.fillN ⟨pg, dt, fs, ao, cap⟩ = (LM.laidTo dt fs fs.length, 0)) := by
      show _ = _
      unfold LM.fillN
      rw [if_pos hs]
      rfl
    obtain ⟨hd, hfx⟩ : LM.headB ⟨pg, dt, fs, ao, cap⟩ = true ∧ LM.fixesTo fs fs.length = true := by
      unfold LM.sheetB at hs
      simpa using hs
    have h16 : dt.size = 16 := by
      unfold LM.headB at hd
      exact (of_decide_eq_true hd).2.2
    have HFX := hideC hfx
    rw [hs] at HR
    clear hs hd hfx
    go_enter Try.func11, Try.ntmps11
    go_wp2_with (first | (go_at_call 34; refine (HR.out _ HB.out).mono ?_; rintro e w1 ⟨rfl, hb⟩; have HB := hideC (HB.out.trans (hb.mono HB.out.size)); have BX := hideC (B.below BX.out hb (B.isLt BX.out)); have q0 := B.cell BX.out 0 rfl; have q1 := B.cell BX.out 1 rfl; have q2 := B.cell BX.out 2 rfl; clear hb) | (go_at_call 35; refine (CW.clone17 _ _ (by omega)).mono ?_; rintro e w2 ⟨rfl, hb⟩; have HB := hideC (HB.out.trans (hb.mono HB.out.size)); have BX := hideC (B.below BX.out hb (B.isLt BX.out)); have q0 := B.cell BX.out 0 rfl; have q1 := B.cell BX.out 1 rfl; have q2 := B.cell BX.out 2 rfl; clear hb))
    go_loopw [16, 4] (fun i d wr => ∃ k : Nat, k ≤ fs.length ∧ i = .int .i64 k ∧ d = .string (LM.laidTo dt fs k) ∧ Below w.heap.size w wr) (fun i _ _ => fs.length - (intOf i).toNat)
    case atStart => exact ⟨0, by omega, rfl, rfl, HB.out⟩
    case round =>
      obtain ⟨k, hk, rfl, rfl, hb⟩ := hrel
      have HBr := hideC hb
      by_cases hlt : k < fs.length
      · obtain ⟨b, off, hao, hbl, hlie⟩ := (HH.out.below hb) (by omega)
        subst hao
        obtain ⟨c0, c1⟩ := hlie k hlt
        have hok := (LM.fixB_iff _ _).1 (LM.fixesTo_ok fs fs.length HFX.out k hlt)
        have hgk : LM.fixesTo fs k = true := by
          cases e : LM.fixesTo fs k
          · rw [LM.fixesTo_false fs k fs.length (by omega) e] at HFX
            cases HFX
          · rfl
        have hed := LM.endTo_ge fs k hgk
        have hsz := LM.laidTo_size dt fs h16 k hgk
        have HNX : Hid (LM.laidTo dt fs (k + 1) = CL.over (LM.laidTo dt fs k) (LM.fxAt fs k).off.toNat (LM.fxAt fs k).bytes) := rfl
        obtain ⟨f, hfe⟩ : ∃ f, f = LM.fxAt fs k := ⟨_, rfl⟩
        rw [← hfe] at c0 c1 hok HNX
        obtain ⟨D, hD⟩ : ∃ D, D = LM.laidTo dt fs k := ⟨_, rfl⟩
        rw [← hD] at hsz HNX
        rw [← hD]
        obtain ⟨o, ho⟩ : ∃ o : Nat, f.off = (o : Int) := ⟨f.off.toNat, by omega⟩
        rw [ho] at c0 hok
        rw [ho, Int.toNat_natCast] at HNX
        clear hfe hD hgk hlie hb
        have HBA := hideC (HBr.out.alloc HBr.out.size (.cells #[.int .i64 (o : Int), .string f.bytes] 89))
        go_wp2_with (go_at_call 36; refine (CW.lay_yes D f.bytes o _ (by omega) (by omega)).mono ?_; rintro e w3 ⟨rfl, hb⟩; have HBA := hideC (HBA.out.trans (hb.mono HBA.out.size)); clear hb)
        go_roundw
        case rel => exact ⟨k + 1, by omega, by go_num, by rw [HNX.out], HBA.out⟩
        case measure => simp [intOf]; omega
      · obtain rfl : k = fs.length := by omega
        go_wp2
        go_ret2
        exact ⟨ret_sn (by rw [HN.out]) (by rw [HN.out]), HBr.out⟩
  · have hs' : LM.sheetB ⟨pg, dt, fs, ao, cap⟩ = false := by simpa using hs
    have HN : Hid (LM.fillN ⟨pg, dt, fs, ao, cap⟩ = (⟨#[]⟩, 1)) := by
      show _ = _
      unfold LM.fillN
      rw [if_neg hs]
    rw [hs'] at HR
    clear hs hs'
    rw [HN.out]
    go_enter Try.func11, Try.ntmps11
    go_wp2_with (go_at_call 34; refine (HR.out _ HB.out).mono ?_; rintro e w1 ⟨rfl, hb⟩; have HB := hideC (HB.out.trans (hb.mono HB.out.size)); clear hb)
    go_ret2
    exact ⟨rfl, HB.out⟩
end Go.Proofs.Yteieplodndfbhaa.LW
/- The linker: Check's parts. -/
namespace Go.Proofs.Yteieplodndfbhaa.LW
open Go.RowKit
open Go.Proofs.Yteieplodndfbhaa.W (hideC)
set_option linter.unusedVariables false
set_option maxRecDepth 100000

theorem anyZero_nil (ao : Option Addr) (cap : Nat) (w : World) :
    Calls Try.prog 40 #[.slice ao 0 cap] w fun e w' => e = .returned (.bool (LM.anyZeroB [])) ∧ Below w.heap.size w w' := by
  go_enter Try.func40, Try.ntmps40
  go_wp2
  refine wp_loop_rounds 1 ?_
  rw [rounds_succ]
  go_wp2
  go_ret
  exact ⟨rfl, Below.refl _ _⟩
set_option maxHeartbeats 1000000 in
theorem anyZero_some (l : List AM.Ar) (b off cap : Nat) (w : World) (hl : AM.Lie w b off l) (hn : l.length ≤ 140737488351232) :
    Calls Try.prog 40 #[.slice (some ⟨b, off, none⟩) l.length cap] w fun e w' => e = .returned (.bool (LM.anyZeroB l)) ∧ Below w.heap.size w w' := by
  go_enter Try.func40, Try.ntmps40
  go_wp2
  go_loopw [7] (fun i wr => ∃ k : Nat, k ≤ l.length ∧ i = .int .i64 k ∧ LM.zeroTo l k = false ∧ Below w.heap.size w wr) (fun i _ => l.length - (intOf i).toNat)
  case atStart => exact ⟨0, by omega, rfl, rfl, Below.refl _ _⟩
  case round =>
    obtain ⟨k, hk, rfl, hz, hb⟩ := hrel
    have HZ := hideC hz
    have HBr := hideC hb
    clear hz
    by_cases hlt : k < l.length
    · obtain ⟨c0, c1, c2, c3⟩ := (hl.below hb) k hlt
      obtain ⟨a, ha⟩ : ∃ a, a = AM.at_ l k := ⟨_, rfl⟩
      rw [← ha] at c0 c1 c2 c3
      have HA := hideC ha
      clear ha hb
      by_cases hzr : a.zero = true
      · have HX : Hid (LM.anyZeroB l = true) := LM.zero_at l k hlt (by rw [← HA.out]; exact hzr)
        go_wp2
        go_ret
        exact ⟨ret_bool (by rw [HX.out]), HBr.out.alloc HBr.out.size _⟩
      · have hzr' : a.zero = false := by simpa using hzr
        clear hzr
        have HX : Hid (LM.zeroTo l (k + 1) = false) := by
          show _ = _
          simp only [LM.zeroTo]
          rw [HZ.out, ← HA.out, hzr']
          rfl
        go_wp2
        go_roundw
        case rel => exact ⟨k + 1, by omega, by go_num, HX.out, HBr.out.alloc HBr.out.size _⟩
        case measure => simp [intOf]; omega
    · obtain rfl : k = l.length := by omega
      go_wp2
      go_ret
      exact ⟨ret_bool HZ.out.symm, HBr.out⟩
theorem anyZero_any (l : List AM.Ar) (v : Value) (w : World) (h : AW.Has w v l) (hf : AW.AllFit l) :
    Calls Try.prog 40 #[v] w fun e w' => e = .returned (.bool (LM.anyZeroB l)) ∧ Below w.heap.size w w' := by
  obtain ⟨ao, cap, rfl, h⟩ := h
  rcases h with rfl | ⟨b, off, rfl, hl⟩
  · exact anyZero_nil ao cap w
  · exact anyZero_some l b off cap w hl hf.2

set_option maxHeartbeats 1000000 in
theorem rightSheets_any (hs : List LM.Sh) (ao : Option Addr) (cap : Nat) (w : World) (h : LM.HasH w ao hs) (hf : LM.FitHs hs) :
    Calls Try.prog 42 #[.slice ao hs.length cap] w fun e w' => e = .returned (.bool (LM.sheetsB hs)) ∧ Below w.heap.size w w' := by
  have HF := hideC hf
  have HH := hideC h
  have hn : hs.length ≤ 140737488351232 := hf.1
  clear h hf
  go_enter Try.func42, Try.ntmps42
  go_wp2
  go_loopw [7] (fun i wr => ∃ k : Nat, k ≤ hs.length ∧ i = .int .i64 k ∧ LM.sheetsTo hs k = true ∧ Below w.heap.size w wr) (fun i _ => hs.length - (intOf i).toNat)
  case atStart => exact ⟨0, by omega, rfl, rfl, Below.refl _ _⟩
  case round =>
    obtain ⟨k, hk, rfl, hz, hb⟩ := hrel
    have HZ := hideC hz
    have HBr := hideC hb
    clear hz
    by_cases hlt : k < hs.length
    · obtain ⟨b, off, hao, hbl, hlie⟩ := (HH.out.below hb) (by omega)
      subst hao
      obtain ⟨c0, c1, c2, c3⟩ := hlie k hlt
      have hfk := HF.out.2 k hlt
      have HE : Hid (LM.sheetsTo hs (k + 1) = LM.sheetB (LM.shAt hs k)) := by
        show _ = _
        simp only [LM.sheetsTo]
        rw [HZ.out, Bool.true_and]
      have HE2 : Hid (LM.sheetB (LM.shAt hs k) = false → LM.sheetsB hs = false) := fun e => LM.sheets_bad hs k hlt e
      obtain ⟨s, hse⟩ : ∃ s, s = LM.shAt hs k := ⟨_, rfl⟩
      rw [← hse] at c0 c1 c2 c3 hfk HE HE2
      clear hse hlie hb
      have HBA := hideC (HBr.out.alloc HBr.out.size (.cells #[.int .i64 s.page, .string s.data, .slice s.ao s.fixes.length s.cap] 43))
      have HC : Hid (∀ W, Below wr.heap.size wr W → Calls Try.prog 34 #[.agg #[.int .i64 s.page, .string s.data, .slice s.ao s.fixes.length s.cap]] W fun e w' => e = .returned (.bool (LM.sheetB s)) ∧ Below W.heap.size W w') := fun W hb => rightSheet_any s W (c3.below hb) hfk
      clear c3 hfk
      cases e : LM.sheetB s with
      | true =>
        rw [e] at HC HE
        clear e
        go_wp2_with (go_at_call 34; refine (HC.out _ ((Below.refl _ _).alloc (Nat.le_refl _) _)).mono ?_; rintro e w1 ⟨rfl, hb⟩; have HBA := hideC (HBA.out.trans (hb.mono HBA.out.size)); clear hb)
        go_roundw
        case rel => exact ⟨k + 1, by omega, by go_num, HE.out, HBA.out⟩
        case measure => simp [intOf]; omega
      | false =>
        have HX := hideC (HE2.out e)
        rw [e] at HC
        clear e HE2 HE
        go_wp2_with (go_at_call 34; refine (HC.out _ ((Below.refl _ _).alloc (Nat.le_refl _) _)).mono ?_; rintro e w1 ⟨rfl, hb⟩; have HBA := hideC (HBA.out.trans (hb.mono HBA.out.size)); clear hb)
        go_ret
        exact ⟨ret_bool (by rw [HX.out]), HBA.out⟩
    · obtain rfl : k = hs.length := by omega
      go_wp2
      go_ret
      exact ⟨ret_bool HZ.out.symm, HBr.out⟩
end Go.Proofs.Yteieplodndfbhaa.LW
/- The linker: a sheet for each page. -/
namespace Go.Proofs.Yteieplodndfbhaa.LW
open Go.RowKit
open Go.Proofs.Yteieplodndfbhaa.W (hideC)
set_option linter.unusedVariables false
set_option maxRecDepth 100000

theorem slice_eq {a a' : Option Addr} {n n' m m' : Nat} (h1 : a = a') (h2 : n = n') (h3 : m = m') : Value.slice a n m = .slice a' n' m' := by rw [h1, h2, h3]
set_option maxHeartbeats 3000000 in
theorem forEach_any (l : List AM.Ar) (hs : List LM.Sh) (en : Int) (va : Value) (ao : Option Addr) (cap : Nat) (w : World) (ha : AW.Has w va l) (hc : AM.checkN l = 0) (h : LM.HasH w ao hs) (hn : hs.length ≤ 140737488351232) (hcap : hs.length ≤ cap) :
    Calls Try.prog 41 #[.agg #[va, .slice ao hs.length cap, .int .i64 en]] w fun e w' => e = .returned (.bool (LM.forEachB l hs)) ∧ Below w.heap.size w w' := by
  obtain ⟨b, off, hbo⟩ : ∃ b off, 0 < hs.length → ao = some ⟨b, off, none⟩ ∧ b < w.heap.size ∧ LM.LieH w b off hs := by
    by_cases h0 : 0 < hs.length
    · obtain ⟨b, off, h1, h2, h3⟩ := h h0
      exact ⟨b, off, fun _ => ⟨h1, h2, h3⟩⟩
    · exact ⟨0, 0, fun g => (h0 g).elim⟩
  have HBO := hideC hbo
  have HC := hideC hc
  have hlen := AM.good_len l hc
  obtain ⟨aa, ca, rfl, hal⟩ := ha
  have HAL : Hid (0 < l.length → ∃ b off, aa = some ⟨b, off, none⟩ ∧ AM.Lie w b off l) := fun g => by
    rcases hal with rfl | ⟨b, off, e, hl⟩
    · exact (Nat.lt_irrefl 0 g).elim
    · exact ⟨b, off, e, hl⟩
  clear hbo hc h hal
  have HB := hideC ((Below.refl w.heap.size w).alloc (Nat.le_refl _) (.cells #[.slice aa l.length ca, .slice ao hs.length cap, .int .i64 en] 32))
  go_enter Try.func41, Try.ntmps41
  go_wp2
  go_loopw [12, 3] (fun ix v wr => ∃ (i c : Nat) (ao' : Option Addr), i ≤ l.length ∧ ix = .int .i64 i ∧ v = .slice ao' (hs.length - c) (cap - c) ∧ c ≤ hs.length ∧ (c < hs.length → ao' = some ⟨b, off + c * 3, none⟩) ∧ (hs.take c).map (·.page) = LM.pagesTo l i ∧ Below w.heap.size w wr) (fun ix _ _ => l.length - (intOf ix).toNat)
  case atStart => exact ⟨0, 0, ao, by omega, rfl, rfl, by omega, fun g => by rw [(HBO.out g).1, Nat.zero_mul, Nat.add_zero], rfl, HB.out⟩
  case round =>
    obtain ⟨i, c, ao', hi, rfl, rfl, hcl, hao, htk, hb⟩ := hrel
    have HAO := hideC hao
    have HTK := hideC htk
    have HBr := hideC hb
    clear hao htk
    by_cases hlt : i < l.length
    · obtain ⟨ba, offa, hae, hl⟩ := HAL.out (by omega)
      subst hae
      obtain ⟨c0, c1, c2, c3⟩ := (hl.below hb) i hlt
      have hbk := AM.okAt_pages l i (AM.good_pages l HC.out i hlt)
      have HSP : Hid (∀ n, n < (AM.at_ l i).pages.toNat → ∃ t, LM.pagesOf l = (LM.pagesTo l i ++ LM.pagesN (AM.at_ l i) n) ++ ((AM.at_ l i).page + (n : Int)) :: t) := fun n hn => LM.pages_split l i hlt n hn
      have HNX : Hid (LM.pagesTo l (i + 1) = LM.pagesTo l i ++ LM.pagesN (AM.at_ l i) (AM.at_ l i).pages.toNat) := rfl
      obtain ⟨a, hae⟩ : ∃ a, a = AM.at_ l i := ⟨_, rfl⟩
      rw [← hae] at c0 c1 c2 c3 hbk HSP HNX
      clear hae hb
      obtain ⟨P, hP⟩ : ∃ P : Nat, a.pages = (P : Int) := ⟨a.pages.toNat, by omega⟩
      rw [hP] at c1 hbk HSP HNX
      rw [Int.toNat_natCast] at HSP HNX
      have HBA := hideC (HBr.out.alloc HBr.out.size (.cells #[.int .i64 a.page, .int .i64 (P : Int), .int .i64 a.prot, .bool a.zero] 99))
      have BA := hideC (B.new wr #[.int .i64 a.page, .int .i64 (P : Int), .int .i64 a.prot, .bool a.zero] 99)
      go_wp2
      go_loopw [18, 3] (fun nx v wi => ∃ (n c : Nat) (ao' : Option Addr), n ≤ P ∧ nx = .int .i64 n ∧ v = .slice ao' (hs.length - c) (cap - c) ∧ c ≤ hs.length ∧ (c < hs.length → ao' = some ⟨b, off + c * 3, none⟩) ∧ (hs.take c).map (·.page) = LM.pagesTo l i ++ LM.pagesN a n ∧ Below w.heap.size w wi ∧ wi.heap[wr.heap.size]? = some (.cells #[.int .i64 a.page, .int .i64 (P : Int), .int .i64 a.prot, .bool a.zero] 99 (0, 0))) (fun nx _ _ => P - (intOf nx).toNat)
      case atStart => exact ⟨0, c, ao', by omega, rfl, rfl, hcl, HAO.out, by rw [HTK.out]; simp [LM.pagesN], HBA.out, BA.out⟩
      case round =>
        obtain ⟨n, c, ao', hn', rfl, rfl, hcl, hao, htk, hb, hba⟩ := hrel
        have HAO := hideC hao
        have HTK := hideC htk
        have HBi := hideC hb
        have BAi := hideC hba
        have x0 := B.cell hba 0 rfl
        clear hao htk hba
        by_cases hlp : n < P
        · obtain ⟨t, ht⟩ := HSP.out n hlp
          have HT := hideC ht
          clear ht
          by_cases hce : c = hs.length
          · have HX : Hid (LM.forEachB l hs = false) := LM.each_short (by have h := HTK.out; rw [hce] at h; exact h) HT.out
            have hz : hs.length - c = 0 := by omega
            rw [hz]
            clear hz hce
            go_wp2
            go_quiet (fail)
            go_wp2
            go_ret
            exact ⟨ret_bool HX.out.symm, below_drewN HBi.out _⟩
          · have hcl' : c < hs.length := by omega
            have hcz : (((hs.length - c : Nat) : Int) == 0) = false := by simp; omega
            have hcz2 : 0 < hs.length - c := by omega
            obtain ⟨-, g2, g3⟩ := HBO.out (by omega)
            obtain ⟨d0, d1, d2, d3⟩ := (LM.lieH (hb.mono (Nat.le_of_eq rfl)) g2 g3) c hcl'
            have hae := HAO.out hcl'
            subst hae
            have hle1 : (1 : Int) ≤ ((hs.length - c : Nat) : Int) := by omega
            by_cases hpg : (LM.shAt hs c).page = a.page + (n : Int)
            · have HX : Hid ((hs.take (c + 1)).map (·.page) = LM.pagesTo l i ++ LM.pagesN a (n + 1)) := by
                show _ = _
                rw [LM.map_take_snoc hs c hcl', HTK.out, hpg, LM.pagesN_succ, List.append_assoc]
              rw [hpg] at d0
              clear hpg d1 d2 d3 hb hce
              by_cases hc1 : cap - c = 1
              · go_wp2
                go_quiet (fail)
                go_wp2
                go_roundw
                case rel => exact ⟨n + 1, c + 1, _, by omega, by go_num, slice_eq rfl (by omega) (by omega), by omega, fun g => by omega, HX.out, below_drewN HBi.out _, BAi.out⟩
                case measure => simp [intOf]; omega
              · go_wp2
                go_quiet (fail)
                go_wp2
                go_roundw
                case rel => exact ⟨n + 1, c + 1, _, by omega, by go_num, slice_eq rfl (by omega) (by omega), by omega, fun g => by simp [Nat.add_mul, Nat.add_assoc], HX.out, below_drewN HBi.out _, BAi.out⟩
                case measure => simp [intOf]; omega
            · have HX : Hid (LM.forEachB l hs = false) := LM.each_other hcl' HTK.out HT.out hpg
              have hpz : ((LM.shAt hs c).page == a.page + (n : Int)) = false := by simpa using hpg
              clear hpg d1 d2 d3 hb hce
              go_wp2
              go_quiet (fail)
              go_wp2
              go_ret
              exact ⟨ret_bool HX.out.symm, below_drewN HBi.out _⟩
        · obtain rfl : n = P := by omega
          go_wp2
          go_roundw
          case rel => exact ⟨i + 1, c, ao', by omega, by go_num, rfl, hcl, HAO.out, by rw [HNX.out]; exact HTK.out, HBi.out⟩
          case measure => simp [intOf]; omega
    · obtain rfl : i = l.length := by omega
      have HX := hideC (LM.each_done hcl HTK.out)
      go_wp2
      go_ret
      refine ⟨ret_bool ?_, HBr.out⟩
      rw [HX.out]
      rw [Bool.eq_iff_iff]
      simp
      omega
end Go.Proofs.Yteieplodndfbhaa.LW
/- The linker: Check. -/
namespace Go.Proofs.Yteieplodndfbhaa.LW
open Go.RowKit
open Go.Proofs.Yteieplodndfbhaa.W (hideC)
set_option linter.unusedVariables false
set_option maxRecDepth 100000

theorem ret_int {k : IntKind} {a b : Int} (h : a = b) : Ending.returned (.int k a) = .returned (.int k b) := by rw [h]
set_option maxHeartbeats 3000000 in
theorem rightEntry_any (l : List AM.Ar) (va vs : Value) (en : Int) (w : World) (ha : AW.Has w va l) (hf : AW.AllFit l) (hc : AM.checkN l = 0) (he : M.I64 en) (hva : ∃ ao n c, va = .slice ao n c) (hvs : ∃ ao n c, vs = .slice ao n c) :
    Calls Try.prog 43 #[.agg #[va, vs, .int .i64 en]] w fun e w' => e = .returned (.bool (LM.entB l en)) ∧ Below w.heap.size w w' := by
  have HFN : Hid (AM.findN l (en.tdiv 16) = AM.findFrom l (en.tdiv 16)) := by show _ = _; simp [AM.findN, hc]
  have HPR := hideC (LM.found_prot l hc (en.tdiv 16))
  have HE : Hid (LM.entB l en = ((AM.findFrom l (en.tdiv 16)).2 && (decide (2 ≤ (AM.findFrom l (en.tdiv 16)).1.prot) && decide (en.tmod 8 = 0)))) := rfl
  have HFD : Hid (∀ W, Below w.heap.size w W → Calls Try.prog 66 #[va, .int .i64 (en.tdiv 16)] W fun e w' => e = .returned (.tuple #[.agg (AW.cellsOf (AM.findFrom l (en.tdiv 16)).1), .bool (AM.findFrom l (en.tdiv 16)).2]) ∧ Below W.heap.size W w') := fun W hb => by
    have h := AW.find_any l va (en.tdiv 16) W (ha.below hb) hf
    rw [HFN.out] at h
    exact h
  obtain ⟨r, hr⟩ : ∃ r, r = AM.findFrom l (en.tdiv 16) := ⟨_, rfl⟩
  rw [← hr] at HPR HE HFD
  clear hr HFN ha hf hc
  obtain ⟨⟨pg, pn, pr, zr⟩, ok⟩ := r
  simp only [AW.cellsOf] at HFD HPR HE
  obtain ⟨aa, na, ca, rfl⟩ := hva
  obtain ⟨ao, no, co, rfl⟩ := hvs
  unfold M.I64 at he
  have HB := hideC ((Below.refl w.heap.size w).alloc (Nat.le_refl _) (.cells #[.slice aa na ca, .slice ao no co, .int .i64 en] 32))
  have BX := hideC (B.new w #[.slice aa na ca, .slice ao no co, .int .i64 en] 32)
  rw [HE.out]
  cases ok with
  | false =>
    go_enter Try.func43, Try.ntmps43
    go_wp2_with (go_at_call 66; refine (HFD.out _ HB.out).mono ?_; rintro e w1 ⟨rfl, hb⟩; have HB := hideC (HB.out.trans (hb.mono HB.out.size)); clear hb)
    go_ret
    exact ⟨rfl, HB.out.alloc HB.out.size _⟩
  | true =>
    have hpr := LM.prot_cases (HPR.out rfl)
    have b0 : bits BinOp.and IntKind.i64 0 2 = 0 := by decide
    have b1 : bits BinOp.and IntKind.i64 1 2 = 0 := by decide
    have b2 : bits BinOp.and IntKind.i64 2 2 = 2 := by decide
    have b3 : bits BinOp.and IntKind.i64 3 2 = 2 := by decide
    clear HPR
    by_cases h8 : en.tmod 8 = 0
    · rcases hpr with rfl | rfl | rfl | rfl
      all_goals
        go_enter Try.func43, Try.ntmps43
        go_wp2_with (go_at_call 66; refine (HFD.out _ HB.out).mono ?_; rintro e w1 ⟨rfl, hb⟩; have HB := hideC (HB.out.trans (hb.mono HB.out.size)); have BX := hideC (B.below BX.out hb (B.isLt BX.out)); have hbx := B.isLt BX.out; have x2 := B.cell BX.out 2 rfl; clear hb)
        go_ret
        exact ⟨ret_bool (by simp [h8]), HB.out.alloc HB.out.size _⟩
    · have h8' : (en.tmod 8 == 0) = false := by simpa using h8
      rcases hpr with rfl | rfl | rfl | rfl
      all_goals
        go_enter Try.func43, Try.ntmps43
        go_wp2_with (go_at_call 66; refine (HFD.out _ HB.out).mono ?_; rintro e w1 ⟨rfl, hb⟩; have HB := hideC (HB.out.trans (hb.mono HB.out.size)); have BX := hideC (B.below BX.out hb (B.isLt BX.out)); have hbx := B.isLt BX.out; have x2 := B.cell BX.out 2 rfl; clear hb)
        go_ret
        exact ⟨ret_bool (by simp [h8]), HB.out.alloc HB.out.size _⟩

theorem isSlice {w : World} {v : Value} {l : List AM.Ar} (h : AW.Has w v l) : ∃ ao n c, v = .slice ao n c := by
  obtain ⟨ao, cap, h, _⟩ := h
  exact ⟨ao, _, cap, h⟩
set_option maxHeartbeats 3000000 in
theorem check_any (l : List AM.Ar) (hs : List LM.Sh) (en : Int) (va : Value) (ao : Option Addr) (cap : Nat) (w : World) (ha : AW.Has w va l) (hf : AW.AllFit l) (h : LM.HasH w ao hs) (hfs : LM.FitHs hs) (hcap : hs.length ≤ cap) (he : M.I64 en) :
    Calls Try.prog 14 #[.agg #[va, .slice ao hs.length cap, .int .i64 en]] w fun e w' => e = .returned (.int .i64 (LM.checkL l hs en)) ∧ Below w.heap.size w w' := by
  have HCK : Hid (∀ W, Below w.heap.size w W → Calls Try.prog 39 #[va] W fun e w' => e = .returned (.int .i64 (AM.checkN l)) ∧ Below W.heap.size W w') := fun W hb => AW.check_any l va W (ha.below hb) hf
  have HZ : Hid (∀ W, Below w.heap.size w W → Calls Try.prog 40 #[va] W fun e w' => e = .returned (.bool (LM.anyZeroB l)) ∧ Below W.heap.size W w') := fun W hb => anyZero_any l va W (ha.below hb) hf
  have HEA : Hid (AM.checkN l = 0 → ∀ W, Below w.heap.size w W → Calls Try.prog 41 #[.agg #[va, .slice ao hs.length cap, .int .i64 en]] W fun e w' => e = .returned (.bool (LM.forEachB l hs)) ∧ Below W.heap.size W w') := fun hc W hb => forEach_any l hs en va ao cap W (ha.below hb) hc (h.below hb) hfs.1 hcap
  have HSH : Hid (∀ W, Below w.heap.size w W → Calls Try.prog 42 #[.slice ao hs.length cap] W fun e w' => e = .returned (.bool (LM.sheetsB hs)) ∧ Below W.heap.size W w') := fun W hb => rightSheets_any hs ao cap W (h.below hb) hfs
  have HEN : Hid (AM.checkN l = 0 → ∀ W, Below w.heap.size w W → Calls Try.prog 43 #[.agg #[va, .slice ao hs.length cap, .int .i64 en]] W fun e w' => e = .returned (.bool (LM.entB l en)) ∧ Below W.heap.size W w') := fun hc W hb => rightEntry_any l va _ en W (ha.below hb) hf hc he (isSlice ha) ⟨_, _, _, rfl⟩
  have HR : Hid (LM.checkL l hs en = if AM.checkN l = 0 then (if !LM.anyZeroB l && (LM.forEachB l hs && (LM.sheetsB hs && LM.entB l en)) then 0 else 1) else AM.checkN l) := rfl
  obtain ⟨aa, na, ca, rfl⟩ := isSlice ha
  clear ha hf h hfs hcap he
  obtain ⟨N, hN⟩ : ∃ N, N = hs.length := ⟨_, rfl⟩
  rw [← hN] at HEA HSH HEN
  rw [← hN]
  obtain ⟨z, hz⟩ : ∃ z, z = LM.anyZeroB l := ⟨_, rfl⟩
  rw [← hz] at HZ HR
  obtain ⟨q, hq⟩ : ∃ q, q = LM.forEachB l hs := ⟨_, rfl⟩
  rw [← hq] at HEA HR
  obtain ⟨s, hs'⟩ : ∃ s, s = LM.sheetsB hs := ⟨_, rfl⟩
  rw [← hs'] at HSH HR
  obtain ⟨r, hr⟩ : ∃ r, r = LM.entB l en := ⟨_, rfl⟩
  rw [← hr] at HEN HR
  obtain ⟨C, hC⟩ : ∃ C, C = AM.checkN l := ⟨_, rfl⟩
  rw [← hC] at HCK HEA HEN HR
  rw [HR.out]
  clear hN hz hq hs' hr hC HR
  have HB := hideC ((Below.refl w.heap.size w).alloc (Nat.le_refl _) (.cells #[.slice aa na ca, .slice ao N cap, .int .i64 en] 32))
  have BX := hideC (B.new w #[.slice aa na ca, .slice ao N cap, .int .i64 en] 32)
  by_cases hc : C = 0
  · subst hc
    have HEA1 := hideC (HEA.out rfl)
    have HEN1 := hideC (HEN.out rfl)
    clear HEA HEN
    rw [if_pos rfl]
    cases z <;> cases q <;> cases s <;> cases r
    all_goals
      go_enter Try.func14, Try.ntmps14
      go_wp2_with (first
        | (go_at_call 39; refine (HCK.out _ HB.out).mono ?_; rintro e w1 ⟨rfl, hb⟩; have HB := hideC (HB.out.trans (hb.mono HB.out.size)); have BX := hideC (B.below BX.out hb (B.isLt BX.out)); have x0 := B.cell BX.out 0 rfl; have x1 := B.cell BX.out 1 rfl; have x2 := B.cell BX.out 2 rfl; clear hb)
        | (go_at_call 40; refine (HZ.out _ HB.out).mono ?_; rintro e w1 ⟨rfl, hb⟩; have HB := hideC (HB.out.trans (hb.mono HB.out.size)); have BX := hideC (B.below BX.out hb (B.isLt BX.out)); have x0 := B.cell BX.out 0 rfl; have x1 := B.cell BX.out 1 rfl; have x2 := B.cell BX.out 2 rfl; clear hb)
        | (go_at_call 41; refine (HEA1.out _ HB.out).mono ?_; rintro e w1 ⟨rfl, hb⟩; have HB := hideC (HB.out.trans (hb.mono HB.out.size)); have BX := hideC (B.below BX.out hb (B.isLt BX.out)); have x0 := B.cell BX.out 0 rfl; have x1 := B.cell BX.out 1 rfl; have x2 := B.cell BX.out 2 rfl; clear hb)
        | (go_at_call 42; refine (HSH.out _ HB.out).mono ?_; rintro e w1 ⟨rfl, hb⟩; have HB := hideC (HB.out.trans (hb.mono HB.out.size)); have BX := hideC (B.below BX.out hb (B.isLt BX.out)); have x0 := B.cell BX.out 0 rfl; have x1 := B.cell BX.out 1 rfl; have x2 := B.cell BX.out 2 rfl; clear hb)
        | (go_at_call 43; refine (HEN1.out _ HB.out).mono ?_; rintro e w1 ⟨rfl, hb⟩; have HB := hideC (HB.out.trans (hb.mono HB.out.size)); clear hb))
      go_ret
      exact ⟨rfl, HB.out⟩
  · have hc' : (C == 0) = false := by simpa using hc
    rw [if_neg hc]
    go_enter Try.func14, Try.ntmps14
    go_wp2_with (go_at_call 39; refine (HCK.out _ HB.out).mono ?_; rintro e w1 ⟨rfl, hb⟩; have HB := hideC (HB.out.trans (hb.mono HB.out.size)); clear hb)
    go_ret
    exact ⟨rfl, HB.out⟩
end Go.Proofs.Yteieplodndfbhaa.LW
/- The linker: objects. -/
namespace Go.Proofs.Yteieplodndfbhaa.LW
open Go.RowKit
open Go.Proofs.Yteieplodndfbhaa.W (hideC)
set_option linter.unusedVariables false
set_option maxRecDepth 100000

set_option maxHeartbeats 1000000 in
theorem end_any (o : LM.Ob) (w : World) (h : M.HasIm w o.a o.i) (hc : M.chkN o.i = 0) (h0 : 0 ≤ o.base) (h1 : o.base ≤ 100000) :
    Calls Try.prog 20 #[.agg (LM.cellsO o)] w fun e w' => e = .returned (.int .i64 (LM.endO o)) ∧ Below w.heap.size w w' := by
  have hl := LM.last_bounds hc
  have hn := LM.counts_of hc
  have HS := h.segs
  obtain ⟨⟨nm, ns, gs, ys, rs, en⟩, ⟨an, cn, ag, cg, ay, cy, ar, cr⟩, ba⟩ := o
  simp only [LM.cellsO]
  simp only at HS hn h0 h1
  obtain ⟨b, off, hag, hbl, hlie⟩ := HS (by omega)
  subst hag
  have E : Hid (LM.endO ⟨⟨nm, ns, gs, ys, rs, en⟩, ⟨an, cn, some ⟨b, off, none⟩, cg, ay, cy, ar, cr⟩, ba⟩ = ba + (M.sgAt gs (gs.length - 1)).page + (M.sgAt gs (gs.length - 1)).pages) := rfl
  have hl' : 0 ≤ (M.sgAt gs (gs.length - 1)).page ∧ 1 ≤ (M.sgAt gs (gs.length - 1)).pages ∧ (M.sgAt gs (gs.length - 1)).page + (M.sgAt gs (gs.length - 1)).pages ≤ 255 := hl
  obtain ⟨c0, c1, c2, c3, c4⟩ := hlie (gs.length - 1) (by omega)
  rw [E.out]
  obtain ⟨s, hs⟩ : ∃ s, s = M.sgAt gs (gs.length - 1) := ⟨_, rfl⟩
  rw [← hs] at c0 c1 c2 c3 c4 hl'
  rw [← hs]
  clear hs hl hlie HS h E
  obtain ⟨G, hG⟩ : ∃ G, G = gs.length := ⟨_, rfl⟩
  rw [← hG] at c0 c1 c2 c3 c4 hn
  rw [← hG]
  clear hG hc
  have hG1 : (1 : Int) ≤ (G : Int) := by omega
  have hG2 : 0 < G := by omega
  have HB := hideC ((Below.refl w.heap.size w).alloc (Nat.le_refl _) (.cells #[.string nm, .slice an ns.length cn, .slice (some ⟨b, off, none⟩) G cg, .slice ay ys.length cy, .slice ar rs.length cr, .int .i64 en, .int .i64 ba] 59))
  go_enter Try.func20, Try.ntmps20
  go_wp2
  go_ret
  exact ⟨rfl, HB.out.alloc HB.out.size _⟩

theorem address_any (o : LM.Ob) (at' : Int) (w : World) (h0 : 0 ≤ o.base) (h1 : o.base ≤ 100000) (h2 : 0 ≤ at') (h3 : at' ≤ 100000) :
    Calls Try.prog 23 #[.agg (LM.cellsO o), .int .i64 at'] w fun e w' => e = .returned (.int .i64 (LM.addrO o at')) ∧ Below w.heap.size w w' := by
  obtain ⟨⟨nm, ns, gs, ys, rs, en⟩, ⟨an, cn, ag, cg, ay, cy, ar, cr⟩, ba⟩ := o
  simp only [LM.cellsO, LM.addrO]
  simp only at h0 h1
  go_enter Try.func23, Try.ntmps23
  go_wp2
  go_ret
  exact ⟨rfl, (Below.refl _ _).alloc (Nat.le_refl _) _⟩

theorem prot_any (s : M.Sg) (w : World) :
    Calls Try.prog 57 #[.agg #[.int .i64 s.page, .int .i64 s.pages, .string s.data, .bool s.wr, .bool s.ex]] w fun e w' => e = .returned (.int .i64 (LM.protN s)) ∧ Below w.heap.size w w' := by
  obtain ⟨pg, pn, dt, wr, ex⟩ := s
  have b1 : bits BinOp.or IntKind.i64 0 1 = 1 := by decide
  have b2 : bits BinOp.or IntKind.i64 0 2 = 2 := by decide
  have b3 : bits BinOp.or IntKind.i64 1 2 = 3 := by decide
  cases wr <;> cases ex
  all_goals
    go_enter Try.func57, Try.ntmps57
    go_wp2
    go_ret
    exact ⟨ret_int (by first | rfl | simp [LM.protN, b1, b2, b3]), (Below.refl _ _).alloc (Nat.le_refl _) _⟩

theorem str_eq (s t : ByteArray) : (s.toList == t.toList) = decide (s = t) := by
  rw [Bool.eq_iff_iff]
  simp only [beq_iff_eq, decide_eq_true_eq]
  constructor
  · intro e
    rw [Lib.toList_data, Lib.toList_data] at e
    cases s
    cases t
    congr 1
    exact Array.toList_inj.1 e
  · rintro rfl
    rfl
theorem gather1_any (o : LM.Ob) (P : Nat) (s : ByteArray) (w : World) (hP : w.cell? ⟨P, 0, none⟩ = some (.string s)) (hn : M.Short o.i.name.size) (hs : M.Short s.size) :
    Calls Try.prog 52 #[.agg (LM.cellsO o), .pointer (some ⟨P, 0, none⟩)] w fun e w' => e = .returned (.bool (decide (o.i.name = s))) ∧ Below w.heap.size w w' := by
  have hPl : P < w.heap.size := World.block_lt_of_cell? w _ hP
  obtain ⟨⟨nm, ns, gs, ys, rs, en⟩, ⟨an, cn, ag, cg, ay, cy, ar, cr⟩, ba⟩ := o
  simp only [LM.cellsO]
  go_enter Try.func52, Try.ntmps52
  go_wp2
  go_ret
  exact ⟨ret_bool (str_eq _ _), (Below.refl _ _).alloc (Nat.le_refl _) _⟩
end Go.Proofs.Yteieplodndfbhaa.LW
