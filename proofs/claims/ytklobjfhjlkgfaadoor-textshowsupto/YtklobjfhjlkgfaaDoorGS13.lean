import Derived.Test.YtklobjfhjlkgfaaDoorGS07
import Derived.Test.YtklobjfhjlkgfaaDoorGS04
import Derived.Test.YtklobjfhjlkgfaaDoorGS11
import Derived.Test.YtklobjfhjlkgfaaDoorGS12
import Derived.Test.YtklobjfhjlkgfaaDoorGS08
import Derived.Test.YtklobjfhjlkgfaaDoorGS02
/- Plain: both lines of an instruction are one. -/
namespace Go.Proofs.YtklobjfhjlkgfaaDoor.TW
open Go.RowKit
set_option linter.unusedVariables false
set_option maxRecDepth 100000
set_option linter.unusedSimpArgs false

theorem told_0 (i : PM.Ins) : toldN (rowAt 0) i = ⟨1, i.a, 0, 0, i.m⟩ := rfl
theorem nums_0 (i : PM.Ins) : numsOf (rowAt 0) i = [i.a, i.m] := rfl
theorem told_1 (i : PM.Ins) : toldN (rowAt 1) i = ⟨11, i.a, 0, 0, i.m⟩ := rfl
theorem nums_1 (i : PM.Ins) : numsOf (rowAt 1) i = [i.a, i.m] := rfl
theorem told_2 (i : PM.Ins) : toldN (rowAt 2) i = ⟨2, i.a, i.b, i.c, 0⟩ := rfl
theorem nums_2 (i : PM.Ins) : numsOf (rowAt 2) i = [i.a, i.b, i.c] := rfl
theorem told_3 (i : PM.Ins) : toldN (rowAt 3) i = ⟨3, i.a, i.b, i.c, 0⟩ := rfl
theorem nums_3 (i : PM.Ins) : numsOf (rowAt 3) i = [i.a, i.b, i.c] := rfl
theorem told_4 (i : PM.Ins) : toldN (rowAt 4) i = ⟨4, i.a, i.b, i.c, 0⟩ := rfl
theorem nums_4 (i : PM.Ins) : numsOf (rowAt 4) i = [i.a, i.b, i.c] := rfl
theorem told_5 (i : PM.Ins) : toldN (rowAt 5) i = ⟨5, i.a, i.b, i.c, 0⟩ := rfl
theorem nums_5 (i : PM.Ins) : numsOf (rowAt 5) i = [i.a, i.b, i.c] := rfl
theorem told_6 (i : PM.Ins) : toldN (rowAt 6) i = ⟨6, i.a, i.b, i.c, 0⟩ := rfl
theorem nums_6 (i : PM.Ins) : numsOf (rowAt 6) i = [i.a, i.b, i.c] := rfl
theorem told_7 (i : PM.Ins) : toldN (rowAt 7) i = ⟨7, i.a, i.b, i.c, 0⟩ := rfl
theorem nums_7 (i : PM.Ins) : numsOf (rowAt 7) i = [i.a, i.b, i.c] := rfl
theorem told_8 (i : PM.Ins) : toldN (rowAt 8) i = ⟨8, i.a, i.b, 0, i.m⟩ := rfl
theorem nums_8 (i : PM.Ins) : numsOf (rowAt 8) i = [i.a, i.b, i.m] := rfl
theorem told_9 (i : PM.Ins) : toldN (rowAt 9) i = ⟨13, i.a, i.b, 0, i.m⟩ := rfl
theorem nums_9 (i : PM.Ins) : numsOf (rowAt 9) i = [i.a, i.b, i.m] := rfl
theorem told_10 (i : PM.Ins) : toldN (rowAt 10) i = ⟨14, i.a, i.b, 0, i.m⟩ := rfl
theorem nums_10 (i : PM.Ins) : numsOf (rowAt 10) i = [i.a, i.b, i.m] := rfl
theorem told_11 (i : PM.Ins) : toldN (rowAt 11) i = ⟨9, i.a, i.b, i.c, i.m⟩ := rfl
theorem nums_11 (i : PM.Ins) : numsOf (rowAt 11) i = [i.a, i.b, i.m, i.c] := rfl
theorem told_12 (i : PM.Ins) : toldN (rowAt 12) i = ⟨10, i.a, i.b, i.c, i.m⟩ := rfl
theorem nums_12 (i : PM.Ins) : numsOf (rowAt 12) i = [i.a, i.b, i.m, i.c] := rfl
theorem told_13 (i : PM.Ins) : toldN (rowAt 13) i = ⟨12, 0, 0, 0, i.m⟩ := rfl
theorem nums_13 (i : PM.Ins) : numsOf (rowAt 13) i = [i.m] := rfl
theorem told_14 (i : PM.Ins) : toldN (rowAt 14) i = ⟨15, i.a, 0, 0, 0⟩ := rfl
theorem nums_14 (i : PM.Ins) : numsOf (rowAt 14) i = [i.a] := rfl
theorem told_15 (i : PM.Ins) : toldN (rowAt 15) i = ⟨16, 0, 0, 0, 1⟩ := rfl
theorem nums_15 (i : PM.Ins) : numsOf (rowAt 15) i = [] := rfl
theorem told_16 (i : PM.Ins) : toldN (rowAt 16) i = ⟨16, 0, 0, 0, 2⟩ := rfl
theorem nums_16 (i : PM.Ins) : numsOf (rowAt 16) i = [] := rfl
theorem told_17 (i : PM.Ins) : toldN (rowAt 17) i = ⟨16, 0, 0, 0, 3⟩ := rfl
theorem nums_17 (i : PM.Ins) : numsOf (rowAt 17) i = [] := rfl
theorem told_18 (i : PM.Ins) : toldN (rowAt 18) i = ⟨16, 0, 0, 0, 4⟩ := rfl
theorem nums_18 (i : PM.Ins) : numsOf (rowAt 18) i = [] := rfl
theorem told_19 (i : PM.Ins) : toldN (rowAt 19) i = ⟨16, 0, 0, 0, 5⟩ := rfl
theorem nums_19 (i : PM.Ins) : numsOf (rowAt 19) i = [] := rfl
theorem told_20 (i : PM.Ins) : toldN (rowAt 20) i = ⟨16, 0, 0, 0, 6⟩ := rfl
theorem nums_20 (i : PM.Ins) : numsOf (rowAt 20) i = [] := rfl
theorem told_21 (i : PM.Ins) : toldN (rowAt 21) i = ⟨i.op, i.a, i.b, i.c, i.m⟩ := rfl
theorem nums_21 (i : PM.Ins) : numsOf (rowAt 21) i = [i.op, i.a, i.b, i.c, i.m] := rfl
theorem rowFrom_yes (i : PM.Ins) (n k : Nat) (h : toldN (rowAt k) i = i) : rowFrom i (n + 1) k = rowAt k := by unfold rowFrom; rw [if_pos h]
theorem rowFrom_no (i : PM.Ins) (n k : Nat) (h : ¬ toldN (rowAt k) i = i) : rowFrom i (n + 1) k = rowFrom i n (k + 1) := by rw [rowFrom, if_neg h]
theorem op_ne {p q : PM.Ins} (h : p.op ≠ q.op) : ¬ p = q := fun e => h (by rw [e])
theorem by_0 (a m : Int) : rowFrom (⟨1, a, 0, 0, m⟩ : PM.Ins) 22 0 = rowAt 0 := by
  exact rowFrom_yes _ 21 0 (by rw [told_0])
theorem by_1 (a m : Int) : rowFrom (⟨11, a, 0, 0, m⟩ : PM.Ins) 22 0 = rowAt 1 := by
  rw [rowFrom_no _ 21 0 (by rw [told_0]; exact op_ne (by simp))]
  exact rowFrom_yes _ 20 1 (by rw [told_1])
theorem by_2 (a b c : Int) : rowFrom (⟨2, a, b, c, 0⟩ : PM.Ins) 22 0 = rowAt 2 := by
  rw [rowFrom_no _ 21 0 (by rw [told_0]; exact op_ne (by simp)), rowFrom_no _ 20 1 (by rw [told_1]; exact op_ne (by simp))]
  exact rowFrom_yes _ 19 2 (by rw [told_2])
theorem by_3 (a b c : Int) : rowFrom (⟨3, a, b, c, 0⟩ : PM.Ins) 22 0 = rowAt 3 := by
  rw [rowFrom_no _ 21 0 (by rw [told_0]; exact op_ne (by simp)), rowFrom_no _ 20 1 (by rw [told_1]; exact op_ne (by simp)), rowFrom_no _ 19 2 (by rw [told_2]; exact op_ne (by simp))]
  exact rowFrom_yes _ 18 3 (by rw [told_3])
theorem by_4 (a b c : Int) : rowFrom (⟨4, a, b, c, 0⟩ : PM.Ins) 22 0 = rowAt 4 := by
  rw [rowFrom_no _ 21 0 (by rw [told_0]; exact op_ne (by simp)), rowFrom_no _ 20 1 (by rw [told_1]; exact op_ne (by simp)), rowFrom_no _ 19 2 (by rw [told_2]; exact op_ne (by simp)), rowFrom_no _ 18 3 (by rw [told_3]; exact op_ne (by simp))]
  exact rowFrom_yes _ 17 4 (by rw [told_4])
theorem by_5 (a b c : Int) : rowFrom (⟨5, a, b, c, 0⟩ : PM.Ins) 22 0 = rowAt 5 := by
  rw [rowFrom_no _ 21 0 (by rw [told_0]; exact op_ne (by simp)), rowFrom_no _ 20 1 (by rw [told_1]; exact op_ne (by simp)), rowFrom_no _ 19 2 (by rw [told_2]; exact op_ne (by simp)), rowFrom_no _ 18 3 (by rw [told_3]; exact op_ne (by simp)), rowFrom_no _ 17 4 (by rw [told_4]; exact op_ne (by simp))]
  exact rowFrom_yes _ 16 5 (by rw [told_5])
theorem by_6 (a b c : Int) : rowFrom (⟨6, a, b, c, 0⟩ : PM.Ins) 22 0 = rowAt 6 := by
  rw [rowFrom_no _ 21 0 (by rw [told_0]; exact op_ne (by simp)), rowFrom_no _ 20 1 (by rw [told_1]; exact op_ne (by simp)), rowFrom_no _ 19 2 (by rw [told_2]; exact op_ne (by simp)), rowFrom_no _ 18 3 (by rw [told_3]; exact op_ne (by simp)), rowFrom_no _ 17 4 (by rw [told_4]; exact op_ne (by simp)), rowFrom_no _ 16 5 (by rw [told_5]; exact op_ne (by simp))]
  exact rowFrom_yes _ 15 6 (by rw [told_6])
theorem by_7 (a b c : Int) : rowFrom (⟨7, a, b, c, 0⟩ : PM.Ins) 22 0 = rowAt 7 := by
  rw [rowFrom_no _ 21 0 (by rw [told_0]; exact op_ne (by simp)), rowFrom_no _ 20 1 (by rw [told_1]; exact op_ne (by simp)), rowFrom_no _ 19 2 (by rw [told_2]; exact op_ne (by simp)), rowFrom_no _ 18 3 (by rw [told_3]; exact op_ne (by simp)), rowFrom_no _ 17 4 (by rw [told_4]; exact op_ne (by simp)), rowFrom_no _ 16 5 (by rw [told_5]; exact op_ne (by simp)), rowFrom_no _ 15 6 (by rw [told_6]; exact op_ne (by simp))]
  exact rowFrom_yes _ 14 7 (by rw [told_7])
theorem by_8 (a b m : Int) : rowFrom (⟨8, a, b, 0, m⟩ : PM.Ins) 22 0 = rowAt 8 := by
  rw [rowFrom_no _ 21 0 (by rw [told_0]; exact op_ne (by simp)), rowFrom_no _ 20 1 (by rw [told_1]; exact op_ne (by simp)), rowFrom_no _ 19 2 (by rw [told_2]; exact op_ne (by simp)), rowFrom_no _ 18 3 (by rw [told_3]; exact op_ne (by simp)), rowFrom_no _ 17 4 (by rw [told_4]; exact op_ne (by simp)), rowFrom_no _ 16 5 (by rw [told_5]; exact op_ne (by simp)), rowFrom_no _ 15 6 (by rw [told_6]; exact op_ne (by simp)), rowFrom_no _ 14 7 (by rw [told_7]; exact op_ne (by simp))]
  exact rowFrom_yes _ 13 8 (by rw [told_8])
theorem by_9 (a b m : Int) : rowFrom (⟨13, a, b, 0, m⟩ : PM.Ins) 22 0 = rowAt 9 := by
  rw [rowFrom_no _ 21 0 (by rw [told_0]; exact op_ne (by simp)), rowFrom_no _ 20 1 (by rw [told_1]; exact op_ne (by simp)), rowFrom_no _ 19 2 (by rw [told_2]; exact op_ne (by simp)), rowFrom_no _ 18 3 (by rw [told_3]; exact op_ne (by simp)), rowFrom_no _ 17 4 (by rw [told_4]; exact op_ne (by simp)), rowFrom_no _ 16 5 (by rw [told_5]; exact op_ne (by simp)), rowFrom_no _ 15 6 (by rw [told_6]; exact op_ne (by simp)), rowFrom_no _ 14 7 (by rw [told_7]; exact op_ne (by simp)), rowFrom_no _ 13 8 (by rw [told_8]; exact op_ne (by simp))]
  exact rowFrom_yes _ 12 9 (by rw [told_9])
theorem by_10 (a b m : Int) : rowFrom (⟨14, a, b, 0, m⟩ : PM.Ins) 22 0 = rowAt 10 := by
  rw [rowFrom_no _ 21 0 (by rw [told_0]; exact op_ne (by simp)), rowFrom_no _ 20 1 (by rw [told_1]; exact op_ne (by simp)), rowFrom_no _ 19 2 (by rw [told_2]; exact op_ne (by simp)), rowFrom_no _ 18 3 (by rw [told_3]; exact op_ne (by simp)), rowFrom_no _ 17 4 (by rw [told_4]; exact op_ne (by simp)), rowFrom_no _ 16 5 (by rw [told_5]; exact op_ne (by simp)), rowFrom_no _ 15 6 (by rw [told_6]; exact op_ne (by simp)), rowFrom_no _ 14 7 (by rw [told_7]; exact op_ne (by simp)), rowFrom_no _ 13 8 (by rw [told_8]; exact op_ne (by simp)), rowFrom_no _ 12 9 (by rw [told_9]; exact op_ne (by simp))]
  exact rowFrom_yes _ 11 10 (by rw [told_10])
theorem by_11 (a b c m : Int) : rowFrom (⟨9, a, b, c, m⟩ : PM.Ins) 22 0 = rowAt 11 := by
  rw [rowFrom_no _ 21 0 (by rw [told_0]; exact op_ne (by simp)), rowFrom_no _ 20 1 (by rw [told_1]; exact op_ne (by simp)), rowFrom_no _ 19 2 (by rw [told_2]; exact op_ne (by simp)), rowFrom_no _ 18 3 (by rw [told_3]; exact op_ne (by simp)), rowFrom_no _ 17 4 (by rw [told_4]; exact op_ne (by simp)), rowFrom_no _ 16 5 (by rw [told_5]; exact op_ne (by simp)), rowFrom_no _ 15 6 (by rw [told_6]; exact op_ne (by simp)), rowFrom_no _ 14 7 (by rw [told_7]; exact op_ne (by simp)), rowFrom_no _ 13 8 (by rw [told_8]; exact op_ne (by simp)), rowFrom_no _ 12 9 (by rw [told_9]; exact op_ne (by simp)), rowFrom_no _ 11 10 (by rw [told_10]; exact op_ne (by simp))]
  exact rowFrom_yes _ 10 11 (by rw [told_11])
theorem by_12 (a b c m : Int) : rowFrom (⟨10, a, b, c, m⟩ : PM.Ins) 22 0 = rowAt 12 := by
  rw [rowFrom_no _ 21 0 (by rw [told_0]; exact op_ne (by simp)), rowFrom_no _ 20 1 (by rw [told_1]; exact op_ne (by simp)), rowFrom_no _ 19 2 (by rw [told_2]; exact op_ne (by simp)), rowFrom_no _ 18 3 (by rw [told_3]; exact op_ne (by simp)), rowFrom_no _ 17 4 (by rw [told_4]; exact op_ne (by simp)), rowFrom_no _ 16 5 (by rw [told_5]; exact op_ne (by simp)), rowFrom_no _ 15 6 (by rw [told_6]; exact op_ne (by simp)), rowFrom_no _ 14 7 (by rw [told_7]; exact op_ne (by simp)), rowFrom_no _ 13 8 (by rw [told_8]; exact op_ne (by simp)), rowFrom_no _ 12 9 (by rw [told_9]; exact op_ne (by simp)), rowFrom_no _ 11 10 (by rw [told_10]; exact op_ne (by simp)), rowFrom_no _ 10 11 (by rw [told_11]; exact op_ne (by simp))]
  exact rowFrom_yes _ 9 12 (by rw [told_12])
theorem by_13 (m : Int) : rowFrom (⟨12, 0, 0, 0, m⟩ : PM.Ins) 22 0 = rowAt 13 := by
  rw [rowFrom_no _ 21 0 (by rw [told_0]; exact op_ne (by simp)), rowFrom_no _ 20 1 (by rw [told_1]; exact op_ne (by simp)), rowFrom_no _ 19 2 (by rw [told_2]; exact op_ne (by simp)), rowFrom_no _ 18 3 (by rw [told_3]; exact op_ne (by simp)), rowFrom_no _ 17 4 (by rw [told_4]; exact op_ne (by simp)), rowFrom_no _ 16 5 (by rw [told_5]; exact op_ne (by simp)), rowFrom_no _ 15 6 (by rw [told_6]; exact op_ne (by simp)), rowFrom_no _ 14 7 (by rw [told_7]; exact op_ne (by simp)), rowFrom_no _ 13 8 (by rw [told_8]; exact op_ne (by simp)), rowFrom_no _ 12 9 (by rw [told_9]; exact op_ne (by simp)), rowFrom_no _ 11 10 (by rw [told_10]; exact op_ne (by simp)), rowFrom_no _ 10 11 (by rw [told_11]; exact op_ne (by simp)), rowFrom_no _ 9 12 (by rw [told_12]; exact op_ne (by simp))]
  exact rowFrom_yes _ 8 13 (by rw [told_13])
theorem by_14 (a : Int) : rowFrom (⟨15, a, 0, 0, 0⟩ : PM.Ins) 22 0 = rowAt 14 := by
  rw [rowFrom_no _ 21 0 (by rw [told_0]; exact op_ne (by simp)), rowFrom_no _ 20 1 (by rw [told_1]; exact op_ne (by simp)), rowFrom_no _ 19 2 (by rw [told_2]; exact op_ne (by simp)), rowFrom_no _ 18 3 (by rw [told_3]; exact op_ne (by simp)), rowFrom_no _ 17 4 (by rw [told_4]; exact op_ne (by simp)), rowFrom_no _ 16 5 (by rw [told_5]; exact op_ne (by simp)), rowFrom_no _ 15 6 (by rw [told_6]; exact op_ne (by simp)), rowFrom_no _ 14 7 (by rw [told_7]; exact op_ne (by simp)), rowFrom_no _ 13 8 (by rw [told_8]; exact op_ne (by simp)), rowFrom_no _ 12 9 (by rw [told_9]; exact op_ne (by simp)), rowFrom_no _ 11 10 (by rw [told_10]; exact op_ne (by simp)), rowFrom_no _ 10 11 (by rw [told_11]; exact op_ne (by simp)), rowFrom_no _ 9 12 (by rw [told_12]; exact op_ne (by simp)), rowFrom_no _ 8 13 (by rw [told_13]; exact op_ne (by simp))]
  exact rowFrom_yes _ 7 14 (by rw [told_14])
theorem by_15 : rowFrom (⟨16, 0, 0, 0, 1⟩ : PM.Ins) 22 0 = rowAt 15 := by
  rw [rowFrom_no _ 21 0 (by rw [told_0]; exact op_ne (by simp)), rowFrom_no _ 20 1 (by rw [told_1]; exact op_ne (by simp)), rowFrom_no _ 19 2 (by rw [told_2]; exact op_ne (by simp)), rowFrom_no _ 18 3 (by rw [told_3]; exact op_ne (by simp)), rowFrom_no _ 17 4 (by rw [told_4]; exact op_ne (by simp)), rowFrom_no _ 16 5 (by rw [told_5]; exact op_ne (by simp)), rowFrom_no _ 15 6 (by rw [told_6]; exact op_ne (by simp)), rowFrom_no _ 14 7 (by rw [told_7]; exact op_ne (by simp)), rowFrom_no _ 13 8 (by rw [told_8]; exact op_ne (by simp)), rowFrom_no _ 12 9 (by rw [told_9]; exact op_ne (by simp)), rowFrom_no _ 11 10 (by rw [told_10]; exact op_ne (by simp)), rowFrom_no _ 10 11 (by rw [told_11]; exact op_ne (by simp)), rowFrom_no _ 9 12 (by rw [told_12]; exact op_ne (by simp)), rowFrom_no _ 8 13 (by rw [told_13]; exact op_ne (by simp)), rowFrom_no _ 7 14 (by rw [told_14]; exact op_ne (by simp))]
  exact rowFrom_yes _ 6 15 (by rw [told_15])
theorem by_16 : rowFrom (⟨16, 0, 0, 0, 2⟩ : PM.Ins) 22 0 = rowAt 16 := by
  rw [rowFrom_no _ 21 0 (by rw [told_0]; exact op_ne (by simp)), rowFrom_no _ 20 1 (by rw [told_1]; exact op_ne (by simp)), rowFrom_no _ 19 2 (by rw [told_2]; exact op_ne (by simp)), rowFrom_no _ 18 3 (by rw [told_3]; exact op_ne (by simp)), rowFrom_no _ 17 4 (by rw [told_4]; exact op_ne (by simp)), rowFrom_no _ 16 5 (by rw [told_5]; exact op_ne (by simp)), rowFrom_no _ 15 6 (by rw [told_6]; exact op_ne (by simp)), rowFrom_no _ 14 7 (by rw [told_7]; exact op_ne (by simp)), rowFrom_no _ 13 8 (by rw [told_8]; exact op_ne (by simp)), rowFrom_no _ 12 9 (by rw [told_9]; exact op_ne (by simp)), rowFrom_no _ 11 10 (by rw [told_10]; exact op_ne (by simp)), rowFrom_no _ 10 11 (by rw [told_11]; exact op_ne (by simp)), rowFrom_no _ 9 12 (by rw [told_12]; exact op_ne (by simp)), rowFrom_no _ 8 13 (by rw [told_13]; exact op_ne (by simp)), rowFrom_no _ 7 14 (by rw [told_14]; exact op_ne (by simp)), rowFrom_no _ 6 15 (by rw [told_15]; simp)]
  exact rowFrom_yes _ 5 16 (by rw [told_16])
theorem by_17 : rowFrom (⟨16, 0, 0, 0, 3⟩ : PM.Ins) 22 0 = rowAt 17 := by
  rw [rowFrom_no _ 21 0 (by rw [told_0]; exact op_ne (by simp)), rowFrom_no _ 20 1 (by rw [told_1]; exact op_ne (by simp)), rowFrom_no _ 19 2 (by rw [told_2]; exact op_ne (by simp)), rowFrom_no _ 18 3 (by rw [told_3]; exact op_ne (by simp)), rowFrom_no _ 17 4 (by rw [told_4]; exact op_ne (by simp)), rowFrom_no _ 16 5 (by rw [told_5]; exact op_ne (by simp)), rowFrom_no _ 15 6 (by rw [told_6]; exact op_ne (by simp)), rowFrom_no _ 14 7 (by rw [told_7]; exact op_ne (by simp)), rowFrom_no _ 13 8 (by rw [told_8]; exact op_ne (by simp)), rowFrom_no _ 12 9 (by rw [told_9]; exact op_ne (by simp)), rowFrom_no _ 11 10 (by rw [told_10]; exact op_ne (by simp)), rowFrom_no _ 10 11 (by rw [told_11]; exact op_ne (by simp)), rowFrom_no _ 9 12 (by rw [told_12]; exact op_ne (by simp)), rowFrom_no _ 8 13 (by rw [told_13]; exact op_ne (by simp)), rowFrom_no _ 7 14 (by rw [told_14]; exact op_ne (by simp)), rowFrom_no _ 6 15 (by rw [told_15]; simp), rowFrom_no _ 5 16 (by rw [told_16]; simp)]
  exact rowFrom_yes _ 4 17 (by rw [told_17])
theorem by_18 : rowFrom (⟨16, 0, 0, 0, 4⟩ : PM.Ins) 22 0 = rowAt 18 := by
  rw [rowFrom_no _ 21 0 (by rw [told_0]; exact op_ne (by simp)), rowFrom_no _ 20 1 (by rw [told_1]; exact op_ne (by simp)), rowFrom_no _ 19 2 (by rw [told_2]; exact op_ne (by simp)), rowFrom_no _ 18 3 (by rw [told_3]; exact op_ne (by simp)), rowFrom_no _ 17 4 (by rw [told_4]; exact op_ne (by simp)), rowFrom_no _ 16 5 (by rw [told_5]; exact op_ne (by simp)), rowFrom_no _ 15 6 (by rw [told_6]; exact op_ne (by simp)), rowFrom_no _ 14 7 (by rw [told_7]; exact op_ne (by simp)), rowFrom_no _ 13 8 (by rw [told_8]; exact op_ne (by simp)), rowFrom_no _ 12 9 (by rw [told_9]; exact op_ne (by simp)), rowFrom_no _ 11 10 (by rw [told_10]; exact op_ne (by simp)), rowFrom_no _ 10 11 (by rw [told_11]; exact op_ne (by simp)), rowFrom_no _ 9 12 (by rw [told_12]; exact op_ne (by simp)), rowFrom_no _ 8 13 (by rw [told_13]; exact op_ne (by simp)), rowFrom_no _ 7 14 (by rw [told_14]; exact op_ne (by simp)), rowFrom_no _ 6 15 (by rw [told_15]; simp), rowFrom_no _ 5 16 (by rw [told_16]; simp), rowFrom_no _ 4 17 (by rw [told_17]; simp)]
  exact rowFrom_yes _ 3 18 (by rw [told_18])
theorem by_19 : rowFrom (⟨16, 0, 0, 0, 5⟩ : PM.Ins) 22 0 = rowAt 19 := by
  rw [rowFrom_no _ 21 0 (by rw [told_0]; exact op_ne (by simp)), rowFrom_no _ 20 1 (by rw [told_1]; exact op_ne (by simp)), rowFrom_no _ 19 2 (by rw [told_2]; exact op_ne (by simp)), rowFrom_no _ 18 3 (by rw [told_3]; exact op_ne (by simp)), rowFrom_no _ 17 4 (by rw [told_4]; exact op_ne (by simp)), rowFrom_no _ 16 5 (by rw [told_5]; exact op_ne (by simp)), rowFrom_no _ 15 6 (by rw [told_6]; exact op_ne (by simp)), rowFrom_no _ 14 7 (by rw [told_7]; exact op_ne (by simp)), rowFrom_no _ 13 8 (by rw [told_8]; exact op_ne (by simp)), rowFrom_no _ 12 9 (by rw [told_9]; exact op_ne (by simp)), rowFrom_no _ 11 10 (by rw [told_10]; exact op_ne (by simp)), rowFrom_no _ 10 11 (by rw [told_11]; exact op_ne (by simp)), rowFrom_no _ 9 12 (by rw [told_12]; exact op_ne (by simp)), rowFrom_no _ 8 13 (by rw [told_13]; exact op_ne (by simp)), rowFrom_no _ 7 14 (by rw [told_14]; exact op_ne (by simp)), rowFrom_no _ 6 15 (by rw [told_15]; simp), rowFrom_no _ 5 16 (by rw [told_16]; simp), rowFrom_no _ 4 17 (by rw [told_17]; simp), rowFrom_no _ 3 18 (by rw [told_18]; simp)]
  exact rowFrom_yes _ 2 19 (by rw [told_19])
theorem by_20 : rowFrom (⟨16, 0, 0, 0, 6⟩ : PM.Ins) 22 0 = rowAt 20 := by
  rw [rowFrom_no _ 21 0 (by rw [told_0]; exact op_ne (by simp)), rowFrom_no _ 20 1 (by rw [told_1]; exact op_ne (by simp)), rowFrom_no _ 19 2 (by rw [told_2]; exact op_ne (by simp)), rowFrom_no _ 18 3 (by rw [told_3]; exact op_ne (by simp)), rowFrom_no _ 17 4 (by rw [told_4]; exact op_ne (by simp)), rowFrom_no _ 16 5 (by rw [told_5]; exact op_ne (by simp)), rowFrom_no _ 15 6 (by rw [told_6]; exact op_ne (by simp)), rowFrom_no _ 14 7 (by rw [told_7]; exact op_ne (by simp)), rowFrom_no _ 13 8 (by rw [told_8]; exact op_ne (by simp)), rowFrom_no _ 12 9 (by rw [told_9]; exact op_ne (by simp)), rowFrom_no _ 11 10 (by rw [told_10]; exact op_ne (by simp)), rowFrom_no _ 10 11 (by rw [told_11]; exact op_ne (by simp)), rowFrom_no _ 9 12 (by rw [told_12]; exact op_ne (by simp)), rowFrom_no _ 8 13 (by rw [told_13]; exact op_ne (by simp)), rowFrom_no _ 7 14 (by rw [told_14]; exact op_ne (by simp)), rowFrom_no _ 6 15 (by rw [told_15]; simp), rowFrom_no _ 5 16 (by rw [told_16]; simp), rowFrom_no _ 4 17 (by rw [told_17]; simp), rowFrom_no _ 3 18 (by rw [told_18]; simp), rowFrom_no _ 2 19 (by rw [told_19]; simp)]
  exact rowFrom_yes _ 1 20 (by rw [told_20])
theorem by_raw (i : PM.Ins) (h : ∀ k, k < 21 → ¬ toldN (rowAt k) i = i) : rowFrom i 22 0 = rowAt 21 := by
  rw [rowFrom_no _ 21 0 (h 0 (by omega)), rowFrom_no _ 20 1 (h 1 (by omega)), rowFrom_no _ 19 2 (h 2 (by omega)), rowFrom_no _ 18 3 (h 3 (by omega)), rowFrom_no _ 17 4 (h 4 (by omega)), rowFrom_no _ 16 5 (h 5 (by omega)), rowFrom_no _ 15 6 (h 6 (by omega)), rowFrom_no _ 14 7 (h 7 (by omega)), rowFrom_no _ 13 8 (h 8 (by omega)), rowFrom_no _ 12 9 (h 9 (by omega)), rowFrom_no _ 11 10 (h 10 (by omega)), rowFrom_no _ 10 11 (h 11 (by omega)), rowFrom_no _ 9 12 (h 12 (by omega)), rowFrom_no _ 8 13 (h 13 (by omega)), rowFrom_no _ 7 14 (h 14 (by omega)), rowFrom_no _ 6 15 (h 15 (by omega)), rowFrom_no _ 5 16 (h 16 (by omega)), rowFrom_no _ 4 17 (h 17 (by omega)), rowFrom_no _ 3 18 (h 18 (by omega)), rowFrom_no _ 2 19 (h 19 (by omega)), rowFrom_no _ 1 20 (h 20 (by omega))]
  exact rowFrom_yes _ 0 21 (by rw [told_21])
theorem told_plain (i : PM.Ins) (k : Nat) (hk : k < 21) (h : toldN (rowAt k) i = i) : plainN i = i := by
  have hk2 : k = 0 ∨ k = 1 ∨ k = 2 ∨ k = 3 ∨ k = 4 ∨ k = 5 ∨ k = 6 ∨ k = 7 ∨ k = 8 ∨ k = 9 ∨ k = 10 ∨ k = 11 ∨ k = 12 ∨ k = 13 ∨ k = 14 ∨ k = 15 ∨ k = 16 ∨ k = 17 ∨ k = 18 ∨ k = 19 ∨ k = 20 := by omega
  rcases hk2 with rfl | rfl | rfl | rfl | rfl | rfl | rfl | rfl | rfl | rfl | rfl | rfl | rfl | rfl | rfl | rfl | rfl | rfl | rfl | rfl | rfl
  · rw [told_0] at h
    obtain ⟨o, a, b, c, m⟩ := i
    simp only [PM.Ins.mk.injEq, true_and, and_true] at h
    unfold plainN
    simp only
    simp [← h]
  · rw [told_1] at h
    obtain ⟨o, a, b, c, m⟩ := i
    simp only [PM.Ins.mk.injEq, true_and, and_true] at h
    unfold plainN
    simp only
    simp [← h]
  · rw [told_2] at h
    obtain ⟨o, a, b, c, m⟩ := i
    simp only [PM.Ins.mk.injEq, true_and, and_true] at h
    unfold plainN
    simp only
    simp [← h]
  · rw [told_3] at h
    obtain ⟨o, a, b, c, m⟩ := i
    simp only [PM.Ins.mk.injEq, true_and, and_true] at h
    unfold plainN
    simp only
    simp [← h]
  · rw [told_4] at h
    obtain ⟨o, a, b, c, m⟩ := i
    simp only [PM.Ins.mk.injEq, true_and, and_true] at h
    unfold plainN
    simp only
    simp [← h]
  · rw [told_5] at h
    obtain ⟨o, a, b, c, m⟩ := i
    simp only [PM.Ins.mk.injEq, true_and, and_true] at h
    unfold plainN
    simp only
    simp [← h]
  · rw [told_6] at h
    obtain ⟨o, a, b, c, m⟩ := i
    simp only [PM.Ins.mk.injEq, true_and, and_true] at h
    unfold plainN
    simp only
    simp [← h]
  · rw [told_7] at h
    obtain ⟨o, a, b, c, m⟩ := i
    simp only [PM.Ins.mk.injEq, true_and, and_true] at h
    unfold plainN
    simp only
    simp [← h]
  · rw [told_8] at h
    obtain ⟨o, a, b, c, m⟩ := i
    simp only [PM.Ins.mk.injEq, true_and, and_true] at h
    unfold plainN
    simp only
    simp [← h]
  · rw [told_9] at h
    obtain ⟨o, a, b, c, m⟩ := i
    simp only [PM.Ins.mk.injEq, true_and, and_true] at h
    unfold plainN
    simp only
    simp [← h]
  · rw [told_10] at h
    obtain ⟨o, a, b, c, m⟩ := i
    simp only [PM.Ins.mk.injEq, true_and, and_true] at h
    unfold plainN
    simp only
    simp [← h]
  · rw [told_11] at h
    obtain ⟨o, a, b, c, m⟩ := i
    simp only [PM.Ins.mk.injEq, true_and, and_true] at h
    unfold plainN
    simp only
    simp [← h]
  · rw [told_12] at h
    obtain ⟨o, a, b, c, m⟩ := i
    simp only [PM.Ins.mk.injEq, true_and, and_true] at h
    unfold plainN
    simp only
    simp [← h]
  · rw [told_13] at h
    obtain ⟨o, a, b, c, m⟩ := i
    simp only [PM.Ins.mk.injEq, true_and, and_true] at h
    unfold plainN
    simp only
    simp [← h]
  · rw [told_14] at h
    obtain ⟨o, a, b, c, m⟩ := i
    simp only [PM.Ins.mk.injEq, true_and, and_true] at h
    unfold plainN
    simp only
    simp [← h]
  · rw [told_15] at h
    obtain ⟨o, a, b, c, m⟩ := i
    simp only [PM.Ins.mk.injEq, true_and, and_true] at h
    unfold plainN
    simp only
    simp [← h]
  · rw [told_16] at h
    obtain ⟨o, a, b, c, m⟩ := i
    simp only [PM.Ins.mk.injEq, true_and, and_true] at h
    unfold plainN
    simp only
    simp [← h]
  · rw [told_17] at h
    obtain ⟨o, a, b, c, m⟩ := i
    simp only [PM.Ins.mk.injEq, true_and, and_true] at h
    unfold plainN
    simp only
    simp [← h]
  · rw [told_18] at h
    obtain ⟨o, a, b, c, m⟩ := i
    simp only [PM.Ins.mk.injEq, true_and, and_true] at h
    unfold plainN
    simp only
    simp [← h]
  · rw [told_19] at h
    obtain ⟨o, a, b, c, m⟩ := i
    simp only [PM.Ins.mk.injEq, true_and, and_true] at h
    unfold plainN
    simp only
    simp [← h]
  · rw [told_20] at h
    obtain ⟨o, a, b, c, m⟩ := i
    simp only [PM.Ins.mk.injEq, true_and, and_true] at h
    unfold plainN
    simp only
    simp [← h]
end Go.Proofs.YtklobjfhjlkgfaaDoor.TW
/- Plain: what Show answers is what InstrText answers. -/
namespace Go.Proofs.YtklobjfhjlkgfaaDoor.TW
open Go.RowKit
set_option linter.unusedVariables false
set_option maxRecDepth 100000
set_option linter.unusedSimpArgs false

theorem show_by (i : PM.Ins) (k : Nat) (hb : i.bad = false) (h : rowFrom i 22 0 = rowAt k) : showN i = wordsS (rowAt k).name (numsOf (rowAt k) i) := by
  unfold showN
  rw [hb]
  show wordsS (rowFrom i 22 0).name (numsOf (rowFrom i 22 0) i) = _
  rw [h]
theorem raw_by (i : PM.Ins) (h : isRaw i = true) : textN i = wordsS rawS [i.op, i.a, i.b, i.c, i.m] := by
  unfold textN
  rw [if_pos h]
theorem plain_cases (i : PM.Ins) (hb : i.bad = false) (hp : plainN i = i) : textN i = if i.op = 16 then callL.getD i.m.toNat (str []) else wordsS (opL.getD i.op.toNat (str [])) (partsN i) := by
  have hr : isRaw i = false := by unfold isRaw; rw [hb, hp]; simp
  unfold textN
  rw [hr]
  rfl
theorem show_text (i : PM.Ins) : showN i = textN i := by
  by_cases h1 : i.bad = true
  · rw [raw_by i (by unfold isRaw; rw [h1]; rfl)]
    unfold showN
    rw [h1]
    show wordsS (rowAt 21).name (numsOf (rowAt 21) i) = _
    rw [nums_21]
    rfl
  · have hb : i.bad = false := by simpa using h1
    by_cases hp : plainN i = i
    · have ho : 1 ≤ i.op ∧ i.op ≤ 16 := by
        by_cases c : i.op < 1 ∨ 16 < i.op
        · exact (h1 (PW.bad_else i c)).elim
        · omega
      have ht := plain_cases i hb hp
      rw [ht]
      clear ht h1
      obtain ⟨op, a, b, c, m⟩ := i
      simp only at ho
      have hk : op = 1 ∨ op = 11 ∨ op = 2 ∨ op = 3 ∨ op = 4 ∨ op = 5 ∨ op = 6 ∨ op = 7 ∨ op = 8 ∨ op = 13 ∨ op = 14 ∨ op = 9 ∨ op = 10 ∨ op = 12 ∨ op = 15 ∨ op = 16 := by omega
      rcases hk with rfl | rfl | rfl | rfl | rfl | rfl | rfl | rfl | rfl | rfl | rfl | rfl | rfl | rfl | rfl | rfl
      · have hq : plainN ⟨1, a, b, c, m⟩ = ⟨1, a, 0, 0, m⟩ := rfl
        rw [hq] at hp
        simp only [PM.Ins.mk.injEq, true_and, and_true] at hp
        obtain ⟨rfl, rfl⟩ := hp
        rw [show_by _ 0 hb (by_0 a m), nums_0]
        rfl
      · have hq : plainN ⟨11, a, b, c, m⟩ = ⟨11, a, 0, 0, m⟩ := rfl
        rw [hq] at hp
        simp only [PM.Ins.mk.injEq, true_and, and_true] at hp
        obtain ⟨rfl, rfl⟩ := hp
        rw [show_by _ 1 hb (by_1 a m), nums_1]
        rfl
      · have hq : plainN ⟨2, a, b, c, m⟩ = ⟨2, a, b, c, 0⟩ := rfl
        rw [hq] at hp
        simp only [PM.Ins.mk.injEq, true_and, and_true] at hp
        obtain rfl := hp
        rw [show_by _ 2 hb (by_2 a b c), nums_2]
        rfl
      · have hq : plainN ⟨3, a, b, c, m⟩ = ⟨3, a, b, c, 0⟩ := rfl
        rw [hq] at hp
        simp only [PM.Ins.mk.injEq, true_and, and_true] at hp
        obtain rfl := hp
        rw [show_by _ 3 hb (by_3 a b c), nums_3]
        rfl
      · have hq : plainN ⟨4, a, b, c, m⟩ = ⟨4, a, b, c, 0⟩ := rfl
        rw [hq] at hp
        simp only [PM.Ins.mk.injEq, true_and, and_true] at hp
        obtain rfl := hp
        rw [show_by _ 4 hb (by_4 a b c), nums_4]
        rfl
      · have hq : plainN ⟨5, a, b, c, m⟩ = ⟨5, a, b, c, 0⟩ := rfl
        rw [hq] at hp
        simp only [PM.Ins.mk.injEq, true_and, and_true] at hp
        obtain rfl := hp
        rw [show_by _ 5 hb (by_5 a b c), nums_5]
        rfl
      · have hq : plainN ⟨6, a, b, c, m⟩ = ⟨6, a, b, c, 0⟩ := rfl
        rw [hq] at hp
        simp only [PM.Ins.mk.injEq, true_and, and_true] at hp
        obtain rfl := hp
        rw [show_by _ 6 hb (by_6 a b c), nums_6]
        rfl
      · have hq : plainN ⟨7, a, b, c, m⟩ = ⟨7, a, b, c, 0⟩ := rfl
        rw [hq] at hp
        simp only [PM.Ins.mk.injEq, true_and, and_true] at hp
        obtain rfl := hp
        rw [show_by _ 7 hb (by_7 a b c), nums_7]
        rfl
      · have hq : plainN ⟨8, a, b, c, m⟩ = ⟨8, a, b, 0, m⟩ := rfl
        rw [hq] at hp
        simp only [PM.Ins.mk.injEq, true_and, and_true] at hp
        obtain rfl := hp
        rw [show_by _ 8 hb (by_8 a b m), nums_8]
        rfl
      · have hq : plainN ⟨13, a, b, c, m⟩ = ⟨13, a, b, 0, m⟩ := rfl
        rw [hq] at hp
        simp only [PM.Ins.mk.injEq, true_and, and_true] at hp
        obtain rfl := hp
        rw [show_by _ 9 hb (by_9 a b m), nums_9]
        rfl
      · have hq : plainN ⟨14, a, b, c, m⟩ = ⟨14, a, b, 0, m⟩ := rfl
        rw [hq] at hp
        simp only [PM.Ins.mk.injEq, true_and, and_true] at hp
        obtain rfl := hp
        rw [show_by _ 10 hb (by_10 a b m), nums_10]
        rfl
      · have hq : plainN ⟨9, a, b, c, m⟩ = ⟨9, a, b, c, m⟩ := rfl
        rw [hq] at hp
        rw [show_by _ 11 hb (by_11 a b c m), nums_11]
        rfl
      · have hq : plainN ⟨10, a, b, c, m⟩ = ⟨10, a, b, c, m⟩ := rfl
        rw [hq] at hp
        rw [show_by _ 12 hb (by_12 a b c m), nums_12]
        rfl
      · have hq : plainN ⟨12, a, b, c, m⟩ = ⟨12, 0, 0, 0, m⟩ := rfl
        rw [hq] at hp
        simp only [PM.Ins.mk.injEq, true_and, and_true] at hp
        obtain ⟨rfl, rfl, rfl⟩ := hp
        rw [show_by _ 13 hb (by_13 m), nums_13]
        rfl
      · have hq : plainN ⟨15, a, b, c, m⟩ = ⟨15, a, 0, 0, 0⟩ := rfl
        rw [hq] at hp
        simp only [PM.Ins.mk.injEq, true_and, and_true] at hp
        obtain ⟨rfl, rfl, rfl⟩ := hp
        rw [show_by _ 14 hb (by_14 a), nums_14]
        rfl
      · have hq : plainN ⟨16, a, b, c, m⟩ = ⟨16, 0, 0, 0, m⟩ := rfl
        rw [hq] at hp
        simp only [PM.Ins.mk.injEq, true_and, and_true] at hp
        obtain ⟨rfl, rfl, rfl⟩ := hp
        have hm : 1 ≤ m ∧ m ≤ 6 := by
          have e : (⟨16, 0, 0, 0, m⟩ : PM.Ins).bad = !decide (1 ≤ m ∧ m ≤ 6) := rfl
          rw [e] at hb
          simpa using hb
        have h6 : m = 1 ∨ m = 2 ∨ m = 3 ∨ m = 4 ∨ m = 5 ∨ m = 6 := by omega
        rcases h6 with rfl | rfl | rfl | rfl | rfl | rfl
        · rw [show_by _ 15 hb by_15, nums_15]
          rfl
        · rw [show_by _ 16 hb by_16, nums_16]
          rfl
        · rw [show_by _ 17 hb by_17, nums_17]
          rfl
        · rw [show_by _ 18 hb by_18, nums_18]
          rfl
        · rw [show_by _ 19 hb by_19, nums_19]
          rfl
        · rw [show_by _ 20 hb by_20, nums_20]
          rfl
    · rw [raw_by i (by unfold isRaw; rw [hb, decide_eq_true hp]; rfl)]
      rw [show_by i 21 hb (by_raw i (fun k hk h => hp (told_plain i k hk h))), nums_21]
      rfl
end Go.Proofs.YtklobjfhjlkgfaaDoor.TW
/- Plain: what is shown is guessed as it was. -/
namespace Go.Proofs.YtklobjfhjlkgfaaDoor.TW
open Go.RowKit
set_option linter.unusedVariables false
set_option maxRecDepth 100000
set_option linter.unusedSimpArgs false

def NoB (c : UInt8) (l : List UInt8) : Prop := ∀ x ∈ l, x ≠ c
theorem pre_one (b c : UInt8) (l : List UInt8) : [c].isPrefixOf (b :: l) = (c == b) := by simp [List.isPrefixOf]
theorem index_no (c : UInt8) : ∀ l : List UInt8, NoB c l → Lib.index l [c] = -1
  | [], _ => rfl
  | b :: l, h => by
    have hb : ¬ (c == b) = true := fun e => h b List.mem_cons_self (beq_iff_eq.1 e).symm
    rw [Lib.index, pre_one, if_neg hb, index_no c l (fun x hx => h x (List.mem_cons_of_mem _ hx))]
    rfl
theorem index_at (c : UInt8) (t : List UInt8) : ∀ l : List UInt8, NoB c l → Lib.index (l ++ c :: t) [c] = l.length
  | [], _ => by
    show Lib.index (c :: t) [c] = _
    rw [Lib.index, pre_one, if_pos (by simp)]
    rfl
  | b :: l, h => by
    have hb : ¬ (c == b) = true := fun e => h b List.mem_cons_self (beq_iff_eq.1 e).symm
    show Lib.index (b :: (l ++ c :: t)) [c] = _
    have ih := index_at c t l (fun x hx => h x (List.mem_cons_of_mem _ hx))
    have hne : ¬ (Lib.index (l ++ c :: t) [c] == -1) = true := by rw [ih, beq_iff_eq]; omega
    rw [Lib.index, pre_one, if_neg hb, if_neg hne, ih]
    simp
theorem tail_cons (sep x : List UInt8) (r : List (List UInt8)) : Lib.joinTail sep (x :: r) = sep ++ Lib.join (x :: r) sep := by
  rw [Lib.join_cons]
  simp [Lib.joinTail]
theorem split_join : ∀ (r : List (List UInt8)) (k : Nat) (x : List UInt8), NoB 32 x → (∀ y ∈ r, NoB 32 y) → r.length ≤ k → Lib.splitK [32] 0 k (Lib.join (x :: r) [32]) = x :: r
  | [], k, x, hx, _, _ => by
    rw [Lib.join_one]
    cases k with
    | zero => rfl
    | succ k => rw [Lib.splitK, index_no 32 x hx]; rfl
  | y :: r, 0, x, _, _, hk => by simp at hk
  | y :: r, k + 1, x, hx, hr, hk => by
    have ih := split_join r k y (hr y List.mem_cons_self) (fun z hz => hr z (List.mem_cons_of_mem _ hz)) (by simp at hk; omega)
    have e : Lib.join (x :: y :: r) [32] = x ++ 32 :: Lib.join (y :: r) [32] := by
      rw [Lib.join_cons, tail_cons]
      rfl
    have hi := index_at 32 (Lib.join (y :: r) [32]) x hx
    have hne : ¬ (Lib.index (x ++ 32 :: Lib.join (y :: r) [32]) [32] == -1) = true := by rw [hi, beq_iff_eq]; omega
    rw [e, Lib.splitK, if_neg hne, hi]
    have h1 : ((x.length : Int)).toNat = x.length := by omega
    rw [h1]
    have h2 : (x ++ 32 :: Lib.join (y :: r) [32]).take (x.length + 0) = x := by simp
    have h3 : (x ++ 32 :: Lib.join (y :: r) [32]).drop (x.length + [(32 : UInt8)].length) = Lib.join (y :: r) [32] := by
      rw [List.drop_append]
      simp
    rw [h2, h3, ih]
theorem digit_val (d : Nat) (h : d < 10) : (UInt8.ofNat (48 + d)).toNat = 48 + d := by
  rw [UInt8.toNat_ofNat']
  omega
theorem dec_byte : ∀ (n u : Nat), u ≤ n → ∀ x ∈ Lib.decDigits u, 48 ≤ x.toNat ∧ x.toNat ≤ 57
  | 0, u, h, x, hx => by
    rw [Lib.decDigits, dif_pos (by omega)] at hx
    obtain rfl := List.mem_singleton.1 hx
    rw [digit_val u (by omega)]; omega
  | n + 1, u, h, x, hx => by
    by_cases c : u < 10
    · rw [Lib.decDigits, dif_pos c] at hx
      obtain rfl := List.mem_singleton.1 hx
      rw [digit_val u c]; omega
    · rw [Lib.decDigits, dif_neg c] at hx
      rcases List.mem_append.1 hx with hx | hx
      · exact dec_byte n (u / 10) (by omega) x hx
      · obtain rfl := List.mem_singleton.1 hx
        rw [digit_val (u % 10) (by omega)]; omega
theorem itoa_byte (n : Int) : ∀ x ∈ Lib.itoa n, x.toNat = 45 ∨ 48 ≤ x.toNat ∧ x.toNat ≤ 57 := by
  intro x hx
  unfold Lib.itoa at hx
  split at hx
  · rcases List.mem_cons.1 hx with rfl | hx
    · exact .inl rfl
    · exact .inr (dec_byte _ _ (Nat.le_refl _) x hx)
  · exact .inr (dec_byte _ _ (Nat.le_refl _) x hx)
theorem itoa_no (n : Int) (c : UInt8) (hc : c.toNat < 45) : NoB c (Lib.itoa n) := by
  intro x hx e
  have := itoa_byte n x hx
  rw [e] at this
  omega
theorem parse_snoc (l : List UInt8) (c : UInt8) : ∀ (acc u : Nat), Lib.parseUint10 acc l = .ok u → Lib.parseUint10 acc (l ++ [c]) = Lib.parseUint10 u [c] := by
  induction l with
  | nil => intro acc u h; simp only [Lib.parseUint10] at h; injection h with h; rw [h]; rfl
  | cons b l ih =>
    intro acc u h
    show Lib.parseUint10 acc (b :: (l ++ [c])) = _
    rw [Lib.parseUint10] at h ⊢
    split at h
    · rename_i h1
      split at h
      · cases h
      · rename_i h2
        split at h
        · cases h
        · rename_i h3
          rw [if_pos h1, if_neg h2, if_neg h3]
          exact ih _ _ h
    · cases h
theorem parse_dec : ∀ (n u : Nat), u ≤ n → u < 18446744073709551616 → Lib.parseUint10 0 (Lib.decDigits u) = .ok u
  | 0, u, h, hu => by
    obtain rfl : u = 0 := by omega
    rw [Lib.decDigits, dif_pos (by omega)]
    rfl
  | n + 1, u, h, hu => by
    by_cases c : u < 10
    · rw [Lib.decDigits, dif_pos c, Lib.parseUint10, digit_val u c, if_pos (by omega), if_neg (by omega), if_neg (by omega)]
      simp only [Lib.parseUint10]
      congr 1
      omega
    · have ih := parse_dec n (u / 10) (by omega) (by omega)
      rw [Lib.decDigits, dif_neg c, parse_snoc _ _ _ _ ih, Lib.parseUint10, digit_val (u % 10) (by omega), if_pos (by omega), if_neg (by omega), if_neg (by omega)]
      simp only [Lib.parseUint10]
      congr 1
      omega
theorem dec_ne : ∀ u : Nat, Lib.decDigits u ≠ [] := fun u => by
  by_cases c : u < 10
  · rw [Lib.decDigits, dif_pos c]; simp
  · rw [Lib.decDigits, dif_neg c]; simp
theorem atoi_itoa (n : Int) (h : I64 n) : Lib.atoiAll (Lib.itoa n) = .ok n := by
  unfold I64 at h
  by_cases c : n < 0
  · have e : Lib.itoa n = 45 :: Lib.decDigits n.natAbs := by unfold Lib.itoa; rw [if_pos c]
    rw [e]
    have hp := parse_dec _ n.natAbs (Nat.le_refl _) (by omega)
    have hm : Lib.parseMag (Lib.decDigits n.natAbs) = .ok n.natAbs := by unfold Lib.parseMag; rw [if_neg (dec_ne _), hp]
    unfold Lib.atoiAll
    simp only
    rw [if_pos (by right; rfl), hm]
    simp only
    rw [if_neg (by intro g; exact g.1 rfl), if_neg (by omega), if_pos (by rfl)]
    congr 1
    omega
  · have e : Lib.itoa n = Lib.decDigits n.toNat := by unfold Lib.itoa; rw [if_neg c]
    rw [e]
    have hp := parse_dec _ n.toNat (Nat.le_refl _) (by omega)
    have hb := dec_byte _ n.toNat (Nat.le_refl _)
    have hne := dec_ne n.toNat
    cases hd : Lib.decDigits n.toNat with
    | nil => exact (hne hd).elim
    | cons b l =>
      rw [hd] at hp hb
      have hbb := hb b List.mem_cons_self
      have hm : Lib.parseMag (b :: l) = .ok n.toNat := by unfold Lib.parseMag; rw [if_neg (by simp), hp]
      unfold Lib.atoiAll
      simp only
      rw [if_neg (by omega), hm]
      simp only
      rw [if_neg (by omega), if_neg (by omega), if_neg (by omega)]
      congr 1
      omega
/-- a row of the table is the one of its name -/
theorem look_row (k : Nat) (h : k < 22) : lookTo (rowAt k).name 22 = some (rowAt k) := by
  have hk : k = 0 ∨ k = 1 ∨ k = 2 ∨ k = 3 ∨ k = 4 ∨ k = 5 ∨ k = 6 ∨ k = 7 ∨ k = 8 ∨ k = 9 ∨ k = 10 ∨ k = 11 ∨ k = 12 ∨ k = 13 ∨ k = 14 ∨ k = 15 ∨ k = 16 ∨ k = 17 ∨ k = 18 ∨ k = 19 ∨ k = 20 ∨ k = 21 := by omega
  rcases hk with rfl | rfl | rfl | rfl | rfl | rfl | rfl | rfl | rfl | rfl | rfl | rfl | rfl | rfl | rfl | rfl | rfl | rfl | rfl | rfl | rfl | rfl <;> rfl
theorem rows_noB : (noRow :: tableL).all (fun r => r.name.data.toList.all fun c => decide (c ≠ 32 ∧ c ≠ 10)) = true := by decide
theorem row_noB (k : Nat) : ∀ c ∈ (rowAt k).name.data.toList, c ≠ 32 ∧ c ≠ 10 := by
  have h := List.all_eq_true.1 rows_noB _ (row_mem k)
  intro c hc
  have := List.all_eq_true.1 h c hc
  simpa using this
theorem rowFrom_in (i : PM.Ins) : ∀ n k, n + k = 22 → ∃ j, j < 22 ∧ rowFrom i n k = rowAt j ∧ (toldN (rowAt j) i = i)
  | 0, k, _ => ⟨21, by omega, rfl, told_21 i⟩
  | n + 1, k, h => by
    unfold rowFrom
    split
    · rename_i hh; exact ⟨k, by omega, rfl, hh⟩
    · exact rowFrom_in i n (k + 1) (by omega)
/-- the row that an instruction is shown by is of the table, and tells it whole -/
theorem rowOf_tells (i : PM.Ins) (bad : Bool) : ∃ j, j < 22 ∧ rowOfN i bad = rowAt j ∧ toldN (rowAt j) i = i := by
  cases bad with
  | true => exact ⟨21, by omega, rfl, told_21 i⟩
  | false => exact rowFrom_in i 22 0 rfl
theorem guessTo_told (r : Row) (i : PM.Ins) (s : ByteArray) : ∀ k, (∀ j, j < k → Lib.atoiAll (wordAt s (1 + j)).data.toList = .ok (partL r i j)) → guessTo r s k = some (toldTo r i k)
  | 0, _ => rfl
  | k + 1, h => by
    rw [guessTo, guessTo_told r i s k (fun j hj => h j (by omega)), h k (by omega)]
    rfl
theorem show_list (i : PM.Ins) (r : Row) (hr : rowOfN i i.bad = r) : (showN i).data.toList = Lib.join ((wordL r i r.parts.size).map (·.data.toList)) [32] := by
  unfold showN
  rw [hr, ← show_eq]
theorem split_show (i : PM.Ins) (k : Nat) (hr : rowOfN i i.bad = rowAt k) : splitW (showN i) = wordL (rowAt k) i (rowAt k).parts.size := by
  have hl := show_list i (rowAt k) hr
  have hp := row_size k
  have hmap : (splitW (showN i)).map (·.data.toList) = (wordL (rowAt k) i (rowAt k).parts.size).map (·.data.toList) := by
    unfold splitW
    rw [Lib.splitB_data, hl]
    show Lib.splitK [32] 0 _ (Lib.join ((rowAt k).name.data.toList :: ((List.range (rowAt k).parts.size).map fun j => itoaS (partL (rowAt k) i j)).map (·.data.toList)) [32]) = _
    refine split_join _ _ _ (fun x hx => (row_noB k x hx).1) ?_ ?_
    · intro y hy
      rw [List.map_map] at hy
      obtain ⟨j, _, rfl⟩ := List.mem_map.1 hy
      show NoB 32 (itoaS (partL (rowAt k) i j)).data.toList
      have : (itoaS (partL (rowAt k) i j)).data.toList = Lib.itoa (partL (rowAt k) i j) := by unfold itoaS; simp
      rw [this]
      exact itoa_no _ 32 (by decide)
    · have h5 : (((List.range (rowAt k).parts.size).map fun j => itoaS (partL (rowAt k) i j)).map (·.data.toList)).length = (rowAt k).parts.size := by simp
      rw [h5]
      have hsz : (rowAt k).parts.size ≤ (showN i).size := by
        have e2 : (showN i).size = (showN i).data.toList.length := Lib.size_eq _
        rw [e2, hl]
        show _ ≤ (Lib.join ((rowAt k).name.data.toList :: ((List.range (rowAt k).parts.size).map fun j => itoaS (partL (rowAt k) i j)).map (·.data.toList)) [32]).length
        rw [Lib.join_length, h5]
        simp
      omega
  have inj : ∀ (a b : List ByteArray), a.map (·.data.toList) = b.map (·.data.toList) → a = b := by
    intro a
    induction a with
    | nil => intro b h; cases b with
      | nil => rfl
      | cons y b => simp at h
    | cons x a ih => intro b h; cases b with
      | nil => simp at h
      | cons y b =>
        simp only [List.map_cons, List.cons.injEq] at h
        rw [str_data h.1, ih b h.2]
  exact inj _ _ hmap
/-- what is shown is guessed as it was -/
theorem guess_show (i : PM.Ins) (hf : i.fits) : guessN (showN i) = some i := by
  obtain ⟨k, hk, hr, ht⟩ := rowOf_tells i i.bad
  have hs := split_show i k hr
  have h0 : wordAt (showN i) 0 = (rowAt k).name := by unfold wordAt; rw [hs]; rfl
  have hlk := look_row k hk
  have hR : lookR (rowAt k).name = rowAt k := by unfold lookR; rw [hlk]; rfl
  have hB : lookB (rowAt k).name = true := by unfold lookB; rw [hlk]; rfl
  have hlen : (splitW (showN i)).length = (rowAt k).parts.size + 1 := by rw [hs, wordL_length]
  unfold guessN
  rw [h0, hR, if_pos ⟨hB, hlen⟩, guessTo_told (rowAt k) i]
  · show some (toldN (rowAt k) i) = _
    rw [ht]
  · intro j hj
    have hw : wordAt (showN i) (1 + j) = itoaS (partL (rowAt k) i j) := by
      unfold wordAt wordL at *
      rw [hs, List.getD_eq_getElem?_getD, Nat.add_comm 1 j, List.getElem?_cons_succ, List.getElem?_map, List.getElem?_range hj]
      rfl
    rw [hw]
    have : (itoaS (partL (rowAt k) i j)).data.toList = Lib.itoa (partL (rowAt k) i j) := by unfold itoaS; simp
    rw [this]
    exact atoi_itoa _ (partL_i64 _ i hf j)
theorem read_show (i : PM.Ins) (hf : i.fits) : readN (showN i) = some i := by
  unfold readN
  rw [guess_show i hf]
  show (if i.fits ∧ showN i = showN i then some i else none) = _
  rw [if_pos ⟨hf, rfl⟩]
end Go.Proofs.YtklobjfhjlkgfaaDoor.TW
/- The reference's TextInstr: the instruction that is shown so. -/
namespace Go.Proofs.YtklobjfhjlkgfaaDoor.TW
open Go.RowKit
set_option linter.unusedVariables false
set_option maxRecDepth 100000
set_option linter.unusedSimpArgs false

theorem cuts_grow (s : ByteArray) : 1 ≤ (cutsN s).length := by
  unfold cutsN
  by_cases h : (cutsTo s s.size).1.length < 8
  · rw [cuts_yes h (.inl rfl), List.length_append]
    show 1 ≤ _ + 1
    omega
  · rw [cuts_full h (s.size + 1) (by omega)]
    omega
theorem cuts_size (s : ByteArray) : ∀ k, ∀ x ∈ (cutsTo s k).1, x.size ≤ s.size
  | 0, x, h => by cases h
  | k + 1, x, h => by
    unfold cutsTo at h
    split at h
    · rcases List.mem_append.1 h with h | h
      · exact cuts_size s k x h
      · obtain rfl := List.mem_singleton.1 h
        rw [ByteArray.size_extract]
        omega
    · exact cuts_size s k x h
/-- what TextInstr guesses -/
def rguess (s : ByteArray) : PM.Ins := rgN (cutsN s)
/-- what TextInstr answers -/
def tiN (s : ByteArray) : Option PM.Ins := if (rguess s).fits ∧ textN (rguess s) = s then some (rguess s) else none
theorem outT_cases (s : ByteArray) : (∃ i, tiN s = some i ∧ i = rguess s ∧ i.fits ∧ textN i = s) ∨ (tiN s = none ∧ ¬ ((rguess s).fits ∧ textN (rguess s) = s)) := by
  unfold tiN
  by_cases h : (rguess s).fits ∧ textN (rguess s) = s
  · exact .inl ⟨_, if_pos h, rfl, h.1, h.2⟩
  · exact .inr ⟨if_neg h, h⟩
end Go.Proofs.YtklobjfhjlkgfaaDoor.TW
