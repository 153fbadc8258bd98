/- Plain: what is encoded is decoded as it was, and the other way. -/
import Derived.Test.YtamocjifffbhpaaPM
namespace Go.Proofs.Ytamocjifffbhpaa.PM
open Go.RowKit
set_option linter.unusedVariables false
set_option maxRecDepth 100000

theorem leNat4 (v : Nat) : Lib.leNat (Lib.leBytes 4 v) = v % 4294967296 := by
  simp only [Lib.leBytes, Lib.leNat, Lib.toUInt8_mod]
  omega
theorem leBytes4 (v u : Nat) (h : v % 4294967296 = u % 4294967296) : Lib.leBytes 4 v = Lib.leBytes 4 u := by
  have e0 : v % 256 = u % 256 := by omega
  have e1 : v / 256 % 256 = u / 256 % 256 := by omega
  have e2 : v / 256 / 256 % 256 = u / 256 / 256 % 256 := by omega
  have e3 : v / 256 / 256 / 256 % 256 = u / 256 / 256 / 256 % 256 := by omega
  simp only [Lib.leBytes, e0, e1, e2, e3]
theorem bytes_list (i : Ins) : i.bytes.data.toList = (CM.low i.op % 256).toUInt8 :: (CM.low i.a % 256).toUInt8 :: (CM.low i.b % 256).toUInt8 :: (CM.low i.c % 256).toUInt8 :: Lib.leBytes 4 (CM.low i.m) := by
  simp [Ins.bytes, le, ByteArray.data_append, Lib.leBytes]
theorem low_byt (n : Int) (h : Byt n) : ((((CM.low n % 256).toUInt8).toNat : Nat) : Int) = n := by
  unfold Byt at h
  rw [Lib.toUInt8_mod]
  unfold CM.low
  omega
theorem sign_low (m : Int) (h : -2147483648 ≤ m ∧ m ≤ 2147483647) : sign32 ((CM.low m % 4294967296 : Nat) : Int) = m := by
  unfold sign32 CM.low
  split <;> omega
theorem ins_bytes (i : Ins) (h : i.fits) : ins i.bytes = i := by
  obtain ⟨h0, h1, h2, h3, h4⟩ := h
  obtain ⟨op, a, b, c, m⟩ := i
  unfold ins at_
  rw [bytes_list]
  simp only [List.getD_cons_zero, List.getD_cons_succ, List.drop_succ_cons, List.drop_zero, leNat4]
  rw [low_byt op h0, low_byt a h1, low_byt b h2, low_byt c h3, sign_low m h4]
theorem low_at (s : ByteArray) (k : Nat) : (CM.low (at_ s k) % 256).toUInt8 = s.data.toList.getD k 0 := by
  unfold at_ CM.low
  have h := (s.data.toList.getD k 0).toNat_lt
  have e : ((((s.data.toList.getD k 0).toNat : Nat) : Int) % 18446744073709551616).toNat % 256 = (s.data.toList.getD k 0).toNat := by omega
  rw [e]
  simp [Nat.toUInt8]
theorem low_sign (N : Nat) (h : N < 4294967296) : CM.low (sign32 (N : Int)) % 4294967296 = N % 4294967296 := by
  unfold sign32 CM.low
  split <;> omega
theorem bytes_ins (s : ByteArray) (h : s.size = 8) : (ins s).bytes = s := by
  have hl : s.data.toList.length = 8 := by rw [← Lib.size_eq]; exact h
  apply ByteArray.ext
  apply Array.toList_inj.1
  rw [bytes_list]
  unfold ins
  simp only
  rw [low_at, low_at, low_at, low_at, leBytes4 _ _ (low_sign _ (drop_lt s h))]
  have e := CM.leBytes_leNat (s.data.toList.drop 4)
  rw [List.length_drop, hl] at e
  rw [e]
  match hs : s.data.toList, hl with
  | [x0, x1, x2, x3, x4, x5, x6, x7], _ => rfl
end Go.Proofs.Ytamocjifffbhpaa.PM
