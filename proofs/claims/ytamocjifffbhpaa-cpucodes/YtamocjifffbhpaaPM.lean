/- Plain facts on instructions and processes; no Go in sight. -/
import Derived.Test.YtamocjifffbhpaaCM
namespace Go.Proofs.Ytamocjifffbhpaa.PM
open Go.RowKit
set_option linter.unusedVariables false
set_option maxRecDepth 100000

/-- the bytes of a number, as a string -/
def le (k : Nat) (n : Int) : ByteArray := ⟨(Lib.leBytes k (CM.low n)).toArray⟩
theorem le_size (k : Nat) (n : Int) : (le k n).size = k := by
  unfold le
  rw [Lib.size_eq]
  simp [Lib.leBytes_length]

structure Ins where
  op : Int
  a : Int
  b : Int
  c : Int
  m : Int
def Ins.cells (i : Ins) : Array Value := #[.int .i64 i.op, .int .i64 i.a, .int .i64 i.b, .int .i64 i.c, .int .i64 i.m]
def Byt (n : Int) : Prop := 0 ≤ n ∧ n ≤ 255
instance (n : Int) : Decidable (Byt n) := by unfold Byt; infer_instance
/-- F1: what may be encoded -/
def Ins.fits (i : Ins) : Prop := Byt i.op ∧ Byt i.a ∧ Byt i.b ∧ Byt i.c ∧ -2147483648 ≤ i.m ∧ i.m ≤ 2147483647
instance (i : Ins) : Decidable i.fits := by unfold Ins.fits; infer_instance
def Ins.bytes (i : Ins) : ByteArray := (((le 1 i.op ++ le 1 i.a) ++ le 1 i.b) ++ le 1 i.c) ++ le 4 i.m
theorem bytes_size (i : Ins) : i.bytes.size = 8 := by
  unfold Ins.bytes
  simp only [ByteArray.size_append, le_size]

/-- four bytes, with their sign -/
def sign32 (n : Int) : Int := if 2147483648 ≤ n then n - 4294967296 else n
def at_ (s : ByteArray) (k : Nat) : Int := ((s.data.toList.getD k 0).toNat : Int)
/-- F1: the instruction of eight bytes -/
def ins (s : ByteArray) : Ins := ⟨at_ s 0, at_ s 1, at_ s 2, at_ s 3, sign32 (Lib.leNat (s.data.toList.drop 4))⟩
theorem at_byt (s : ByteArray) (k : Nat) : Byt (at_ s k) := by
  unfold Byt at_
  have := (s.data.toList.getD k 0).toNat_lt
  omega
theorem at_wrap (s : ByteArray) (k : Nat) : wrap64 (at_ s k) = at_ s k := by
  have h := at_byt s k
  unfold Byt at h
  unfold wrap64
  omega
theorem sign_hi (n : Int) (h : 2147483648 ≤ n) : sign32 n = n - 4294967296 := if_pos h
theorem sign_lo (n : Int) (h : ¬ 2147483648 ≤ n) : sign32 n = n := if_neg h
theorem get_at (s : ByteArray) (k : Nat) (h : k < s.size) : ((s[k].toNat : Nat) : Int) = at_ s k := by
  unfold at_
  have h' : k < s.data.toList.length := by rw [← Lib.size_eq]; exact h
  rw [List.getD_eq_getElem?_getD, List.getElem?_eq_getElem h']
  rfl
theorem drop_lt (s : ByteArray) (h : s.size = 8) : Lib.leNat (s.data.toList.drop 4) < 4294967296 := by
  have h1 := CM.leNat_lt (s.data.toList.drop 4)
  have h2 : (s.data.toList.drop 4).length = 4 := by rw [List.length_drop, ← Lib.size_eq]; omega
  rw [h2] at h1
  exact h1
theorem sign_range (n : Int) (h0 : 0 ≤ n) (h1 : n < 4294967296) : -2147483648 ≤ sign32 n ∧ sign32 n ≤ 2147483647 := by
  unfold sign32
  split <;> omega
theorem ins_fits (s : ByteArray) (h : s.size = 8) : (ins s).fits := by
  have h4 := drop_lt s h
  have h5 := sign_range (Lib.leNat (s.data.toList.drop 4)) (by omega) (by omega)
  exact ⟨at_byt s 0, at_byt s 1, at_byt s 2, at_byt s 3, h5.1, h5.2⟩
theorem wrap32 (n : Int) (h0 : 0 ≤ n) (h1 : n < 4294967296) : IntKind.i32.wrap n = sign32 n := by
  unfold sign32
  rw [IntKind.wrap_i32]
  split <;> omega
theorem extract_data (s : ByteArray) (h : s.size = 8) : (s.extract 4 8).data.toList = s.data.toList.drop 4 := by
  have e := Lib.extract_data s 4 8
  rw [e]
  exact List.take_of_length_le (by rw [List.length_drop, ← Lib.size_eq]; omega)
end Go.Proofs.Ytamocjifffbhpaa.PM
