/- Plain facts on numbers and their bytes; no Go in sight. -/
import Derived.WalkKit
import Derived.Lib.Endian
import Derived.Lib.EndianBits
import Derived.Lib.Strings
import Derived.Laws.BytesArg
import Derived.Lib.UnsafeStr
namespace Go.Proofs.Ytamocjifffbhpaa.CM
open Go.RowKit

theorem leNat_lt : ∀ l : List UInt8, Lib.leNat l < 256 ^ l.length
  | [] => by simp [Lib.leNat]
  | b :: r => by
    have h := leNat_lt r
    have hb : b.toNat < 256 := b.toNat_lt
    simp only [Lib.leNat, List.length_cons, Nat.pow_succ]
    omega

theorem leNat_lt8 (l : List UInt8) (h : l.length ≤ 8) : Lib.leNat l < 18446744073709551616 := by
  have h1 := leNat_lt l
  have h2 : 256 ^ l.length ≤ 256 ^ 8 := Nat.pow_le_pow_right (by decide) h
  have h3 : (256 : Nat) ^ 8 = 18446744073709551616 := by decide
  omega

theorem leNat_lt7 (l : List UInt8) (h : l.length ≤ 7) : Lib.leNat l < 72057594037927936 := by
  have h1 := leNat_lt l
  have h2 : 256 ^ l.length ≤ 256 ^ 7 := Nat.pow_le_pow_right (by decide) h
  have h3 : (256 : Nat) ^ 7 = 72057594037927936 := by decide
  omega

theorem drop_step (s : ByteArray) (k : Nat) (h0 : 0 < k) (hk : k ≤ s.size) : s.data.toList.drop (k - 1) = s[k - 1] :: s.data.toList.drop k := by
  have h : k - 1 < s.data.toList.length := by rw [← Lib.size_eq]; omega
  have e := List.drop_eq_getElem_cons h
  rw [show k - 1 + 1 = k from by omega] at e
  exact e

theorem leNat_step (s : ByteArray) (k : Nat) (h0 : 0 < k) (hk : k ≤ s.size) :
    ((Lib.leNat (s.data.toList.drop (k - 1)) : Nat) : Int) = (s[k - 1].toNat : Int) + 256 * (Lib.leNat (s.data.toList.drop k) : Nat) := by
  rw [drop_step s k h0 hk]
  simp only [Lib.leNat]
  omega

theorem or_u64 (N b : Int) (h0 : 0 ≤ N) (h1 : N < 72057594037927936) (b0 : 0 ≤ b) (b1 : b < 256) :
    bits .or .u64 (IntKind.u64.wrap (N * 256)) (IntKind.u64.wrap b) = b + 256 * N := by
  rw [u64_wrap_id _ (by omega) (by omega), u64_wrap_id b b0 (by omega)]
  have hc : bits .or .u64 (N * 256) b = bits .or .u64 b (N * 256) := by simp only [bits, BitVec.or_comm]
  rw [hc, u64_or8 _ _ b0 b1 (by omega) (by omega) (by omega)]
  omega

theorem or_i64 (x b : Int) (hx : x % 256 = 0) (b0 : 0 ≤ b) (b1 : b < 256) :
    bits .or .i64 (wrap64 x) b = wrap64 (x + b) := by
  show IntKind.i64.wrap ((BitVec.ofInt 64 (wrap64 x) ||| BitVec.ofInt 64 b).toNat : Nat) = _
  rw [BitVec.toNat_or, BitVec.toNat_ofInt, BitVec.toNat_ofInt]
  have e1 : (b % ((2 ^ 64 : Nat) : Int)).toNat = b.toNat := by omega
  have e2 : (wrap64 x % ((2 ^ 64 : Nat) : Int)).toNat % 2 ^ 8 = 0 := by unfold wrap64; omega
  rw [e1, nat_join 8 _ _ e2 (by omega), IntKind.wrap_i64]
  unfold wrap64
  omega

theorem or_i64' (N b : Int) (b0 : 0 ≤ b) (b1 : b < 256) :
    bits .or .i64 (wrap64 (wrap64 N * 256)) (wrap64 b) = wrap64 (b + 256 * N) := by
  have e1 : wrap64 (wrap64 N * 256) = wrap64 (N * 256) := by unfold wrap64; omega
  have e2 : wrap64 b = b := by unfold wrap64; omega
  rw [e1, e2, or_i64 _ _ (by omega) b0 b1]
  congr 1
  omega

/-- the number n, k bytes further on -/
def shr (n : Int) (k : Nat) : Int := n / 256 ^ k
/-- the bytes that the number n has, as a number without a sign -/
def low (n : Int) : Nat := (n % 18446744073709551616).toNat

theorem shr_zero (n : Int) : shr n 0 = n := by simp [shr]
theorem shr_succ (n : Int) (k : Nat) : shr n k / 256 = shr n (k + 1) := by
  simp only [shr, Int.pow_succ]
  rw [Int.ediv_ediv_of_nonneg (Int.pow_nonneg (by decide))]

theorem leBytes_snoc : ∀ (k v : Nat), Lib.leBytes (k + 1) v = Lib.leBytes k v ++ [(v / 256 ^ k % 256).toUInt8]
  | 0, v => by simp [Lib.leBytes]
  | k + 1, v => by
    rw [Lib.leBytes, leBytes_snoc k (v / 256)]
    simp only [Lib.leBytes, List.cons_append]
    rw [Nat.div_div_eq_div_mul, ← Nat.pow_succ']

theorem shr_byte (n : Int) (k : Nat) (h : k < 8) : shr n k % 256 = ((low n / 256 ^ k % 256 : Nat) : Int) := by
  unfold shr low
  match k, h with
  | 0, _ => simp; omega
  | 1, _ => omega
  | 2, _ => omega
  | 3, _ => omega
  | 4, _ => omega
  | 5, _ => omega
  | 6, _ => omega
  | 7, _ => omega

theorem strOfNums_byte (n : Int) (k : Nat) (h : k < 8) : strOfNums [shr n k % 256] = ⟨#[(low n / 256 ^ k % 256).toUInt8]⟩ := by
  rw [shr_byte n k h]
  simp [strOfNums]
  rfl

theorem mk_append (a b : List UInt8) : (⟨a.toArray⟩ : ByteArray) ++ ⟨b.toArray⟩ = ⟨(a ++ b).toArray⟩ := ByteArray.mk_append_mk a b

/-- the cells of a row of 'size' bytes of which the first k are V's -/
def row (size k V : Nat) : List Value := Lib.byteCells (Lib.leBytes k V) ++ List.replicate (size - k) (.int .u8 0)

theorem row_zero (size V : Nat) : row size 0 V = List.replicate size (.int .u8 0) := by simp [row, Lib.leBytes, Lib.byteCells]
theorem row_get (size k V : Nat) (h : k < size) : (row size k V)[k]? = some (.int .u8 0) := by
  unfold row
  rw [List.getElem?_append_right (by rw [Lib.byteCells_length, Lib.leBytes_length]; exact Nat.le_refl _), Lib.byteCells_length, Lib.leBytes_length, List.getElem?_replicate]
  simp; omega
theorem toUInt8_int (x : Nat) : (((x % 256).toUInt8.toNat : Nat) : Int) = (x : Int) % 256 := by
  rw [Lib.toUInt8_mod]; omega
theorem row_set (size k V : Nat) (h : k < size) : (row size k V).set k (.int .u8 (((V / 256 ^ k : Nat) : Int) % 256)) = row size (k + 1) V := by
  unfold row
  rw [List.set_append_right _ _ (by rw [Lib.byteCells_length, Lib.leBytes_length]; exact Nat.le_refl _), Lib.byteCells_length, Lib.leBytes_length, Nat.sub_self]
  obtain ⟨m, hm⟩ : ∃ m, size - k = m + 1 := ⟨size - k - 1, by omega⟩
  rw [hm, List.replicate_succ, List.set_cons_zero, leBytes_snoc, Lib.byteCells_append, List.append_assoc, show size - (k + 1) = m from by omega]
  simp only [Lib.byteCells, List.map_cons, List.map_nil, List.cons_append, List.nil_append, toUInt8_int]
theorem row_full (size V : Nat) : row size size V = Lib.byteCells (Lib.leBytes size V) := by simp [row]
theorem row_length (size k V : Nat) (h : k ≤ size) : (row size k V).length = size := by
  simp [row, Lib.byteCells_length, Lib.leBytes_length]; omega

theorem low_shr (n : Int) (k : Nat) : ((low n / 256 ^ k : Nat) : Int) / 256 = ((low n / 256 ^ (k + 1) : Nat) : Int) := by
  rw [Nat.pow_succ, ← Nat.div_div_eq_div_mul]; omega

theorem strOfNums_bytes (l : List UInt8) : strOfNums (l.map fun b => (b.toNat : Int)) = ⟨l.toArray⟩ := by
  simp only [strOfNums, List.map_map]
  congr 1
  congr 1
  induction l with
  | nil => rfl
  | cons b r ih => simp [ih]

theorem u64_low (n : Int) : IntKind.u64.wrap n = ((low n : Nat) : Int) := by
  rw [IntKind.wrap_u64]; unfold low; omega

theorem byteCells_get (l : List UInt8) (i : Nat) (h : i < l.length) : (Lib.byteCells l)[i]? = some (.int .u8 ((l.map fun b => (b.toNat : Int)).getD i 0)) := by
  simp [Lib.byteCells, h]

theorem neg_tmod (c n : Int) (h0 : c < 0) (h1 : 1 ≤ n) : 0 ≤ -(c + 1).tmod n ∧ -(c + 1).tmod n < n := by
  have e : -(c + 1).tmod n = (-(c + 1)) % n := by
    rw [← Int.neg_tmod, Int.tmod_eq_emod_of_nonneg (by omega)]
  rw [e]
  exact ⟨Int.emod_nonneg _ (by omega), Int.emod_lt_of_pos _ (by omega)⟩

/-- Get of Put -/
theorem back_num (n : Int) (h1 : -9223372036854775808 ≤ n) (h2 : n ≤ 9223372036854775807) : wrap64 ((Lib.leNat (Lib.leBytes 8 (low n)) : Nat) : Int) = n := by
  rw [Lib.leNat_leBytes 8 _ (by unfold low; omega)]
  unfold low wrap64
  omega

theorem low_wrap (N : Nat) (h : N < 18446744073709551616) : low (wrap64 (N : Int)) = N := by
  unfold low wrap64; omega

theorem leBytes_leNat : ∀ l : List UInt8, Lib.leBytes l.length (Lib.leNat l) = l
  | [] => rfl
  | b :: r => by
    have hb : b.toNat < 256 := b.toNat_lt
    have e1 : (b.toNat + 256 * Lib.leNat r) % 256 = b.toNat := by omega
    have e2 : (b.toNat + 256 * Lib.leNat r) / 256 = Lib.leNat r := by omega
    simp only [List.length_cons, Lib.leNat, Lib.leBytes, e1, e2, leBytes_leNat r]
    congr 1
    simp [Nat.toUInt8]

/-- Put of Get -/
theorem back_bytes (s : ByteArray) (h : s.size ≤ 8) : Lib.leBytes s.size (low (wrap64 ((Lib.leNat s.data.toList : Nat) : Int))) = s.data.toList := by
  rw [low_wrap _ (leNat_lt8 _ (by rw [← Lib.size_eq]; exact h)), Lib.size_eq, leBytes_leNat]

theorem bounds (n : Int) (h : (Lit.int .i64 n).wf = true) : -9223372036854775808 ≤ n ∧ n ≤ 9223372036854775807 := by
  simp only [Lit.wf, IntKind.min, IntKind.max, IntKind.signed, IntKind.bits, Bool.and_eq_true, decide_eq_true_eq, if_true] at h
  omega

end Go.Proofs.Ytamocjifffbhpaa.CM
