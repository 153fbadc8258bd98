import Derived.WalkKit
import Derived.Lib.Endian
import Derived.Lib.EndianBits
import Derived.Lib.Strings
import Derived.Laws.BytesArg
import Derived.Lib.UnsafeStr
import Derived.Test.YtklobjfhjlkgfaaDoorProg
import Derived.WalkLawsBesides
import Derived.Laws.OwnMore
import Derived.Below
import Derived.Lib.ItoaNum
/- Plain facts on numbers and their bytes; no Go in sight. -/
namespace Go.Proofs.YtklobjfhjlkgfaaDoor.CM
open Go.RowKit

theorem leNat_lt : ∀ l : List UInt8, Lib.leNat l < 256 ^ l.length
  | [] => by simp [Lib.leNat]
  | b :: r => by
    have h := leNat_lt r
    have hb : b.toNat < 256 := b.toNat_lt
    simp only [Lib.leNat, List.length_cons, Nat.pow_succ]
    omega

theorem leNat_lt8 (l : List UInt8) (h : l.length ≤ 8) : Lib.leNat l < 18446744073709551616 := by
  have h1 := leNat_lt l
  have h2 : 256 ^ l.length ≤ 256 ^ 8 := Nat.pow_le_pow_right (by decide) h
  have h3 : (256 : Nat) ^ 8 = 18446744073709551616 := by decide
  omega

theorem leNat_lt7 (l : List UInt8) (h : l.length ≤ 7) : Lib.leNat l < 72057594037927936 := by
  have h1 := leNat_lt l
  have h2 : 256 ^ l.length ≤ 256 ^ 7 := Nat.pow_le_pow_right (by decide) h
  have h3 : (256 : Nat) ^ 7 = 72057594037927936 := by decide
  omega

theorem drop_step (s : ByteArray) (k : Nat) (h0 : 0 < k) (hk : k ≤ s.size) : s.data.toList.drop (k - 1) = s[k - 1] :: s.data.toList.drop k := by
  have h : k - 1 < s.data.toList.length := by rw [← Lib.size_eq]; omega
  have e := List.drop_eq_getElem_cons h
  rw [show k - 1 + 1 = k from by omega] at e
  exact e

theorem leNat_step (s : ByteArray) (k : Nat) (h0 : 0 < k) (hk : k ≤ s.size) :
    ((Lib.leNat (s.data.toList.drop (k - 1)) : Nat) : Int) = (s[k - 1].toNat : Int) + 256 * (Lib.leNat (s.data.toList.drop k) : Nat) := by
  rw [drop_step s k h0 hk]
  simp only [Lib.leNat]
  omega

theorem or_u64 (N b : Int) (h0 : 0 ≤ N) (h1 : N < 72057594037927936) (b0 : 0 ≤ b) (b1 : b < 256) :
    bits .or .u64 (IntKind.u64.wrap (N * 256)) (IntKind.u64.wrap b) = b + 256 * N := by
  rw [u64_wrap_id _ (by omega) (by omega), u64_wrap_id b b0 (by omega)]
  have hc : bits .or .u64 (N * 256) b = bits .or .u64 b (N * 256) := by simp only [bits, BitVec.or_comm]
  rw [hc, u64_or8 _ _ b0 b1 (by omega) (by omega) (by omega)]
  omega

theorem or_i64 (x b : Int) (hx : x % 256 = 0) (b0 : 0 ≤ b) (b1 : b < 256) :
    bits .or .i64 (wrap64 x) b = wrap64 (x + b) := by
  show IntKind.i64.wrap ((BitVec.ofInt 64 (wrap64 x) ||| BitVec.ofInt 64 b).toNat : Nat) = _
  rw [BitVec.toNat_or, BitVec.toNat_ofInt, BitVec.toNat_ofInt]
  have e1 : (b % ((2 ^ 64 : Nat) : Int)).toNat = b.toNat := by omega
  have e2 : (wrap64 x % ((2 ^ 64 : Nat) : Int)).toNat % 2 ^ 8 = 0 := by unfold wrap64; omega
  rw [e1, nat_join 8 _ _ e2 (by omega), IntKind.wrap_i64]
  unfold wrap64
  omega

theorem or_i64' (N b : Int) (b0 : 0 ≤ b) (b1 : b < 256) :
    bits .or .i64 (wrap64 (wrap64 N * 256)) (wrap64 b) = wrap64 (b + 256 * N) := by
  have e1 : wrap64 (wrap64 N * 256) = wrap64 (N * 256) := by unfold wrap64; omega
  have e2 : wrap64 b = b := by unfold wrap64; omega
  rw [e1, e2, or_i64 _ _ (by omega) b0 b1]
  congr 1
  omega

/-- the number n, k bytes further on -/
def shr (n : Int) (k : Nat) : Int := n / 256 ^ k
/-- the bytes that the number n has, as a number without a sign -/
def low (n : Int) : Nat := (n % 18446744073709551616).toNat

theorem shr_zero (n : Int) : shr n 0 = n := by simp [shr]
theorem shr_succ (n : Int) (k : Nat) : shr n k / 256 = shr n (k + 1) := by
  simp only [shr, Int.pow_succ]
  rw [Int.ediv_ediv_of_nonneg (Int.pow_nonneg (by decide))]

theorem leBytes_snoc : ∀ (k v : Nat), Lib.leBytes (k + 1) v = Lib.leBytes k v ++ [(v / 256 ^ k % 256).toUInt8]
  | 0, v => by simp [Lib.leBytes]
  | k + 1, v => by
    rw [Lib.leBytes, leBytes_snoc k (v / 256)]
    simp only [Lib.leBytes, List.cons_append]
    rw [Nat.div_div_eq_div_mul, ← Nat.pow_succ']

theorem shr_byte (n : Int) (k : Nat) (h : k < 8) : shr n k % 256 = ((low n / 256 ^ k % 256 : Nat) : Int) := by
  unfold shr low
  match k, h with
  | 0, _ => simp; omega
  | 1, _ => omega
  | 2, _ => omega
  | 3, _ => omega
  | 4, _ => omega
  | 5, _ => omega
  | 6, _ => omega
  | 7, _ => omega

theorem strOfNums_byte (n : Int) (k : Nat) (h : k < 8) : strOfNums [shr n k % 256] = ⟨#[(low n / 256 ^ k % 256).toUInt8]⟩ := by
  rw [shr_byte n k h]
  simp [strOfNums]
  rfl

theorem mk_append (a b : List UInt8) : (⟨a.toArray⟩ : ByteArray) ++ ⟨b.toArray⟩ = ⟨(a ++ b).toArray⟩ := ByteArray.mk_append_mk a b

/-- the cells of a row of 'size' bytes of which the first k are V's -/
def row (size k V : Nat) : List Value := Lib.byteCells (Lib.leBytes k V) ++ List.replicate (size - k) (.int .u8 0)

theorem row_zero (size V : Nat) : row size 0 V = List.replicate size (.int .u8 0) := by simp [row, Lib.leBytes, Lib.byteCells]
theorem row_get (size k V : Nat) (h : k < size) : (row size k V)[k]? = some (.int .u8 0) := by
  unfold row
  rw [List.getElem?_append_right (by rw [Lib.byteCells_length, Lib.leBytes_length]; exact Nat.le_refl _), Lib.byteCells_length, Lib.leBytes_length, List.getElem?_replicate]
  simp; omega
theorem toUInt8_int (x : Nat) : (((x % 256).toUInt8.toNat : Nat) : Int) = (x : Int) % 256 := by
  rw [Lib.toUInt8_mod]; omega
theorem row_set (size k V : Nat) (h : k < size) : (row size k V).set k (.int .u8 (((V / 256 ^ k : Nat) : Int) % 256)) = row size (k + 1) V := by
  unfold row
  rw [List.set_append_right _ _ (by rw [Lib.byteCells_length, Lib.leBytes_length]; exact Nat.le_refl _), Lib.byteCells_length, Lib.leBytes_length, Nat.sub_self]
  obtain ⟨m, hm⟩ : ∃ m, size - k = m + 1 := ⟨size - k - 1, by omega⟩
  rw [hm, List.replicate_succ, List.set_cons_zero, leBytes_snoc, Lib.byteCells_append, List.append_assoc, show size - (k + 1) = m from by omega]
  simp only [Lib.byteCells, List.map_cons, List.map_nil, List.cons_append, List.nil_append, toUInt8_int]
theorem row_full (size V : Nat) : row size size V = Lib.byteCells (Lib.leBytes size V) := by simp [row]
theorem row_length (size k V : Nat) (h : k ≤ size) : (row size k V).length = size := by
  simp [row, Lib.byteCells_length, Lib.leBytes_length]; omega

theorem low_shr (n : Int) (k : Nat) : ((low n / 256 ^ k : Nat) : Int) / 256 = ((low n / 256 ^ (k + 1) : Nat) : Int) := by
  rw [Nat.pow_succ, ← Nat.div_div_eq_div_mul]; omega

theorem strOfNums_bytes (l : List UInt8) : strOfNums (l.map fun b => (b.toNat : Int)) = ⟨l.toArray⟩ := by
  simp only [strOfNums, List.map_map]
  congr 1
  congr 1
  induction l with
  | nil => rfl
  | cons b r ih => simp [ih]

theorem u64_low (n : Int) : IntKind.u64.wrap n = ((low n : Nat) : Int) := by
  rw [IntKind.wrap_u64]; unfold low; omega

theorem byteCells_get (l : List UInt8) (i : Nat) (h : i < l.length) : (Lib.byteCells l)[i]? = some (.int .u8 ((l.map fun b => (b.toNat : Int)).getD i 0)) := by
  simp [Lib.byteCells, h]

theorem neg_tmod (c n : Int) (h0 : c < 0) (h1 : 1 ≤ n) : 0 ≤ -(c + 1).tmod n ∧ -(c + 1).tmod n < n := by
  have e : -(c + 1).tmod n = (-(c + 1)) % n := by
    rw [← Int.neg_tmod, Int.tmod_eq_emod_of_nonneg (by omega)]
  rw [e]
  exact ⟨Int.emod_nonneg _ (by omega), Int.emod_lt_of_pos _ (by omega)⟩

/-- Get of Put -/
theorem back_num (n : Int) (h1 : -9223372036854775808 ≤ n) (h2 : n ≤ 9223372036854775807) : wrap64 ((Lib.leNat (Lib.leBytes 8 (low n)) : Nat) : Int) = n := by
  rw [Lib.leNat_leBytes 8 _ (by unfold low; omega)]
  unfold low wrap64
  omega

theorem low_wrap (N : Nat) (h : N < 18446744073709551616) : low (wrap64 (N : Int)) = N := by
  unfold low wrap64; omega

theorem leBytes_leNat : ∀ l : List UInt8, Lib.leBytes l.length (Lib.leNat l) = l
  | [] => rfl
  | b :: r => by
    have hb : b.toNat < 256 := b.toNat_lt
    have e1 : (b.toNat + 256 * Lib.leNat r) % 256 = b.toNat := by omega
    have e2 : (b.toNat + 256 * Lib.leNat r) / 256 = Lib.leNat r := by omega
    simp only [List.length_cons, Lib.leNat, Lib.leBytes, e1, e2, leBytes_leNat r]
    congr 1
    simp [Nat.toUInt8]

/-- Put of Get -/
theorem back_bytes (s : ByteArray) (h : s.size ≤ 8) : Lib.leBytes s.size (low (wrap64 ((Lib.leNat s.data.toList : Nat) : Int))) = s.data.toList := by
  rw [low_wrap _ (leNat_lt8 _ (by rw [← Lib.size_eq]; exact h)), Lib.size_eq, leBytes_leNat]

theorem bounds (n : Int) (h : (Lit.int .i64 n).wf = true) : -9223372036854775808 ≤ n ∧ n ≤ 9223372036854775807 := by
  simp only [Lit.wf, IntKind.min, IntKind.max, IntKind.signed, IntKind.bits, Bool.and_eq_true, decide_eq_true_eq, if_true] at h
  omega

end Go.Proofs.YtklobjfhjlkgfaaDoor.CM
namespace Go.Proofs.YtklobjfhjlkgfaaDoor.CW
open Go.RowKit
set_option linter.unusedVariables false
set_option maxRecDepth 100000

theorem ret_int {k : IntKind} {a b : Int} (h : a = b) : Value.int k a = .int k b := by rw [h]

theorem rightSize_yes (n : Int) (w : World) (h1 : 1 ≤ n) (h2 : n ≤ 8) :
    Calls Tryd.prog 58 #[.int .i64 n] w fun e w' => e = .returned (.bool true) ∧ w = w' := by
  go_enter Tryd.func58, Tryd.ntmps58
  go_wp2
  go_ret
  exact ⟨rfl, rfl⟩
theorem rightSize_no (n : Int) (w : World) (h1 : n < 1 ∨ 8 < n) :
    Calls Tryd.prog 58 #[.int .i64 n] w fun e w' => e = .returned (.bool false) ∧ w = w' := by
  rcases h1 with h | h
  · go_enter Tryd.func58, Tryd.ntmps58
    go_wp2
    go_ret
    exact ⟨rfl, rfl⟩
  · have h' : 1 ≤ n := by omega
    have h'' : decide (n ≤ 8) = false := by simp; omega
    go_enter Tryd.func58, Tryd.ntmps58
    go_wp2
    go_ret
    exact ⟨rfl, rfl⟩

theorem get_no (s : ByteArray) (w : World) (hs : s.size ≤ maxLen) (h1 : (s.size : Int) < 1 ∨ 8 < (s.size : Int)) :
    Calls Tryd.prog 55 #[.string s] w fun e w' => e = .returned (.tuple #[.int .i64 0, .int .i64 3]) ∧ w = w' := by
  unfold maxLen at hs
  go_enter Tryd.func55, Tryd.ntmps55
  go_wp2_with (go_at_call 58; refine (rightSize_no _ _ h1).mono ?_; rintro e w' ⟨rfl, rfl⟩)
  go_ret2
  exact ⟨rfl, rfl⟩

set_option maxHeartbeats 400000 in
theorem get_yes (s : ByteArray) (w : World) (h1 : 1 ≤ s.size) (h2 : s.size ≤ 8) :
    Calls Tryd.prog 55 #[.string s] w fun e w' => e = .returned (.tuple #[.int .i64 (wrap64 (Lib.leNat s.data.toList)), .int .i64 0]) ∧ w = w' := by
  go_enter Tryd.func55, Tryd.ntmps55
  go_wp2_with (go_at_call 58; refine (rightSize_yes _ _ (by omega) (by omega)).mono ?_; rintro e w' ⟨rfl, rfl⟩)
  go_loop [4, 5] (fun n i => ∃ k : Nat, k ≤ s.size ∧ i = .int .i64 ((k : Int) - 1) ∧ n = .int .u64 (Lib.leNat (s.data.toList.drop k))) (fun _ i => (intOf i + 1).toNat)
  case atStart => exact ⟨s.size, Nat.le_refl _, rfl, by rw [List.drop_of_length_le (by rw [← Lib.size_eq]; exact Nat.le_refl _)]; rfl⟩
  case round =>
    obtain ⟨k, hk, rfl, rfl⟩ := hrel
    by_cases hlt : 0 < k
    · go_wp2
      go_round
      case rel =>
        refine ⟨k - 1, by omega, ret_int (by omega), ret_int ?_⟩
        have hb : s[k - 1].toNat < 256 := s[k - 1].toNat_lt
        rw [CM.leNat_step s k hlt hk, CM.or_u64 _ _ (by omega) (by have := CM.leNat_lt7 (s.data.toList.drop k) (by rw [List.length_drop, ← Lib.size_eq]; omega); omega) (by omega) (by omega)]
      case measure => simp [intOf]; omega
    · obtain rfl : k = 0 := by omega
      go_wp2
      go_ret2
      exact ⟨rfl, rfl⟩

set_option maxHeartbeats 400000 in
theorem number_any (s : ByteArray) (w : World) (h1 : 1 ≤ s.size) (h2 : s.size ≤ 8) :
    Calls Tryd.prog 57 #[.string s] w fun e w' => e = .returned (.int .i64 (wrap64 (Lib.leNat s.data.toList))) ∧ w = w' := by
  go_enter Tryd.func57, Tryd.ntmps57
  go_wp2
  go_loop [3, 4] (fun n i => ∃ k : Nat, k ≤ s.size ∧ i = .int .i64 ((k : Int) - 1) ∧ n = .int .i64 (wrap64 (Lib.leNat (s.data.toList.drop k)))) (fun _ i => (intOf i + 1).toNat)
  case atStart => exact ⟨s.size, Nat.le_refl _, rfl, by rw [List.drop_of_length_le (by rw [← Lib.size_eq]; exact Nat.le_refl _)]; exact ret_int (by simp [Lib.leNat, wrap64])⟩
  case round =>
    obtain ⟨k, hk, rfl, rfl⟩ := hrel
    by_cases hlt : 0 < k
    · go_wp2
      go_round
      case rel =>
        refine ⟨k - 1, by omega, ret_int (by omega), ret_int ?_⟩
        have hb : s[k - 1].toNat < 256 := s[k - 1].toNat_lt
        rw [CM.leNat_step s k hlt hk, CM.or_i64' _ _ (by omega) (by omega)]
      case measure => simp [intOf]; omega
    · obtain rfl : k = 0 := by omega
      go_wp2
      go_ret
      exact ⟨rfl, rfl⟩
end Go.Proofs.YtklobjfhjlkgfaaDoor.CW
namespace Go.Proofs.YtklobjfhjlkgfaaDoor.CW
open Go.RowKit
set_option linter.unusedVariables false
set_option maxRecDepth 100000

set_option maxHeartbeats 400000 in
theorem bytes_any (n : Int) (size : Nat) (w : World) (h2 : size ≤ 8) :
    Calls Tryd.prog 56 #[.int .i64 n, .int .i64 size] w fun e w' => e = .returned (.string ⟨(Lib.leBytes size (CM.low n)).toArray⟩) ∧ Below w.heap.size w w' := by
  go_enter Tryd.func56, Tryd.ntmps56
  go_wp2
  go_loopw [0, 5, 6] (fun t s i wr => ∃ k : Nat, k ≤ size ∧ i = .int .i64 k ∧ t = .int .i64 (CM.shr n k) ∧ s = .string ⟨(Lib.leBytes k (CM.low n)).toArray⟩ ∧ Below w.heap.size w wr) (fun _ _ i _ => size - (intOf i).toNat)
  case atStart => exact ⟨0, by omega, rfl, by rw [CM.shr_zero], rfl, Below.refl _ _⟩
  case round =>
    obtain ⟨k, hk, rfl, rfl, rfl, hb⟩ := hrel
    by_cases hlt : k < size
    · have hcv : (convert 68 9 (.slice (some ⟨wr.heap.size, 0, none⟩) 1 1)).run Tryd.prog (wr.alloc (.cells #[.int .u8 (CM.shr n k % 256)] 5)) = .ok (.string ⟨#[(CM.low n / 256 ^ k % 256).toUInt8]⟩) (wr.alloc (.cells #[.int .u8 (CM.shr n k % 256)] 5)) := by
        rw [← CM.strOfNums_byte n k (by omega)]
        refine run_convert_bytes_arg _ 68 5 Tryd.underlying68 Tryd.underlying5 _ 0 1 1 [CM.shr n k % 256] rfl ?_ 9 Tryd.underlying9
        intro i hi
        obtain rfl : i = 0 := by omega
        simp
      have hl : (Lib.leBytes k (CM.low n)).length = k := Lib.leBytes_length _ _
      have HN : Hid (Lib.leBytes (k + 1) (CM.low n) = Lib.leBytes k (CM.low n) ++ [(CM.low n / 256 ^ k % 256).toUInt8]) := CM.leBytes_snoc _ _
      go_wp2
      go_roundw
      case rel => exact ⟨k + 1, by omega, by go_num, by rw [← CM.shr_succ], by rw [HN.out]; exact congrArg Value.string (CM.mk_append _ [_]), hb.alloc (by have := hb.size; omega) _⟩
      case measure => simp [intOf]; omega
    · obtain rfl : k = size := by omega
      go_wp2
      go_ret
      exact ⟨rfl, hb⟩
end Go.Proofs.YtklobjfhjlkgfaaDoor.CW
namespace Go.Proofs.YtklobjfhjlkgfaaDoor.CW
open Go.RowKit
set_option linter.unusedVariables false
set_option maxRecDepth 100000

theorem info5 : (Tryd.prog.info? 5).map (fun i => (i.zero, i.size, i.bytes)) = some (some (.int .u8 0), 1, 1) := by kernel_rfl

theorem put_no (n size : Int) (w : World) (h1 : size < 1 ∨ 8 < size) :
    Calls Tryd.prog 36 #[.int .i64 n, .int .i64 size] w fun e w' => e = .returned (.tuple #[.string ⟨#[]⟩, .int .i64 3]) ∧ w = w' := by
  go_enter Tryd.func36, Tryd.ntmps36
  go_wp2_with (go_at_call 58; refine (rightSize_no _ _ h1).mono ?_; rintro e w' ⟨rfl, rfl⟩)
  go_ret2
  exact ⟨rfl, rfl⟩

set_option maxHeartbeats 400000 in
theorem put_yes (n : Int) (size : Nat) (w : World) (h1 : 1 ≤ size) (h2 : size ≤ 8) :
    Calls Tryd.prog 36 #[.int .i64 n, .int .i64 size] w fun e w' => e = .returned (.tuple #[.string ⟨(Lib.leBytes size (CM.low n)).toArray⟩, .int .i64 0]) ∧ Below w.heap.size w w' := by
  obtain ⟨i0, hi, hz0, hz1, hz2⟩ := info_parts info5
  obtain ⟨w1, hmk, hown1, hgr1⟩ := run_make_full (P := Tryd.prog) w w.heap.size 68 5 i0 (.int .u8 0) 1 Tryd.underlying68 hi hz0 hz1 .i64 .i64 size (by rw [hz2]; omega) (by unfold maxLen; omega) (Nat.le_refl _)
  have hb1 : Below w.heap.size w w1 := (Below.refl _ _).grown hgr1 (Nat.le_refl _) (by intro k h; cases h)
  rw [Nat.mul_one, show (Value.int .u8 0).cells = #[Value.int .u8 0] from rfl, toList_madeCells_one, ← CM.row_zero size (CM.low n)] at hown1
  go_enter Tryd.func36, Tryd.ntmps36
  go_wp2_with (go_at_call 58; refine (rightSize_yes _ _ (by omega) (by omega)).mono ?_; rintro e w' ⟨rfl, rfl⟩)
  go_loopw [6, 18] (fun r i wr => ∃ k : Nat, k ≤ size ∧ i = .int .i64 k ∧ r = .int .u64 ((CM.low n / 256 ^ k : Nat) : Int) ∧ wr.ownsRow w.heap.size 5 1 (.slice (some ⟨w.heap.size, 0, none⟩) size size) size (CM.row size k (CM.low n)) ∧ Below w.heap.size w wr) (fun _ i _ => size - (intOf i).toNat)
  case atStart => exact ⟨0, by omega, rfl, by rw [CM.u64_low]; simp, hown1, hb1⟩
  case round =>
    obtain ⟨k, hk, rfl, rfl, hown, hb⟩ := hrel
    by_cases hlt : k < size
    · have hc : wr.cell? ⟨w.heap.size, k, none⟩ = some (.int .u8 0) := (hown.cellAt k (by omega)).trans (CM.row_get _ _ _ hlt)
      have hf : wr.frozen? ⟨w.heap.size, k, none⟩ = false := hown.frozenAt k
      have HS : Hid ((wr.setCell ⟨w.heap.size, k, none⟩ (.int .u8 (((CM.low n / 256 ^ k : Nat) : Int) % 256))).ownsRow w.heap.size 5 1 (.slice (some ⟨w.heap.size, 0, none⟩) size size) size (CM.row size (k + 1) (CM.low n)) ∧ Below w.heap.size w (wr.setCell ⟨w.heap.size, k, none⟩ (.int .u8 (((CM.low n / 256 ^ k : Nat) : Int) % 256)))) := by
        have h := hown.stored k (.int .u8 (((CM.low n / 256 ^ k : Nat) : Int) % 256))
        rw [CM.row_set _ _ _ hlt] at h
        exact ⟨h.1, hb.setCell (Nat.le_refl _) _⟩
      go_wp2
      go_roundw
      case rel => exact ⟨k + 1, by omega, by go_num, ret_int (CM.low_shr n k), HS.out.1, HS.out.2⟩
      case measure => simp [intOf]; omega
    · obtain rfl : k = size := by omega
      have hcv : (convert 68 9 (.slice (some ⟨w.heap.size, 0, none⟩) k k)).run Tryd.prog wr = .ok (.string ⟨(Lib.leBytes k (CM.low n)).toArray⟩) wr := by
        rw [← CM.strOfNums_bytes]
        refine run_convert_bytes_arg _ 68 5 Tryd.underlying68 Tryd.underlying5 _ 0 k k _ (by simp [Lib.leBytes_length]) ?_ 9 Tryd.underlying9
        intro i hi
        rw [Nat.zero_add, hown.cellAt i (by omega), CM.row_full]
        exact CM.byteCells_get _ i (by rw [Lib.leBytes_length]; exact hi)
      go_wp2
      go_ret2
      exact ⟨rfl, hb⟩
end Go.Proofs.YtklobjfhjlkgfaaDoor.CW
/- Blocks that are known whole. -/
namespace Go.Proofs.YtklobjfhjlkgfaaDoor.B
open Go.RowKit
set_option linter.unusedVariables false
set_option maxRecDepth 100000

theorem below {w w' : World} {b N : Nat} {o : Obj} (h : w.heap[b]? = some o) (hb : Below N w w') (hlt : b < N) : w'.heap[b]? = some o := (hb.block b hlt).trans h
theorem isLt {w : World} {b : Nat} {o : Obj} (h : w.heap[b]? = some o) : b < w.heap.size := (Array.getElem?_eq_some_iff.1 h).1
theorem alloc {w : World} {b : Nat} {o : Obj} (h : w.heap[b]? = some o) (o' : Obj) : (w.alloc o').heap[b]? = some o := (Below.heap_alloc w o' b (isLt h)).trans h
theorem cell {w : World} {b : Nat} {C : Array Value} {t : TypeId} {fr : Nat × Nat} (h : w.heap[b]? = some (.cells C t fr)) (j : Nat) {v : Value} (hj : C[j]? = some v) : w.cell? ⟨b, j, none⟩ = some v := (cell_of_row w b j C t fr h).trans hj
theorem free {w : World} {b : Nat} {C : Array Value} {t : TypeId} (h : w.heap[b]? = some (.cells C t (0, 0))) (j : Nat) : w.frozen? ⟨b, j, none⟩ = false := frozen_of_row w b j C t h
theorem other {w : World} {b : Nat} {o : Obj} (h : w.heap[b]? = some o) (g j : Nat) (v : Value) (hne : b ≠ g) : (w.setCell ⟨g, j, none⟩ v).heap[b]? = some o := (heap_setCell_other w ⟨g, j, none⟩ b v hne).trans h
theorem set {w : World} {b : Nat} {C : Array Value} {t : TypeId} (h : w.heap[b]? = some (.cells C t (0, 0))) (j : Nat) (v : Value) : (w.setCell ⟨b, j, none⟩ v).heap[b]? = some (.cells (C.setIfInBounds j v) t (0, 0)) := heap_setCell_same w b j C t v h
theorem new (w : World) (C : Array Value) (t : TypeId) : (w.alloc (.cells C t)).heap[w.heap.size]? = some (.cells C t (0, 0)) := heap_alloc_new w _
theorem news {w : World} {b : Nat} {C : Array Value} {t : TypeId} {fr : Nat × Nat} (h : w.heap[b]? = some (.cells C t fr)) : ∀ j u, C.toList[j]? = some u → w.cell? ((⟨b, 0, none⟩ : Addr).add j) = some u := fun j u hj => by
  rw [Addr.add_lit, Nat.zero_add]
  exact cell h j (by simpa using hj)
theorem grown {w w' : World} {b : Nat} {o : Obj} {row : Option Nat} (h : w.heap[b]? = some o) (hg : w.grownBy w' row) (hne : some b ≠ row) : w'.heap[b]? = some o := (hg.block b (isLt h) hne).trans h
end Go.Proofs.YtklobjfhjlkgfaaDoor.B
/- The reference's Digits: a number's decimal numeral. -/
namespace Go.Proofs.YtklobjfhjlkgfaaDoor.TW
open Go.RowKit
set_option linter.unusedVariables false
set_option maxRecDepth 100000
set_option linter.unusedSimpArgs false

theorem hideC {p : Prop} (h : p) : Hid p := h
theorem dec_len : ∀ (k u : Nat), u < 10 ^ (k + 1) → (Lib.decDigits u).length ≤ k + 1
  | 0, u, h => by
    rw [Lib.decDigits, dif_pos (by simpa using h)]
    simp
  | k + 1, u, h => by
    rw [Lib.decDigits]
    by_cases c : u < 10
    · rw [dif_pos c]; simp
    · rw [dif_neg c, List.length_append]
      have ih := dec_len k (u / 10) (by
        rw [Nat.div_lt_iff_lt_mul (by decide)]
        rw [← Nat.pow_succ]
        exact h)
      simp only [List.length_singleton]
      omega
/-- the numeral of a number that is not negative, as a string -/
def decS (u : Nat) : ByteArray := ⟨(Lib.decDigits u).toArray⟩
theorem decS_size (u : Nat) (h : u ≤ 9223372036854775808) : (decS u).size ≤ 20 := by
  show (Lib.decDigits u).toArray.size ≤ 20
  have := dec_len 19 u (by omega)
  simpa using this
theorem decS_small (u : Nat) (h : u < 10) : decS u = ⟨#[UInt8.ofNat (48 + u)]⟩ := by
  unfold decS
  rw [Lib.decDigits, dif_pos h]
theorem decS_step (u : Nat) (h : ¬ u < 10) : decS (u / 10) ++ decS (u % 10) = decS u := by
  apply ByteArray.ext
  rw [ByteArray.data_append]
  unfold decS
  rw [Lib.decDigits.eq_def u, dif_neg h, Lib.decDigits.eq_def (u % 10), dif_pos (Nat.mod_lt _ (by decide))]
  simp
theorem add_below {w w1 w2 : World} (h1 : Below w.heap.size w w1) (h2 : Below w1.heap.size w1 w2) : Below w.heap.size w w2 := h1.trans (h2.mono h1.size)
theorem digits_one (n : Nat) (c : n < 10) (w : World) : Calls Tryd.prog 44 #[.int .i64 (n : Int)] w fun e w' => e = .returned (.string (decS n)) ∧ Below w.heap.size w w' := by
  have h0 : ¬ ((n : Int) < 0) := by omega
  have h10 : (n : Int) < 10 := by omega
  have HS : Hid (decS n = ⟨#[UInt8.ofNat (48 + n)]⟩) := decS_small n c
  have hw1 : IntKind.i64.wrap (48 + (n : Int)) = 48 + (n : Int) := IntWalk.i64_in _ (by omega)
  have hcv : (convert 68 9 (.slice (some ⟨w.heap.size, 0, none⟩) 1 1)).run Tryd.prog (w.alloc (.cells #[.int .u8 (48 + (n : Int))] 5)) = .ok (.string ⟨#[UInt8.ofNat (48 + n)]⟩) (w.alloc (.cells #[.int .u8 (48 + (n : Int))] 5)) := by
    have e : (⟨#[UInt8.ofNat (48 + n)]⟩ : ByteArray) = strOfNums [48 + (n : Int)] := by
      unfold strOfNums
      simp only [List.map_cons, List.map_nil]
      rw [show (48 + (n : Int)).toNat = 48 + n by omega]
    rw [e]
    refine run_convert_bytes_arg _ 68 5 Tryd.underlying68 Tryd.underlying5 _ 0 1 1 [48 + (n : Int)] rfl ?_ 9 Tryd.underlying9
    intro i hi
    obtain rfl : i = 0 := by omega
    exact B.cell (B.new w #[.int .u8 (48 + (n : Int))] 5) 0 rfl
  obtain ⟨S, hS⟩ : ∃ S : ByteArray, S = ⟨#[UInt8.ofNat (48 + n)]⟩ := ⟨_, rfl⟩
  rw [← hS] at HS hcv
  clear hS
  go_enter Tryd.func44, Tryd.ntmps44
  go_wp2
  go_ret
  exact ⟨by rw [HS.out]; rfl, (Below.refl _ _).alloc (Nat.le_refl _) _⟩
set_option maxHeartbeats 1000000 in
theorem digits_pos : ∀ (m n : Nat), n ≤ m → n ≤ 9223372036854775807 → ∀ w : World, Calls Tryd.prog 44 #[.int .i64 (n : Int)] w fun e w' => e = .returned (.string (decS n)) ∧ Below w.heap.size w w'
  | 0, n, hm, hn, w => digits_one n (by omega) w
  | m + 1, n, hm, hn, w => by
    by_cases c : n < 10
    · exact digits_one n c w
    · have ih1 := hideC (digits_pos m (n / 10) (by omega) (by omega))
      have ih2 := hideC (digits_one (n % 10) (Nat.mod_lt _ (by decide)))
      have HS : Hid (decS (n / 10) ++ decS (n % 10) = decS n) := decS_step n c
      have hA := decS_size (n / 10) (by omega)
      have hB := decS_size (n % 10) (by omega)
      have hq : ((n : Int)).tdiv 10 = ((n / 10 : Nat) : Int) := by rw [Int.tdiv_eq_ediv_of_nonneg (by omega)]; omega
      have hr : ((n : Int)).tmod 10 = ((n % 10 : Nat) : Int) := by rw [Int.tmod_eq_emod_of_nonneg (by omega)]; omega
      obtain ⟨A, hAe⟩ : ∃ A, A = decS (n / 10) := ⟨_, rfl⟩
      obtain ⟨C, hCe⟩ : ∃ C, C = decS (n % 10) := ⟨_, rfl⟩
      rw [← hAe] at ih1 HS hA
      rw [← hCe] at ih2 HS hB
      clear hAe hCe
      obtain ⟨q, hqe⟩ : ∃ q, q = n / 10 := ⟨_, rfl⟩
      obtain ⟨r, hre⟩ : ∃ r, r = n % 10 := ⟨_, rfl⟩
      rw [← hqe] at ih1 hq
      rw [← hre] at ih2 hr
      have hqb : q ≤ 9223372036854775807 := by omega
      have hrb : r ≤ 9 := by omega
      clear hqe hre
      have h0 : ¬ ((n : Int) < 0) := by omega
      have h10 : ¬ ((n : Int) < 10) := by omega
      go_enter Tryd.func44, Tryd.ntmps44
      go_wp2_with fail
      refine (ih1.out _).mono ?_
      rintro e w1 ⟨rfl, hb1⟩
      have HB1 := hideC hb1
      clear hb1
      go_wp2_with fail
      refine (ih2.out _).mono ?_
      rintro e w2 ⟨rfl, hb2⟩
      have HB2 := hideC (add_below HB1.out hb2)
      clear hb2
      go_wp2
      go_ret
      exact ⟨by rw [← HS.out]; rfl, HB2.out⟩
/-- the numeral of any number -/
def itoaS (n : Int) : ByteArray := ⟨(Lib.itoa n).toArray⟩
theorem itoaS_pos (n : Nat) : itoaS (n : Int) = decS n := by
  unfold itoaS decS Lib.itoa
  rw [if_neg (by omega), Int.toNat_natCast]
theorem itoaS_neg (n : Nat) (h : 0 < n) : itoaS (-(n : Int)) = (⟨#[45]⟩ : ByteArray) ++ decS n := by
  apply ByteArray.ext
  rw [ByteArray.data_append]
  unfold itoaS decS Lib.itoa
  rw [if_pos (by omega), Int.natAbs_neg, Int.natAbs_natCast]
  simp
set_option maxHeartbeats 1000000 in
theorem digits_neg : ∀ (m n : Nat), n ≤ m → 0 < n → n ≤ 9223372036854775808 → ∀ w : World, Calls Tryd.prog 44 #[.int .i64 (-(n : Int))] w fun e w' => e = .returned (.string ((⟨#[45]⟩ : ByteArray) ++ decS n)) ∧ Below w.heap.size w w'
  | 0, n, hm, h1, hn, w => by omega
  | m + 1, n, hm, h1, hn, w => by
    by_cases c : n < 10
    · have ih := hideC (digits_one n c)
      have hA := decS_size n (by omega)
      obtain ⟨A, hAe⟩ : ∃ A, A = decS n := ⟨_, rfl⟩
      rw [← hAe] at ih hA ⊢
      clear hAe
      have h0 : (-(n : Int)) < 0 := by omega
      have h10 : (-(n : Int)) > -10 := by omega
      have hw : IntKind.i64.wrap (n : Int) = (n : Int) := IntWalk.i64_in _ (by omega)
      go_enter Tryd.func44, Tryd.ntmps44
      go_wp2_with fail
      refine (ih.out _).mono ?_
      rintro e w1 ⟨rfl, hb1⟩
      have HB1 := hideC hb1
      clear hb1
      go_wp2
      go_ret
      exact ⟨rfl, HB1.out⟩
    · have ih1 := hideC (digits_neg m (n / 10) (by omega) (by omega) (by omega))
      have ih2 := hideC (digits_one (n % 10) (Nat.mod_lt _ (by decide)))
      have HS : Hid ((⟨#[45]⟩ : ByteArray) ++ decS (n / 10) ++ decS (n % 10) = (⟨#[45]⟩ : ByteArray) ++ decS n) := by
        show _ = _
        rw [ByteArray.append_assoc, decS_step n c]
      have hA : ((⟨#[45]⟩ : ByteArray) ++ decS (n / 10)).size ≤ 21 := by
        rw [ByteArray.size_append]
        have := decS_size (n / 10) (by omega)
        show 1 + _ ≤ 21
        omega
      have hB := decS_size (n % 10) (by omega)
      have hq : (-(n : Int)).tdiv 10 = -((n / 10 : Nat) : Int) := by rw [Int.neg_tdiv, Int.tdiv_eq_ediv_of_nonneg (by omega)]; omega
      have hr : (-(n : Int)).tmod 10 = -((n % 10 : Nat) : Int) := by rw [Int.neg_tmod, Int.tmod_eq_emod_of_nonneg (by omega)]; omega
      obtain ⟨A, hAe⟩ : ∃ A, A = (⟨#[45]⟩ : ByteArray) ++ decS (n / 10) := ⟨_, rfl⟩
      obtain ⟨C, hCe⟩ : ∃ C, C = decS (n % 10) := ⟨_, rfl⟩
      rw [← hAe] at ih1 HS hA
      rw [← hCe] at ih2 HS hB
      clear hAe hCe
      obtain ⟨R, hR⟩ : ∃ R, R = (⟨#[45]⟩ : ByteArray) ++ decS n := ⟨_, rfl⟩
      rw [← hR] at HS ⊢
      clear hR
      obtain ⟨q, hqe⟩ : ∃ q, q = n / 10 := ⟨_, rfl⟩
      obtain ⟨r, hre⟩ : ∃ r, r = n % 10 := ⟨_, rfl⟩
      rw [← hqe] at ih1 hq
      rw [← hre] at ih2 hr
      have hqb : q ≤ 9223372036854775807 := by omega
      have hrb : r ≤ 9 := by omega
      clear hqe hre
      have h0 : (-(n : Int)) < 0 := by omega
      have h10 : ¬ ((-(n : Int)) > -10) := by omega
      have hw : IntKind.i64.wrap (r : Int) = (r : Int) := IntWalk.i64_in _ (by omega)
      have hw2 : IntKind.i64.wrap (-(q : Int)) = -(q : Int) := IntWalk.i64_in _ (by omega)
      go_enter Tryd.func44, Tryd.ntmps44
      go_wp2_with fail
      refine (ih1.out _).mono ?_
      rintro e w1 ⟨rfl, hb1⟩
      have HB1 := hideC hb1
      clear hb1
      go_wp2_with fail
      refine (ih2.out _).mono ?_
      rintro e w2 ⟨rfl, hb2⟩
      have HB2 := hideC (add_below HB1.out hb2)
      clear hb2
      go_wp2
      go_ret
      exact ⟨by rw [← HS.out]; rfl, HB2.out⟩
/-- Digits, of any int -/
theorem digits_any (n : Int) (h0 : -9223372036854775808 ≤ n) (h1 : n ≤ 9223372036854775807) (w : World) : Calls Tryd.prog 44 #[.int .i64 n] w fun e w' => e = .returned (.string (itoaS n)) ∧ Below w.heap.size w w' := by
  by_cases c : 0 ≤ n
  · obtain ⟨k, rfl⟩ : ∃ k : Nat, n = (k : Int) := ⟨n.toNat, by omega⟩
    rw [itoaS_pos]
    exact digits_pos k k (Nat.le_refl _) (by omega) w
  · obtain ⟨k, rfl⟩ : ∃ k : Nat, n = -(k : Int) := ⟨(-n).toNat, by omega⟩
    rw [itoaS_neg k (by omega)]
    exact digits_neg k k (Nat.le_refl _) (by omega) (by omega) w
end Go.Proofs.YtklobjfhjlkgfaaDoor.TW
/- The reference's words: a name, and numbers with blanks ahead. -/
namespace Go.Proofs.YtklobjfhjlkgfaaDoor.TW
open Go.RowKit
set_option linter.unusedVariables false
set_option maxRecDepth 100000
set_option linter.unusedSimpArgs false

def blank : ByteArray := ⟨#[32]⟩
def wordsTo (name : ByteArray) (xs : List Int) : Nat → ByteArray
  | 0 => name
  | k + 1 => wordsTo name xs k ++ blank ++ itoaS (xs.getD k 0)
/-- what words answers -/
def wordsS (name : ByteArray) (xs : List Int) : ByteArray := wordsTo name xs xs.length
def I64 (n : Int) : Prop := -9223372036854775808 ≤ n ∧ n ≤ 9223372036854775807
theorem itoaS_size (n : Int) (h : I64 n) : (itoaS n).size ≤ 21 := by
  unfold I64 at h
  by_cases c : 0 ≤ n
  · obtain ⟨k, rfl⟩ : ∃ k : Nat, n = (k : Int) := ⟨n.toNat, by omega⟩
    rw [itoaS_pos]
    have := decS_size k (by omega)
    omega
  · obtain ⟨k, rfl⟩ : ∃ k : Nat, n = -(k : Int) := ⟨(-n).toNat, by omega⟩
    rw [itoaS_neg k (by omega), ByteArray.size_append]
    have := decS_size k (by omega)
    show 1 + _ ≤ 21
    omega
theorem wordsTo_size (name : ByteArray) (xs : List Int) (hx : ∀ k, k < xs.length → I64 (xs.getD k 0)) : ∀ k, k ≤ xs.length → (wordsTo name xs k).size ≤ name.size + 22 * k
  | 0, _ => by simp [wordsTo]
  | k + 1, hk => by
    have ih := wordsTo_size name xs hx k (by omega)
    have h1 := itoaS_size _ (hx k (by omega))
    simp only [wordsTo, ByteArray.size_append]
    have : blank.size = 1 := rfl
    omega
set_option maxHeartbeats 1000000 in
theorem words_any (name : ByteArray) (xs : List Int) (b off cap : Nat) (w : World) (h : ∀ k, k < xs.length → w.cell? ⟨b, off + k, none⟩ = some (.int .i64 (xs.getD k 0))) (hb : b < w.heap.size) (hx : ∀ k, k < xs.length → I64 (xs.getD k 0)) (hn : name.size ≤ 1000) (hl : xs.length ≤ 100) :
    Calls Tryd.prog 25 #[.string name, .slice (some ⟨b, off, none⟩) xs.length cap] w fun e w' => e = .returned (.string (wordsS name xs)) ∧ Below w.heap.size w w' := by
  have HC := hideC h
  have HX := hideC hx
  have HZ := hideC (wordsTo_size name xs hx)
  have HW : Hid (wordsS name xs = wordsTo name xs xs.length) := rfl
  obtain ⟨R, hR⟩ : ∃ R, R = wordsS name xs := ⟨_, rfl⟩
  rw [← hR] at HW ⊢
  clear h hx hR
  go_enter Tryd.func25, Tryd.ntmps25
  go_wp2
  go_loopw [5, 0] (fun kx sv wr => ∃ k : Nat, kx = .int .i64 k ∧ k ≤ xs.length ∧ sv = .string (wordsTo name xs k) ∧ Below w.heap.size w wr) (fun kx _ _ => xs.length - (intOf kx).toNat)
  case atStart => exact ⟨0, rfl, by omega, rfl, Below.refl _ _⟩
  case round =>
    obtain ⟨k, rfl, hk, rfl, hbr⟩ := hrel
    have HBr := hideC hbr
    have hz := HZ.out k hk
    by_cases hkl : k < xs.length
    · have c0 := (hbr.cell (p := ⟨b, off + k, none⟩) hb).trans (HC.out k hkl)
      have hxk := HX.out k hkl
      have hz1 := HZ.out (k + 1) (by omega)
      have HS : Hid (wordsTo name xs (k + 1) = wordsTo name xs k ++ blank ++ itoaS (xs.getD k 0)) := rfl
      have hsz := itoaS_size _ hxk
      have HD := hideC (digits_any _ hxk.1 hxk.2)
      obtain ⟨x, hxe⟩ : ∃ x, x = xs.getD k 0 := ⟨_, rfl⟩
      rw [← hxe] at c0 HS hsz HD
      clear hxe hxk hbr
      obtain ⟨A, hA⟩ : ∃ A, A = wordsTo name xs k := ⟨_, rfl⟩
      rw [← hA] at hz HS ⊢
      clear hA
      obtain ⟨D, hD⟩ : ∃ D, D = itoaS x := ⟨_, rfl⟩
      rw [← hD] at hsz HS HD
      clear hD
      have hk1 : (k : Int) < (xs.length : Int) := by omega
      go_wp2_with fail
      refine (HD.out _).mono ?_
      rintro e w1 ⟨rfl, hb1⟩
      have HB1 := hideC (add_below HBr.out hb1)
      clear hb1 c0
      go_wp2
      go_roundw
      case rel => exact ⟨k + 1, by go_num, by omega, by rw [HS.out]; rfl, HB1.out⟩
      case measure => simp [intOf]; omega
    · obtain rfl : k = xs.length := by omega
      clear hbr
      go_wp2
      go_ret
      exact ⟨by rw [HW.out]; rfl, HBr.out⟩
end Go.Proofs.YtklobjfhjlkgfaaDoor.TW
/- Plain facts on instructions and processes; no Go in sight. -/
namespace Go.Proofs.YtklobjfhjlkgfaaDoor.PM
open Go.RowKit
set_option linter.unusedVariables false
set_option maxRecDepth 100000

/-- the bytes of a number, as a string -/
def le (k : Nat) (n : Int) : ByteArray := ⟨(Lib.leBytes k (CM.low n)).toArray⟩
theorem le_size (k : Nat) (n : Int) : (le k n).size = k := by
  unfold le
  rw [Lib.size_eq]
  simp [Lib.leBytes_length]

structure Ins where
  op : Int
  a : Int
  b : Int
  c : Int
  m : Int
def Ins.cells (i : Ins) : Array Value := #[.int .i64 i.op, .int .i64 i.a, .int .i64 i.b, .int .i64 i.c, .int .i64 i.m]
def Byt (n : Int) : Prop := 0 ≤ n ∧ n ≤ 255
instance (n : Int) : Decidable (Byt n) := by unfold Byt; infer_instance
/-- F1: what may be encoded -/
def Ins.fits (i : Ins) : Prop := Byt i.op ∧ Byt i.a ∧ Byt i.b ∧ Byt i.c ∧ -2147483648 ≤ i.m ∧ i.m ≤ 2147483647
instance (i : Ins) : Decidable i.fits := by unfold Ins.fits; infer_instance
def Ins.bytes (i : Ins) : ByteArray := (((le 1 i.op ++ le 1 i.a) ++ le 1 i.b) ++ le 1 i.c) ++ le 4 i.m
theorem bytes_size (i : Ins) : i.bytes.size = 8 := by
  unfold Ins.bytes
  simp only [ByteArray.size_append, le_size]

/-- four bytes, with their sign -/
def sign32 (n : Int) : Int := if 2147483648 ≤ n then n - 4294967296 else n
def at_ (s : ByteArray) (k : Nat) : Int := ((s.data.toList.getD k 0).toNat : Int)
/-- F1: the instruction of eight bytes -/
def ins (s : ByteArray) : Ins := ⟨at_ s 0, at_ s 1, at_ s 2, at_ s 3, sign32 (Lib.leNat (s.data.toList.drop 4))⟩
theorem at_byt (s : ByteArray) (k : Nat) : Byt (at_ s k) := by
  unfold Byt at_
  have := (s.data.toList.getD k 0).toNat_lt
  omega
theorem at_wrap (s : ByteArray) (k : Nat) : wrap64 (at_ s k) = at_ s k := by
  have h := at_byt s k
  unfold Byt at h
  unfold wrap64
  omega
theorem sign_hi (n : Int) (h : 2147483648 ≤ n) : sign32 n = n - 4294967296 := if_pos h
theorem sign_lo (n : Int) (h : ¬ 2147483648 ≤ n) : sign32 n = n := if_neg h
theorem get_at (s : ByteArray) (k : Nat) (h : k < s.size) : ((s[k].toNat : Nat) : Int) = at_ s k := by
  unfold at_
  have h' : k < s.data.toList.length := by rw [← Lib.size_eq]; exact h
  rw [List.getD_eq_getElem?_getD, List.getElem?_eq_getElem h']
  rfl
theorem drop_lt (s : ByteArray) (h : s.size = 8) : Lib.leNat (s.data.toList.drop 4) < 4294967296 := by
  have h1 := CM.leNat_lt (s.data.toList.drop 4)
  have h2 : (s.data.toList.drop 4).length = 4 := by rw [List.length_drop, ← Lib.size_eq]; omega
  rw [h2] at h1
  exact h1
theorem sign_range (n : Int) (h0 : 0 ≤ n) (h1 : n < 4294967296) : -2147483648 ≤ sign32 n ∧ sign32 n ≤ 2147483647 := by
  unfold sign32
  split <;> omega
theorem ins_fits (s : ByteArray) (h : s.size = 8) : (ins s).fits := by
  have h4 := drop_lt s h
  have h5 := sign_range (Lib.leNat (s.data.toList.drop 4)) (by omega) (by omega)
  exact ⟨at_byt s 0, at_byt s 1, at_byt s 2, at_byt s 3, h5.1, h5.2⟩
theorem wrap32 (n : Int) (h0 : 0 ≤ n) (h1 : n < 4294967296) : IntKind.i32.wrap n = sign32 n := by
  unfold sign32
  rw [IntKind.wrap_i32]
  split <;> omega
theorem extract_data (s : ByteArray) (h : s.size = 8) : (s.extract 4 8).data.toList = s.data.toList.drop 4 := by
  have e := Lib.extract_data s 4 8
  rw [e]
  exact List.take_of_length_le (by rw [List.length_drop, ← Lib.size_eq]; omega)
end Go.Proofs.YtklobjfhjlkgfaaDoor.PM
