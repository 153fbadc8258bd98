/- Plain: which instructions are bad, what is asked, what comes behind. -/
import Derived.Test.YtamocjifffbhpaaPM
namespace Go.Proofs.Ytamocjifffbhpaa.PM
open Go.RowKit
set_option linter.unusedVariables false
set_option maxRecDepth 100000

def areRegs (l : List Int) : Bool := l.all fun x => decide (0 ≤ x ∧ x < 8)
def isSize (n : Int) : Bool := decide (n = 1 ∨ n = 2 ∨ n = 4 ∨ n = 8)
/-- F2: an instruction whose parts are bytes is bad -/
def Ins.bad (i : Ins) : Bool :=
  if i.op = 12 then false
  else if i.op = 16 then !(decide (1 ≤ i.m ∧ i.m ≤ 6))
  else if i.op = 1 ∨ i.op = 11 ∨ i.op = 15 then decide (8 ≤ i.a)
  else if 2 ≤ i.op ∧ i.op ≤ 7 then decide (8 ≤ i.a ∨ 8 ≤ i.b ∨ 8 ≤ i.c)
  else if i.op = 8 ∨ i.op = 13 ∨ i.op = 14 then decide (8 ≤ i.a ∨ 8 ≤ i.b)
  else if i.op = 9 ∨ i.op = 10 then decide (8 ≤ i.a ∨ 8 ≤ i.b) || !(isSize i.c)
  else true
theorem regs1 (a : Int) (ha : Byt a) : (!areRegs [a]) = decide (8 ≤ a) := by
  unfold Byt at ha
  simp only [areRegs, List.all_cons, List.all_nil, Bool.and_true]
  by_cases h : 8 ≤ a <;> simp [h] <;> omega
theorem regs2 (a b : Int) (ha : Byt a) (hb : Byt b) : (!areRegs [a, b]) = decide (8 ≤ a ∨ 8 ≤ b) := by
  unfold Byt at ha hb
  simp only [areRegs, List.all_cons, List.all_nil, Bool.and_true]
  by_cases h : 8 ≤ a <;> by_cases g : 8 ≤ b <;> simp [h, g] <;> omega
theorem regs3 (a b c : Int) (ha : Byt a) (hb : Byt b) (hc : Byt c) : (!areRegs [a, b, c]) = decide (8 ≤ a ∨ 8 ≤ b ∨ 8 ≤ c) := by
  unfold Byt at ha hb hc
  simp only [areRegs, List.all_cons, List.all_nil, Bool.and_true]
  by_cases h : 8 ≤ a <;> by_cases g : 8 ≤ b <;> by_cases k : 8 ≤ c <;> simp [h, g, k] <;> omega
theorem areRegs_no (l : List Int) (k : Nat) (x : Int) (h : l[k]? = some x) (hx : ¬ (0 ≤ x ∧ x < 8)) : areRegs l = false := by
  unfold areRegs
  rw [List.all_eq_false]
  exact ⟨x, List.mem_of_getElem? h, by simpa using hx⟩
theorem areRegs_yes (l : List Int) (h : ∀ (k : Nat) (x : Int), l[k]? = some x → 0 ≤ x ∧ x < 8) : areRegs l = true := by
  unfold areRegs
  rw [List.all_eq_true]
  intro x hx
  obtain ⟨k, hk⟩ := List.getElem?_of_mem hx
  simpa using h k x hk

structure Pr where
  r : Nat → Int
  pc : Int
  st : Int
  cd : Int
  fk : Int
  fa : Int
def Pr.row (p : Pr) : Array Value := #[.int .i64 (p.r 0), .int .i64 (p.r 1), .int .i64 (p.r 2), .int .i64 (p.r 3), .int .i64 (p.r 4), .int .i64 (p.r 5), .int .i64 (p.r 6), .int .i64 (p.r 7), .int .i64 p.pc, .int .i64 p.st, .int .i64 p.cd, .int .i64 p.fk, .int .i64 p.fa]
def Pr.val (p : Pr) : Value := .agg p.row
def Pr.set (p : Pr) (j : Nat) (v : Int) : Pr := { p with r := fun k => if k = j then v else p.r k }
theorem row_set (p : Pr) (j : Nat) (v : Int) (h : j < 8) : p.row.setIfInBounds j (.int .i64 v) = (p.set j v).row := by
  match j, h with
  | 0, _ => rfl
  | 1, _ => rfl
  | 2, _ => rfl
  | 3, _ => rfl
  | 4, _ => rfl
  | 5, _ => rfl
  | 6, _ => rfl
  | 7, _ => rfl
theorem row_get (p : Pr) (j : Nat) (h : j < 8) : p.row[j]? = some (.int .i64 (p.r j)) := by
  match j, h with
  | 0, _ => rfl
  | 1, _ => rfl
  | 2, _ => rfl
  | 3, _ => rfl
  | 4, _ => rfl
  | 5, _ => rfl
  | 6, _ => rfl
  | 7, _ => rfl
theorem row_pc (p : Pr) (v : Int) : p.row.setIfInBounds 8 (.int .i64 v) = ({ p with pc := v } : Pr).row := rfl
theorem row_st (p : Pr) (v : Int) : p.row.setIfInBounds 9 (.int .i64 v) = ({ p with st := v } : Pr).row := rfl
theorem row_cd (p : Pr) (v : Int) : p.row.setIfInBounds 10 (.int .i64 v) = ({ p with cd := v } : Pr).row := rfl

theorem row_size (p : Pr) : p.row.size = 13 := rfl
theorem u64_and63 (n : Int) : bits .and .u64 (IntKind.u64.wrap n) 63 = n % 64 := by
  have h63 : (BitVec.ofInt 64 63).toNat = 2 ^ 6 - 1 := by decide
  have key : (BitVec.ofInt 64 (IntKind.u64.wrap n) &&& BitVec.ofInt 64 63).toNat = ((IntKind.u64.wrap n) % ((2 ^ 64 : Nat) : Int)).toNat % 2 ^ 6 := by
    rw [BitVec.toNat_and, BitVec.toNat_ofInt, h63, Nat.and_two_pow_sub_one_eq_mod]
  show IntKind.u64.wrap ((BitVec.ofInt 64 (IntKind.u64.wrap n) &&& BitVec.ofInt 64 63).toNat : Nat) = n % 64
  rw [key, IntKind.wrap_u64, IntKind.wrap_u64]
  omega
theorem i64_and63 (n : Int) : bits .and .i64 n 63 = n % 64 := by
  have h63 : (BitVec.ofInt 64 63).toNat = 2 ^ 6 - 1 := by decide
  have key : (BitVec.ofInt 64 n &&& BitVec.ofInt 64 63).toNat = (n % ((2 ^ 64 : Nat) : Int)).toNat % 2 ^ 6 := by
    rw [BitVec.toNat_and, BitVec.toNat_ofInt, h63, Nat.and_two_pow_sub_one_eq_mod]
  show IntKind.i64.wrap ((BitVec.ofInt 64 n &&& BitVec.ofInt 64 63).toNat : Nat) = n % 64
  rw [key, IntKind.wrap_i64]
  omega
/-- F2: of two registers -/
def rk (op b c : Int) : Int :=
  if op = 2 then wrap64 (b + c) else if op = 3 then wrap64 (b - c) else if op = 4 then wrap64 (b * c) else if op = 5 then bits .and .i64 b c else if op = 6 then bits .xor .i64 b c
  else wrap64 (IntKind.u64.wrap b / 2 ^ min (c % 64).toNat 64)
/-- F2, F3: the process behind an instruction that is not bad -/
def doneN (p : Pr) (i : Ins) (v : Int) : Pr :=
  let nx : Pr := { p with pc := wrap64 (p.pc + 8) }
  let to : Int := wrap64 (p.pc + i.m)
  if i.op = 1 then nx.set i.a.toNat i.m
  else if 2 ≤ i.op ∧ i.op ≤ 7 then nx.set i.a.toNat (rk i.op (p.r i.b.toNat) (p.r i.c.toNat))
  else if i.op = 8 then nx.set i.a.toNat (wrap64 (p.r i.b.toNat + i.m))
  else if i.op = 9 then nx.set i.a.toNat v
  else if i.op = 10 then nx
  else if i.op = 11 then nx.set i.a.toNat to
  else if i.op = 12 then { p with pc := to }
  else if i.op = 13 then (if p.r i.a.toNat = p.r i.b.toNat then { p with pc := to } else nx)
  else if i.op = 14 then (if p.r i.a.toNat < p.r i.b.toNat then { p with pc := to } else nx)
  else if i.op = 15 then { p with pc := p.r i.a.toNat }
  else if i.m = 6 then { nx with st := 2, cd := p.r 0 }
  else if i.m = 1 then nx
  else nx.set 0 v
/-- F3: what is asked for -/
def askN (p : Pr) (i : Ins) : Array Value :=
  if i.bad then #[.int .i64 4, .int .i64 0, .int .i64 0, .int .i64 0, .int .i64 0]
  else if i.op = 9 then #[.int .i64 1, .int .i64 (wrap64 (p.r i.b.toNat + i.m)), .int .i64 i.c, .int .i64 0, .int .i64 0]
  else if i.op = 10 then #[.int .i64 2, .int .i64 (wrap64 (p.r i.b.toNat + i.m)), .int .i64 i.c, .int .i64 (p.r i.a.toNat), .int .i64 0]
  else if i.op = 16 then #[.int .i64 3, .int .i64 0, .int .i64 0, .int .i64 0, .int .i64 i.m]
  else #[.int .i64 0, .int .i64 0, .int .i64 0, .int .i64 0, .int .i64 0]
end Go.Proofs.Ytamocjifffbhpaa.PM
