import Derived.Shelf.Strings.Repeat
import Derived.Test.YtlgoihmkgaaemaaGreatProg
set_option maxHeartbeats 20000000
set_option linter.unusedVariables false
set_option maxRecDepth 100000
set_option linter.unusedSimpArgs false
namespace Go.Proofs
open Go.Shelf Tryz
def lays105_ren : Go.Shelf.Ren := ⟨fun | 105 => 170 | 212 => 204 | 99 => 205 | 165 => 206 | 166 => 207 | 170 => 208 | 169 => 209 | 263 => 223 | 264 => 224 | 206 => 225 | 240 => 226 | 241 => 227 | 276 => 234 | 277 => 235 | n => n, fun | 9 => 9 | 3 => 3 | 4 => 4 | 20 => 20 | 0 => 0 | 46 => 200 | 109 => 320 | 5 => 5 | 72 => 325 | 76 => 328 | 51 => 347 | 146 => 348 | 53 => 271 | 148 => 350 | 70 => 323 | 37 => 203 | 75 => 327 | 127 => 336 | 164 => 354 | 80 => 330 | n => n, fun | n => n⟩
theorem lays105 : Go.Proofs.Lays.n105 prog lays105_ren := {
  mixed := by kernel_rfl
  f99 := func205.trans (congrArg some (by kernel_rfl))
  f105 := func170.trans (congrArg some (by kernel_rfl))
  f165 := func206.trans (congrArg some (by kernel_rfl))
  f166 := func207.trans (congrArg some (by kernel_rfl))
  f169 := func209.trans (congrArg some (by kernel_rfl))
  f170 := func208.trans (congrArg some (by kernel_rfl))
  f206 := func225.trans (congrArg some (by kernel_rfl))
  f212 := func204.trans (congrArg some (by kernel_rfl))
  f240 := func226.trans (congrArg some (by kernel_rfl))
  f241 := func227.trans (congrArg some (by kernel_rfl))
  f263 := func223.trans (congrArg some (by kernel_rfl))
  f264 := func224.trans (congrArg some (by kernel_rfl))
  f276 := func234.trans (congrArg some (by kernel_rfl))
  f277 := func235.trans (congrArg some (by kernel_rfl))
  t0 := underlying0
  a0 := isAgg0
  z0 := sizeOf0
  v0 := zeroValue0
  t3 := underlying3
  a3 := isAgg3
  z3 := sizeOf3
  v3 := zeroValue3
  t4 := underlying4
  a4 := isAgg4
  z4 := sizeOf4
  v4 := zeroValue4
  t5 := underlying5
  a5 := isAgg5
  z5 := sizeOf5
  v5 := zeroValue5
  t9 := underlying9
  a9 := isAgg9
  z9 := sizeOf9
  v9 := zeroValue9
  t20 := underlying20
  a20 := isAgg20
  z20 := sizeOf20
  v20 := zeroValue20
  t37 := underlying203
  a37 := isAgg203
  z37 := sizeOf203
  v37 := zeroValue203
  t46 := underlying200
  a46 := isAgg200
  z46 := sizeOf200
  v46 := zeroValue200
  t51 := underlying347
  a51 := isAgg347
  z51 := sizeOf347
  v51 := zeroValue347
  t53 := underlying271
  a53 := isAgg271
  z53 := sizeOf271
  v53 := zeroValue271
  t70 := underlying323
  a70 := isAgg323
  z70 := sizeOf323
  v70 := zeroValue323
  t72 := underlying325
  a72 := isAgg325
  z72 := sizeOf325
  v72 := zeroValue325
  t75 := underlying327
  a75 := isAgg327
  z75 := sizeOf327
  v75 := zeroValue327
  t76 := underlying328
  a76 := isAgg328
  z76 := sizeOf328
  v76 := zeroValue328
  t109 := underlying320
  a109 := isAgg320
  z109 := sizeOf320
  v109 := zeroValue320
  t127 := underlying336
  a127 := isAgg336
  z127 := sizeOf336
  v127 := zeroValue336
  t146 := underlying348
  a146 := isAgg348
  z146 := sizeOf348
  v146 := zeroValue348
  t148 := underlying350
  a148 := isAgg350
  z148 := sizeOf350
  v148 := zeroValue350
  t164 := underlying354
  a164 := isAgg354
  z164 := sizeOf354
  v164 := zeroValue354 }
theorem Builder_Extra_105 : Builder.Extra prog lays105_ren := {
  sizeBuilder := by kernel_rfl
  liesBuilder := by kernel_rfl
  t5 := underlying5
  a5 := isAgg5
  z5 := sizeOf5
  v5 := zeroValue5
  infoByte := by kernel_rfl
  cellsByte := by kernel_rfl
  sizeByte := by kernel_rfl
  neB5 := by decide }
open Go.RowKit Go.Lib in
/-- THE MAIN CASE: at least two copies of a string that is not empty. (LAID: no walk: one application.) -/
theorem strings_Repeat_main (s : ByteArray) (c : Nat) (w : World) (hc2 : 2 ≤ c) (hc : c ≤ 9223372036854775807) (hlen : s.size * c ≤ 140737488355328) (h0 : 0 < s.size) :
    Calls prog 170 #[.string s, .int .i64 c] w fun e w' => e = .returned (.string ⟨(Lib.repeatL s.data.toList c).toArray⟩) ∧ Below w.heap.size w w' := Any.strings_Repeat_main lays105 Builder_Extra_105 s c w hc2 hc hlen h0
end Go.Proofs
