import Derived.Test.YtklobjfhjlkgfaaDoorGA01
import Derived.Test.YtklobjfhjlkgfaaDoorGA03
import Derived.Maps.OwnSet
import Derived.StringKeys
/- The reference's InstrText: the line of an instruction. -/
namespace Go.Proofs.YtklobjfhjlkgfaaDoor.TW
open Go.RowKit
set_option linter.unusedVariables false
set_option maxRecDepth 100000
set_option linter.unusedSimpArgs false

instance : DecidableEq PM.Ins := fun p q =>
  if h : p.op = q.op ∧ p.a = q.a ∧ p.b = q.b ∧ p.c = q.c ∧ p.m = q.m then
    isTrue (by
      obtain ⟨a1, a2, a3, a4, a5⟩ := p
      obtain ⟨b1, b2, b3, b4, b5⟩ := q
      simp only at h
      obtain ⟨h1, h2, h3, h4, h5⟩ := h
      subst h1; subst h2; subst h3; subst h4; subst h5
      rfl)
  else isFalse (fun e => h (by rw [e]; exact ⟨rfl, rfl, rfl, rfl, rfl⟩))
def rawS : ByteArray := str [114, 97, 119]
/-- the numbers that are shown behind a name -/
def partsN (i : PM.Ins) : List Int :=
  if i.op = 1 ∨ i.op = 11 then [i.a, i.m]
  else if i.op = 8 ∨ i.op = 13 ∨ i.op = 14 then [i.a, i.b, i.m]
  else if i.op = 9 ∨ i.op = 10 then [i.a, i.b, i.m, i.c]
  else if i.op = 12 then [i.m]
  else if i.op = 15 then [i.a]
  else [i.a, i.b, i.c]
def isRaw (i : PM.Ins) : Bool := i.bad || decide (plainN i ≠ i)
/-- what InstrText answers -/
def textN (i : PM.Ins) : ByteArray :=
  if isRaw i then wordsS rawS [i.op, i.a, i.b, i.c, i.m]
  else if i.op = 16 then callL.getD i.m.toNat (str [])
  else wordsS (opL.getD i.op.toNat (str [])) (partsN i)
theorem calls_belowT {P : Program} {f : FuncId} {args : Array Value} {v : Value} {w : World} (h : ∀ W, Below w.heap.size w W → Calls P f args W fun e w' => e = .returned v ∧ Below W.heap.size W w') (x : Q.Kin w.heap.size w) :
    Calls P f args x.world fun e w'' => e = .returned v ∧ ∃ y : Q.Kin w.heap.size w, w'' = y.world :=
  (h x.world x.keeps).mono fun e w'' ⟨he, hb⟩ => ⟨he, ⟨w'', x.keeps.trans (hb.mono x.keeps.size)⟩, rfl⟩
set_option maxHeartbeats 4000000 in
theorem text_bad (i : PM.Ins) (w : World) (h : i.bad = true) (hf : i.fits) : Calls Tryd.prog 8 #[.agg i.cells] w fun e w' => e = .returned (.string (textN i)) ∧ Below w.heap.size w w' := by
  have HT : Hid (textN i = wordsS rawS [i.op, i.a, i.b, i.c, i.m]) := by
    show _ = _
    unfold textN isRaw
    rw [h]
    rfl
  have HBD : Hid (∀ V, Calls Tryd.prog 23 #[.agg i.cells] V fun e w' => e = .returned (.bool true) ∧ Below V.heap.size V w') := fun V => by
    have hh := PW.isBadR_any i V
    rw [h] at hh
    exact hh
  obtain ⟨R, hR⟩ : ∃ R, R = textN i := ⟨_, rfl⟩
  rw [← hR] at HT ⊢
  obtain ⟨op, a, b, c, m⟩ := i
  unfold PM.Ins.fits PM.Byt at hf
  simp only at hf HT
  simp only [PM.Ins.cells] at HBD ⊢
  clear h hR
  have HB0 := hideC ((Below.refl w.heap.size w).alloc (Nat.le_refl _) (.cells #[.int .i64 op, .int .i64 a, .int .i64 b, .int .i64 c, .int .i64 m] 23))
  have BX := hideC (B.new w #[.int .i64 op, .int .i64 a, .int .i64 b, .int .i64 c, .int .i64 m] 23)
  obtain ⟨V0, hV0⟩ : ∃ V0, V0 = w.alloc (.cells #[.int .i64 op, .int .i64 a, .int .i64 b, .int .i64 c, .int .i64 m] 23) := ⟨_, rfl⟩
  have HV0 := hideC hV0
  rw [← hV0] at HB0 BX
  clear hV0
  go_enter Tryd.func8, Tryd.ntmps8
  go_wp2_with fail
  rw [← HV0.out]
  have hkin := Q.kin_some V0
  have HU : Hid (∀ x : Q.Kin V0.heap.size V0, x.world.heap[w.heap.size]? = some (.cells #[.int .i64 op, .int .i64 a, .int .i64 b, .int .i64 c, .int .i64 m] 23 (0, 0))) := fun x => B.below BX.out x.keeps (B.isLt BX.out)
  have a0 : ∀ x : Q.Kin V0.heap.size V0, x.world.cell? ⟨w.heap.size, 0, none⟩ = some (.int .i64 op) := fun x => B.cell (HU.out x) 0 rfl
  have a1 : ∀ x : Q.Kin V0.heap.size V0, x.world.cell? ⟨w.heap.size, 1, none⟩ = some (.int .i64 a) := fun x => B.cell (HU.out x) 1 rfl
  have a2 : ∀ x : Q.Kin V0.heap.size V0, x.world.cell? ⟨w.heap.size, 2, none⟩ = some (.int .i64 b) := fun x => B.cell (HU.out x) 2 rfl
  have a3 : ∀ x : Q.Kin V0.heap.size V0, x.world.cell? ⟨w.heap.size, 3, none⟩ = some (.int .i64 c) := fun x => B.cell (HU.out x) 3 rfl
  have a4 : ∀ x : Q.Kin V0.heap.size V0, x.world.cell? ⟨w.heap.size, 4, none⟩ = some (.int .i64 m) := fun x => B.cell (HU.out x) 4 rfl
  have HBD2 : Hid (∀ V, Below V0.heap.size V0 V → Calls Tryd.prog 23 #[.agg #[.int .i64 op, .int .i64 a, .int .i64 b, .int .i64 c, .int .i64 m]] V fun e w' => e = .returned (.bool true) ∧ Below V.heap.size V w') := fun V _ => HBD.out V
  refine Q.region_kin (by kernel_rfl) (by kernel_rfl) ?_
  repeat (first | go_big_quiet_step ((go_at_call 23; with_reducible exact calls_belowT HBD2.out _)) | quiet_step ((go_at_call 23; with_reducible exact calls_belowT HBD2.out _)))
  refine wpQuiet_nil ?_
  intro _ hw'
  obtain ⟨x, hw''⟩ := hw'
  subst hw''
  have HKX := hideC (add_below HB0.out x.keeps)
  have HB5 := hideC (HU.out x)
  clear a0 a1 a2 a3 a4 hkin HBD2 HU BX
  obtain ⟨w1, hw1⟩ : ∃ w1, w1 = x.world := ⟨_, rfl⟩
  rw [← hw1] at HKX HB5 ⊢
  clear hw1 x
  have c0 := B.cell HB5.out 0 rfl
  have c1 := B.cell HB5.out 1 rfl
  have c2 := B.cell HB5.out 2 rfl
  have c3 := B.cell HB5.out 3 rfl
  have c4 := B.cell HB5.out 4 rfl
  have HWD : Hid (Calls Tryd.prog 25 #[.string rawS, .slice (some ⟨w1.heap.size, 0, none⟩) 5 5] (w1.alloc (.cells #[.int .i64 op, .int .i64 a, .int .i64 b, .int .i64 c, .int .i64 m] 3)) fun e w' => e = .returned (.string R) ∧ Below (w1.alloc (.cells #[.int .i64 op, .int .i64 a, .int .i64 b, .int .i64 c, .int .i64 m] 3)).heap.size (w1.alloc (.cells #[.int .i64 op, .int .i64 a, .int .i64 b, .int .i64 c, .int .i64 m] 3)) w') := by
    rw [HT.out]
    have HN := B.new w1 #[.int .i64 op, .int .i64 a, .int .i64 b, .int .i64 c, .int .i64 m] 3
    refine words_any rawS [op, a, b, c, m] w1.heap.size 0 5 _ (fun k hk => ?_) (by simp) (fun k hk => ?_) (by decide) (by simp)
    · rw [Nat.zero_add]
      match k, hk with
      | 0, _ => exact B.cell HN 0 rfl
      | 1, _ => exact B.cell HN 1 rfl
      | 2, _ => exact B.cell HN 2 rfl
      | 3, _ => exact B.cell HN 3 rfl
      | 4, _ => exact B.cell HN 4 rfl
    · unfold I64
      match k, hk with
      | 0, _ => simp; omega
      | 1, _ => simp; omega
      | 2, _ => simp; omega
      | 3, _ => simp; omega
      | 4, _ => simp; omega
  have HBA := hideC (HKX.out.alloc HKX.out.size (.cells #[.int .i64 op, .int .i64 a, .int .i64 b, .int .i64 c, .int .i64 m] 3))
  go_wp2_with (go_at_call 25; refine HWD.out.mono ?_; rintro e w2 ⟨rfl, hb2⟩; have HB2 := hideC (add_below HBA.out hb2); clear hb2)
  go_ret
  exact ⟨rfl, HB2.out⟩
end Go.Proofs.YtklobjfhjlkgfaaDoor.TW
/- The program's table, as it is laid; rowOf. -/
namespace Go.Proofs.YtklobjfhjlkgfaaDoor.TW
open Go.RowKit
set_option linter.unusedVariables false
set_option maxRecDepth 100000
set_option linter.unusedSimpArgs false

def tableL : List Row := [⟨str [115, 101, 116], 1, 0, str [97, 105]⟩, ⟨str [104, 101, 114, 101], 11, 0, str [97, 105]⟩, ⟨str [97, 100, 100], 2, 0, str [97, 98, 99]⟩, ⟨str [115, 117, 98], 3, 0, str [97, 98, 99]⟩, ⟨str [109, 117, 108], 4, 0, str [97, 98, 99]⟩, ⟨str [97, 110, 100], 5, 0, str [97, 98, 99]⟩, ⟨str [120, 111, 114], 6, 0, str [97, 98, 99]⟩, ⟨str [115, 104, 114], 7, 0, str [97, 98, 99]⟩, ⟨str [97, 100, 100, 105], 8, 0, str [97, 98, 105]⟩, ⟨str [101, 113, 117, 97, 108], 13, 0, str [97, 98, 105]⟩, ⟨str [108, 101, 115, 115], 14, 0, str [97, 98, 105]⟩, ⟨str [108, 111, 97, 100], 9, 0, str [97, 98, 105, 99]⟩, ⟨str [115, 116, 111, 114, 101], 10, 0, str [97, 98, 105, 99]⟩, ⟨str [106, 117, 109, 112], 12, 0, str [105]⟩, ⟨str [103, 111], 15, 0, str [97]⟩, ⟨str [111, 117, 116], 16, 1, str []⟩, ⟨str [109, 97, 112], 16, 2, str []⟩, ⟨str [117, 110, 109, 97, 112], 16, 3, str []⟩, ⟨str [112, 114, 111, 116, 101, 99, 116], 16, 4, str []⟩, ⟨str [102, 111, 114, 107], 16, 5, str []⟩, ⟨str [101, 120, 105, 116], 16, 6, str []⟩, ⟨str [114, 97, 119], 0, 0, str [111, 97, 98, 99, 105]⟩]
def noRow : Row := ⟨str [], 0, 0, str []⟩
def rowAt (k : Nat) : Row := tableL.getD k noRow
def asciiB (l : List UInt8) : Bool := l.all fun c => decide (c.toNat < 128)
theorem ascii_of (s : ByteArray) (h : asciiB s.data.toList = true) : Ascii s := by
  intro k hk
  unfold asciiB at h
  have h2 := List.all_eq_true.1 h
  have hk2 : k < s.data.toList.length := by rw [← Lib.size_eq]; exact hk
  have := h2 (s.data.toList[k]) (List.getElem_mem hk2)
  have e : s[k]'hk = s.data.toList[k] := rfl
  rw [e]
  simpa using this
theorem row_mem (k : Nat) : rowAt k ∈ noRow :: tableL := by
  unfold rowAt
  rw [List.getD_eq_getElem?_getD]
  cases e : tableL[k]? with
  | none => exact List.mem_cons_self
  | some r => exact List.mem_cons_of_mem _ (List.mem_of_getElem? e)
theorem rows_fine : (noRow :: tableL).all (fun r => asciiB r.parts.data.toList && decide (r.parts.size ≤ 5) && decide (r.name.size ≤ 7) && decide (0 ≤ r.op ∧ r.op ≤ 16 ∧ 0 ≤ r.call ∧ r.call ≤ 6)) = true := by decide
theorem row_fine (k : Nat) : asciiB (rowAt k).parts.data.toList = true ∧ (rowAt k).parts.size ≤ 5 ∧ (rowAt k).name.size ≤ 7 ∧ (0 ≤ (rowAt k).op ∧ (rowAt k).op ≤ 16 ∧ 0 ≤ (rowAt k).call ∧ (rowAt k).call ≤ 6) := by
  have h := List.all_eq_true.1 rows_fine _ (row_mem k)
  simp only [Bool.and_eq_true, decide_eq_true_eq] at h
  exact ⟨h.1.1.1, h.1.1.2, h.1.2, h.2⟩
theorem row_ascii (k : Nat) : Ascii (rowAt k).parts := ascii_of _ (row_fine k).1
theorem row_size (k : Nat) : (rowAt k).parts.size ≤ 5 := (row_fine k).2.1
/-- the table lies as its initialiser lays it -/
structure Tab (tb o cap : Nat) (w : World) : Prop where
  glob : w.cell? ⟨0, 0, none⟩ = some (.slice (some ⟨tb, o, none⟩) 22 cap)
  row : ∀ k, k < 22 → ∀ j v, (rowAt k).cells[j]? = some v → w.cell? ⟨tb, o + k * 4 + j, none⟩ = some v
  lt : tb < w.heap.size
theorem Tab.below {tb o cap : Nat} {w w' : World} (h : Tab tb o cap w) (hb : Below w.heap.size w w') : Tab tb o cap w' :=
  ⟨(hb.cell (p := ⟨0, 0, none⟩) (by have := h.lt; show 0 < _; omega)).trans h.glob, fun k hk j v hv => (hb.cell (p := ⟨tb, _, none⟩) h.lt).trans (h.row k hk j v hv), Nat.lt_of_lt_of_le h.lt hb.size⟩

/-- the first row from k on that tells all of it; fuel n -/
def rowFrom (i : PM.Ins) : Nat → Nat → Row
  | 0, _ => rowAt 21
  | n + 1, k => if toldN (rowAt k) i = i then rowAt k else rowFrom i n (k + 1)
def rowOfN (i : PM.Ins) (bad : Bool) : Row := if bad then rowAt 21 else rowFrom i 22 0
theorem eqIns (t i : PM.Ins) (V : World) : (Op.equalIn 10000 23 (.agg #[.int .i64 t.op, .int .i64 t.a, .int .i64 t.b, .int .i64 t.c, .int .i64 t.m]) (.agg #[.int .i64 i.op, .int .i64 i.a, .int .i64 i.b, .int .i64 i.c, .int .i64 i.m])).run Tryd.prog V = .ok (decide (t = i)) V := by
  obtain ⟨a1, a2, a3, a4, a5⟩ := t
  obtain ⟨b1, b2, b3, b4, b5⟩ := i
  simp only
  by_cases h1 : a1 = b1
  · by_cases h2 : a2 = b2
    · by_cases h3 : a3 = b3
      · by_cases h4 : a4 = b4
        · by_cases h5 : a5 = b5
          · subst h1; subst h2; subst h3; subst h4; subst h5
            simp [go_sem]
          · have hq := beq_eq_false_iff_ne.2 h5
            have hd : decide ((⟨a1, a2, a3, a4, a5⟩ : PM.Ins) = ⟨b1, b2, b3, b4, b5⟩) = false := decide_eq_false (by intro e; injection e; contradiction)
            rw [hd]
            subst h1; subst h2; subst h3; subst h4
            simp [go_sem, hq]
        · have hq := beq_eq_false_iff_ne.2 h4
          have hd : decide ((⟨a1, a2, a3, a4, a5⟩ : PM.Ins) = ⟨b1, b2, b3, b4, b5⟩) = false := decide_eq_false (by intro e; injection e; contradiction)
          rw [hd]
          subst h1; subst h2; subst h3
          simp [go_sem, hq]
      · have hq := beq_eq_false_iff_ne.2 h3
        have hd : decide ((⟨a1, a2, a3, a4, a5⟩ : PM.Ins) = ⟨b1, b2, b3, b4, b5⟩) = false := decide_eq_false (by intro e; injection e; contradiction)
        rw [hd]
        subst h1; subst h2
        simp [go_sem, hq]
    · have hq := beq_eq_false_iff_ne.2 h2
      have hd : decide ((⟨a1, a2, a3, a4, a5⟩ : PM.Ins) = ⟨b1, b2, b3, b4, b5⟩) = false := decide_eq_false (by intro e; injection e; contradiction)
      rw [hd]
      subst h1
      simp [go_sem, hq]
  · have hq := beq_eq_false_iff_ne.2 h1
    have hd : decide ((⟨a1, a2, a3, a4, a5⟩ : PM.Ins) = ⟨b1, b2, b3, b4, b5⟩) = false := decide_eq_false (by intro e; injection e; contradiction)
    rw [hd]
    simp [go_sem, hq]
end Go.Proofs.YtklobjfhjlkgfaaDoor.TW
/- The program's rows: the table by its names, in a map. -/
namespace Go.Proofs.YtklobjfhjlkgfaaDoor.TW
open Go.RowKit
set_option linter.unusedVariables false
set_option maxRecDepth 100000
set_option linter.unusedSimpArgs false

/-- how a row in a map reads -/
def rowD (r : Row) : DataW Unit := .agg [.lit (.string r.name.data.toList), .lit (.int .i64 r.op), .lit (.int .i64 r.call), .lit (.string r.parts.data.toList)]
def rowRdL : List Value → Option (DataW Unit × List MemPlace)
  | [.string n, .int .i64 o, .int .i64 c, .string p] => some (rowD ⟨n, o, c, p⟩, [])
  | _ => none
def rowRd : Value → Option (DataW Unit × List MemPlace)
  | .agg cs => rowRdL cs.toList
  | _ => none
theorem rowRd_mk (r : Row) : rowRd (.agg r.cells) = some (rowD r, []) := rfl
theorem rowRd_inv {v : Value} {d : DataW Unit} {ps : List MemPlace} (h : rowRd v = some (d, ps)) : ∃ r : Row, v = .agg r.cells ∧ d = rowD r := by
  unfold rowRd at h
  split at h
  · rename_i cs
    unfold rowRdL at h
    split at h
    · rename_i n o c p hcs
      injection h with h
      injection h with h1 h2
      refine ⟨⟨n, o, c, p⟩, ?_, h1.symm⟩
      congr 1
      apply Array.ext'
      rw [hcs]
      rfl
    · cases h
  · cases h
theorem str_data {a b : ByteArray} (h : a.data.toList = b.data.toList) : a = b := by
  apply ByteArray.ext
  exact Array.toList_inj.1 h
theorem rowD_inj {r q : Row} (h : rowD r = rowD q) : r = q := by
  obtain ⟨a, b, c, d⟩ := r
  obtain ⟨a2, b2, c2, d2⟩ := q
  unfold rowD at h
  simp only [DataW.agg.injEq, List.cons.injEq, DataW.lit.injEq, Lit.string.injEq, Lit.int.injEq, true_and, and_true] at h
  obtain ⟨h1, h2, h3, h4⟩ := h
  rw [str_data h1, h2, h3, str_data h4]
def keyS (s : ByteArray) : Lit := .string s.data.toList
/-- the map behind the first k rows -/
def mapTo : Nat → DataW Unit
  | 0 => .map []
  | k + 1 => (mapTo k).put (keyS (rowAt k).name) (rowD (rowAt k))
theorem mapTo_is : ∀ k, Maps.IsMap (mapTo k)
  | 0 => Maps.isMap_empty
  | k + 1 => (mapTo_is k).put _ _
/-- which row has the name, among the first k, the last of them; fuel k -/
def lookTo (s : ByteArray) : Nat → Option Row
  | 0 => none
  | k + 1 => if s = (rowAt k).name then some (rowAt k) else lookTo s k
theorem keyS_ne {a b : ByteArray} (h : a ≠ b) : keyS a ≠ keyS b := fun e => h (str_data (Lit.string.inj e))
theorem look_at (s : ByteArray) (z : DataW Unit) : ∀ k, (mapTo k).atKey (keyS s) z = ((lookTo s k).map rowD).getD z ∧ Maps.has (mapTo k) (keyS s) = (lookTo s k).isSome
  | 0 => ⟨rfl, rfl⟩
  | k + 1 => by
    have ih := look_at s z k
    by_cases h : s = (rowAt k).name
    · have e : lookTo s (k + 1) = some (rowAt k) := by unfold lookTo; rw [if_pos h]
      rw [e]
      constructor
      · show ((mapTo k).put (keyS (rowAt k).name) (rowD (rowAt k))).atKey (keyS s) z = _
        rw [← h, Maps.atKey_put_same (mapTo_is k) (by trivial)]
        rfl
      · show Maps.has ((mapTo k).put (keyS (rowAt k).name) (rowD (rowAt k))) (keyS s) = _
        rw [← h, Maps.has_put_same (mapTo_is k) (by trivial)]
        rfl
    · have e : lookTo s (k + 1) = lookTo s k := by rw [lookTo, if_neg h]
      rw [e]
      constructor
      · show ((mapTo k).put (keyS (rowAt k).name) (rowD (rowAt k))).atKey (keyS s) z = _
        rw [Maps.atKey_put_other (keyS_ne h)]
        exact ih.1
      · show Maps.has ((mapTo k).put (keyS (rowAt k).name) (rowD (rowAt k))) (keyS s) = _
        rw [Maps.has_put_other (keyS_ne h)]
        exact ih.2
def lookR (s : ByteArray) : Row := (lookTo s 22).getD noRow
def lookB (s : ByteArray) : Bool := (lookTo s 22).isSome
theorem lawS : Maps.Keyed Tryd.prog 9 := Maps.string_keyed Tryd.underlying9
theorem zeroR (w : World) : (zeroValue 48).run Tryd.prog w = .ok (.agg noRow.cells) w := by kernel_rfl
theorem look_any {w : World} {b n : Nat} (h : w.ownsMap Tryd.prog 9 rowRd b n (mapTo 22)) (s : ByteArray) (hs : s.size ≤ maxLen) : (Instr.lookup 85 (.map (some b)) (.string s) true).run Tryd.prog w = .ok (.tuple #[.agg (lookR s).cells, .bool (lookB s)]) w := by
  obtain ⟨v, ps, hrun, hv⟩ := h.look_ok lawS Tryd.underlying85 (zeroR w) (rowRd_mk noRow) (WideMaps.keyOf_string_mk Tryd.underlying9 hs)
  obtain ⟨h1, h2⟩ := look_at s (rowD noRow) 22
  obtain ⟨r, rfl, hr⟩ := rowRd_inv hv
  have e : rowD r = rowD (lookR s) := by
    rw [← hr]
    show (mapTo 22).atKey (keyS s) (rowD noRow) = _
    rw [h1]
    unfold lookR
    cases lookTo s 22 <;> rfl
  rw [hrun, rowD_inj e]
  have h3 : Maps.has (mapTo 22) (keyS s) = lookB s := h2
  show _ = Result.ok (Value.tuple #[.agg (lookR s).cells, .bool (lookB s)]) w
  rw [← h3]
  rfl
set_option maxHeartbeats 2000000 in
theorem rows_any (w : World) (tb o cap : Nat) (ht : Tab tb o cap w) : Calls Tryd.prog 46 #[] w fun e w' => ∃ b, e = .returned (.map (some b)) ∧ w'.ownsMap Tryd.prog 9 rowRd b 22 (mapTo 22) ∧ Below w.heap.size w w' := by
  have HT := hideC ht
  have g0 := ht.glob
  have hw0 : 0 < w.heap.size := by have := ht.lt; omega
  have htb := ht.lt
  have HM : Hid (∀ k, mapTo (k + 1) = (mapTo k).put (keyS (rowAt k).name) (rowD (rowAt k))) := fun k => rfl
  have L0 := hideC (World.ownsMap_made w Tryd.prog 9 rowRd)
  have LB := hideC ((Below.refl w.heap.size w).alloc (Nat.le_refl _) (.map #[] 0))
  clear ht
  have hmm := @run_makeMap Tryd.prog
  go_enter Tryd.func46, Tryd.ntmps46
  go_wp2
  go_loopw [7] (fun kx wr => ∃ k : Nat, kx = .int .i64 k ∧ k ≤ 22 ∧ wr.ownsMap Tryd.prog 9 rowRd w.heap.size k (mapTo k) ∧ Below w.heap.size w wr) (fun kx _ => 22 - (intOf kx).toNat)
  case atStart => exact ⟨0, rfl, by omega, L0.out, LB.out⟩
  case round =>
    obtain ⟨k, rfl, hk, hown, hb⟩ := hrel
    have HO := hideC hown
    have HB := hideC hb
    have HTr := hideC (HT.out.below hb)
    have hsz := hb.size
    clear hown hb L0 LB hmm
    by_cases hk2 : k < 22
    · have hki : (k : Int) < 22 := by omega
      have e0 : wr.cell? ⟨tb, o + k * 4, none⟩ = some (.string (rowAt k).name) := HTr.out.row k hk2 0 _ rfl
      have e1 : wr.cell? ⟨tb, o + k * 4 + 1, none⟩ = some (.int .i64 (rowAt k).op) := HTr.out.row k hk2 1 _ rfl
      have e2 : wr.cell? ⟨tb, o + k * 4 + 2, none⟩ = some (.int .i64 (rowAt k).call) := HTr.out.row k hk2 2 _ rfl
      have e3 : wr.cell? ⟨tb, o + k * 4 + 3, none⟩ = some (.string (rowAt k).parts) := HTr.out.row k hk2 3 _ rfl
      have hrn := (row_fine k).2.2.1
      have HM1 := hideC (HM.out k)
      obtain ⟨r, hr⟩ : ∃ r, r = rowAt k := ⟨_, rfl⟩
      rw [← hr] at e0 e1 e2 e3 HM1 hrn
      clear hr
      have HK : Hid (keyOf Tryd.prog 9 (.string r.name) = some (keyS r.name)) := WideMaps.keyOf_string_mk Tryd.underlying9 (by unfold maxLen; omega)
      have HV : Hid (rowRd (.agg #[.string r.name, .int .i64 r.op, .int .i64 r.call, .string r.parts]) = some (rowD r, [])) := rfl
      go_wp2_with (at_mapUpdate; refine wpList_mapUpdate_own _ rfl _ _ _ 85 rfl 9 48 lawS Tryd.underlying85 _ w.heap.size k _ rfl (HO.out.alloc _) (by unfold maxLen; omega) _ _ _ rfl rfl HK.out _ [] HV.out ?_; intro w1 hown1 hgrow1; have HO1 := hideC hown1; have HG1 := hideC hgrow1; clear hown1 hgrow1)
      go_roundw
      case rel => exact ⟨k + 1, by go_num, by omega, by rw [HM1.out]; exact HO1.out, (HB.out.alloc HB.out.size _).grown HG1.out (by simp; omega) (fun j hj => by injection hj with hj; omega)⟩
      case measure => simp [intOf]; omega
    · obtain rfl : k = 22 := by omega
      have hk3 : ¬ ((22 : Int) < 22) := by omega
      go_wp2
      go_ret
      exact ⟨_, rfl, HO.out, HB.out⟩
end Go.Proofs.YtklobjfhjlkgfaaDoor.TW
/- The program's rowOf: the row that an instruction is shown by. -/
namespace Go.Proofs.YtklobjfhjlkgfaaDoor.TW
open Go.RowKit
set_option linter.unusedVariables false
set_option maxRecDepth 100000
set_option linter.unusedSimpArgs false

set_option maxHeartbeats 4000000 in
theorem rowOf_good (i : PM.Ins) (w : World) (tb o cap : Nat) (ht : Tab tb o cap w) : Calls Tryd.prog 18 #[.agg i.cells, .bool false] w fun e w' => e = .returned (.agg (rowOfN i false).cells) ∧ Below w.heap.size w w' := by
  have HT := hideC ht
  have g0 := ht.glob
  have HR : Hid (rowFrom i 22 0 = rowOfN i false) := rfl
  obtain ⟨R, hR⟩ : ∃ R, R = rowOfN i false := ⟨_, rfl⟩
  rw [← hR] at HR ⊢
  clear hR
  have hw0 : 0 < w.heap.size := by have := ht.lt; omega
  have htb := ht.lt
  have HB0 := hideC (two_below w #[.int .i64 i.op, .int .i64 i.a, .int .i64 i.b, .int .i64 i.c, .int .i64 i.m] #[.string ⟨#[]⟩, .int .i64 0, .int .i64 0, .string ⟨#[]⟩] 23 48)
  have X0 := hideC (B.alloc (B.new w #[.int .i64 i.op, .int .i64 i.a, .int .i64 i.b, .int .i64 i.c, .int .i64 i.m] 23) (.cells #[.string ⟨#[]⟩, .int .i64 0, .int .i64 0, .string ⟨#[]⟩] 48))
  have X1 := hideC (B.new (w.alloc (.cells #[.int .i64 i.op, .int .i64 i.a, .int .i64 i.b, .int .i64 i.c, .int .i64 i.m] 23)) #[.string ⟨#[]⟩, .int .i64 0, .int .i64 0, .string ⟨#[]⟩] 48)
  rw [show (w.alloc (.cells #[.int .i64 i.op, .int .i64 i.a, .int .i64 i.b, .int .i64 i.c, .int .i64 i.m] 23)).heap.size = w.heap.size + 1 by simp] at X1
  clear ht
  simp only [PM.Ins.cells]
  go_enter Tryd.func18, Tryd.ntmps18
  go_wp2
  go_loopw [9] (fun kx wr => ∃ k : Nat, kx = .int .i64 k ∧ k ≤ 22 ∧ rowFrom i (22 - k) k = R ∧ wr.heap[w.heap.size]? = some (.cells i.cells 23 (0, 0)) ∧ wr.heap[w.heap.size + 1]? = some (.cells #[.string ⟨#[]⟩, .int .i64 0, .int .i64 0, .string ⟨#[]⟩] 48 (0, 0)) ∧ Below w.heap.size w wr) (fun kx _ => 22 - (intOf kx).toNat)
  case atStart => exact ⟨0, rfl, by omega, HR.out, X0.out, X1.out, HB0.out⟩
  case round =>
    obtain ⟨k, rfl, hk, hrr, h0, h1, hb⟩ := hrel
    have HRR := hideC hrr
    have H0 := hideC h0
    have H1 := hideC h1
    have HB := hideC hb
    have hsz := B.isLt h1
    have HTr := hideC (HT.out.below hb)
    clear hrr h0 h1 hb X0 X1 HB0
    by_cases hk2 : k < 22
    · have hki : (k : Int) < 22 := by omega
      have e0 : wr.cell? ⟨tb, o + k * 4, none⟩ = some (.string (rowAt k).name) := HTr.out.row k hk2 0 _ rfl
      have e1 : wr.cell? ⟨tb, o + k * 4 + 1, none⟩ = some (.int .i64 (rowAt k).op) := HTr.out.row k hk2 1 _ rfl
      have e2 : wr.cell? ⟨tb, o + k * 4 + 2, none⟩ = some (.int .i64 (rowAt k).call) := HTr.out.row k hk2 2 _ rfl
      have e3 : wr.cell? ⟨tb, o + k * 4 + 3, none⟩ = some (.string (rowAt k).parts) := HTr.out.row k hk2 3 _ rfl
      have hra := row_ascii k
      have hrs := row_size k
      have HTL := hideC (fun V => told_any (rowAt k) i V hra (by omega))
      obtain ⟨n, hn⟩ : ∃ n, 22 - k = n + 1 := ⟨22 - k - 1, by omega⟩
      have HST : Hid ((if toldN (rowAt k) i = i then rowAt k else rowFrom i n (k + 1)) = R) := by
        have hh := HRR.out
        rw [hn] at hh
        exact hh
      have hn2 : 22 - (k + 1) = n := by omega
      obtain ⟨r, hr⟩ : ∃ r, r = rowAt k := ⟨_, rfl⟩
      rw [← hr] at e0 e1 e2 e3 HTL HST
      clear hr hra hrs HRR hn
      have hEQ := eqIns (toldN r i) i
      obtain ⟨t, hte⟩ : ∃ t, t = toldN r i := ⟨_, rfl⟩
      rw [← hte] at hEQ HTL HST
      clear hte
      have BX := hideC (B.new wr #[.string r.name, .int .i64 r.op, .int .i64 r.call, .string r.parts] 48)
      have K0 := hideC (B.alloc H0.out (.cells #[.string r.name, .int .i64 r.op, .int .i64 r.call, .string r.parts] 48))
      have K1 := hideC (B.alloc H1.out (.cells #[.string r.name, .int .i64 r.op, .int .i64 r.call, .string r.parts] 48))
      have KB := hideC (HB.out.alloc HB.out.size (.cells #[.string r.name, .int .i64 r.op, .int .i64 r.call, .string r.parts] 48))
      have KZ : Hid ((wr.alloc (.cells #[.string r.name, .int .i64 r.op, .int .i64 r.call, .string r.parts] 48)).heap.size = wr.heap.size + 1) := by show _ = _; simp
      obtain ⟨V0, hV0⟩ : ∃ V0, V0 = wr.alloc (.cells #[.string r.name, .int .i64 r.op, .int .i64 r.call, .string r.parts] 48) := ⟨_, rfl⟩
      have HV0 := hideC hV0
      rw [← hV0] at BX K0 K1 KB KZ
      clear hV0
      go_wp2_with fail
      rw [← HV0.out]
      have hkin := Q.kin_some V0
      have HU : Hid (∀ x : Q.Kin V0.heap.size V0, x.world.heap[wr.heap.size]? = some (.cells #[.string r.name, .int .i64 r.op, .int .i64 r.call, .string r.parts] 48 (0, 0))) := fun x => B.below BX.out x.keeps (B.isLt BX.out)
      have HI : Hid (∀ x : Q.Kin V0.heap.size V0, x.world.heap[w.heap.size]? = some (.cells i.cells 23 (0, 0))) := fun x => B.below K0.out x.keeps (B.isLt K0.out)
      have a0 : ∀ x : Q.Kin V0.heap.size V0, x.world.cell? ⟨wr.heap.size, 0, none⟩ = some (.string r.name) := fun x => B.cell (HU.out x) 0 rfl
      have a1 : ∀ x : Q.Kin V0.heap.size V0, x.world.cell? ⟨wr.heap.size, 1, none⟩ = some (.int .i64 r.op) := fun x => B.cell (HU.out x) 1 rfl
      have a2 : ∀ x : Q.Kin V0.heap.size V0, x.world.cell? ⟨wr.heap.size, 2, none⟩ = some (.int .i64 r.call) := fun x => B.cell (HU.out x) 2 rfl
      have a3 : ∀ x : Q.Kin V0.heap.size V0, x.world.cell? ⟨wr.heap.size, 3, none⟩ = some (.string r.parts) := fun x => B.cell (HU.out x) 3 rfl
      have b0 : ∀ x : Q.Kin V0.heap.size V0, x.world.cell? ⟨w.heap.size, 0, none⟩ = some (.int .i64 i.op) := fun x => B.cell (HI.out x) 0 rfl
      have b1 : ∀ x : Q.Kin V0.heap.size V0, x.world.cell? ⟨w.heap.size, 1, none⟩ = some (.int .i64 i.a) := fun x => B.cell (HI.out x) 1 rfl
      have b2 : ∀ x : Q.Kin V0.heap.size V0, x.world.cell? ⟨w.heap.size, 2, none⟩ = some (.int .i64 i.b) := fun x => B.cell (HI.out x) 2 rfl
      have b3 : ∀ x : Q.Kin V0.heap.size V0, x.world.cell? ⟨w.heap.size, 3, none⟩ = some (.int .i64 i.c) := fun x => B.cell (HI.out x) 3 rfl
      have b4 : ∀ x : Q.Kin V0.heap.size V0, x.world.cell? ⟨w.heap.size, 4, none⟩ = some (.int .i64 i.m) := fun x => B.cell (HI.out x) 4 rfl
      have HT2 : Hid (∀ V, Below V0.heap.size V0 V → Calls Tryd.prog 38 #[.agg #[.string r.name, .int .i64 r.op, .int .i64 r.call, .string r.parts], .agg #[.int .i64 i.op, .int .i64 i.a, .int .i64 i.b, .int .i64 i.c, .int .i64 i.m]] V fun e w' => e = .returned (.agg #[.int .i64 t.op, .int .i64 t.a, .int .i64 t.b, .int .i64 t.c, .int .i64 t.m]) ∧ Below V.heap.size V w') := fun V _ => HTL.out V
      obtain ⟨q, hq⟩ : ∃ q, q = decide (t = i) := ⟨_, rfl⟩
      have HQ := hideC hq
      rw [← hq] at hEQ
      clear hq
      refine Q.region_kin (by kernel_rfl) (by kernel_rfl) ?_
      repeat (first | go_big_quiet_step ((go_at_call 38; with_reducible exact calls_belowT HT2.out _)) | quiet_step ((go_at_call 38; with_reducible exact calls_belowT HT2.out _)))
      refine wpQuiet_nil ?_
      intro _ hw'
      obtain ⟨x, hw''⟩ := hw'
      subst hw''
      have HKX := hideC (KB.out.trans (x.keeps.mono KB.out.size))
      have M1 := hideC (B.below K1.out x.keeps (B.isLt K1.out))
      have M0 := hideC (HI.out x)
      have MU := hideC (HU.out x)
      clear a0 a1 a2 a3 b0 b1 b2 b3 b4 hkin HU HI HT2 hEQ
      obtain ⟨w1, hw1⟩ : ∃ w1, w1 = x.world := ⟨_, rfl⟩
      rw [← hw1] at HKX M1 M0 MU ⊢
      clear hw1 x
      cases q with
      | true =>
        have hti : t = i := of_decide_eq_true HQ.out.symm
        have HE := HST.out
        rw [if_pos hti] at HE
        have HRE := hideC HE
        clear HE hti
        have a0 : w1.cell? ⟨wr.heap.size, 0, none⟩ = some (.string r.name) := B.cell MU.out 0 rfl
        have a1 : w1.cell? ⟨wr.heap.size, 1, none⟩ = some (.int .i64 r.op) := B.cell MU.out 1 rfl
        have a2 : w1.cell? ⟨wr.heap.size, 2, none⟩ = some (.int .i64 r.call) := B.cell MU.out 2 rfl
        have a3 : w1.cell? ⟨wr.heap.size, 3, none⟩ = some (.string r.parts) := B.cell MU.out 3 rfl
        have b0 : w1.cell? ⟨w.heap.size + 1, 0, none⟩ = some (.string ⟨#[]⟩) := B.cell M1.out 0 rfl
        have b1 : w1.cell? ⟨w.heap.size + 1, 1, none⟩ = some (.int .i64 0) := B.cell M1.out 1 rfl
        have b2 : w1.cell? ⟨w.heap.size + 1, 2, none⟩ = some (.int .i64 0) := B.cell M1.out 2 rfl
        have b3 : w1.cell? ⟨w.heap.size + 1, 3, none⟩ = some (.string ⟨#[]⟩) := B.cell M1.out 3 rfl
        have f0 : ∀ k, w1.frozen? ⟨w.heap.size + 1, k, none⟩ = false := fun k => B.free M1.out k
        have hne : ¬ w.heap.size + 1 = wr.heap.size := by omega
        go_wp2
        exact bodyPost_ret (v := .agg #[.string r.name, .int .i64 r.op, .int .i64 r.call, .string r.parts]) (by simp [results, Tryd.results18, go_sem, b0, b1, b2, b3]) rfl ⟨by rw [← HRE.out]; rfl, (((HKX.out.setCell (by show w.heap.size ≤ w.heap.size + 1; omega) _).setCell (by show w.heap.size ≤ w.heap.size + 1; omega) _).setCell (by show w.heap.size ≤ w.heap.size + 1; omega) _).setCell (by show w.heap.size ≤ w.heap.size + 1; omega) _⟩
      | false =>
        have hti : ¬ t = i := of_decide_eq_false HQ.out.symm
        have HE := HST.out
        rw [if_neg hti] at HE
        have HRE := hideC HE
        clear HE hti
        go_wp2
        go_roundw
        case rel => exact ⟨k + 1, by go_num, by omega, by rw [hn2]; exact HRE.out, M0.out, M1.out, HKX.out⟩
        case measure => simp [intOf]; omega
    · obtain rfl : k = 22 := by omega
      have HE : rowAt 21 = R := HRR.out
      have HRE := hideC HE
      have e0 : wr.cell? ⟨tb, o + 84, none⟩ = some (.string (rowAt 21).name) := HTr.out.row 21 (by omega) 0 _ rfl
      have e1 : wr.cell? ⟨tb, o + 84 + 1, none⟩ = some (.int .i64 (rowAt 21).op) := HTr.out.row 21 (by omega) 1 _ rfl
      have e2 : wr.cell? ⟨tb, o + 84 + 2, none⟩ = some (.int .i64 (rowAt 21).call) := HTr.out.row 21 (by omega) 2 _ rfl
      have e3 : wr.cell? ⟨tb, o + 84 + 3, none⟩ = some (.string (rowAt 21).parts) := HTr.out.row 21 (by omega) 3 _ rfl
      have gr := HTr.out.glob
      obtain ⟨r, hr⟩ : ∃ r, r = rowAt 21 := ⟨_, rfl⟩
      rw [← hr] at e0 e1 e2 e3 HRE
      clear hr HE
      have b0 : wr.cell? ⟨w.heap.size + 1, 0, none⟩ = some (.string ⟨#[]⟩) := B.cell H1.out 0 rfl
      have b1 : wr.cell? ⟨w.heap.size + 1, 1, none⟩ = some (.int .i64 0) := B.cell H1.out 1 rfl
      have b2 : wr.cell? ⟨w.heap.size + 1, 2, none⟩ = some (.int .i64 0) := B.cell H1.out 2 rfl
      have b3 : wr.cell? ⟨w.heap.size + 1, 3, none⟩ = some (.string ⟨#[]⟩) := B.cell H1.out 3 rfl
      have f0 : ∀ k, wr.frozen? ⟨w.heap.size + 1, k, none⟩ = false := fun k => B.free H1.out k
      have hne : ¬ w.heap.size + 1 = tb := by omega
      have hk3 : ¬ ((22 : Int) < 22) := by omega
      go_wp2
      exact bodyPost_ret (v := .agg #[.string r.name, .int .i64 r.op, .int .i64 r.call, .string r.parts]) (by simp [results, Tryd.results18, go_sem, b0, b1, b2, b3]) rfl ⟨by rw [← HRE.out]; rfl, (((HB.out.setCell (by show w.heap.size ≤ w.heap.size + 1; omega) _).setCell (by show w.heap.size ≤ w.heap.size + 1; omega) _).setCell (by show w.heap.size ≤ w.heap.size + 1; omega) _).setCell (by show w.heap.size ≤ w.heap.size + 1; omega) _⟩
end Go.Proofs.YtklobjfhjlkgfaaDoor.TW
/- The program's rowOf, of a bad instruction. -/
namespace Go.Proofs.YtklobjfhjlkgfaaDoor.TW
open Go.RowKit
set_option linter.unusedVariables false
set_option maxRecDepth 100000
set_option linter.unusedSimpArgs false

set_option maxHeartbeats 4000000 in
theorem rowOf_bad (i : PM.Ins) (w : World) (tb o cap : Nat) (ht : Tab tb o cap w) : Calls Tryd.prog 18 #[.agg i.cells, .bool true] w fun e w' => e = .returned (.agg (rowOfN i true).cells) ∧ Below w.heap.size w w' := by
  have HT := hideC ht
  have g0 := ht.glob
  have HR : Hid (rowAt 21 = rowOfN i true) := rfl
  obtain ⟨R, hR⟩ : ∃ R, R = rowOfN i true := ⟨_, rfl⟩
  rw [← hR] at HR ⊢
  clear hR
  have hw0 : 0 < w.heap.size := by have := ht.lt; omega
  have htb := ht.lt
  have HB0 := hideC (two_below w #[.int .i64 i.op, .int .i64 i.a, .int .i64 i.b, .int .i64 i.c, .int .i64 i.m] #[.string ⟨#[]⟩, .int .i64 0, .int .i64 0, .string ⟨#[]⟩] 23 48)
  have X0 := hideC (B.alloc (B.new w #[.int .i64 i.op, .int .i64 i.a, .int .i64 i.b, .int .i64 i.c, .int .i64 i.m] 23) (.cells #[.string ⟨#[]⟩, .int .i64 0, .int .i64 0, .string ⟨#[]⟩] 48))
  have X1 := hideC (B.new (w.alloc (.cells #[.int .i64 i.op, .int .i64 i.a, .int .i64 i.b, .int .i64 i.c, .int .i64 i.m] 23)) #[.string ⟨#[]⟩, .int .i64 0, .int .i64 0, .string ⟨#[]⟩] 48)
  rw [show (w.alloc (.cells #[.int .i64 i.op, .int .i64 i.a, .int .i64 i.b, .int .i64 i.c, .int .i64 i.m] 23)).heap.size = w.heap.size + 1 by simp] at X1
  clear ht
  simp only [PM.Ins.cells]
  go_enter Tryd.func18, Tryd.ntmps18
  go_wp2
  go_loopw [9] (fun kx wr => ∃ k : Nat, kx = .int .i64 k ∧ k ≤ 22 ∧ rowAt 21 = R ∧ wr.heap[w.heap.size]? = some (.cells i.cells 23 (0, 0)) ∧ wr.heap[w.heap.size + 1]? = some (.cells #[.string ⟨#[]⟩, .int .i64 0, .int .i64 0, .string ⟨#[]⟩] 48 (0, 0)) ∧ Below w.heap.size w wr) (fun kx _ => 22 - (intOf kx).toNat)
  case atStart => exact ⟨0, rfl, by omega, HR.out, X0.out, X1.out, HB0.out⟩
  case round =>
    obtain ⟨k, rfl, hk, hrr, h0, h1, hb⟩ := hrel
    have HRR := hideC hrr
    have H0 := hideC h0
    have H1 := hideC h1
    have HB := hideC hb
    have hsz := B.isLt h1
    have HTr := hideC (HT.out.below hb)
    clear hrr h0 h1 hb X0 X1 HB0
    by_cases hk2 : k < 22
    · have hki : (k : Int) < 22 := by omega
      have e0 : wr.cell? ⟨tb, o + k * 4, none⟩ = some (.string (rowAt k).name) := HTr.out.row k hk2 0 _ rfl
      have e1 : wr.cell? ⟨tb, o + k * 4 + 1, none⟩ = some (.int .i64 (rowAt k).op) := HTr.out.row k hk2 1 _ rfl
      have e2 : wr.cell? ⟨tb, o + k * 4 + 2, none⟩ = some (.int .i64 (rowAt k).call) := HTr.out.row k hk2 2 _ rfl
      have e3 : wr.cell? ⟨tb, o + k * 4 + 3, none⟩ = some (.string (rowAt k).parts) := HTr.out.row k hk2 3 _ rfl
      obtain ⟨r, hr⟩ : ∃ r, r = rowAt k := ⟨_, rfl⟩
      rw [← hr] at e0 e1 e2 e3
      clear hr
      have BX := hideC (B.new wr #[.string r.name, .int .i64 r.op, .int .i64 r.call, .string r.parts] 48)
      have K0 := hideC (B.alloc H0.out (.cells #[.string r.name, .int .i64 r.op, .int .i64 r.call, .string r.parts] 48))
      have K1 := hideC (B.alloc H1.out (.cells #[.string r.name, .int .i64 r.op, .int .i64 r.call, .string r.parts] 48))
      have KB := hideC (HB.out.alloc HB.out.size (.cells #[.string r.name, .int .i64 r.op, .int .i64 r.call, .string r.parts] 48))
      have KZ : Hid ((wr.alloc (.cells #[.string r.name, .int .i64 r.op, .int .i64 r.call, .string r.parts] 48)).heap.size = wr.heap.size + 1) := by show _ = _; simp
      obtain ⟨V0, hV0⟩ : ∃ V0, V0 = wr.alloc (.cells #[.string r.name, .int .i64 r.op, .int .i64 r.call, .string r.parts] 48) := ⟨_, rfl⟩
      have HV0 := hideC hV0
      rw [← hV0] at BX K0 K1 KB KZ
      clear hV0
      go_wp2_with fail
      rw [← HV0.out]
      have hkin := Q.kin_some V0
      have HU : Hid (∀ x : Q.Kin V0.heap.size V0, x.world.heap[wr.heap.size]? = some (.cells #[.string r.name, .int .i64 r.op, .int .i64 r.call, .string r.parts] 48 (0, 0))) := fun x => B.below BX.out x.keeps (B.isLt BX.out)
      have HI : Hid (∀ x : Q.Kin V0.heap.size V0, x.world.heap[w.heap.size]? = some (.cells i.cells 23 (0, 0))) := fun x => B.below K0.out x.keeps (B.isLt K0.out)
      have a0 : ∀ x : Q.Kin V0.heap.size V0, x.world.cell? ⟨wr.heap.size, 0, none⟩ = some (.string r.name) := fun x => B.cell (HU.out x) 0 rfl
      have a1 : ∀ x : Q.Kin V0.heap.size V0, x.world.cell? ⟨wr.heap.size, 1, none⟩ = some (.int .i64 r.op) := fun x => B.cell (HU.out x) 1 rfl
      have a2 : ∀ x : Q.Kin V0.heap.size V0, x.world.cell? ⟨wr.heap.size, 2, none⟩ = some (.int .i64 r.call) := fun x => B.cell (HU.out x) 2 rfl
      have a3 : ∀ x : Q.Kin V0.heap.size V0, x.world.cell? ⟨wr.heap.size, 3, none⟩ = some (.string r.parts) := fun x => B.cell (HU.out x) 3 rfl
      have b0 : ∀ x : Q.Kin V0.heap.size V0, x.world.cell? ⟨w.heap.size, 0, none⟩ = some (.int .i64 i.op) := fun x => B.cell (HI.out x) 0 rfl
      have b1 : ∀ x : Q.Kin V0.heap.size V0, x.world.cell? ⟨w.heap.size, 1, none⟩ = some (.int .i64 i.a) := fun x => B.cell (HI.out x) 1 rfl
      have b2 : ∀ x : Q.Kin V0.heap.size V0, x.world.cell? ⟨w.heap.size, 2, none⟩ = some (.int .i64 i.b) := fun x => B.cell (HI.out x) 2 rfl
      have b3 : ∀ x : Q.Kin V0.heap.size V0, x.world.cell? ⟨w.heap.size, 3, none⟩ = some (.int .i64 i.c) := fun x => B.cell (HI.out x) 3 rfl
      have b4 : ∀ x : Q.Kin V0.heap.size V0, x.world.cell? ⟨w.heap.size, 4, none⟩ = some (.int .i64 i.m) := fun x => B.cell (HI.out x) 4 rfl
      refine Q.region_kin (by kernel_rfl) (by kernel_rfl) ?_
      repeat (first | go_big_quiet_step ((fail)) | quiet_step ((fail)))
      refine wpQuiet_nil ?_
      intro _ hw'
      obtain ⟨x, hw''⟩ := hw'
      subst hw''
      have HKX := hideC (KB.out.trans (x.keeps.mono KB.out.size))
      have M1 := hideC (B.below K1.out x.keeps (B.isLt K1.out))
      have M0 := hideC (HI.out x)
      have MU := hideC (HU.out x)
      clear a0 a1 a2 a3 b0 b1 b2 b3 b4 hkin HU HI
      obtain ⟨w1, hw1⟩ : ∃ w1, w1 = x.world := ⟨_, rfl⟩
      rw [← hw1] at HKX M1 M0 MU ⊢
      clear hw1 x
      go_wp2
      go_roundw
      case rel => exact ⟨k + 1, by go_num, by omega, HRR.out, M0.out, M1.out, HKX.out⟩
      case measure => simp [intOf]; omega
    · obtain rfl : k = 22 := by omega
      have HE : rowAt 21 = R := HRR.out
      have HRE := hideC HE
      have e0 : wr.cell? ⟨tb, o + 84, none⟩ = some (.string (rowAt 21).name) := HTr.out.row 21 (by omega) 0 _ rfl
      have e1 : wr.cell? ⟨tb, o + 84 + 1, none⟩ = some (.int .i64 (rowAt 21).op) := HTr.out.row 21 (by omega) 1 _ rfl
      have e2 : wr.cell? ⟨tb, o + 84 + 2, none⟩ = some (.int .i64 (rowAt 21).call) := HTr.out.row 21 (by omega) 2 _ rfl
      have e3 : wr.cell? ⟨tb, o + 84 + 3, none⟩ = some (.string (rowAt 21).parts) := HTr.out.row 21 (by omega) 3 _ rfl
      have gr := HTr.out.glob
      obtain ⟨r, hr⟩ : ∃ r, r = rowAt 21 := ⟨_, rfl⟩
      rw [← hr] at e0 e1 e2 e3 HRE
      clear hr HE
      have b0 : wr.cell? ⟨w.heap.size + 1, 0, none⟩ = some (.string ⟨#[]⟩) := B.cell H1.out 0 rfl
      have b1 : wr.cell? ⟨w.heap.size + 1, 1, none⟩ = some (.int .i64 0) := B.cell H1.out 1 rfl
      have b2 : wr.cell? ⟨w.heap.size + 1, 2, none⟩ = some (.int .i64 0) := B.cell H1.out 2 rfl
      have b3 : wr.cell? ⟨w.heap.size + 1, 3, none⟩ = some (.string ⟨#[]⟩) := B.cell H1.out 3 rfl
      have f0 : ∀ k, wr.frozen? ⟨w.heap.size + 1, k, none⟩ = false := fun k => B.free H1.out k
      have hne : ¬ w.heap.size + 1 = tb := by omega
      have hk3 : ¬ ((22 : Int) < 22) := by omega
      go_wp2
      exact bodyPost_ret (v := .agg #[.string r.name, .int .i64 r.op, .int .i64 r.call, .string r.parts]) (by simp [results, Tryd.results18, go_sem, b0, b1, b2, b3]) rfl ⟨by rw [← HRE.out]; rfl, (((HB.out.setCell (by show w.heap.size ≤ w.heap.size + 1; omega) _).setCell (by show w.heap.size ≤ w.heap.size + 1; omega) _).setCell (by show w.heap.size ≤ w.heap.size + 1; omega) _).setCell (by show w.heap.size ≤ w.heap.size + 1; omega) _⟩
theorem rowOf_any (i : PM.Ins) (bad : Bool) (w : World) (tb o cap : Nat) (ht : Tab tb o cap w) : Calls Tryd.prog 18 #[.agg i.cells, .bool bad] w fun e w' => e = .returned (.agg (rowOfN i bad).cells) ∧ Below w.heap.size w w' := by
  cases bad with
  | false => exact rowOf_good i w tb o cap ht
  | true => exact rowOf_bad i w tb o cap ht
end Go.Proofs.YtklobjfhjlkgfaaDoor.TW
