import Derived.Test.YtklobjfhjlkgfaaDoorGS01
import Derived.Test.YtklobjfhjlkgfaaDoorGS03
import Derived.Test.YtklobjfhjlkgfaaDoorGS02
/- The reference's InstrText: the line of an instruction. -/
namespace Go.Proofs.YtklobjfhjlkgfaaDoor.TW
open Go.RowKit
set_option linter.unusedVariables false
set_option maxRecDepth 100000
set_option linter.unusedSimpArgs false

instance : DecidableEq PM.Ins := fun p q =>
  if h : p.op = q.op ∧ p.a = q.a ∧ p.b = q.b ∧ p.c = q.c ∧ p.m = q.m then
    isTrue (by
      obtain ⟨a1, a2, a3, a4, a5⟩ := p
      obtain ⟨b1, b2, b3, b4, b5⟩ := q
      simp only at h
      obtain ⟨h1, h2, h3, h4, h5⟩ := h
      subst h1; subst h2; subst h3; subst h4; subst h5
      rfl)
  else isFalse (fun e => h (by rw [e]; exact ⟨rfl, rfl, rfl, rfl, rfl⟩))
def rawS : ByteArray := str [114, 97, 119]
/-- the numbers that are shown behind a name -/
def partsN (i : PM.Ins) : List Int :=
  if i.op = 1 ∨ i.op = 11 then [i.a, i.m]
  else if i.op = 8 ∨ i.op = 13 ∨ i.op = 14 then [i.a, i.b, i.m]
  else if i.op = 9 ∨ i.op = 10 then [i.a, i.b, i.m, i.c]
  else if i.op = 12 then [i.m]
  else if i.op = 15 then [i.a]
  else [i.a, i.b, i.c]
def isRaw (i : PM.Ins) : Bool := i.bad || decide (plainN i ≠ i)
/-- what InstrText answers -/
def textN (i : PM.Ins) : ByteArray :=
  if isRaw i then wordsS rawS [i.op, i.a, i.b, i.c, i.m]
  else if i.op = 16 then callL.getD i.m.toNat (str [])
  else wordsS (opL.getD i.op.toNat (str [])) (partsN i)
theorem calls_belowT {P : Program} {f : FuncId} {args : Array Value} {v : Value} {w : World} (h : ∀ W, Below w.heap.size w W → Calls P f args W fun e w' => e = .returned v ∧ Below W.heap.size W w') (x : Q.Kin w.heap.size w) :
    Calls P f args x.world fun e w'' => e = .returned v ∧ ∃ y : Q.Kin w.heap.size w, w'' = y.world :=
  (h x.world x.keeps).mono fun e w'' ⟨he, hb⟩ => ⟨he, ⟨w'', x.keeps.trans (hb.mono x.keeps.size)⟩, rfl⟩
set_option maxHeartbeats 4000000 in
theorem text_bad (i : PM.Ins) (w : World) (h : i.bad = true) (hf : i.fits) : Calls Tryd.prog 8 #[.agg i.cells] w fun e w' => e = .returned (.string (textN i)) ∧ Below w.heap.size w w' := by
  have HT : Hid (textN i = wordsS rawS [i.op, i.a, i.b, i.c, i.m]) := by
    show _ = _
    unfold textN isRaw
    rw [h]
    rfl
  have HBD : Hid (∀ V, Calls Tryd.prog 23 #[.agg i.cells] V fun e w' => e = .returned (.bool true) ∧ Below V.heap.size V w') := fun V => by
    have hh := PW.isBadR_any i V
    rw [h] at hh
    exact hh
  obtain ⟨R, hR⟩ : ∃ R, R = textN i := ⟨_, rfl⟩
  rw [← hR] at HT ⊢
  obtain ⟨op, a, b, c, m⟩ := i
  unfold PM.Ins.fits PM.Byt at hf
  simp only at hf HT
  simp only [PM.Ins.cells] at HBD ⊢
  clear h hR
  have HB0 := hideC ((Below.refl w.heap.size w).alloc (Nat.le_refl _) (.cells #[.int .i64 op, .int .i64 a, .int .i64 b, .int .i64 c, .int .i64 m] 23))
  have BX := hideC (B.new w #[.int .i64 op, .int .i64 a, .int .i64 b, .int .i64 c, .int .i64 m] 23)
  obtain ⟨V0, hV0⟩ : ∃ V0, V0 = w.alloc (.cells #[.int .i64 op, .int .i64 a, .int .i64 b, .int .i64 c, .int .i64 m] 23) := ⟨_, rfl⟩
  have HV0 := hideC hV0
  rw [← hV0] at HB0 BX
  clear hV0
  go_enter Tryd.func8, Tryd.ntmps8
  go_wp2_with fail
  rw [← HV0.out]
  have hkin := Q.kin_some V0
  have HU : Hid (∀ x : Q.Kin V0.heap.size V0, x.world.heap[w.heap.size]? = some (.cells #[.int .i64 op, .int .i64 a, .int .i64 b, .int .i64 c, .int .i64 m] 23 (0, 0))) := fun x => B.below BX.out x.keeps (B.isLt BX.out)
  have a0 : ∀ x : Q.Kin V0.heap.size V0, x.world.cell? ⟨w.heap.size, 0, none⟩ = some (.int .i64 op) := fun x => B.cell (HU.out x) 0 rfl
  have a1 : ∀ x : Q.Kin V0.heap.size V0, x.world.cell? ⟨w.heap.size, 1, none⟩ = some (.int .i64 a) := fun x => B.cell (HU.out x) 1 rfl
  have a2 : ∀ x : Q.Kin V0.heap.size V0, x.world.cell? ⟨w.heap.size, 2, none⟩ = some (.int .i64 b) := fun x => B.cell (HU.out x) 2 rfl
  have a3 : ∀ x : Q.Kin V0.heap.size V0, x.world.cell? ⟨w.heap.size, 3, none⟩ = some (.int .i64 c) := fun x => B.cell (HU.out x) 3 rfl
  have a4 : ∀ x : Q.Kin V0.heap.size V0, x.world.cell? ⟨w.heap.size, 4, none⟩ = some (.int .i64 m) := fun x => B.cell (HU.out x) 4 rfl
  have HBD2 : Hid (∀ V, Below V0.heap.size V0 V → Calls Tryd.prog 23 #[.agg #[.int .i64 op, .int .i64 a, .int .i64 b, .int .i64 c, .int .i64 m]] V fun e w' => e = .returned (.bool true) ∧ Below V.heap.size V w') := fun V _ => HBD.out V
  refine Q.region_kin (by kernel_rfl) (by kernel_rfl) ?_
  repeat (first | go_big_quiet_step ((go_at_call 23; with_reducible exact calls_belowT HBD2.out _)) | quiet_step ((go_at_call 23; with_reducible exact calls_belowT HBD2.out _)))
  refine wpQuiet_nil ?_
  intro _ hw'
  obtain ⟨x, hw''⟩ := hw'
  subst hw''
  have HKX := hideC (add_below HB0.out x.keeps)
  have HB5 := hideC (HU.out x)
  clear a0 a1 a2 a3 a4 hkin HBD2 HU BX
  obtain ⟨w1, hw1⟩ : ∃ w1, w1 = x.world := ⟨_, rfl⟩
  rw [← hw1] at HKX HB5 ⊢
  clear hw1 x
  have c0 := B.cell HB5.out 0 rfl
  have c1 := B.cell HB5.out 1 rfl
  have c2 := B.cell HB5.out 2 rfl
  have c3 := B.cell HB5.out 3 rfl
  have c4 := B.cell HB5.out 4 rfl
  have HWD : Hid (Calls Tryd.prog 25 #[.string rawS, .slice (some ⟨w1.heap.size, 0, none⟩) 5 5] (w1.alloc (.cells #[.int .i64 op, .int .i64 a, .int .i64 b, .int .i64 c, .int .i64 m] 3)) fun e w' => e = .returned (.string R) ∧ Below (w1.alloc (.cells #[.int .i64 op, .int .i64 a, .int .i64 b, .int .i64 c, .int .i64 m] 3)).heap.size (w1.alloc (.cells #[.int .i64 op, .int .i64 a, .int .i64 b, .int .i64 c, .int .i64 m] 3)) w') := by
    rw [HT.out]
    have HN := B.new w1 #[.int .i64 op, .int .i64 a, .int .i64 b, .int .i64 c, .int .i64 m] 3
    refine words_any rawS [op, a, b, c, m] w1.heap.size 0 5 _ (fun k hk => ?_) (by simp) (fun k hk => ?_) (by decide) (by simp)
    · rw [Nat.zero_add]
      match k, hk with
      | 0, _ => exact B.cell HN 0 rfl
      | 1, _ => exact B.cell HN 1 rfl
      | 2, _ => exact B.cell HN 2 rfl
      | 3, _ => exact B.cell HN 3 rfl
      | 4, _ => exact B.cell HN 4 rfl
    · unfold I64
      match k, hk with
      | 0, _ => simp; omega
      | 1, _ => simp; omega
      | 2, _ => simp; omega
      | 3, _ => simp; omega
      | 4, _ => simp; omega
  have HBA := hideC (HKX.out.alloc HKX.out.size (.cells #[.int .i64 op, .int .i64 a, .int .i64 b, .int .i64 c, .int .i64 m] 3))
  go_wp2_with (go_at_call 25; refine HWD.out.mono ?_; rintro e w2 ⟨rfl, hb2⟩; have HB2 := hideC (add_below HBA.out hb2); clear hb2)
  go_ret
  exact ⟨rfl, HB2.out⟩
end Go.Proofs.YtklobjfhjlkgfaaDoor.TW
/- The program's table, as it is laid; rowOf. -/
namespace Go.Proofs.YtklobjfhjlkgfaaDoor.TW
open Go.RowKit
set_option linter.unusedVariables false
set_option maxRecDepth 100000
set_option linter.unusedSimpArgs false

def tableL : List Row := [⟨str [115, 101, 116], 1, 0, str [97, 105]⟩, ⟨str [104, 101, 114, 101], 11, 0, str [97, 105]⟩, ⟨str [97, 100, 100], 2, 0, str [97, 98, 99]⟩, ⟨str [115, 117, 98], 3, 0, str [97, 98, 99]⟩, ⟨str [109, 117, 108], 4, 0, str [97, 98, 99]⟩, ⟨str [97, 110, 100], 5, 0, str [97, 98, 99]⟩, ⟨str [120, 111, 114], 6, 0, str [97, 98, 99]⟩, ⟨str [115, 104, 114], 7, 0, str [97, 98, 99]⟩, ⟨str [97, 100, 100, 105], 8, 0, str [97, 98, 105]⟩, ⟨str [101, 113, 117, 97, 108], 13, 0, str [97, 98, 105]⟩, ⟨str [108, 101, 115, 115], 14, 0, str [97, 98, 105]⟩, ⟨str [108, 111, 97, 100], 9, 0, str [97, 98, 105, 99]⟩, ⟨str [115, 116, 111, 114, 101], 10, 0, str [97, 98, 105, 99]⟩, ⟨str [106, 117, 109, 112], 12, 0, str [105]⟩, ⟨str [103, 111], 15, 0, str [97]⟩, ⟨str [111, 117, 116], 16, 1, str []⟩, ⟨str [109, 97, 112], 16, 2, str []⟩, ⟨str [117, 110, 109, 97, 112], 16, 3, str []⟩, ⟨str [112, 114, 111, 116, 101, 99, 116], 16, 4, str []⟩, ⟨str [102, 111, 114, 107], 16, 5, str []⟩, ⟨str [101, 120, 105, 116], 16, 6, str []⟩, ⟨str [114, 97, 119], 0, 0, str [111, 97, 98, 99, 105]⟩]
def noRow : Row := ⟨str [], 0, 0, str []⟩
def rowAt (k : Nat) : Row := tableL.getD k noRow
def asciiB (l : List UInt8) : Bool := l.all fun c => decide (c.toNat < 128)
theorem ascii_of (s : ByteArray) (h : asciiB s.data.toList = true) : Ascii s := by
  intro k hk
  unfold asciiB at h
  have h2 := List.all_eq_true.1 h
  have hk2 : k < s.data.toList.length := by rw [← Lib.size_eq]; exact hk
  have := h2 (s.data.toList[k]) (List.getElem_mem hk2)
  have e : s[k]'hk = s.data.toList[k] := rfl
  rw [e]
  simpa using this
theorem row_mem (k : Nat) : rowAt k ∈ noRow :: tableL := by
  unfold rowAt
  rw [List.getD_eq_getElem?_getD]
  cases e : tableL[k]? with
  | none => exact List.mem_cons_self
  | some r => exact List.mem_cons_of_mem _ (List.mem_of_getElem? e)
theorem rows_fine : (noRow :: tableL).all (fun r => asciiB r.parts.data.toList && decide (r.parts.size ≤ 5) && decide (r.name.size ≤ 7) && decide (0 ≤ r.op ∧ r.op ≤ 16 ∧ 0 ≤ r.call ∧ r.call ≤ 6)) = true := by decide
theorem row_fine (k : Nat) : asciiB (rowAt k).parts.data.toList = true ∧ (rowAt k).parts.size ≤ 5 ∧ (rowAt k).name.size ≤ 7 ∧ (0 ≤ (rowAt k).op ∧ (rowAt k).op ≤ 16 ∧ 0 ≤ (rowAt k).call ∧ (rowAt k).call ≤ 6) := by
  have h := List.all_eq_true.1 rows_fine _ (row_mem k)
  simp only [Bool.and_eq_true, decide_eq_true_eq] at h
  exact ⟨h.1.1.1, h.1.1.2, h.1.2, h.2⟩
theorem row_ascii (k : Nat) : Ascii (rowAt k).parts := ascii_of _ (row_fine k).1
theorem row_size (k : Nat) : (rowAt k).parts.size ≤ 5 := (row_fine k).2.1
/-- the table lies as its initialiser lays it -/
structure Tab (tb o cap : Nat) (w : World) : Prop where
  glob : w.cell? ⟨0, 0, none⟩ = some (.slice (some ⟨tb, o, none⟩) 22 cap)
  row : ∀ k, k < 22 → ∀ j v, (rowAt k).cells[j]? = some v → w.cell? ⟨tb, o + k * 4 + j, none⟩ = some v
  lt : tb < w.heap.size
theorem Tab.below {tb o cap : Nat} {w w' : World} (h : Tab tb o cap w) (hb : Below w.heap.size w w') : Tab tb o cap w' :=
  ⟨(hb.cell (p := ⟨0, 0, none⟩) (by have := h.lt; show 0 < _; omega)).trans h.glob, fun k hk j v hv => (hb.cell (p := ⟨tb, _, none⟩) h.lt).trans (h.row k hk j v hv), Nat.lt_of_lt_of_le h.lt hb.size⟩

/-- the first row from k on that tells all of it; fuel n -/
def rowFrom (i : PM.Ins) : Nat → Nat → Row
  | 0, _ => rowAt 21
  | n + 1, k => if toldN (rowAt k) i = i then rowAt k else rowFrom i n (k + 1)
def rowOfN (i : PM.Ins) (bad : Bool) : Row := if bad then rowAt 21 else rowFrom i 22 0
theorem eqIns (t i : PM.Ins) (V : World) : (Op.equalIn 10000 23 (.agg #[.int .i64 t.op, .int .i64 t.a, .int .i64 t.b, .int .i64 t.c, .int .i64 t.m]) (.agg #[.int .i64 i.op, .int .i64 i.a, .int .i64 i.b, .int .i64 i.c, .int .i64 i.m])).run Tryd.prog V = .ok (decide (t = i)) V := by
  obtain ⟨a1, a2, a3, a4, a5⟩ := t
  obtain ⟨b1, b2, b3, b4, b5⟩ := i
  simp only
  by_cases h1 : a1 = b1
  · by_cases h2 : a2 = b2
    · by_cases h3 : a3 = b3
      · by_cases h4 : a4 = b4
        · by_cases h5 : a5 = b5
          · subst h1; subst h2; subst h3; subst h4; subst h5
            simp [go_sem]
          · have hq := beq_eq_false_iff_ne.2 h5
            have hd : decide ((⟨a1, a2, a3, a4, a5⟩ : PM.Ins) = ⟨b1, b2, b3, b4, b5⟩) = false := decide_eq_false (by intro e; injection e; contradiction)
            rw [hd]
            subst h1; subst h2; subst h3; subst h4
            simp [go_sem, hq]
        · have hq := beq_eq_false_iff_ne.2 h4
          have hd : decide ((⟨a1, a2, a3, a4, a5⟩ : PM.Ins) = ⟨b1, b2, b3, b4, b5⟩) = false := decide_eq_false (by intro e; injection e; contradiction)
          rw [hd]
          subst h1; subst h2; subst h3
          simp [go_sem, hq]
      · have hq := beq_eq_false_iff_ne.2 h3
        have hd : decide ((⟨a1, a2, a3, a4, a5⟩ : PM.Ins) = ⟨b1, b2, b3, b4, b5⟩) = false := decide_eq_false (by intro e; injection e; contradiction)
        rw [hd]
        subst h1; subst h2
        simp [go_sem, hq]
    · have hq := beq_eq_false_iff_ne.2 h2
      have hd : decide ((⟨a1, a2, a3, a4, a5⟩ : PM.Ins) = ⟨b1, b2, b3, b4, b5⟩) = false := decide_eq_false (by intro e; injection e; contradiction)
      rw [hd]
      subst h1
      simp [go_sem, hq]
  · have hq := beq_eq_false_iff_ne.2 h1
    have hd : decide ((⟨a1, a2, a3, a4, a5⟩ : PM.Ins) = ⟨b1, b2, b3, b4, b5⟩) = false := decide_eq_false (by intro e; injection e; contradiction)
    rw [hd]
    simp [go_sem, hq]
end Go.Proofs.YtklobjfhjlkgfaaDoor.TW
/- The program's rowOf: the row that an instruction is shown by. -/
namespace Go.Proofs.YtklobjfhjlkgfaaDoor.TW
open Go.RowKit
set_option linter.unusedVariables false
set_option maxRecDepth 100000
set_option linter.unusedSimpArgs false

set_option maxHeartbeats 4000000 in
theorem rowOf_good (i : PM.Ins) (w : World) (tb o cap : Nat) (ht : Tab tb o cap w) : Calls Tryd.prog 18 #[.agg i.cells, .bool false] w fun e w' => e = .returned (.agg (rowOfN i false).cells) ∧ Below w.heap.size w w' := by
  have HT := hideC ht
  have g0 := ht.glob
  have HR : Hid (rowFrom i 22 0 = rowOfN i false) := rfl
  obtain ⟨R, hR⟩ : ∃ R, R = rowOfN i false := ⟨_, rfl⟩
  rw [← hR] at HR ⊢
  clear hR
  have hw0 : 0 < w.heap.size := by have := ht.lt; omega
  have htb := ht.lt
  have HB0 := hideC (two_below w #[.int .i64 i.op, .int .i64 i.a, .int .i64 i.b, .int .i64 i.c, .int .i64 i.m] #[.string ⟨#[]⟩, .int .i64 0, .int .i64 0, .string ⟨#[]⟩] 23 48)
  have X0 := hideC (B.alloc (B.new w #[.int .i64 i.op, .int .i64 i.a, .int .i64 i.b, .int .i64 i.c, .int .i64 i.m] 23) (.cells #[.string ⟨#[]⟩, .int .i64 0, .int .i64 0, .string ⟨#[]⟩] 48))
  have X1 := hideC (B.new (w.alloc (.cells #[.int .i64 i.op, .int .i64 i.a, .int .i64 i.b, .int .i64 i.c, .int .i64 i.m] 23)) #[.string ⟨#[]⟩, .int .i64 0, .int .i64 0, .string ⟨#[]⟩] 48)
  rw [show (w.alloc (.cells #[.int .i64 i.op, .int .i64 i.a, .int .i64 i.b, .int .i64 i.c, .int .i64 i.m] 23)).heap.size = w.heap.size + 1 by simp] at X1
  clear ht
  simp only [PM.Ins.cells]
  go_enter Tryd.func18, Tryd.ntmps18
  go_wp2
  go_loopw [9] (fun kx wr => ∃ k : Nat, kx = .int .i64 k ∧ k ≤ 22 ∧ rowFrom i (22 - k) k = R ∧ wr.heap[w.heap.size]? = some (.cells i.cells 23 (0, 0)) ∧ wr.heap[w.heap.size + 1]? = some (.cells #[.string ⟨#[]⟩, .int .i64 0, .int .i64 0, .string ⟨#[]⟩] 48 (0, 0)) ∧ Below w.heap.size w wr) (fun kx _ => 22 - (intOf kx).toNat)
  case atStart => exact ⟨0, rfl, by omega, HR.out, X0.out, X1.out, HB0.out⟩
  case round =>
    obtain ⟨k, rfl, hk, hrr, h0, h1, hb⟩ := hrel
    have HRR := hideC hrr
    have H0 := hideC h0
    have H1 := hideC h1
    have HB := hideC hb
    have hsz := B.isLt h1
    have HTr := hideC (HT.out.below hb)
    clear hrr h0 h1 hb X0 X1 HB0
    by_cases hk2 : k < 22
    · have hki : (k : Int) < 22 := by omega
      have e0 : wr.cell? ⟨tb, o + k * 4, none⟩ = some (.string (rowAt k).name) := HTr.out.row k hk2 0 _ rfl
      have e1 : wr.cell? ⟨tb, o + k * 4 + 1, none⟩ = some (.int .i64 (rowAt k).op) := HTr.out.row k hk2 1 _ rfl
      have e2 : wr.cell? ⟨tb, o + k * 4 + 2, none⟩ = some (.int .i64 (rowAt k).call) := HTr.out.row k hk2 2 _ rfl
      have e3 : wr.cell? ⟨tb, o + k * 4 + 3, none⟩ = some (.string (rowAt k).parts) := HTr.out.row k hk2 3 _ rfl
      have hra := row_ascii k
      have hrs := row_size k
      have HTL := hideC (fun V => told_any (rowAt k) i V hra (by omega))
      obtain ⟨n, hn⟩ : ∃ n, 22 - k = n + 1 := ⟨22 - k - 1, by omega⟩
      have HST : Hid ((if toldN (rowAt k) i = i then rowAt k else rowFrom i n (k + 1)) = R) := by
        have hh := HRR.out
        rw [hn] at hh
        exact hh
      have hn2 : 22 - (k + 1) = n := by omega
      obtain ⟨r, hr⟩ : ∃ r, r = rowAt k := ⟨_, rfl⟩
      rw [← hr] at e0 e1 e2 e3 HTL HST
      clear hr hra hrs HRR hn
      have hEQ := eqIns (toldN r i) i
      obtain ⟨t, hte⟩ : ∃ t, t = toldN r i := ⟨_, rfl⟩
      rw [← hte] at hEQ HTL HST
      clear hte
      have BX := hideC (B.new wr #[.string r.name, .int .i64 r.op, .int .i64 r.call, .string r.parts] 48)
      have K0 := hideC (B.alloc H0.out (.cells #[.string r.name, .int .i64 r.op, .int .i64 r.call, .string r.parts] 48))
      have K1 := hideC (B.alloc H1.out (.cells #[.string r.name, .int .i64 r.op, .int .i64 r.call, .string r.parts] 48))
      have KB := hideC (HB.out.alloc HB.out.size (.cells #[.string r.name, .int .i64 r.op, .int .i64 r.call, .string r.parts] 48))
      have KZ : Hid ((wr.alloc (.cells #[.string r.name, .int .i64 r.op, .int .i64 r.call, .string r.parts] 48)).heap.size = wr.heap.size + 1) := by show _ = _; simp
      obtain ⟨V0, hV0⟩ : ∃ V0, V0 = wr.alloc (.cells #[.string r.name, .int .i64 r.op, .int .i64 r.call, .string r.parts] 48) := ⟨_, rfl⟩
      have HV0 := hideC hV0
      rw [← hV0] at BX K0 K1 KB KZ
      clear hV0
      go_wp2_with fail
      rw [← HV0.out]
      have hkin := Q.kin_some V0
      have HU : Hid (∀ x : Q.Kin V0.heap.size V0, x.world.heap[wr.heap.size]? = some (.cells #[.string r.name, .int .i64 r.op, .int .i64 r.call, .string r.parts] 48 (0, 0))) := fun x => B.below BX.out x.keeps (B.isLt BX.out)
      have HI : Hid (∀ x : Q.Kin V0.heap.size V0, x.world.heap[w.heap.size]? = some (.cells i.cells 23 (0, 0))) := fun x => B.below K0.out x.keeps (B.isLt K0.out)
      have a0 : ∀ x : Q.Kin V0.heap.size V0, x.world.cell? ⟨wr.heap.size, 0, none⟩ = some (.string r.name) := fun x => B.cell (HU.out x) 0 rfl
      have a1 : ∀ x : Q.Kin V0.heap.size V0, x.world.cell? ⟨wr.heap.size, 1, none⟩ = some (.int .i64 r.op) := fun x => B.cell (HU.out x) 1 rfl
      have a2 : ∀ x : Q.Kin V0.heap.size V0, x.world.cell? ⟨wr.heap.size, 2, none⟩ = some (.int .i64 r.call) := fun x => B.cell (HU.out x) 2 rfl
      have a3 : ∀ x : Q.Kin V0.heap.size V0, x.world.cell? ⟨wr.heap.size, 3, none⟩ = some (.string r.parts) := fun x => B.cell (HU.out x) 3 rfl
      have b0 : ∀ x : Q.Kin V0.heap.size V0, x.world.cell? ⟨w.heap.size, 0, none⟩ = some (.int .i64 i.op) := fun x => B.cell (HI.out x) 0 rfl
      have b1 : ∀ x : Q.Kin V0.heap.size V0, x.world.cell? ⟨w.heap.size, 1, none⟩ = some (.int .i64 i.a) := fun x => B.cell (HI.out x) 1 rfl
      have b2 : ∀ x : Q.Kin V0.heap.size V0, x.world.cell? ⟨w.heap.size, 2, none⟩ = some (.int .i64 i.b) := fun x => B.cell (HI.out x) 2 rfl
      have b3 : ∀ x : Q.Kin V0.heap.size V0, x.world.cell? ⟨w.heap.size, 3, none⟩ = some (.int .i64 i.c) := fun x => B.cell (HI.out x) 3 rfl
      have b4 : ∀ x : Q.Kin V0.heap.size V0, x.world.cell? ⟨w.heap.size, 4, none⟩ = some (.int .i64 i.m) := fun x => B.cell (HI.out x) 4 rfl
      have HT2 : Hid (∀ V, Below V0.heap.size V0 V → Calls Tryd.prog 38 #[.agg #[.string r.name, .int .i64 r.op, .int .i64 r.call, .string r.parts], .agg #[.int .i64 i.op, .int .i64 i.a, .int .i64 i.b, .int .i64 i.c, .int .i64 i.m]] V fun e w' => e = .returned (.agg #[.int .i64 t.op, .int .i64 t.a, .int .i64 t.b, .int .i64 t.c, .int .i64 t.m]) ∧ Below V.heap.size V w') := fun V _ => HTL.out V
      obtain ⟨q, hq⟩ : ∃ q, q = decide (t = i) := ⟨_, rfl⟩
      have HQ := hideC hq
      rw [← hq] at hEQ
      clear hq
      refine Q.region_kin (by kernel_rfl) (by kernel_rfl) ?_
      repeat (first | go_big_quiet_step ((go_at_call 38; with_reducible exact calls_belowT HT2.out _)) | quiet_step ((go_at_call 38; with_reducible exact calls_belowT HT2.out _)))
      refine wpQuiet_nil ?_
      intro _ hw'
      obtain ⟨x, hw''⟩ := hw'
      subst hw''
      have HKX := hideC (KB.out.trans (x.keeps.mono KB.out.size))
      have M1 := hideC (B.below K1.out x.keeps (B.isLt K1.out))
      have M0 := hideC (HI.out x)
      have MU := hideC (HU.out x)
      clear a0 a1 a2 a3 b0 b1 b2 b3 b4 hkin HU HI HT2 hEQ
      obtain ⟨w1, hw1⟩ : ∃ w1, w1 = x.world := ⟨_, rfl⟩
      rw [← hw1] at HKX M1 M0 MU ⊢
      clear hw1 x
      cases q with
      | true =>
        have hti : t = i := of_decide_eq_true HQ.out.symm
        have HE := HST.out
        rw [if_pos hti] at HE
        have HRE := hideC HE
        clear HE hti
        have a0 : w1.cell? ⟨wr.heap.size, 0, none⟩ = some (.string r.name) := B.cell MU.out 0 rfl
        have a1 : w1.cell? ⟨wr.heap.size, 1, none⟩ = some (.int .i64 r.op) := B.cell MU.out 1 rfl
        have a2 : w1.cell? ⟨wr.heap.size, 2, none⟩ = some (.int .i64 r.call) := B.cell MU.out 2 rfl
        have a3 : w1.cell? ⟨wr.heap.size, 3, none⟩ = some (.string r.parts) := B.cell MU.out 3 rfl
        have b0 : w1.cell? ⟨w.heap.size + 1, 0, none⟩ = some (.string ⟨#[]⟩) := B.cell M1.out 0 rfl
        have b1 : w1.cell? ⟨w.heap.size + 1, 1, none⟩ = some (.int .i64 0) := B.cell M1.out 1 rfl
        have b2 : w1.cell? ⟨w.heap.size + 1, 2, none⟩ = some (.int .i64 0) := B.cell M1.out 2 rfl
        have b3 : w1.cell? ⟨w.heap.size + 1, 3, none⟩ = some (.string ⟨#[]⟩) := B.cell M1.out 3 rfl
        have f0 : ∀ k, w1.frozen? ⟨w.heap.size + 1, k, none⟩ = false := fun k => B.free M1.out k
        have hne : ¬ w.heap.size + 1 = wr.heap.size := by omega
        go_wp2
        exact bodyPost_ret (v := .agg #[.string r.name, .int .i64 r.op, .int .i64 r.call, .string r.parts]) (by simp [results, Tryd.results18, go_sem, b0, b1, b2, b3]) rfl ⟨by rw [← HRE.out]; rfl, (((HKX.out.setCell (by show w.heap.size ≤ w.heap.size + 1; omega) _).setCell (by show w.heap.size ≤ w.heap.size + 1; omega) _).setCell (by show w.heap.size ≤ w.heap.size + 1; omega) _).setCell (by show w.heap.size ≤ w.heap.size + 1; omega) _⟩
      | false =>
        have hti : ¬ t = i := of_decide_eq_false HQ.out.symm
        have HE := HST.out
        rw [if_neg hti] at HE
        have HRE := hideC HE
        clear HE hti
        go_wp2
        go_roundw
        case rel => exact ⟨k + 1, by go_num, by omega, by rw [hn2]; exact HRE.out, M0.out, M1.out, HKX.out⟩
        case measure => simp [intOf]; omega
    · obtain rfl : k = 22 := by omega
      have HE : rowAt 21 = R := HRR.out
      have HRE := hideC HE
      have e0 : wr.cell? ⟨tb, o + 84, none⟩ = some (.string (rowAt 21).name) := HTr.out.row 21 (by omega) 0 _ rfl
      have e1 : wr.cell? ⟨tb, o + 84 + 1, none⟩ = some (.int .i64 (rowAt 21).op) := HTr.out.row 21 (by omega) 1 _ rfl
      have e2 : wr.cell? ⟨tb, o + 84 + 2, none⟩ = some (.int .i64 (rowAt 21).call) := HTr.out.row 21 (by omega) 2 _ rfl
      have e3 : wr.cell? ⟨tb, o + 84 + 3, none⟩ = some (.string (rowAt 21).parts) := HTr.out.row 21 (by omega) 3 _ rfl
      have gr := HTr.out.glob
      obtain ⟨r, hr⟩ : ∃ r, r = rowAt 21 := ⟨_, rfl⟩
      rw [← hr] at e0 e1 e2 e3 HRE
      clear hr HE
      have b0 : wr.cell? ⟨w.heap.size + 1, 0, none⟩ = some (.string ⟨#[]⟩) := B.cell H1.out 0 rfl
      have b1 : wr.cell? ⟨w.heap.size + 1, 1, none⟩ = some (.int .i64 0) := B.cell H1.out 1 rfl
      have b2 : wr.cell? ⟨w.heap.size + 1, 2, none⟩ = some (.int .i64 0) := B.cell H1.out 2 rfl
      have b3 : wr.cell? ⟨w.heap.size + 1, 3, none⟩ = some (.string ⟨#[]⟩) := B.cell H1.out 3 rfl
      have f0 : ∀ k, wr.frozen? ⟨w.heap.size + 1, k, none⟩ = false := fun k => B.free H1.out k
      have hne : ¬ w.heap.size + 1 = tb := by omega
      have hk3 : ¬ ((22 : Int) < 22) := by omega
      go_wp2
      exact bodyPost_ret (v := .agg #[.string r.name, .int .i64 r.op, .int .i64 r.call, .string r.parts]) (by simp [results, Tryd.results18, go_sem, b0, b1, b2, b3]) rfl ⟨by rw [← HRE.out]; rfl, (((HB.out.setCell (by show w.heap.size ≤ w.heap.size + 1; omega) _).setCell (by show w.heap.size ≤ w.heap.size + 1; omega) _).setCell (by show w.heap.size ≤ w.heap.size + 1; omega) _).setCell (by show w.heap.size ≤ w.heap.size + 1; omega) _⟩
end Go.Proofs.YtklobjfhjlkgfaaDoor.TW
/- The program's rowOf, of a bad instruction. -/
namespace Go.Proofs.YtklobjfhjlkgfaaDoor.TW
open Go.RowKit
set_option linter.unusedVariables false
set_option maxRecDepth 100000
set_option linter.unusedSimpArgs false

set_option maxHeartbeats 4000000 in
theorem rowOf_bad (i : PM.Ins) (w : World) (tb o cap : Nat) (ht : Tab tb o cap w) : Calls Tryd.prog 18 #[.agg i.cells, .bool true] w fun e w' => e = .returned (.agg (rowOfN i true).cells) ∧ Below w.heap.size w w' := by
  have HT := hideC ht
  have g0 := ht.glob
  have HR : Hid (rowAt 21 = rowOfN i true) := rfl
  obtain ⟨R, hR⟩ : ∃ R, R = rowOfN i true := ⟨_, rfl⟩
  rw [← hR] at HR ⊢
  clear hR
  have hw0 : 0 < w.heap.size := by have := ht.lt; omega
  have htb := ht.lt
  have HB0 := hideC (two_below w #[.int .i64 i.op, .int .i64 i.a, .int .i64 i.b, .int .i64 i.c, .int .i64 i.m] #[.string ⟨#[]⟩, .int .i64 0, .int .i64 0, .string ⟨#[]⟩] 23 48)
  have X0 := hideC (B.alloc (B.new w #[.int .i64 i.op, .int .i64 i.a, .int .i64 i.b, .int .i64 i.c, .int .i64 i.m] 23) (.cells #[.string ⟨#[]⟩, .int .i64 0, .int .i64 0, .string ⟨#[]⟩] 48))
  have X1 := hideC (B.new (w.alloc (.cells #[.int .i64 i.op, .int .i64 i.a, .int .i64 i.b, .int .i64 i.c, .int .i64 i.m] 23)) #[.string ⟨#[]⟩, .int .i64 0, .int .i64 0, .string ⟨#[]⟩] 48)
  rw [show (w.alloc (.cells #[.int .i64 i.op, .int .i64 i.a, .int .i64 i.b, .int .i64 i.c, .int .i64 i.m] 23)).heap.size = w.heap.size + 1 by simp] at X1
  clear ht
  simp only [PM.Ins.cells]
  go_enter Tryd.func18, Tryd.ntmps18
  go_wp2
  go_loopw [9] (fun kx wr => ∃ k : Nat, kx = .int .i64 k ∧ k ≤ 22 ∧ rowAt 21 = R ∧ wr.heap[w.heap.size]? = some (.cells i.cells 23 (0, 0)) ∧ wr.heap[w.heap.size + 1]? = some (.cells #[.string ⟨#[]⟩, .int .i64 0, .int .i64 0, .string ⟨#[]⟩] 48 (0, 0)) ∧ Below w.heap.size w wr) (fun kx _ => 22 - (intOf kx).toNat)
  case atStart => exact ⟨0, rfl, by omega, HR.out, X0.out, X1.out, HB0.out⟩
  case round =>
    obtain ⟨k, rfl, hk, hrr, h0, h1, hb⟩ := hrel
    have HRR := hideC hrr
    have H0 := hideC h0
    have H1 := hideC h1
    have HB := hideC hb
    have hsz := B.isLt h1
    have HTr := hideC (HT.out.below hb)
    clear hrr h0 h1 hb X0 X1 HB0
    by_cases hk2 : k < 22
    · have hki : (k : Int) < 22 := by omega
      have e0 : wr.cell? ⟨tb, o + k * 4, none⟩ = some (.string (rowAt k).name) := HTr.out.row k hk2 0 _ rfl
      have e1 : wr.cell? ⟨tb, o + k * 4 + 1, none⟩ = some (.int .i64 (rowAt k).op) := HTr.out.row k hk2 1 _ rfl
      have e2 : wr.cell? ⟨tb, o + k * 4 + 2, none⟩ = some (.int .i64 (rowAt k).call) := HTr.out.row k hk2 2 _ rfl
      have e3 : wr.cell? ⟨tb, o + k * 4 + 3, none⟩ = some (.string (rowAt k).parts) := HTr.out.row k hk2 3 _ rfl
      obtain ⟨r, hr⟩ : ∃ r, r = rowAt k := ⟨_, rfl⟩
      rw [← hr] at e0 e1 e2 e3
      clear hr
      have BX := hideC (B.new wr #[.string r.name, .int .i64 r.op, .int .i64 r.call, .string r.parts] 48)
      have K0 := hideC (B.alloc H0.out (.cells #[.string r.name, .int .i64 r.op, .int .i64 r.call, .string r.parts] 48))
      have K1 := hideC (B.alloc H1.out (.cells #[.string r.name, .int .i64 r.op, .int .i64 r.call, .string r.parts] 48))
      have KB := hideC (HB.out.alloc HB.out.size (.cells #[.string r.name, .int .i64 r.op, .int .i64 r.call, .string r.parts] 48))
      have KZ : Hid ((wr.alloc (.cells #[.string r.name, .int .i64 r.op, .int .i64 r.call, .string r.parts] 48)).heap.size = wr.heap.size + 1) := by show _ = _; simp
      obtain ⟨V0, hV0⟩ : ∃ V0, V0 = wr.alloc (.cells #[.string r.name, .int .i64 r.op, .int .i64 r.call, .string r.parts] 48) := ⟨_, rfl⟩
      have HV0 := hideC hV0
      rw [← hV0] at BX K0 K1 KB KZ
      clear hV0
      go_wp2_with fail
      rw [← HV0.out]
      have hkin := Q.kin_some V0
      have HU : Hid (∀ x : Q.Kin V0.heap.size V0, x.world.heap[wr.heap.size]? = some (.cells #[.string r.name, .int .i64 r.op, .int .i64 r.call, .string r.parts] 48 (0, 0))) := fun x => B.below BX.out x.keeps (B.isLt BX.out)
      have HI : Hid (∀ x : Q.Kin V0.heap.size V0, x.world.heap[w.heap.size]? = some (.cells i.cells 23 (0, 0))) := fun x => B.below K0.out x.keeps (B.isLt K0.out)
      have a0 : ∀ x : Q.Kin V0.heap.size V0, x.world.cell? ⟨wr.heap.size, 0, none⟩ = some (.string r.name) := fun x => B.cell (HU.out x) 0 rfl
      have a1 : ∀ x : Q.Kin V0.heap.size V0, x.world.cell? ⟨wr.heap.size, 1, none⟩ = some (.int .i64 r.op) := fun x => B.cell (HU.out x) 1 rfl
      have a2 : ∀ x : Q.Kin V0.heap.size V0, x.world.cell? ⟨wr.heap.size, 2, none⟩ = some (.int .i64 r.call) := fun x => B.cell (HU.out x) 2 rfl
      have a3 : ∀ x : Q.Kin V0.heap.size V0, x.world.cell? ⟨wr.heap.size, 3, none⟩ = some (.string r.parts) := fun x => B.cell (HU.out x) 3 rfl
      have b0 : ∀ x : Q.Kin V0.heap.size V0, x.world.cell? ⟨w.heap.size, 0, none⟩ = some (.int .i64 i.op) := fun x => B.cell (HI.out x) 0 rfl
      have b1 : ∀ x : Q.Kin V0.heap.size V0, x.world.cell? ⟨w.heap.size, 1, none⟩ = some (.int .i64 i.a) := fun x => B.cell (HI.out x) 1 rfl
      have b2 : ∀ x : Q.Kin V0.heap.size V0, x.world.cell? ⟨w.heap.size, 2, none⟩ = some (.int .i64 i.b) := fun x => B.cell (HI.out x) 2 rfl
      have b3 : ∀ x : Q.Kin V0.heap.size V0, x.world.cell? ⟨w.heap.size, 3, none⟩ = some (.int .i64 i.c) := fun x => B.cell (HI.out x) 3 rfl
      have b4 : ∀ x : Q.Kin V0.heap.size V0, x.world.cell? ⟨w.heap.size, 4, none⟩ = some (.int .i64 i.m) := fun x => B.cell (HI.out x) 4 rfl
      refine Q.region_kin (by kernel_rfl) (by kernel_rfl) ?_
      repeat (first | go_big_quiet_step ((fail)) | quiet_step ((fail)))
      refine wpQuiet_nil ?_
      intro _ hw'
      obtain ⟨x, hw''⟩ := hw'
      subst hw''
      have HKX := hideC (KB.out.trans (x.keeps.mono KB.out.size))
      have M1 := hideC (B.below K1.out x.keeps (B.isLt K1.out))
      have M0 := hideC (HI.out x)
      have MU := hideC (HU.out x)
      clear a0 a1 a2 a3 b0 b1 b2 b3 b4 hkin HU HI
      obtain ⟨w1, hw1⟩ : ∃ w1, w1 = x.world := ⟨_, rfl⟩
      rw [← hw1] at HKX M1 M0 MU ⊢
      clear hw1 x
      go_wp2
      go_roundw
      case rel => exact ⟨k + 1, by go_num, by omega, HRR.out, M0.out, M1.out, HKX.out⟩
      case measure => simp [intOf]; omega
    · obtain rfl : k = 22 := by omega
      have HE : rowAt 21 = R := HRR.out
      have HRE := hideC HE
      have e0 : wr.cell? ⟨tb, o + 84, none⟩ = some (.string (rowAt 21).name) := HTr.out.row 21 (by omega) 0 _ rfl
      have e1 : wr.cell? ⟨tb, o + 84 + 1, none⟩ = some (.int .i64 (rowAt 21).op) := HTr.out.row 21 (by omega) 1 _ rfl
      have e2 : wr.cell? ⟨tb, o + 84 + 2, none⟩ = some (.int .i64 (rowAt 21).call) := HTr.out.row 21 (by omega) 2 _ rfl
      have e3 : wr.cell? ⟨tb, o + 84 + 3, none⟩ = some (.string (rowAt 21).parts) := HTr.out.row 21 (by omega) 3 _ rfl
      have gr := HTr.out.glob
      obtain ⟨r, hr⟩ : ∃ r, r = rowAt 21 := ⟨_, rfl⟩
      rw [← hr] at e0 e1 e2 e3 HRE
      clear hr HE
      have b0 : wr.cell? ⟨w.heap.size + 1, 0, none⟩ = some (.string ⟨#[]⟩) := B.cell H1.out 0 rfl
      have b1 : wr.cell? ⟨w.heap.size + 1, 1, none⟩ = some (.int .i64 0) := B.cell H1.out 1 rfl
      have b2 : wr.cell? ⟨w.heap.size + 1, 2, none⟩ = some (.int .i64 0) := B.cell H1.out 2 rfl
      have b3 : wr.cell? ⟨w.heap.size + 1, 3, none⟩ = some (.string ⟨#[]⟩) := B.cell H1.out 3 rfl
      have f0 : ∀ k, wr.frozen? ⟨w.heap.size + 1, k, none⟩ = false := fun k => B.free H1.out k
      have hne : ¬ w.heap.size + 1 = tb := by omega
      have hk3 : ¬ ((22 : Int) < 22) := by omega
      go_wp2
      exact bodyPost_ret (v := .agg #[.string r.name, .int .i64 r.op, .int .i64 r.call, .string r.parts]) (by simp [results, Tryd.results18, go_sem, b0, b1, b2, b3]) rfl ⟨by rw [← HRE.out]; rfl, (((HB.out.setCell (by show w.heap.size ≤ w.heap.size + 1; omega) _).setCell (by show w.heap.size ≤ w.heap.size + 1; omega) _).setCell (by show w.heap.size ≤ w.heap.size + 1; omega) _).setCell (by show w.heap.size ≤ w.heap.size + 1; omega) _⟩
theorem rowOf_any (i : PM.Ins) (bad : Bool) (w : World) (tb o cap : Nat) (ht : Tab tb o cap w) : Calls Tryd.prog 18 #[.agg i.cells, .bool bad] w fun e w' => e = .returned (.agg (rowOfN i bad).cells) ∧ Below w.heap.size w w' := by
  cases bad with
  | false => exact rowOf_good i w tb o cap ht
  | true => exact rowOf_bad i w tb o cap ht
end Go.Proofs.YtklobjfhjlkgfaaDoor.TW
namespace Go.Proofs.YtklobjfhjlkgfaaDoor.PW
open Go.RowKit
set_option linter.unusedVariables false
set_option maxRecDepth 100000

set_option maxHeartbeats 1500000 in
theorem instr_any (i : PM.Ins) (w : World) : Calls Tryd.prog 34 #[.agg i.cells] w fun e w' => e = .returned (.string i.bytes) ∧ Below w.heap.size w w' := by
  obtain ⟨o, a, b, c, m⟩ := i
  unfold PM.Ins.cells PM.Ins.bytes
  simp only
  have HB0 := hideC ((Below.refl w.heap.size w).alloc (Nat.le_refl _) (.cells #[.int .i64 o, .int .i64 a, .int .i64 b, .int .i64 c, .int .i64 m] 23))
  have BX := hideC (B.new w #[.int .i64 o, .int .i64 a, .int .i64 b, .int .i64 c, .int .i64 m] 23)
  obtain ⟨W, hW⟩ : ∃ W, W = w.alloc (.cells #[.int .i64 o, .int .i64 a, .int .i64 b, .int .i64 c, .int .i64 m] 23) := ⟨_, rfl⟩
  have HW := hideC hW
  rw [← hW] at HB0 BX
  have hkin := Q.kin_some W
  have hwl := B.isLt BX.out
  have k0 : ∀ x : Q.Kin W.heap.size W, x.world.cell? ⟨w.heap.size, 0, none⟩ = some (.int .i64 o) := fun x => by rw [Q.cell_kin x _ _ hwl]; exact B.cell BX.out 0 rfl
  have k1 : ∀ x : Q.Kin W.heap.size W, x.world.cell? ⟨w.heap.size, 1, none⟩ = some (.int .i64 a) := fun x => by rw [Q.cell_kin x _ _ hwl]; exact B.cell BX.out 1 rfl
  have k2 : ∀ x : Q.Kin W.heap.size W, x.world.cell? ⟨w.heap.size, 2, none⟩ = some (.int .i64 b) := fun x => by rw [Q.cell_kin x _ _ hwl]; exact B.cell BX.out 2 rfl
  have k3 : ∀ x : Q.Kin W.heap.size W, x.world.cell? ⟨w.heap.size, 3, none⟩ = some (.int .i64 c) := fun x => by rw [Q.cell_kin x _ _ hwl]; exact B.cell BX.out 3 rfl
  have k4 : ∀ x : Q.Kin W.heap.size W, x.world.cell? ⟨w.heap.size, 4, none⟩ = some (.int .i64 m) := fun x => by rw [Q.cell_kin x _ _ hwl]; exact B.cell BX.out 4 rfl
  have HA : Hid (∀ n V, Calls Tryd.prog 56 #[.int .i64 n, .int .i64 1] V fun e w' => e = .returned (.string (PM.le 1 n)) ∧ Below V.heap.size V w') := fun n U => CW.bytes_any n 1 U (by omega)
  have HM : Hid (∀ V, Calls Tryd.prog 56 #[.int .i64 m, .int .i64 4] V fun e w' => e = .returned (.string (PM.le 4 m)) ∧ Below V.heap.size V w') := fun U => CW.bytes_any m 4 U (by omega)
  have s1 := PM.le_size 1 o
  have s2 := PM.le_size 1 a
  have s3 := PM.le_size 1 b
  have s4 := PM.le_size 1 c
  have s5 := PM.le_size 4 m
  have t1 : (PM.le 1 o ++ PM.le 1 a).size = 2 := by rw [ByteArray.size_append, s1, s2]
  have t2 : (PM.le 1 o ++ PM.le 1 a ++ PM.le 1 b).size = 3 := by rw [ByteArray.size_append, t1, s3]
  have t3 : (PM.le 1 o ++ PM.le 1 a ++ PM.le 1 b ++ PM.le 1 c).size = 4 := by rw [ByteArray.size_append, t2, s4]
  clear hW
  go_enter Tryd.func34, Tryd.ntmps34
  go_wp2
  rw [← HW.out]
  refine Q.region_kin (by kernel_rfl) (by kernel_rfl) ?_
  repeat (first | go_big_quiet_step ((go_at_call 56; first | with_reducible exact Q.calls_kin (HA.out _) _ | with_reducible exact Q.calls_kin HM.out _)) | quiet_step ((go_at_call 56; first | with_reducible exact Q.calls_kin (HA.out _) _ | with_reducible exact Q.calls_kin HM.out _)))
  refine wpQuiet_nil ?_
  intro _ hw'
  obtain ⟨x, hw''⟩ := hw'
  subst hw''
  go_wp2
  go_ret
  exact ⟨rfl, HB0.out.trans (x.keeps.mono HB0.out.size)⟩

/-- the row of the first k of four numbers, a byte each -/
def pre (V : List Int) : Nat → ByteArray
  | 0 => ⟨#[]⟩
  | k + 1 => pre V k ++ PM.le 1 (V.getD k 0)
theorem pre_size (V : List Int) : ∀ k, (pre V k).size = k
  | 0 => rfl
  | k + 1 => by rw [pre, ByteArray.size_append, pre_size V k, PM.le_size]
theorem le_one (n : Int) (h : PM.Byt n) : PM.le 1 n = strOfNums [n % 256] := by
  have e := CM.strOfNums_byte n 0 (by omega)
  rw [CM.shr_zero] at e
  rw [e]
  simp [PM.le, Lib.leBytes]
set_option maxHeartbeats 1500000 in
theorem encode_any (i : PM.Ins) (w : World) : Calls Tryd.prog 16 #[.agg i.cells] w fun e w' => e = .returned (if i.fits then .tuple #[.string i.bytes, .int .i64 0] else .tuple #[.string ⟨#[]⟩, .int .i64 3]) ∧ Below w.heap.size w w' := by
  obtain ⟨o, a, b, c, m⟩ := i
  unfold PM.Ins.cells
  simp only
  have HY : Hid (∀ V : List Int, V = [o, a, b, c] → (∀ j, j < 4 → PM.Byt (V.getD j 0)) → -2147483648 ≤ m ∧ m ≤ 2147483647 → (if PM.Ins.fits ⟨o, a, b, c, m⟩ then Value.tuple #[.string (PM.Ins.bytes ⟨o, a, b, c, m⟩), .int .i64 0] else .tuple #[.string ⟨#[]⟩, .int .i64 3]) = .tuple #[.string (pre V 4 ++ PM.le 4 m), .int .i64 0]) := by
    intro V hV hj hm
    subst hV
    rw [if_pos (show PM.Ins.fits ⟨o, a, b, c, m⟩ from ⟨hj 0 (by omega), hj 1 (by omega), hj 2 (by omega), hj 3 (by omega), hm⟩)]
    have e : (⟨#[]⟩ : ByteArray) ++ PM.le 1 o = PM.le 1 o := ByteArray.empty_append
    simp [PM.Ins.bytes, pre, e]
  have HN : Hid (∀ V : List Int, V = [o, a, b, c] → (∀ j, j < 4 → PM.Byt (V.getD j 0)) → ¬ (-2147483648 ≤ m ∧ m ≤ 2147483647) → (if PM.Ins.fits ⟨o, a, b, c, m⟩ then Value.tuple #[.string (PM.Ins.bytes ⟨o, a, b, c, m⟩), .int .i64 0] else .tuple #[.string ⟨#[]⟩, .int .i64 3]) = .tuple #[.string ⟨#[]⟩, .int .i64 3]) := by
    intro V hV hj hm
    rw [if_neg (show ¬ PM.Ins.fits ⟨o, a, b, c, m⟩ from fun h => hm h.2.2.2.2)]
  have HX : Hid (∀ V : List Int, V = [o, a, b, c] → ∀ j, j < 4 → ¬ PM.Byt (V.getD j 0) → (if PM.Ins.fits ⟨o, a, b, c, m⟩ then Value.tuple #[.string (PM.Ins.bytes ⟨o, a, b, c, m⟩), .int .i64 0] else .tuple #[.string ⟨#[]⟩, .int .i64 3]) = .tuple #[.string ⟨#[]⟩, .int .i64 3]) := by
    intro V hV j hj hn
    subst hV
    rw [if_neg]
    rintro ⟨h0, h1, h2, h3, -⟩
    match j, hj with
    | 0, _ => exact hn h0
    | 1, _ => exact hn h1
    | 2, _ => exact hn h2
    | 3, _ => exact hn h3
  obtain ⟨R, hR⟩ : ∃ R, R = (if PM.Ins.fits ⟨o, a, b, c, m⟩ then Value.tuple #[.string (PM.Ins.bytes ⟨o, a, b, c, m⟩), .int .i64 0] else .tuple #[.string ⟨#[]⟩, .int .i64 3]) := ⟨_, rfl⟩
  rw [← hR] at HY HN HX
  rw [← hR]
  obtain ⟨V, hV⟩ : ∃ V : List Int, V = [o, a, b, c] := ⟨_, rfl⟩
  have HVV := hideC hV
  clear hR hV
  go_enter Tryd.func16, Tryd.ntmps16
  go_wp2
  go_loopw [4, 19] (fun s i wr => ∃ k : Nat, k ≤ 4 ∧ i = .int .i64 k ∧ s = .string (pre V k) ∧ (∀ j, j < k → PM.Byt (V.getD j 0)) ∧ Below w.heap.size w wr ∧ wr.heap[w.heap.size]? = some (.cells #[.int .i64 o, .int .i64 a, .int .i64 b, .int .i64 c, .int .i64 m] 23 (0, 0)) ∧ wr.heap[w.heap.size + 1]? = some (.cells #[.int .i64 o, .int .i64 a, .int .i64 b, .int .i64 c] 3 (0, 0))) (fun _ i _ => 4 - (intOf i).toNat)
  case atStart =>
    refine ⟨0, by omega, rfl, rfl, fun j hj => absurd hj (by omega), ((Below.refl _ _).alloc (Nat.le_refl _) _).alloc (by simp) _, B.alloc (B.new w _ _) _, ?_⟩
    have e := B.new (w.alloc (.cells #[.int .i64 o, .int .i64 a, .int .i64 b, .int .i64 c, .int .i64 m] 23)) #[.int .i64 o, .int .i64 a, .int .i64 b, .int .i64 c] 3
    rw [World.size_alloc] at e
    exact e
  case round =>
    obtain ⟨k, hk, rfl, rfl, hj, hb, hx, hy⟩ := hrel
    have HB := hideC hb
    have HX1 := hideC hx
    have HY1 := hideC hy
    have HJ := hideC hj
    have hps := pre_size V k
    have hm4 := B.cell hx 4 rfl
    by_cases hlt : k < 4
    · have hc : wr.cell? ⟨w.heap.size + 1, k, none⟩ = some (.int .i64 (V.getD k 0)) := by
        rw [HVV.out]
        match k, hlt with
        | 0, _ => exact B.cell hy 0 rfl
        | 1, _ => exact B.cell hy 1 rfl
        | 2, _ => exact B.cell hy 2 rfl
        | 3, _ => exact B.cell hy 3 rfl
      have HK := hideC (HX.out V HVV.out k hlt)
      have HP : Hid (pre V (k + 1) = pre V k ++ PM.le 1 (V.getD k 0)) := rfl
      have HJ2 : Hid (PM.Byt (V.getD k 0) → ∀ j, j < k + 1 → PM.Byt (V.getD j 0)) := fun h j hjj => by
        rcases Nat.lt_or_ge j k with g | g
        · exact hj j g
        · obtain rfl : j = k := by omega
          exact h
      obtain ⟨n, hn⟩ : ∃ n, n = V.getD k 0 := ⟨_, rfl⟩
      rw [← hn] at hc HK HP HJ2
      clear hb hx hy hj hn
      by_cases h0 : 0 ≤ n
      · by_cases h1 : n ≤ 255
        · have hl := PM.le_size 1 n
          have hcv : (convert 68 9 (.slice (some ⟨wr.heap.size, 0, none⟩) 1 1)).run Tryd.prog (wr.alloc (.cells #[.int .u8 n] 5)) = .ok (.string (PM.le 1 n)) (wr.alloc (.cells #[.int .u8 n] 5)) := by
            rw [le_one n ⟨h0, h1⟩, show n % 256 = n from by omega]
            refine run_convert_bytes_arg _ 68 5 Tryd.underlying68 Tryd.underlying5 _ 0 1 1 [n] rfl ?_ 9 Tryd.underlying9
            intro i hi
            obtain rfl : i = 0 := by omega
            simp
          go_wp2
          go_roundw
          case rel => exact ⟨k + 1, by omega, by go_num, by rw [HP.out], HJ2.out ⟨h0, h1⟩, HB.out.alloc (by have := HB.out.size; omega) _, B.alloc HX1.out _, B.alloc HY1.out _⟩
          case measure => simp [intOf]; omega
        · obtain rfl := HK.out (fun h => h1 h.2)
          go_wp2
          go_ret2
          exact ⟨rfl, HB.out⟩
      · obtain rfl := HK.out (fun h => h0 h.1)
        go_wp2
        go_ret2
        exact ⟨rfl, HB.out⟩
    · obtain rfl : k = 4 := by omega
      clear hb hx hy hj
      by_cases h0 : -2147483648 ≤ m
      · by_cases h1 : m ≤ 2147483647
        · obtain rfl := HY.out V HVV.out HJ.out ⟨h0, h1⟩
          have hl := PM.le_size 4 m
          have HPut : Hid (∀ U, Calls Tryd.prog 36 #[.int .i64 m, .int .i64 4] U fun e w' => e = .returned (.tuple #[.string (PM.le 4 m), .int .i64 0]) ∧ Below U.heap.size U w') := fun U => CW.put_yes m 4 U (by omega) (by omega)
          go_wp2_with (go_at_call 36; refine (HPut.out _).mono ?_; rintro e w1 ⟨rfl, hb1⟩; have HB1 := hideC (HB.out.trans (hb1.mono HB.out.size)); clear hb1)
          go_ret2
          exact ⟨rfl, HB1.out⟩
        · obtain rfl := HN.out V HVV.out HJ.out (fun h => h1 h.2)
          go_wp2
          go_ret2
          exact ⟨rfl, HB.out⟩
      · obtain rfl := HN.out V HVV.out HJ.out (fun h => h0 h.1)
        go_wp2
        go_ret2
        exact ⟨rfl, HB.out⟩
end Go.Proofs.YtklobjfhjlkgfaaDoor.PW
